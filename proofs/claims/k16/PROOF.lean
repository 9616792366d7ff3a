import PyProof.Rows.All
import Wide.All
import OpenK.AllK
import Wide.FinOn
import Lean
import PyProof.EqAt
import PyProof.EqKinds
import PyProof.TupleCall
import PyProof.ZipIter
import PyProof.NeKinds
import PyProof.SeqI3
import PyProof.MaxThree
import PyProof.CompUse
import PyProof.EnumMake
import PyProof.Draws
import PyProof.EnumFor
import PyProof.Rows.EnumRows
import KE.KDictList
import KE.KItemsList
import PyProof.Rows.SortRuns
import KE.KSortTup
import PyProof.ListRange
import KE.KUnpack
import PySem.Challenge.RW_millpath_k16_outlines_moved_and_turned
set_option maxHeartbeats 4000000
set_option Elab.async false
set_option linter.all false
set_option maxRecDepth 100000
set_option genSizeOf false
set_option bootstrap.genMatcherCode false
local macro_rules | `(tactic| rfl')=>`(tactic| decide +kernel)
noncomputable section
open List renaming length_map->a_,length_append->c_,getElem?_eq_getElem->f_,map_cons->f',getElem?_eq_some_iff->gV,append_assoc->g_,perm_middle->h_,getD_eq_getElem?_getD->i_,length_cons->i',size_toArray->j',map_append->m_,mem_cons->n_,length_drop->o_,length_take->p_,mem_append_right->q_,mem_map->s_,mem_cons_of_mem->t_,getElem?_map->u_,perm_append_comm_assoc->w_,mem_singleton->x_,take_length->z_,flatMap_cons->A_,length_reverse->A',range->B',mem_append->C_,getElem?_cons_succ->C',mem_of_getElem?->D_,Perm.trans->E_,sum_cons->F_,getElem?_cons_zero->F',mem_cons_self->lm,cons_append->G',map_map->H_,eq_nil_of_length_eq_zero->I_,take_append_drop->J_,pairwise_append->J',mem_range->K_,mem_append_left->MV,nodup_cons->MW,length_range->MX,getElem?_append_right->MY,pairwise_cons->M_,append_nil->Nb,getElem?_drop->Nd,length_set->Nf,Perm.append_left->Ng,perm_append_comm->Nh,map_congr_left->Ni,mem_of_mem_take->Nk,forall_mem_cons->Nl,find?_cons->Nn,Pairwise.sublist->Nr,mem_of_mem_drop->Nt,cons.injEq->Nu,getLastD_cons->Nv,take_of_length_le->Nw,not_mem_nil->Nx,getElem?_append_left->Ny,pairwise_map->Nz,getElem?_take_of_lt->NA,zip_cons_cons->NC,any_eq_true->ND,Pairwise.nil->NH,flatMap_append->NI,nil_append->NJ,getElem?_eq_none->NK,map_nil->NL,mem_iff_getElem->NM,take_add_one->NN,map->NO,drop_of_length_le->NP,all_eq_true->NU,filter_cons->NV,replicate->NW,pairwise_iff_getElem->NY,mem_filter->N0,length_nil->N1,reverse_cons->N4,map_drop->N6,getElem?_range->N8,getElem_mem->N_,getD->Ob,mem_iff_getElem?->Od,map_take->Of,nodup_append->Oi,extract_eq_drop_take->Oj,drop_eq_getElem_cons->Ol,getLastD_concat->Oo,Perm.swap->Oq,all_map->Ou,forIn_cons->Oy,getElem?_take->Oz,take_sublist->OE,drop_sublist->OF,getElem?_reverse->OH,getElem?_toArray->OI,lookup_cons->OK,flatMap_nil->OO,mem_flatMap->OP,range'->OR,reverse_append->OV,range_succ->OZ,set_eq_of_length_le->O4,zip_nil_right->O8,forIn_nil->O_,drop_drop->O',drop_zero->Pa,ext_getElem?->Pc,reverse_perm->Ph,getElem?_set_self->Pl,Perm.append_right->Pm,flatMap_singleton->Pn,any_cons->Po,cons.inj->Pq,mem_reverse->Pz,countP_cons->PH,pairwise_flatMap->PK,length_filter_le->PN,countP_singleton->PQ,getElem?_set_ne->PR,of_mem_zip->PU,any_map->PX,sum_nil->P6,drop_append_of_le_length->P7,filterMap_cons->P8,mem_map_of_mem->P_,map_eq_nil_iff->Qa,length->Qe,map_id->Qf,set_cons_succ->Qg,countP_append->Qi,filter_append->Qj,take_add->Qn,perm_ext_iff_of_nodup->Qq,getElem?_zip_eq_some->Qv,mem_of_find?_eq_some->Qx,zipIdx_cons->QA,ext_getElem->QB,Pairwise.imp_of_mem->QG,set_set->QI,cons_ne_nil->QL,pairwise_singleton->QM,length_zip->QO,sum_append->QQ,drop_eq_nil_of_le->QU,pairwise_lt_range->QY,length_replicate->QZ,take_zero->Q1,singleton_append->Q2,nodup_nil->Q3,getElem?_zipWith->Q4,getElem_toArray->Q8,reverse_reverse->Q9,all_cons->Rf,length_pos_iff->Rh,length_zipWith->Ri,replicate_succ->Rj,filter_eq_self->Rk,mem_filterMap->Rl,forIn_toArray->Rn,length_range'->Ro,set_cons_zero->Rq,zip_map->Ru,drop->Rv,take->Rw,getElem_map->RC,drop_length->RE,map_reverse->RF,zipIdx_nil->RG,zip_append->RL,all_append->RM,find?_some->RO,drop_take->RQ,Perm.cons->RS,Perm.refl->RV,Perm->RX,zip_map'->RZ,zipWith->R3,any_nil->R9,Nodup->Sh
open Nat renaming le_refl->e_,ne_of_lt->j_,le_trans->r_,lt_of_lt_of_le->v_,le_of_ble_eq_true->B_,le_of_lt->K',zero_le->MU,pos_of_ne_zero->Nm,le_of_not_lt->Nq,lt_of_le_of_lt->NB,mod_eq_of_lt->NF,succ.inj->NQ,lt_irrefl->NR,sub_le->NS,mod_lt->NT,zero_add->N2,succ_pos->N3,add_sub_cancel_left->N7,min_eq_left->Oc,add_sub_cancel'->Ow,one_pos->OB,le_add_right->OL,add_assoc->OQ,add_le_add_left->OU,sub_lt_left_of_lt_add->OY,ne_of_gt->O0,lt_succ_iff_lt_or_eq->O1,sub_self->O2,lt_of_le_of_ne->O3,mod_self->O7,le_succ_of_le->Pe,le_of_lt_succ->Pf,lt_succ_of_lt->Pg,min_eq_right->PC,max_eq_right->PD,le_of_eq->PV,le_sub_one_of_lt->PY,add_lt_add_left->P9,sub_lt->Qu,lt_trans->Qz,min_self->QC,sub_zero->QD,add_zero->QE,le_succ->QT,add_mod->QV,sub_eq_zero_of_le->Q5,mul_max_mul_right->Q6,sub_le_sub_right->Q_,not_lt->Ra,add_right_comm->Rt,add_sub_assoc->RA,lt_of_not_le->RD,not_lt_zero->RH,le_add_left->RI,le_antisymm->RJ,mul_le_mul->RT,lt_or_ge->R1,le_total->R4,add_comm->R7,one_mul->R_,mod_mod->R'
open Int renaming le_of_lt->Na,le_trans->Nj,mul_pos->NG,le_refl->NZ,one_mul->Oa,eq_of_mul_eq_mul_right->Oh,not_lt->Om,lt_trans->Ov,not_le->OA,neg_mul->OD,add_zero->OJ,add_left_cancel->OW,mul_ediv_cancel->OX,emod_lt_of_pos->O5,mul_zero->O6,lt_or_gt_of_ne->O9,toNat_natCast->Pb,mul_nonpos_of_nonneg_of_nonpos->Pj,add_assoc->Py,emod_nonneg->PZ,zero_mul->P0,ne_of_gt->P4,sub_zero->P5,toNat_of_nonneg->P',natAbs_mul->Qc,sub_nonneg->Qd,lt_of_le_of_lt->Qh,fdiv_eq_ediv_of_nonneg->Qk,fmod_eq_emod_of_nonneg->Ql,le_of_mul_le_mul_left->Qw,eq_of_mul_eq_mul_left->Qy,max_eq_right->QK,min_eq_left->QP,neg_add->QW,sub_pos->QX,mul_le_mul->Q7,lt_asymm->Rx,zero_add->Ry,le_antisymm->RN,min_comm->R5,max_comm->R6,lt_or_le->R8,mul_neg->Sd,natAbs->Sf,toNat->Si
open Option renaming some.inj->L',getD_some->Nc,isSome_iff_exists->Ot,bind_eq_some_iff->Ox,some.injEq->Qs,bind_some->QJ,some->QR,isSome_some->Rm,isSome_map->Rz,getD_none->RB,map->RK,any->Se
open Bool renaming and_eq_true->L_,false_eq_true->MZ,true_and->Np,false_ne_true->NX,eq_false_iff->N5,false_and->N9,not_true->Pp,not_false->Qb,and_true->Qm,not_eq_true'->Qr,beq_eq_decide_eq->Q0,and_eq_true_iff->Rb,or_false->Rc,and_comm->Rg,bne_false->RP,bne_true->RY
open Array renaming getElem?_toList->k_,length_toList->l_,getElem?_eq_getElem->y_,toList_append->M',perm_iff_toList_perm->Oe,getElem?_extract->OC,toList_push->OG,toList_extract->OM,toList_reverse->ON,getElem?_eq_some_iff->Qo,toList_setIfInBounds->Qp,size_setIfInBounds->QF,toList_map->QH,Perm.refl->QN,getElem?_eq_none->QS,size_extract->Rr,toList->R0
open And renaming imp_right->Pw
open Or renaming inl->b_,inr->d_
open Prod renaming ext->D',fst->Og,mk.injEq->Pu,snd->PJ,mk->RW
open Iff renaming rfl->RU
open Classical renaming propDecidable->Ti
open Decidable renaming of_not_not->Yx,not_not->YO
open False renaming elim->SQ
open ForInStep renaming done->SE,yield->SS
open Function renaming comp->X5
open LT renaming lt->Wb
open Ne renaming symm->TR
open PyProof renaming noPylong_small->Wd
open PyProof.Rows renaming Keyed->Su,arrOf->Sv,wpS_bind->Sy,SortSt->Sz,wpS_pure->SH,pendingOf->SM,seqObj->S9,failedOf->Tc,wpS_forRange->Te,elem'->Tn,wpS_mono->TB,SortKind->TQ,callWith_type1->TZ,slot_tuple_getitem->Uy,wpS_get->UB,reverseSlice'->UL,wpS_modify->U4,subscriptTail->Vc,AllBare->Vf,envOfC->Vl,get?_update_seq->Vo,assignInOrder_cons->Vy,listUpdate_at->VM,minRun'->VT,gallopOf->V1,subscriptTail_builtinR->Wf,seqEpoch_at->Wj,wpS_lift->WA,mergeAt'->WB,keyKind'->WC,getElem?_mirror_all->WJ,countRun'->WW,assignInOrder_nil->WY,callWith_builtin1->Xj,Subscript_->Xk,bubble->Xs,getElem?_bubble->Xt,ltAt'->Xu,list_sort_plain->Xv,entry_list_sort->Xx,slicePart_none->XC,tuples'->XN,slot_list_sort->XO,args_list_sort->XQ,sortRuns'->XT,IsTup->X6,listItems_at->Yc,plain_sorted->Yd,entry_sorted->Ye,args_sorted1->Yf,collect_list->Yg,binarySort'->Yq,kind_sorted->Yr,Call_->Yu
open PyProof.Rows.IsTup renaming new->WM
open PyProof.Rows.LSm renaming kept_iter->X2
open PyProof.Rows.SortSt renaming mk'->T6
open PySem renaming wpAny_bind->Sj,Value->Sl,Addr->Sn,Shared->So,wpAny_pure->Ss,wpAny->Sw,Program->SD,model->SG,World->SI,Heap->SJ,Expr->SK,starEach->SO,FuncData->SR,Around->SW,sizeLine_eq->SX,wpAny_holding->SY,wpAny_ite_split->S4,Stmt->S5,compareOp->S8,argBest->S_,eval->Ta,wpAny_mono->Tb,wpAny_seqItems->Td,wpAny_field->Tf,intItems->Tj,wpAny_pyIter_tuple->To,wpAny_call_entry->Tp,mainGlobals->Tr,wpAny_truthy_bool->Ts,IsPair->Tt,wpAny_callSpecial?_slot->Tu,assignEach->Tv,foldedSetIterable->Tx,wpAny_updateSeq->TC,Scope->TF,wpAny_letGo->TJ,wpAny_newObj_type->TN,binaryOp->TU,plainId_quiet->TV,wpAny_pyIter_list->TY,mem_of_lookup->T4,wpAny_Call_Name_kw->T7,wpAny_setField_rec->T8,sysModules->T9,codeAny_builtin->T',pyNext->Ua,wpAny_tryCatch->Ub,bootBuiltins->Uc,codeAny->Um,Builtin->Uo,NameKind->Up,numAt->Uw,wpAny_standAt->Uz,wpAny_attempt->UA,Model->UC,wpAny_rule->UD,wpAny_specialOf->UE,IsZip->UG,backTo->UH,wpAny_isInstance->UI,behindInMarks->UJ,wpAny_newList->UK,sliceBounds->UN,wpAny_passesOwn->UP,swapsWith->UT,assign->UU,seqItems?->UZ,wpAny_tupleItemsOf->U1,holding->U2,intItems_at->U9,richCompare->U_,comprehension->Vd,updateSeq->Vh,letOwnedTupleGo->Vj,codeAny_mono->Vk,field->Vm,wpAny_updateSeq_pair->Vn,getItem->Vr,wpAny_newTuple->Vt,subscripted->Vu,wpAny_of_eq->Vw,Paired->Vx,rawInt->Vz,tupleKind_room_in1->VA,wpAny_richCompare_same_room->VC,assignInOrder->VE,swapsWithSole->VF,swappedStores->VG,attributeBase->VI,wpAny_onRaise->VJ,Comprehension->VL,typeIs_int->VP,valueAt->VR,callerA->VS,wpAny_eqBool_int->VU,noFill_tuple_add->VX,IsPart->VY,Params->VZ,tupleKind->V6,wpAny_execs_nil->V7,again->V9,CmpOp->V_,atKey->V',codeAny_compStart_list->Wh,pyIter->Wk,BindsTo->Wl,getitemInPython_of_ne->Wm,isSubtype_type->Wn,builtinLookup_eq_fast->Wo,builtinsNs->Wt,bindL->Wu,bindC->Wv,typeLookup->Ww,wpAny_letTemporaryGo->Wx,wpAny_newFunctionEnv->Wy,seq_tuple_add->WD,Builtin->WE,isTrue->WL,lastMarks->WN,wpAny_List_spliced->WO,concat_meets->WQ,wpAny_typeOf->WR,seqIndex_neg->WS,call_function_tree->WV,wpAny_assign_Name->WX,wpAny_pyIter_enum->W4,richCompare_gives->W7,seqIndex_of->W_,wpAny_execs_cons->Xa,bindName->Xb,wpAny_comp_letGo->Xe,wpAny_pyIter_zip->Xf,wpAny_Name->Xh,Result->Xi,call_tuple_same->Xl,call_meets->Xm,wpAny_operating->Xn,call->Xo,typeLookup_type->Xq,setItem->Xy,standAt->Xz,wpAny_bindName->XA,Keyword->XD,letTemporaryGo->XF,wpAny_setField->XG,firstArgMember->XH,isSubtype_stop->XI,callType_codes->XM,cellsFrom->XR,DictEntry->XS,intBits_le_64->XW,evalPart_none->XY,call_list_seq->XZ,wpAny_standIf->X1,code_list_new->X4,bindArgs->X9,typeOf->X_,callType_new->Ya,IsEnum->Yb,wpAny_mkInt->Yk,interactive->Yl,IsRangeIter->Ym,keywordEach->Yn,operate->Ys,Walks->Yv,Fin->YL
open PySem.Around renaming under_plainId->TH
open PySem.AutoSeq1 renaming wpAny_loadPart'->Ur,list_extend_list_list_0->Xc,list_reverse_list_0->XE
open PySem.Builtin.Builtins renaming bindParams->Ui
open PySem.Builtin.Dict renaming pendingCount->X8
open PySem.Builtin.List renaming listLengthHint->Ug,listExtendWith->Uh,listSameRef->Us,listTooLong->UY,listUpdate->V4
open PySem.Builtin.Range renaming rangeSize->Yh
open PySem.Builtin.Slice renaming slicePlaces->Uk,sliceAdjust->UQ,sliceApplied->VH,slicePartIndex->XB,sliceFields->X7
open PySem.Builtin.SmallTypes renaming nextOf->S0,ownedTupleIsFree->S7,ownedTupleHandOut->U0
open PySem.Builtin.Tuple renaming tupleExact->Uq,tupleItemsOf->XX
open PySem.Calls renaming call_function_entry->UR,spliced_cons->UW,Name_function_global->VD,callWith_builtin->Wg,spliced_nil->WZ
open PySem.Data renaming cell->V8,fields->W9,seq->X'
open PySem.Env renaming kindOf->Xp
open PySem.F renaming plain_min_loop->TL,plain_max_loop->TM,slot_zip_next->T1,slot_tuple_iterator_next->Uj,slot_list_append->Uu,type_list_append->Uv,plain_extend_loop->Ux,args_tuple_add_2->UX,entry_tuple_add->U5,args_zip_next_1->U6,slot_tuple_add->U8,entry_min_loop->U',entry_max_loop->Va,entry_zip_next->Ve,args_tuple_iterator_next_1->Vs,entry_tuple_iterator_next->VB,slot_dict_getitem->VQ,slot_list_extend->V2,type_list_extend->V3,plainAttrs_list->V5,slot_tuple_lt->Wq,slot_tuple_gt->Wr,slot_dict_len->Ws,entry_extend_loop->WI,args_list_init_2->WU,typeCall_list_1->W5,entry_list_init->W6,slot_zip_iter->Xr,called_list->X3
open PySem.Flow renaming next->YH
open PySem.Heap renaming get?_push_of_some->Sr,lt_size->Sx,get?_push_size->SF,get?_update_other->SU,get?_update_self->Tg,get?_update_ne->Tw,size_push->Tz,SameBut->T_,size_update->Ut,get?_push_ne->U7,push->Vg,ExtBut->Vv,IsTuple->V0,IsList->W'
open PySem.Heap.DictOf renaming new->YX
open PySem.Heap.IsList renaming push->Xd,extBut->YJ
open PySem.Heap.IsListIter renaming extBut->Yp
open PySem.Heap.IsRevIter renaming typeIs->Yt
open PySem.Heap.IsSliceOf renaming new->YI
open PySem.Heap.IsTuple renaming push->W0,extBut->YC
open PySem.Heap.IsTupleIter renaming extBut->Yi
open PySem.Heap.SameBut renaming update->WH
open PySem.IsL renaming update->YR
open PySem.NameKind renaming free->T5,cell->YZ
open PySem.Obj renaming mapSeq->SN,data_mapFields->WT
open PySem.Paired renaming length->Vb,snoc->Yo
open PySem.PassesOwn renaming never->T3
open PySem.SeqAt.EqAt renaming int_none->Yy,str_none->Yz,none_int->YA,none_str->YB,int_str->YF,str_int->YG,same->YW
open PySem.SeqAt.RcAt renaming tuples->YN,lists->YS
open PySem.SeqAt.RcNeAt renaming tuples->YD,lists->YK
open PySem.Shared renaming heap->UO
open PySem.Str renaming ofString->Ue
open PySem.Value renaming ref->SV,none->Tq,int->US,type->Vi,str->WK,bool->Xg,isStrOf->XU,isInt->Yj
open PySem.W renaming Frag->Sm,fnOf->Ud,keepIn->U3,nsIn->Vp,codeIn->Vq,mg_of->VN,methodObj->VO,OpenLaw->Wa,kat_nil->Wc,cellsFrom_some->We,kHook->WG,kitAny->XJ,WalkO->X0
open PySem.W.Hook renaming keeps->YM,says->YQ,obs->YT,val->YU,of->YY
open PySem.W.KatTups renaming cons->Yw,nil->YE
open PySem.W.XL renaming keeps->YV
open PySem.Walks renaming tuple->Wi,list->Wz
open StateT renaming run_pure->Xw
open Sum renaming inr->S6,inl->UM
open Sum.inl renaming inj->W8
open True renaming intro->Ul
namespace L2
open PySem PySem.Spec PyProof.Rows
abbrev Key:=Sum Int (Option Str)
noncomputable def tH:Key->Sl->Bool
 | .inl k,v=>Yj k v
 | .inr (some x),v=>XU x v
 | .inr none,.none=>true
 | .inr none,_=>false
noncomputable def Mn(w:SI):Key->Int
 | .inl k=>hashInt k
 | .inr (some x)=>hashStr w x
 | .inr none=>4238894112
theorem gE:∀{k:Key}{v:Sl},tH k v=true->(∃i t,k=UM i/\v=US i t)\/(∃x t,k=S6 (some x)/\v=WK x t)\/(k=S6 none/\v=Tq)
 | .inl i,v,h=>by obtain⟨t,e⟩:=Value.isInt_shape (k:=i) (v:=v) h;exact .inl ⟨i,t,rfl,e⟩
 | .inr (some x),v,h=>by obtain⟨t,e⟩:=Value.isStrOf_shape (x:=x) (v:=v) h;exact .inr (.inl ⟨x,t,rfl,e⟩)
 | .inr none,v,h=>by cases v <;> first|exact .inr (.inr ⟨rfl,rfl⟩)|cases h
theorem AV(i:Int)(t:Tok):tH (.inl i) (.int i t)=true:=by simp[tH,Yj]
theorem AK(x:Str)(t:Tok):tH (.inr x) (.str x t)=true:=by simp[tH,XU]
theorem IT(a b:Int):decide ((UM a:Key)=UM b)=(a == b):=by
 by_cases e:a=b
 ·subst e;simp
 have h:¬(UM a:Key)=UM b:=λq=>e (W8 q);rw[decide_eq_false h];exact(beq_eq_false_iff_ne.mpr e).symm
theorem HA(a b:Str):decide ((S6 (some a):Key)=S6 (some b))=decide (a=b):=by
 by_cases e:a=b
 ·subst e;simp
 have h:¬(S6 (some a):Key)=S6 (some b):=λq=>e (L' (Sum.inr.inj q));rw[decide_eq_false h,decide_eq_false e]
variable {A:SW}{E:Sl->So->Prop}{s:So}{w:SI}
theorem Dv{prog:SD}{Q:Int->So->Prop}(h:Q 4238894112 {s with toks:=s.toks+1}):Sw (SG prog w) A (PySem.pyHash .none) Q E s:=
 PySem.W.pyHash_slot (T:="NoneType") rfl F.slot_NoneType_hash F.entry_NoneType_hash (F.args_NoneType_hash_1 _) (beq_builtin_none _) (.inl rfl) (Sj (Ss (Sj (Yk (Ss ⟨_,_,rfl,h⟩)))))
def ff(prog:SD)(w:SI):PySem.KeyKind prog w Key where
 is:=tH
 hash:=Mn w
 inj:=λv a b ha hb=>by rcases gE ha with⟨i,t,rfl,rfl⟩|⟨x,t,rfl,rfl⟩|⟨rfl,rfl⟩ <;> rcases gE hb with⟨j,u,rfl,e⟩|⟨y,u,rfl,e⟩|⟨rfl,e⟩ <;> cases e <;> rfl
 byValue:=λk v h=>by rcases gE h with⟨i,t,rfl,rfl⟩|⟨x,t,rfl,rfl⟩|⟨rfl,rfl⟩ <;> rfl
 pyHash:=λhv h=>by
  rcases gE hv with⟨i,t,rfl,rfl⟩|⟨x,t,rfl,rfl⟩|⟨rfl,rfl⟩
  ·exact wpAny_pyHash_int h
  ·exact wpAny_pyHash_str h
  exact Dv h
 eqBool:=λhu hv h=>by
  rcases gE hu with⟨i,t,rfl,rfl⟩|⟨x,t,rfl,rfl⟩|⟨rfl,rfl⟩ <;> rcases gE hv with⟨j,u,rfl,rfl⟩|⟨y,u,rfl,rfl⟩|⟨rfl,rfl⟩
  ·rw[IT]at h;exact VU h
  ·exact YF i t y u _ _ _ _ h
  ·exact Yy i t _ _ _ _ h
  ·exact YG x t j u _ _ _ _ h
  ·rw[HA]at h;exact wpAny_eqBool_str h
  ·exact Yz x t _ _ _ _ h
  ·exact YA j u _ _ _ _ h
  ·exact YB y u _ _ _ _ h
  exact YW _ _ _ _ _ h
 «strs»:=λk x t v h=>by
  rcases gE h with⟨i,u,rfl,e⟩|⟨y,u,rfl,e⟩|⟨rfl,e⟩
  ·exact nomatch e
  ·injection e with e1 _
   subst e1;cases v <;> rfl
  exact nomatch e
theorem wm(prog:SD)(w:SI)(i:Int)(t:Tok):(ff prog w).is (.inl i) (.int i t)=true:=AV i t
theorem wW(prog:SD)(w:SI)(x:Str)(t:Tok):(ff prog w).is (.inr x) (.str x t)=true:=AK x t
inductive V where
 |non|bl (b:Bool)|int (i:Int)|str (x:Str)|byt (b:Array UInt8)|flt (b:UInt64)|ref (a:Sn)|ty (n:String)
 deriving DecidableEq
set_option genInjectivity false
noncomputable def RelV:V->Sl->Prop
 | .non,u=>u=Tq
 | .bl b,u=>u=Xg b
 | .int i,u=>∃t,u=US i t
 | .str x,u=>∃t,u=WK x t
 | .byt b,u=>∃t,u=Value.bytes b t
 | .flt b,u=>∃t,u=Value.float b t
 | .ref a,u=>u=SV a
 | .ty n,u=>u=Vi n
abbrev Vals:List V->List Sl->Prop:=Vx RelV
variable {us:List Sl}{xs:List V}
theorem Vals.length (r:Vals xs us):xs.length=us.length:=Vb r
theorem Vals.get:∀{xs:List V}{us:List Sl}{i:Nat}{x:V},Vals xs us->xs[i]?=some x->∃u,us[i]?=some u/\RelV x u
 | _,_,_,_,.nil,e=>by simp at e
 | _,_,0,_,.cons r _,e=>by simp at e;subst e;exact⟨_,rfl,r⟩
 | _,_,i+1,x,.cons _ t,e=>by obtain⟨u,h1,h2⟩:=Vals.get (i:=i) (x:=x) t (by simpa using e);exact⟨u,by simpa using h1,h2⟩
variable {u:Sl}
theorem Vals.set {x:V}(r:RelV x u):∀{xs:List V}{us:List Sl} (i:Nat),Vals xs us->Vals (xs.set i x) (us.set i u)
 | _,_,_,.nil=>.nil
 | _,_,0,.cons _ t=>.cons r t
 | _,_,i+1,.cons q t=>.cons q (Vals.set r i t)
theorem Vals.append:∀{xs ys:List V}{us ws:List Sl},Vals xs us->Vals ys ws->Vals (xs++ys) (us++ws):=by
 intro xs ys us ws x s;induction x with
 |nil=>exact s
 |cons r t ih=>exact .cons r ih
theorem Vals.take:∀{xs:List V}{us:List Sl} (n:Nat),Vals xs us->Vals (xs.take n) (us.take n)
 | _,_,0,_=>.nil
 | _,_,_+1,.nil=>.nil
 | _,_,n+1,.cons r t=>.cons r (Vals.take n t)
theorem Vals.drop:∀{xs:List V}{us:List Sl} (n:Nat),Vals xs us->Vals (xs.drop n) (us.drop n)
 | _,_,0,r=>r
 | _,_,_+1,.nil=>.nil
 | _,_,n+1,.cons _ t=>Vals.drop n t
def tm:Option V->Option Sl->Prop
 |some v,some u=>RelV v u
 |none,none=>True
 | _,_=>False
def KV{κ:Type}:List (κ×V)->List (κ×Sl)->Prop:=Vx λ(p:κ×V) (q:κ×Sl)=>p.1=q.1/\RelV p.2 q.2
noncomputable def kV:Key->V
 | .inl i=>.int i
 | .inr (some x)=>.str x
 | .inr none=>.non
inductive HO where
 |lst (xs:List V)
 |tup (xs:List V)
 |dK (al:List (Key×V))|dT (al:List (List Key×V))
 |set (S:Int->Bool) (n:Nat)
 |ins (C dx:Sn) (fs:List (Str×V))
 |own (x:Sn)
 |xd (fs:List (Str×V))
 |met (f x:Sn)
 |rng (lo hi:Int)
 |frz (o:Obj) (u:HO)
 |tbl (ps:Array Sl)
 |ext (φ:SJ->Prop)
abbrev Hp:=Sn->Option HO
noncomputable def upd(H:Hp)(a:Sn)(o:HO):Hp:=λb=>if b=a then some o else H b
variable {H:Hp}{a:Sn}{o:HO}
theorem aX:upd H a o a=some o:=by unfold upd;rw[if_pos rfl]
variable {b:Sn}
theorem aQ(h:b≠a):upd H a o b=H b:=by unfold upd;rw[if_neg h]
theorem El{u:HO}:upd (upd H a o) a u=upd H a u:=by funext b;unfold upd;split <;> rfl
theorem Hg{u:HO}(h:H a=some o)(h':H b=some u)(d:o≠u):a≠b:=by intro e;subst e;rw[h]at h';exact d (L' h')
theorem f6(h:H a=some o)(h':H b=none):a≠b:=by intro e;subst e;rw[h]at h';cases h'
section
variable(P:SD)(w:SI)
def f7(H:Hp)(h:SJ)(a:Sn):HO->Prop
 | .lst xs=>xs.length<=sizeLine/\∃(ap:List Sl) (n:Nat),Vals xs ap/\h.get? a=some { cls:=.type "list",data:=.seq ap.toArray n}
 | .tup xs=>xs.length<=sizeLine/\∃ap:List Sl,Vals xs ap/\X6 h a ap.toArray
 | .dK al=>al.length<=sizeLine/\(a == T9)=false/\∃vs,KV al vs/\h.DictOf (ff P w) a vs
 | .dT al=>al.length<=sizeLine/\(a == T9)=false/\∃xs:List (List Key×Sn×Sl),
   Vx (λ(p:List Key×V) (q:List Key×Sn×Sl)=>p.1=q.1/\H q.2.1=some (.tup (p.1.map kV))/\RelV p.2 q.2.2) al xs/\
   ∃o es ep,h.get? a=some o/\o.ExactDict/\o.data=.dict es ep/\es.toList=xs.map (entryOfKey (V6 (ff P w)))/\(xs.map (·.1)).Nodup
 | .set S n=>h.SetOf (intKind P w) a S n
 | .ins C dx fs=>H dx=some (.own a)/\fs.length<=1000/\dx≠a/\h.get? a=some (PySem.W.instObj C dx)/\
   ∃mA,h.Ns1 dx mA/\(∀f,tm (fs.lookup f) (mA f))/\PySem.Within mA (fs.map (·.1))
 | .own _=>∃o,h.get? a=some o
 | .xd fs=>∃mA,h.Ns1 a mA/\∀f,tm (fs.lookup f) (mA f)
 | .rng lo hi=>∃t u v,h.get? a=some { cls:=.type "range",data:=.fields #[.int lo t,.int hi u,.int 1 v] }
 | .frz o u=>h.get? a=some o/\f7 H h a u
 | .tbl ps=>h.get? a=some { cls:=.none,data:=.fields ps}
 | .met f x=>h.get? a=some (VO (.ref f) (.ref x))
 | .ext φ=>φ h/\(∃o,h.get? a=some o)/\∀h1 h2:SJ,φ h1->(∀o,h1.get? a=some o->h2.get? a=some o)->φ h2
def HOk(H:Hp)(h:SJ):Prop:=∀a o,H a=some o->f7 P w H h a o
end
section
variable{P:SD}{w:SI}{H H':Hp}{h h':SJ}{a:Sn}{o:HO}
theorem f7.lt (x:f7 P w H h a o):a<h.objs.size:=by
 cases o with
 |lst xs=>obtain⟨_,_,_,_,e⟩:=x;exact Sx e
 |tup xs=>obtain⟨_,_,_,p⟩:=x;exact p.lt
 |dK al=>obtain⟨_,_,_,_,o,_,_,e,_⟩:=x;exact Sx e
 |dT al=>obtain⟨_,_,_,_,o,_,_,e,_⟩:=x;exact Sx e
 |set S n=>obtain⟨o,_,_,_,e,_⟩:=x;exact Sx e
 |ins C dx fs=>obtain⟨_,_,_,e,_⟩:=x;exact Sx e
 |own y=>obtain⟨_,e⟩:=x;exact Sx e
 |xd fs=>obtain⟨_,⟨_,_,_,e,_⟩,_⟩:=x;exact Sx e
 |rng lo hi=>obtain⟨_,_,_,e⟩:=x;exact Sx e
 |frz ob u=>obtain⟨e,_⟩:=x;exact Sx e
 |tbl ps=>exact Sx (show h.get? a=some _ from x)
 |met f y=>exact Sx (show h.get? a=some _ from x)
 |ext φ=>obtain⟨_,⟨_,e⟩,_⟩:=x;exact Sx e
theorem Paired.Lu {α β:Type}{F G:α->β->Prop}:∀{l₁:List α}{l₂:List β},Vx F l₁ l₂->(∀a b,F a b->G a b)->Vx G l₁ l₂:=by
 intro l₁ l₂ x f;induction x with
 |nil=>exact .nil
 |cons r t ih=>exact .cons (f _ _ r) ih
theorem f7.mO (x:f7 P w H h a o)(k:∀b u,(b=a\/H b=some (.own a))->h.get? b=some u->h'.get? b=some u)
  (ho:∀b,H b=some (.own a)->H' b=some (.own a)) (ht:∀b xs,H b=some (.tup xs)->H' b=some (.tup xs)):f7 P w H' h' a o:=by
 induction o with
 |lst xs=>obtain⟨z,ap,n,r,e⟩:=x;exact⟨z,ap,n,r,k _ _ (.inl rfl) e⟩
 |tup xs=>obtain⟨z,ap,r,ob,e,c⟩:=x;exact⟨z,ap,r,ob,k _ _ (.inl rfl) e,c⟩
 |dK al=>obtain⟨z,y,vs,r,ob,es,ep,e,c⟩:=x;exact⟨z,y,vs,r,ob,es,ep,k _ _ (.inl rfl) e,c⟩
 |dT al=>
  obtain⟨z,y,xs,r,ob,es,ep,e,c⟩:=x;exact⟨z,y,xs,Paired.Lu r λp q z=>⟨z.1,ht _ _ z.2.1,z.2.2⟩,ob,es,ep,k _ _ (.inl rfl) e,c⟩
 |set S n=>obtain⟨ob,es,ep,t,e,c⟩:=x;exact⟨ob,es,ep,t,k _ _ (.inl rfl) e,c⟩
 |ins C dx fs=>
  obtain⟨d,z,ne,e,mA,⟨od,es,ep,e2,c⟩,r⟩:=x;exact⟨ho _ d,z,ne,k _ _ (.inl rfl) e,mA,⟨od,es,ep,k _ _ (.inr d) e2,c⟩,r⟩
 |own y=>obtain⟨ob,e⟩:=x;exact⟨ob,k _ _ (.inl rfl) e⟩
 |xd fs=>obtain⟨mA,⟨od,es,ep,e,c⟩,r⟩:=x;exact⟨mA,⟨od,es,ep,k _ _ (.inl rfl) e,c⟩,r⟩
 |rng lo hi=>obtain⟨t,u,v,e⟩:=x;exact⟨t,u,v,k _ _ (.inl rfl) e⟩
 |frz ob u ih=>obtain⟨e,q⟩:=x;exact⟨k _ _ (.inl rfl) e,ih q⟩
 |tbl ps=>
  have e:h.get? a=some { cls:=.none,data:=.fields ps}:=x;show h'.get? a=some { cls:=.none,data:=.fields ps};exact k a _ (.inl rfl) e
 |met f y=>
  have e:h.get? a=some (VO (.ref f) (.ref y)):=x;show h'.get? a=some (VO (.ref f) (.ref y));exact k a _ (.inl rfl) e
 |ext φ=>obtain⟨p,⟨o,e⟩,st⟩:=x;exact⟨st _ _ p λo q=>k _ _ (.inl rfl) q,⟨o,k _ _ (.inl rfl) e⟩,st⟩
theorem HOk.lt (x:HOk P w H h)(e:H a=some o):a<h.objs.size:=(x a o e).lt
theorem HOk.fresh (x:HOk P w H h)(e:h.objs.size<=a):H a=none:=by
 cases q:H a with
 |none=>rfl
 |some u=>exact absurd (v_ (x.lt q) e) (NR _)
theorem HOk.kept (x:HOk P w H h)(k:∀b u,h.get? b=some u->h'.get? b=some u):HOk P w H h':=λa o e=>
 (x a o e).mO (λb u _ q=>k b u q) (λ_ q=>q) λ_ _ q=>q
theorem HOk.laid (x:HOk P w H h)(k:∀b u,h.get? b=some u->h'.get? b=some u)(hp:h.objs.size<=a)(new:f7 P w (upd H a o) h' a o):HOk P w (upd H a o) h':=λb u e=>by
 have hn:=x.fresh hp;by_cases hb:b=a
 ·subst hb;rw[aX]at e;cases e;exact new
 rw[aQ hb]at e;exact(x b u e).mO (λc v _ q=>k c v q) (λc q=>by rw[aQ (f6 q hn)];exact q) λc xs q=>by rw[aQ (f6 q hn)];exact q
end
noncomputable def Rd(H:Hp)(a:Sn)(u:HO):Prop:=H a=some u\/∃o,H a=some (.frz o u)
variable {P:SD}{h:SJ}
theorem Rd.ok {u:HO}(r:Rd H a u)(x:HOk P w H h):f7 P w H h a u:=by
 rcases r with r|⟨o,r⟩
 ·exact x a u r
 obtain⟨_,q⟩:=x a _ r;exact q
noncomputable def Mut:Option HO->Prop
 |some (.lst _)=>True
 |some (.dK _)=>True
 |some (.dT _)=>True
 |some (.set _ _)=>True
 |some (.ins _ _ _)=>True
 |some (.ext _)=>True
 | _=>False
section
variable{P:SD}{w:SI}{H:Hp}{h h':SJ}{x e:Sn}{o':HO}
theorem HOk.write (ok:HOk P w H h)(mu:Mut (H x))(he:e=x\/H e=some (.own x))(k:∀b u,b≠e->h.get? b=some u->h'.get? b=some u)(heo:∃u,h'.get? e=some u)
  (new:f7 P w (upd H x o') h' x o'):HOk P w (upd H x o') h':=λb u q=>by
 have nown:∀c y,H c=some (.own y)->c≠x:=λc y r z=>by subst z;rw[r]at mu;exact mu
 have ntup:∀c xs,H c=some (.tup xs)->c≠x:=λc xs r z=>by subst z;rw[r]at mu;exact mu
 by_cases hb:b=x
 ·subst hb;rw[aX]at q;cases q;exact new
 rw[aQ hb]at q;by_cases hbe:b=e
 ·have q':H b=some (.own x):=by
   rcases he with z|z
   ·exact absurd (hbe.trans z) hb
   rw[hbe];exact z
  rw[q]at q';cases q';obtain⟨v,hv⟩:=heo;exact⟨v,by rw[hbe];exact hv⟩
 refine(ok b u q).mO (λc v hc r=>k c v ?_ r) (λc r=>by rw[aQ (nown c b r)];exact r) λc xs r=>by rw[aQ (ntup c xs r)];exact r
 rcases hc with rfl|hc
 ·exact hbe
 rintro rfl;rcases he with z|z
 ·exact nown c b hc z
 rw[hc]at z;cases z;exact hb rfl
end
structure Un (fs ex:List Sn) (H H':Hp) (h h':SJ):Prop where
 keep:∀b o,h.get? b=some o->H b=none->b ∉ fs->b ∉ ex->h'.get? b=some o
 slot:∀b o,h.get? b=some o->H b=none->b∈fs->b ∉ ex->∃sl,h'.get? b=some {o with slots:=sl}
 free:∀b o,h.get? b=some o->H b=none->b ∉ ex->H' b=none
 there:∀b o,h.get? b=some o->b ∉ ex->∃o',h'.get? b=some o'
 tups:∀b xs,H b=some (.tup xs)->H' b=some (.tup xs)
 frzs:∀b o u,H b=some (.frz o u)->H' b=some (.frz o u)
 tbls:∀b ps,H b=some (.tbl ps)->∃more,H' b=some (.tbl (ps++more))
section
variable{fs fs' ex ex':List Sn}{H H1 H2:Hp}{h h1 h2 h':SJ}{a x e:Sn}{o:HO}
theorem Un.any (u:Un fs ex H H1 h h1){ob:Obj}(q:h.get? b=some ob)(n:H b=none)(hx:b ∉ ex):∃sl,h1.get? b=some {ob with slots:=sl}:=by
 by_cases hb:b∈fs
 ·exact u.slot b ob q n hb hx
 exact⟨ob.slots,u.keep b ob q n hb hx⟩
theorem Un.kept (k:∀b u,h.get? b=some u->h'.get? b=some u):Un fs ex H H h h':=
 ⟨λb ob q _ _ _=>k b ob q,λb ob q _ _ _=>⟨ob.slots,k b ob q⟩,λ_ _ _ n _=>n,λb ob q _=>⟨ob,k b ob q⟩,λ_ _ q=>q,λ_ _ _ q=>q,λ_ ps q=>⟨#[],by rw[q];simp⟩⟩
theorem Un.refl:Un fs ex H H h h:=Un.kept λ_ _ q=>q
theorem Un.laid (k:∀b u,h.get? b=some u->h'.get? b=some u)(hp:h.objs.size<=a)(hn:H a=none):Un fs ex H (upd H a o) h h' where
 keep:=λb u q _ _ _=>k b u q
 slot:=λb u q _ _ _=>⟨u.slots,k b u q⟩
 free:=λb u q n _=>by rw[aQ (j_ (v_ (Sx q) hp))];exact n
 there:=λb u q _=>⟨u,k b u q⟩
 tups:=λb xs q=>by rw[aQ (f6 q hn)];exact q
 frzs:=λb u xs q=>by rw[aQ (f6 q hn)];exact q
 tbls:=λb ps q=>⟨#[],by rw[aQ (f6 q hn),q];simp⟩
theorem Un.write (mu:Mut (H x))(he:e=x\/H e=some (.own x))(k:∀b u,b≠e->h.get? b=some u->h'.get? b=some u)(heo:∃u,h'.get? e=some u):Un fs ex H (upd H x o) h h':=by
 have hx:∀b,H b=none->b≠x:=λb n z=>by subst z;rw[n]at mu;exact mu
 have hb:∀b,H b=none->b≠e:=λb n z=>by
  subst z;rcases he with r|r
  ·exact hx b n r
  rw[n]at r;cases r
 have hm:∀b u,H b=some u->¬Mut (some u)->b≠x:=λb u q nm z=>by subst z;rw[q]at mu;exact nm mu
 refine⟨λb u q n _ _=>k b u (hb b n) q,λb u q n _ _=>⟨u.slots,k b u (hb b n) q⟩,λb u q n _=>by rw[aQ (hx b n)];exact n,λb u q _=>?_,
  λb xs q=>by rw[aQ (hm b _ q λz=>z)];exact q,λb u xs q=>by rw[aQ (hm b _ q λz=>z)];exact q,λb ps q=>⟨#[],by rw[aQ (hm b _ q λz=>z),q];simp⟩⟩
 by_cases hbe:b=e
 ·subst hbe;exact heo
 exact⟨u,k b u hbe q⟩
end
noncomputable def trk(h:SJ)(H:Hp):List Sn:=(B' h.objs.size).filter λa=>(H a).isSome
def vQ(h:SJ)(H:Hp):SJ:=PySem.W.hideAll h (trk h H)
theorem AQ(h:SJ)(H:Hp):(vQ h H).objs.size=h.objs.size:=PySem.W.hideAll_size _ _
theorem Co{o:Obj}(e:h.get? b=some o)(n:H b=none):(vQ h H).get? b=some o:=
 PySem.W.hideAll_get _ e λhm=>by have q:(H b).isSome=true:=(N0.mp hm).2;rw[n]at q;simp at q
theorem Fb{o:Obj}(e:(vQ h H).get? b=some o):h.get? b=some o/\H b=none:=by
 have e':h.get? b=some o:=PySem.W.of_hideAll (trk h H) e;refine⟨e',?_⟩;cases q:H b with
 |none=>rfl
 |some x=>
  have hm:b∈trk h H:=N0.mpr ⟨K_.mpr (Sx e'),by simp[q]⟩;have z:(vQ h H).get? b=none:=PySem.W.hideAll_none (trk h H) hm;rw[z]at e;cases e
noncomputable def FU(g h:SJ)(L:Sn):List (Sn×Obj):=(B' h.objs.size).filterMap λa=>if a=L\/(g.get? a).isSome=true then none else(h.get? a).map λo=>(a,o)
def rest(g h:SJ)(L d:Sn):List (Sn×Obj):=(FU g h L).filter λp=>decide (p.1≠d)
structure Mod (K:Sm) (mg:Str->Option Sl) (base:SJ):Prop where
 kin:K.In base
 glob:base.Ns Tr mg
 blt:∃mb,base.Ns Wt mb/\∀x:Str,x≠"__name__"->mb x=Uc x
 nolimit:base.NoLimit
structure Cx where
 prog:SD
 w:SI
 K:Sm
 mg:Str->Option Sl
 base:SJ
 A:SW
 N:List Str
 s₀:So
 H₀:Hp
 env:Env
 outer:List Env
 stack:List Env
 ex:List Sn
 fn:Str->Bool
 calm:Bool
 pn:List (Sn×Obj)
 xe:Sl->So->Prop
noncomputable def frs(l:List Env):List Sn:=l.filterMap (·.frame)
abbrev Cx.fs (X:Cx):List Sn:=frs X.outer
noncomputable def Vis(sc:TF)(x:Str):Prop:=sc.names.lookup x=some .local\/sc.names.lookup x=some .cell\/sc.names.lookup x=some .free
noncomputable def Loc(sc:TF)(x:Str):Prop:=sc.names.lookup x=some .local\/sc.names.lookup x=some .cell
noncomputable def Look(env:Env)(h:SJ)(m:Str->Option Sl)(x:Str)(u:Sl):Prop:=
 (env.kindOf x=some .local/\m x=some u)\/((env.kindOf x=some .cell\/env.kindOf x=some .free)/\∃c,env.cells.lookup x=some c/\h.IsCell c (some u))
structure Cx.Ok (X:Cx):Prop where
 mod:Mod X.K X.mg X.base
 kind:X.env.scope.kind=.function
 glob:X.env.globals=Tr
 blt:X.env.builtins=Wt
 above:X.s₀.heap.objs.size<=X.env.locals
 inj:∀x y c,X.env.cells.lookup x=some c->X.env.cells.lookup y=some c->x=y
 has:∀x,(X.env.kindOf x=some .cell\/X.env.kindOf x=some .free)->∃c,X.env.cells.lookup x=some c
 cab:∀x c,X.fn x=true->X.env.cells.lookup x=some c->X.s₀.heap.objs.size<=c
 hd:X.calm=true->X.A.handled=none
 frames:X.A.frames=some X.stack
 stk:X.stack=X.outer\/(X.stack=X.env::X.outer/\X.env.frame=some X.env.locals)
 exf:∀b∈X.ex,b≠X.env.locals/\∀x c,X.env.cells.lookup x=some c->c≠b
 bs:∀b o,X.base.get? b=some o->X.s₀.heap.get? b=some o/\X.H₀ b=none
 bsz:X.base.objs.size<=X.s₀.heap.objs.size
 noex:∀b o,X.base.get? b=some o->b ∉ X.ex
 exfs:∀b∈X.ex,b ∉ X.fs
 sO:X.s₀.heap.FunFrames X.base X.outer
 frf:∀b∈X.fs,X.H₀ b=none
structure Inv (X:Cx) (ac:List (Sn×Obj)) (σ:List (Option V)) (H:Hp) (s:So):Prop where
 ok:X.Ok
 os:s.os=X.s₀.os
 bare:Vf s.gens
 base:Un X.fs X.ex X.H₀ H X.s₀.heap s.heap
 loc:∃m,s.heap.Ns X.env.locals m/\∀(i:Nat) (x:Str) (v:V),X.N[i]?=some x->σ[i]?=some (some v)->Vis X.env.scope x->∃u,RelV v u/\Look X.env s.heap m x u
 cell:∀x c,X.env.cells.lookup x=some c->∃v,s.heap.IsCell c v
 free:H X.env.locals=none
 freeC:∀x c,X.env.cells.lookup x=some c->H c=none
 pin:∀p∈X.pn++ac,s.heap.get? p.1=some p.2/\H p.1=none/\p.1≠X.env.locals/\p.1 ∉ X.fs/\∀v,p.2.data≠.cell v
 hok:HOk X.prog X.w H s.heap
 len:σ.length=X.N.length
variable {M:UC}{N:List Str}{Q:Unit->So->Prop}{ch:List Sn}{g':Array GenState}{i j t':Nat}{v:V}{x:Str}
section
variable{X:Cx}{ac:List (Sn×Obj)}{σ:List (Option V)}{H H':Hp}{s:So}{h':SJ}
theorem Cx.Ok.MQ (ok:X.Ok){o:Obj}(e:X.base.get? b=some o):b ∉ X.fs:=λhb=>by have:=(ok.sO.mem hb).1;rw[e]at this;cases this
theorem Inv.bs (I:Inv X ac σ H s):∀b o,X.base.get? b=some o->s.heap.get? b=some o/\H b=none:=λb o e=>
 ⟨I.base.keep b o (I.ok.bs b o e).1 (I.ok.bs b o e).2 (I.ok.MQ e) (I.ok.noex b o e),I.base.free b o (I.ok.bs b o e).1 (I.ok.bs b o e).2 (I.ok.noex b o e)⟩
theorem Inv.bk (I:Inv X ac σ H s):∀b o,X.base.get? b=some o->s.heap.get? b=some o:=λb o e=>(I.bs b o e).1
theorem Inv.mod (I:Inv X ac σ H s):Mod X.K X.mg X.base:=I.ok.mod
theorem Inv.kIn (I:Inv X ac σ H s):X.K.In s.heap:=I.ok.mod.kin.keeps I.bk
theorem Inv.lt (I:Inv X ac σ H s):X.env.locals<s.heap.objs.size:=let ⟨_,hn,_⟩:=I.loc;hn.lt
theorem Inv.sz (I:Inv X ac σ H s):X.s₀.heap.objs.size<=s.heap.objs.size:=r_ I.ok.above (K' I.lt)
theorem Inv.Mu (I:Inv X ac σ H s)(h:s.heap.objs.size<=a):a ∉ X.fs:=λhb=>by obtain⟨_,o,ho,_⟩:=I.ok.sO.mem hb;exact absurd (v_ (Sx ho) (r_ I.sz h)) (NR _)
theorem Inv.cne (I:Inv X ac σ H s):∀x c,X.env.cells.lookup x=some c->c≠X.env.locals:=λx c e z=>by obtain⟨v,o,ho,hd⟩:=I.cell x c e;obtain⟨m,⟨o',es,ep,ho',hd',_⟩,_⟩:=I.loc;rw[z,ho']at ho;cases ho;rw[hd']at hd;cases hd
theorem Inv.sO (I:Inv X ac σ H s):s.heap.FunFrames X.base X.outer:=by
 have all:∀(l:List Env),(∀b∈frs l,b∈X.fs)->X.s₀.heap.FunFrames X.base l->s.heap.FunFrames X.base l:=by
  intro l;induction l with
  |nil=>intro _ _;trivial
  |cons env r ih=>
   intro hs hl;obtain⟨hk,⟨L,o,hf,hn,ho,hd⟩,hr⟩:=hl;have hL:L∈X.fs:=hs L (by unfold frs;rw[P8,hf];exact lm);obtain⟨sl,e⟩:=I.base.slot L o ho (I.ok.frf L hL) hL λz=>I.ok.exfs L z hL;exact⟨hk,⟨L,_,hf,hn,e,hd⟩,ih (λb hb=>hs b (by unfold frs;rw[P8,hf];exact t_ _ hb)) hr⟩
 exact all X.outer (λ_ hb=>hb) I.ok.sO
theorem Inv.stack (I:Inv X ac σ H s):s.heap.FunFrames X.base X.stack:=by
 rcases I.ok.stk with e|⟨e,hf⟩
 ·rw[e];exact I.sO
 rw[e];obtain⟨m,hn,_⟩:=I.loc;refine .cons (by rw[I.ok.kind];decide) hf hn ?_ I.sO;exact Heap.get?_none_of_le (r_ I.ok.bsz I.ok.above)
theorem Inv.y9 (I:Inv X ac σ H s):∀b∈frs X.stack,b∈X.env.locals::X.fs:=λb hb=>by
 rcases I.ok.stk with e|⟨e,hf⟩
 ·rw[e]at hb;exact t_ _ hb
 rw[e]at hb;unfold frs at hb;rw[P8,hf]at hb;exact hb
theorem Inv.Af (I:Inv X ac σ H s):∀b∈frs X.stack,H b=none:=λb hb=>by
 rcases n_.mp (I.y9 b hb)with e|hb
 ·rw[e];exact I.free
 obtain⟨_,o,ho,_⟩:=I.ok.sO.mem hb;exact I.base.free b o ho (I.ok.frf b hb) λz=>I.ok.exfs b z hb
theorem Inv.step {d':Drawn}(I:Inv X ac σ H s)
  (hch:∀b∈ch,(b∈X.ex\/X.s₀.heap.objs.size<=b)/\b≠X.env.locals/\(∀x c,X.env.cells.lookup x=some c->c≠b)/\∀p∈X.pn++ac,p.1≠b)
  (keep:∀b o,b≠X.env.locals->b ∉ X.fs->b ∉ ch->s.heap.get? b=some o->H b=none->h'.get? b=some o)
  (slot:∀b o,b≠X.env.locals->b∈X.fs->b ∉ ch->s.heap.get? b=some o->H b=none->∃sl,h'.get? b=some {o with slots:=sl}) (free:∀b o,b ∉ ch->s.heap.get? b=some o->H b=none->H' b=none)
  (there:∀b o,b ∉ ch->s.heap.get? b=some o->∃o',h'.get? b=some o')
  (tups:∀b xs,H b=some (.tup xs)->H' b=some (.tup xs)) (frzs:∀b o u,H b=some (.frz o u)->H' b=some (.frz o u)) (tbls:∀b ps,H b=some (.tbl ps)->∃more,H' b=some (.tbl (ps++more)))
  (ns:∀m,s.heap.Ns X.env.locals m->h'.Ns X.env.locals m) (hok:HOk X.prog X.w H' h') (hg:Vf g') :
  Inv X ac σ H' {s with heap:=h',gens:=g',drawn:=d',toks:=t'}:=by
 have neL:∀b o,X.s₀.heap.get? b=some o->b≠X.env.locals:=λb o e=>j_ (v_ (Sx e) I.ok.above);have neC:∀b o,X.s₀.heap.get? b=some o->b ∉ X.ex->b ∉ ch:=λb o e hx hb=>by
  rcases(hch b hb).1 with z|z
  ·exact hx z
  exact absurd (v_ (Sx e) z) (NR _)
 have cellK:∀x c,X.env.cells.lookup x=some c->∀v,s.heap.IsCell c v->h'.IsCell c v:=λx c e v ⟨o,ho,hd⟩=>by
  have nch:c ∉ ch:=λz=>(hch c z).2.2.1 x c e rfl;by_cases hc:c∈X.fs
  ·obtain⟨sl,q⟩:=slot c o (I.cne x c e) hc nch ho (I.freeC x c e);exact⟨_,q,hd⟩
  exact⟨o,keep c o (I.cne x c e) hc nch ho (I.freeC x c e),hd⟩
 refine⟨I.ok,I.os,hg,⟨λb o e n hb hx=>?_,λb o e n hb hx=>?_,λb o e n hx=>?_,λb o e hx=>?_,λb xs e=>tups b xs (I.base.tups b xs e),λb o xs e=>frzs b o xs (I.base.frzs b o xs e),λb ps e=>?_⟩,?_,λx c e=>?_,?_,λx c e=>?_,λp hp=>?_,hok,I.len⟩
 ·exact keep b o (neL b o e) hb (neC b o e hx) (I.base.keep b o e n hb hx) (I.base.free b o e n hx)
 ·obtain⟨sl,e1⟩:=I.base.slot b o e n hb hx;obtain⟨sl',e2⟩:=slot b _ (neL b o e) hb (neC b o e hx) e1 (I.base.free b o e n hx);exact⟨sl',e2⟩
 ·obtain⟨o',e1⟩:=I.base.there b o e hx;exact free b o' (neC b o e hx) e1 (I.base.free b o e n hx)
 ·obtain⟨o',e1⟩:=I.base.there b o e hx;exact there b o' (neC b o e hx) e1
 ·obtain⟨m1,e1⟩:=I.base.tbls b ps e;obtain⟨m2,e2⟩:=tbls b _ e1;exact⟨m1++m2,by rw[e2,Array.append_assoc]⟩
 ·obtain⟨m,hn,hl⟩:=I.loc;refine⟨m,ns m hn,λi x v e1 e2 e3=>?_⟩;obtain⟨u,r,l⟩:=hl i x v e1 e2 e3;refine⟨u,r,?_⟩;rcases l with l|⟨k,c,e,z⟩
  ·exact .inl l
  exact .inr ⟨k,c,e,cellK x c e _ z⟩
 ·obtain⟨v,z⟩:=I.cell x c e;exact⟨v,cellK x c e v z⟩
 ·obtain⟨m,⟨o,_,_,ho,_⟩,_⟩:=I.loc;exact free _ o (λz=>(hch _ z).2.1 rfl) ho I.free
 ·obtain⟨v,o,ho,hd⟩:=I.cell x c e;exact free c o (λz=>(hch c z).2.2.1 x c e rfl) ho (I.freeC x c e)
 obtain⟨e,n,ne,nf,d⟩:=I.pin p hp;have nch:p.1 ∉ ch:=λz=>(hch p.1 z).2.2.2 p hp rfl;exact⟨keep p.1 p.2 ne nf nch e n,free p.1 p.2 nch e n,ne,nf,d⟩
theorem Inv.un (I:Inv X ac σ H s)(u:Un X.fs [] H H' s.heap h')(hok:HOk X.prog X.w H' h'):Inv X ac σ H' {s with heap:=h',toks:=t'}:=by
 obtain⟨m,⟨o,es,ep,ho,r⟩,_⟩:=id I.loc;obtain⟨sl,hL⟩:=u.any ho I.free (by simp);exact I.step (g':=s.gens) (d':=s.drawn) (ch:=[]) (λ_ z=>nomatch z) (λb o _ hb _ e n=>u.keep b o e n hb (by simp)) (λb o _ hb _ e n=>u.slot b o e n hb (by simp)) (λb o _ e n=>u.free b o e n (by simp)) (λb o _ e=>u.there b o e (by simp)) u.tups u.frzs u.tbls (λm' hm=>by obtain⟨o',es',ep',ho',r'⟩:=hm;rw[ho]at ho';cases ho';exact⟨_,es',ep',hL,r'⟩) hok I.bare
theorem Inv.call {d':Drawn}(I:Inv X ac σ H s)(u:Un (frs X.stack) ch H H' s.heap h')(hok:HOk X.prog X.w H' h')(hg:Vf g')
  (hch:∀b∈ch,(b∈X.ex\/X.s₀.heap.objs.size<=b)/\b≠X.env.locals/\(∀x c,X.env.cells.lookup x=some c->c≠b)/\∀p∈X.pn++ac,p.1≠b) :
  Inv X ac σ H' {s with heap:=h',gens:=g',drawn:=d',toks:=t'}:=by
 obtain⟨m,⟨o,es,ep,ho,r⟩,_⟩:=id I.loc;obtain⟨sl,hL⟩:=u.any ho I.free λz=>(hch _ z).2.1 rfl;exact I.step (ch:=ch) hch (λb o hL hb hc e n=>u.keep b o e n (λz=>(n_.mp (I.y9 b z)).elim hL hb) hc) (λb o _ _ hc e n=>u.any e n hc) (λb o hc e n=>u.free b o e n hc) (λb o hc e=>u.there b o e hc) u.tups u.frzs u.tbls (λm' hm=>by obtain⟨o',es',ep',ho',r'⟩:=hm;rw[ho]at ho';cases ho';exact⟨_,es',ep',hL,r'⟩) hok hg
theorem Inv.turned {it:Sn}(I:Inv X ac σ H s)(k:∀b o,b≠it->s.heap.get? b=some o->h'.get? b=some o)(hn:H it=none)(hL:it≠X.env.locals)
  (h1:it∈X.ex\/X.s₀.heap.objs.size<=it) (h2:∀x c,X.env.cells.lookup x=some c->c≠it) (h3:∀p∈X.pn++ac,p.1≠it):Inv X ac σ H {s with heap:=h',toks:=t'}:=by
 have nit:∀b u,H b=some u->b≠it:=λb u e z=>by rw[z,hn]at e;cases e
 refine I.step (g':=s.gens) (d':=s.drawn) (ch:=[it]) (λb hb=>?_) (λb o _ _ hc e _=>k b o (λz=>hc (by simp[z])) e) (λb o _ _ hc e _=>⟨o.slots,k b o (λz=>hc (by simp[z])) e⟩) (λ_ _ _ _ n=>n)
  (λb o hc e=>⟨o,k b o (λz=>hc (by simp[z])) e⟩) (λ_ _ e=>e) (λ_ _ _ e=>e) (λb ps e=>⟨#[],by rw[e];simp⟩) (λm hm=>?_) (λb u e=>?_) I.bare
 ·have e:b=it:=by simpa using hb
  subst e;exact⟨h1,hL,h2,h3⟩
 ·obtain⟨o,es,ep,ho,r⟩:=hm;exact⟨o,es,ep,k _ o (TR hL) ho,r⟩
 refine(I.hok b u e).mO (λc v hc q=>k c v ?_ q) (λ_ q=>q) λ_ _ q=>q;rcases hc with z|z
 ·rw[z];exact nit b u e
 exact nit c _ z
theorem Inv.tok (I:Inv X ac σ H s)(t:Nat):Inv X ac σ H {s with toks:=t}:=I.un (h':=s.heap) (t':=t) Un.refl I.hok
theorem Inv.kept (I:Inv X ac σ H s)(k:∀b u,s.heap.get? b=some u->h'.get? b=some u):Inv X ac σ H {s with heap:=h',toks:=t'}:=I.un (Un.kept k) (I.hok.kept k)
theorem Inv.laid (I:Inv X ac σ H s)(k:∀b u,s.heap.get? b=some u->h'.get? b=some u)(hp:s.heap.objs.size<=a)(new:f7 X.prog X.w (upd H a o) h' a o) :
  Inv X ac σ (upd H a o) {s with heap:=h',toks:=t'}:=I.un (Un.laid k hp (I.hok.fresh hp)) (I.hok.laid k hp new)
theorem Inv.write {x e:Sn}(I:Inv X ac σ H s)(mu:Mut (H x))(he:e=x\/H e=some (.own x))(k:∀b u,b≠e->s.heap.get? b=some u->h'.get? b=some u)(heo:∃u,h'.get? e=some u)
  (new:f7 X.prog X.w (upd H x o) h' x o):Inv X ac σ (upd H x o) {s with heap:=h',toks:=t'}:=I.un (Un.write mu he k heo) (I.hok.write mu he k heo new)
theorem Inv.zd {pins':List (Sn×Obj)}(I:Inv X ac σ H s)(h:∀p∈pins',s.heap.get? p.1=some p.2/\H p.1=none/\p.1≠X.env.locals/\p.1 ∉ X.fs/\∀v,p.2.data≠.cell v):Inv X pins' σ H s:=
 ⟨I.ok,I.os,I.bare,I.base,I.loc,I.cell,I.free,I.freeC,λp hp=>(C_.mp hp).elim (λz=>I.pin p (MV _ z)) (h p),I.hok,I.len⟩
theorem wc(hN:N.Nodup)(a:N[i]?=some x)(b:N[j]?=some x):i=j:=by obtain⟨h1,e1⟩:=gV.mp a;obtain⟨h2,e2⟩:=gV.mp b;exact(List.getElem_inj hN).mp (e1.trans e2.symm)
theorem uD(I:Inv X ac σ H s)(hN:X.N.Nodup)(hi:X.N[i]?=some x)(hx:Loc X.env.scope x)(r:RelV v u)
  (h:∀s',Inv X ac (σ.set i (some v)) H s'->(∃a,T_ a s.heap s'.heap/\(a=X.env.locals\/X.env.cells.lookup x=some a))->Q () s') (hf:X.fn x=true\/X.env.scope.names.lookup x=some .local:=by first|exact .inl rfl|exact .inr rfl|assumption):Sw M A (storeName X.env x u) Q E s:=by
 obtain⟨m,hn,hl⟩:=id I.loc;have hcls:(X.env.scope.kind == .class || (X.env.scope.kind == .module&&X.env.locals != X.env.globals))=false:=by rw[I.ok.kind];rfl
 have hiσ:i<σ.length:=by rw[I.len];exact(gV.mp hi).1
 have cne:=I.cne;have tracked:∀{a:Sn}{h':SJ},(∃o,s.heap.get? a=some o/\H a=none)->T_ a s.heap h'->HOk X.prog X.w H h':=λ{a h'} ha hs b ob e=>by
  obtain⟨_,_,hfree⟩:=ha;refine(I.hok b ob e).mO (λc w' hc q=>(hs.2 c ?_).trans q) (λ_ q=>q) λ_ _ q=>q;rintro rfl;rcases hc with rfl|hc
  ·rw[hfree]at e;cases e
  rw[hfree]at hc;cases hc
 rcases hx with hk|hk
 ·refine wpAny_storeName_local hk hn (λh' hn' hs=>?_) hcls;obtain⟨oL,_,_,hoL,_⟩:=id hn;refine h _ ⟨I.ok,I.os,I.bare,⟨λb o e n hb hx=>?_,λb o e n hb hx=>?_,I.base.free,λb o e hx=>?_,I.base.tups,I.base.frzs,I.base.tbls⟩,⟨_,hn',λj y v' e1 e2 e3=>?_⟩,λy c e=>?_,I.free,I.freeC,λp hp=>?_,tracked ⟨oL,hoL,I.free⟩ hs,by simpa using I.len⟩ ⟨_,hs,.inl rfl⟩
  ·exact(hs.2 b (j_ (v_ (Sx e) I.ok.above))).trans (I.base.keep b o e n hb hx)
  ·obtain⟨sl,e1⟩:=I.base.slot b o e n hb hx;exact⟨sl,(hs.2 b (j_ (v_ (Sx e) I.ok.above))).trans e1⟩
  ·obtain⟨o',e1⟩:=I.base.there b o e hx;exact⟨o',(hs.2 b (j_ (v_ (Sx e) I.ok.above))).trans e1⟩
  ·by_cases hj:j=i
   ·subst hj;rw[hi]at e1;cases e1;rw[Pl hiσ]at e2;cases e2;exact⟨u,r,.inl ⟨hk,by simp⟩⟩
   rw[PR (TR hj)]at e2;obtain⟨u',r',q⟩:=hl j y v' e1 e2 e3;refine⟨u',r',?_⟩;rcases q with⟨k,e⟩|⟨k,c,e,z⟩
   ·refine .inl ⟨k,?_⟩;have:y≠x:=λe=>hj (wc hN e1 (e▸hi));simp[this,e]
   exact .inr ⟨k,c,e,z.sameBut hs (cne y c e)⟩
  ·obtain⟨w',z⟩:=I.cell y c e;exact⟨w',z.sameBut hs (cne y c e)⟩
  obtain⟨e,n,ne,nf,d⟩:=I.pin p hp;exact⟨(hs.2 p.1 ne).trans e,n,ne,nf,d⟩
 have hfn:X.fn x=true:=by
  rcases hf with z|z
  ·exact z
  rw[z]at hk;cases hk
 obtain⟨c,hc⟩:=I.ok.has x (.inl hk);obtain⟨w',z⟩:=I.cell x c hc;refine wpAny_storeName_cell I.ok.kind hk hc z (λh' hc' hs=>?_);obtain⟨oc,hoc,hocd⟩:=id z;refine h {s with heap:=h'} ⟨I.ok,I.os,I.bare,⟨λb o e n hb hx=>?_,λb o e n hb hx=>?_,I.base.free,λb o e hx=>?_,I.base.tups,I.base.frzs,I.base.tbls⟩,⟨m,hn.sameBut hs (TR (cne x c hc)),λj y v' e1 e2 e3=>?_⟩,λy c' e=>?_,I.free,I.freeC,λp hp=>?_,tracked ⟨oc,hoc,I.freeC x c hc⟩ hs,by simpa using I.len⟩ ⟨c,hs,.inr hc⟩
 ·exact(hs.2 b (j_ (v_ (Sx e) (I.ok.cab x c hfn hc)))).trans (I.base.keep b o e n hb hx)
 ·obtain⟨sl,e1⟩:=I.base.slot b o e n hb hx;exact⟨sl,(hs.2 b (j_ (v_ (Sx e) (I.ok.cab x c hfn hc)))).trans e1⟩
 ·obtain⟨o',e1⟩:=I.base.there b o e hx;exact⟨o',(hs.2 b (j_ (v_ (Sx e) (I.ok.cab x c hfn hc)))).trans e1⟩
 ·by_cases hj:j=i
  ·subst hj;rw[hi]at e1;cases e1;rw[Pl hiσ]at e2;cases e2;exact⟨u,r,.inr ⟨.inl hk,c,hc,hc'⟩⟩
  rw[PR (TR hj)]at e2;obtain⟨u',r',q⟩:=hl j y v' e1 e2 e3;refine⟨u',r',?_⟩;rcases q with q|⟨k,c',e,z'⟩
  ·exact .inl q
  refine .inr ⟨k,c',e,z'.sameBut hs ?_⟩;rintro rfl;exact hj (wc hN e1 (I.ok.inj _ _ _ e hc▸hi))
 ·by_cases hcc:c'=c
  ·subst hcc;exact⟨_,hc'⟩
  obtain⟨w2,z2⟩:=I.cell y c' e;exact⟨w2,z2.sameBut hs hcc⟩
 obtain⟨e,n,ne,nf,d⟩:=I.pin p hp;refine⟨(hs.2 p.1 ?_).trans e,n,ne,nf,d⟩;intro q;rw[q,hoc]at e;have q':oc=p.2:=L' e;exact d w' (by rw[<-q'];exact hocd)
theorem ni(I:Inv X ac σ H s)(hN:X.N.Nodup)(hi:X.N[i]?=some x)(hx:Loc X.env.scope x)(r:RelV v u)
  (h:∀s',Inv X ac (σ.set i (some v)) H s'->Q () s') (hf:X.fn x=true\/X.env.scope.names.lookup x=some .local:=by first|exact .inl rfl|exact .inr rfl|assumption):Sw M A (storeName X.env x u) Q E s:=
 uD I hN hi hx r (λs' I' _=>h s' I') hf
theorem Inv.He {s':So}(I:Inv X ac σ H s)(ho:s'.os=s.os)(u:Un (frs X.stack) ch H H' s.heap s'.heap)(hok:HOk X.prog X.w H' s'.heap)(hg:Vf s'.gens)
  (hch:∀b∈ch,(b∈X.ex\/X.s₀.heap.objs.size<=b)/\b≠X.env.locals/\(∀x c,X.env.cells.lookup x=some c->c≠b)/\∀p∈X.pn++ac,p.1≠b):Inv X ac σ H' s':=by
 obtain⟨h',g',d',t',o'⟩:=s';have e:o'=s.os:=ho;subst e;exact I.call (g':=g') (t':=t') (d':=d') u hok hg hch
end
abbrev XK:=Sl->Option Sn->Hp->Prop
abbrev St:=List (Option V)
abbrev VK:=V->Hp->Prop
abbrev TE:=St->Hp->VK->Prop
abbrev TT:=St->Hp->(Bool->Hp->Prop)->Prop
abbrev TA:=St->Hp->(List V->Hp->Prop)->Prop
structure Ends where
 nx:St->Hp->Prop
 rt:VK
 bk:St->Hp->Prop:=λ_ _=>False
 ct:St->Hp->Prop:=λ_ _=>False
abbrev TS:=Ends->St->Hp->Prop
def EP(X:Cx)(ac:List (Sn×Obj))(σ:St)(Q:VK)(u:Sl)(s':So):Prop:=∃v H',Inv X ac σ H' s'/\RelV v u/\Q v H'
noncomputable def TP(X:Cx)(ac:List (Sn×Obj))(σ:St)(Q:Bool->Hp->Prop)(b:Bool)(s':So):Prop:=∃H',Inv X ac σ H' s'/\Q b H'
def AP(X:Cx)(ac:List (Sn×Obj))(σ:St)(Q:List V->Hp->Prop)(us:List Sl)(s':So):Prop:=∃vs H',Inv X ac σ H' s'/\Vals vs us/\Q vs H'
def SP(X:Cx)(ac:List (Sn×Obj))(D:Ends)(f:Flow)(s':So):Prop:=
 match f with
 | .next=>∃ cl H',Inv X ac cl H' s'/\D.nx cl H'
 | .brk=>∃ cl H',Inv X ac cl H' s'/\D.bk cl H'
 | .cont=>∃ cl H',Inv X ac cl H' s'/\D.ct cl H'
 | .ret u=>∃v cl H',Inv X ac cl H' s'/\RelV v u/\D.rt v H'
def PE(X:Cx)(e:SK)(t:TE):Prop:=
 ∀(ac:List (Sn×Obj)) (s:So) (σ:St) (H:Hp) (Q:VK),Inv X ac σ H s->t σ H Q->Sw (SG X.prog X.w) X.A (Ta e X.env) (EP X ac σ Q) X.xe s
def PT(X:Cx)(e:SK)(t:TT):Prop:=
 ∀(ac:List (Sn×Obj)) (s:So) (σ:St) (H:Hp) (Q:Bool->Hp->Prop),Inv X ac σ H s->t σ H Q->Sw (SG X.prog X.w) X.A (WL e X.env (Ta e X.env)) (TP X ac σ Q) X.xe s
def PW(X:Cx)(e:SK)(t:TT):Prop:=
 ∀(whole:Sem Sl) (ac:List (Sn×Obj)) (s:So) (σ:St) (H:Hp) (Q:Bool->Hp->Prop),Inv X ac σ H s->t σ H Q->Sw (SG X.prog X.w) X.A (WL e X.env whole) (TP X ac σ Q) X.xe s
variable {X:Cx}{e:SK}
theorem PW.pt {t:TT}(h:PW X e t):PT X e t:=h _
def PA(X:Cx)(es:List SK)(t:TA):Prop:=
 ∀(pos:Pos) (ac:List (Sn×Obj)) (s:So) (σ:St) (H:Hp) (Q:List V->Hp->Prop),Inv X ac σ H s->t σ H Q->Sw (SG X.prog X.w) X.A (spliced (UH pos (SO es X.env))) (AP X ac σ Q) X.xe s
def PS(X:Cx)(st:S5)(t:TS):Prop:=
 ∀(ac:List (Sn×Obj)) (s:So) (σ:St) (H:Hp) (D:Ends),Inv X ac σ H s->t D σ H->Sw (SG X.prog X.w) X.A (exec st X.env) (SP X ac D) X.xe s
def PSs(X:Cx)(st:List S5)(t:TS):Prop:=
 ∀(ac:List (Sn×Obj)) (s:So) (σ:St) (H:Hp) (D:Ends),Inv X ac σ H s->t D σ H->Sw (SG X.prog X.w) X.A (execs st X.env) (SP X ac D) X.xe s
theorem thn{α:Type}{t:Sem α}{Q Q':α->So->Prop}(h:Sw M A t Q E s)(hQ:∀a s,Q a s->Q' a s):Sw M A t Q' E s:=Tb h hQ λ_ _ x=>x
variable {ac:List (Sn×Obj)}{pos:Pos}{σ:St}
section
variable{X:Cx}
noncomputable def Jv(i:Nat):TE:=λσ H Q=>∃v,σ[i]?=some (some v)/\Q v H
noncomputable def tC(v:V):TE:=λ_ H Q=>Q v H
theorem kO(hN:X.N[i]?=some x)(hv:Vis X.env.scope x)(hd:(x ==("__debug__":Str))=false:=by decide)(hcd:(x ==("__classdict__":Str))=false:=by decide):PE X (.Name x pos) (Jv i):=by
 intro ac s σ H Q I h;obtain⟨v,e,h⟩:=h;obtain⟨m,hn,hl⟩:=I.loc;obtain⟨u,r,l⟩:=hl i x v hN e hv;have fin:EP X ac σ Q u s:=⟨v,H,I,r,h⟩;rcases l with⟨hk,hm⟩|⟨hk,c,hc,hcell⟩
 ·exact Xh (wpAny_loadName_local I.ok.kind hk hn hm fin) hd
 rcases hk with hk|hk
 ·exact Xh (wpAny_loadName_cell I.ok.kind hk hc hcell fin) hd
 exact Xh (wpAny_loadName_free I.ok.kind hk hc hcell fin hcd) hd
theorem gH{i j pos}:PE X (.Constant (.int i) j pos) (tC (.int i)):=λ_ _ _ H _ I h=>wpAny_Constant_int ⟨.int i,H,I.tok _,⟨_,rfl⟩,h⟩
theorem Mf{b j pos}:PE X (.Constant (.bool b) j pos) (tC (.bl b)):=λ_ _ _ H _ I h=>Constant_bool ⟨.bl b,H,I,rfl,h⟩
theorem Im{j pos}:PE X (.Constant .none j pos) (tC .non):=λ_ _ _ H _ I h=>Constant_none ⟨.non,H,I,rfl,h⟩
theorem mL{x j pos}:PE X (.Constant (.str x) j pos) (tC (.str x)):=λ_ _ _ H _ I h=>Calls.Constant_str ⟨.str x,H,I.tok _,⟨_,rfl⟩,h⟩
noncomputable def Gl(X:Cx)(x:Str):Prop:=X.env.kindOf x=some .globalImplicit
theorem Ak{Q:Sl->So->Prop}(I:Inv X ac σ H s)(hg:Gl X x)(hm:X.mg x=some u)(h:Q u s)
  (hd:(x ==("__debug__":Str))=false:=by decide):Sw (SG X.prog X.w) X.A (Ta (.Name x pos) X.env) Q E s:=
 VD I.ok.kind hg (Calls.loadGlobal_global (by rw[I.ok.glob];exact I.mod.glob.keeps I.bk) hm h) hd
theorem j9{Q:Sl->So->Prop}(I:Inv X ac σ H s)(hg:Gl X x)(hm:X.mg x=none)(hv:Uc x=some u)(h:Q u s)
  (hn:x≠"__name__":=by decide) (hd:(x ==("__debug__":Str))=false:=by decide):Sw (SG X.prog X.w) X.A (Ta (.Name x pos) X.env) Q E s:=by
 obtain⟨mb,h1,h2⟩:=I.mod.blt;exact VD I.ok.kind hg (Calls.loadGlobal_builtin (by rw[I.ok.glob];exact I.mod.glob.keeps I.bk) hm (by rw[I.ok.blt];exact h1.keeps I.bk) ((h2 x hn).trans hv) h) hd
theorem ET(hg:Gl X x)(hm:X.mg x=some u)(r:RelV v u)(hd:(x ==("__debug__":Str))=false:=by decide):PE X (.Name x pos) (tC v):=
 λ_ _ _ H _ I h=>Ak I hg hm ⟨v,H,I,r,h⟩ hd
theorem FK(hg:Gl X x)(hm:X.mg x=none)(hv:Uc x=some u)(r:RelV v u)(hn:x≠"__name__":=by decide)(hd:(x ==("__debug__":Str))=false:=by decide):PE X (.Name x pos) (tC v):=
 λ_ _ _ H _ I h=>j9 I hg hm hv ⟨v,H,I,r,h⟩ hn hd
variable{a b:SK}{ta tb:TE}{pos:Pos}
variable{tA tB':TT}{rest:List SK}
noncomputable def MD(t u:TT):TT:=λσ H Q=>t σ H λc H1=>if c=true then u σ H1 Q else Q false H1
noncomputable def tOr(t u:TT):TT:=λσ H Q=>t σ H λc H1=>if c=true then Q true H1 else u σ H1 Q
noncomputable def My(t:TT):TT:=λσ H Q=>t σ H λc H1=>Q (!c) H1
theorem Ez(ha:PT X a tA):PW X (.BoolOp .And [a] pos) tA:=by
 intro wh ac s σ H Q I h;refine isTrue_and (thn (ha ac s σ H Q I h) λc s1 e=>?_);cases c with
 |true=>exact isTrue_and_nil e
 |false=>exact e
theorem HQ(ha:PT X a tA):PW X (.BoolOp .Or [a] pos) tA:=by
 intro wh ac s σ H Q I h;refine isTrue_or (thn (ha ac s σ H Q I h) λc s1 e=>?_);cases c with
 |false=>exact isTrue_or_nil e
 |true=>exact e
theorem JR(ha:PT X a tA)(hb:PW X (.BoolOp .And (b::rest) pos) tB'):PW X (.BoolOp .And (a::b::rest) pos) (MD tA tB'):=by
 intro wh ac s σ H Q I h;refine isTrue_and (thn (ha ac s σ H _ I h) ?_);rintro c s1 ⟨H1,I1,q1⟩;cases c with
 |true=>exact hb wh ac s1 σ H1 Q I1 q1
 |false=>exact⟨H1,I1,q1⟩
theorem Kz(ha:PT X a tA)(hb:PW X (.BoolOp .Or (b::rest) pos) tB'):PW X (.BoolOp .Or (a::b::rest) pos) (tOr tA tB'):=by
 intro wh ac s σ H Q I h;refine isTrue_or (thn (ha ac s σ H _ I h) ?_);rintro c s1 ⟨H1,I1,q1⟩;cases c with
 |true=>exact⟨H1,I1,q1⟩
 |false=>exact hb wh ac s1 σ H1 Q I1 q1
theorem J3(ha:PT X a tA):PT X (.UnaryOp .Not a pos) (My tA):=by intro ac s σ H Q I h;exact isTrue_not (ha ac s σ H (λc H1=>Q (!c) H1) I h)
noncomputable def Kw(ta tb:TE):TE:=λσ H Q=>ta σ H λx H1=>∃c,x=.bl c/\if c=true then tb σ H1 Q else Q (.bl false) H1
noncomputable def Me(ta:TE):TE:=λσ H Q=>ta σ H λx H1=>∃c,x=.bl c/\Q (.bl (!c)) H1
theorem HC{op}{t:TE}(h:PE X a t):PE X (.BoolOp op [a] pos) t:=λac s σ H Q I hw=>BoolOp_one (h ac s σ H Q I hw)
theorem JL(ha:PE X a ta)(hb:PE X (.BoolOp .And (b::rest) pos) tb):PE X (.BoolOp .And (a::b::rest) pos) (Kw ta tb):=by
 intro ac s σ H Q I h;refine BoolOp_and (thn (ha ac s σ H _ I h) ?_);rintro v s1 ⟨x,H1,I1,r1,q1⟩;obtain⟨c,rfl,q1⟩:=q1;cases r1;refine Ts ?_;cases c with
 |true=>exact hb ac s1 σ H1 Q I1 q1
 |false=>exact⟨.bl false,H1,I1,rfl,q1⟩
theorem Jh(ha:PE X a ta):PE X (.UnaryOp .Not a pos) (Me ta):=by intro ac s σ H Q I h;refine UnaryOp_ (thn (ha ac s σ H _ I h) ?_);rintro v s1 ⟨x,H1,I1,r1,q1⟩;obtain⟨c,rfl,q1⟩:=q1;cases r1;exact not_of (Ts ⟨.bl (!c),H1,I1,rfl,q1⟩)
noncomputable def tIf(t:TT)(ta tb:TE):TE:=λσ H Q=>t σ H λc H1=>if c=true then ta σ H1 Q else tb σ H1 Q
theorem D7{c:SK}(hc:PT X c tA)(ha:PE X a ta)(hb:PE X b tb):PE X (.IfExp c a b pos) (tIf tA ta tb):=by
 intro ac s σ H Q I h;refine wpAny_IfExp (thn (hc ac s σ H _ I h) ?_);rintro d s1 ⟨H1,I1,q1⟩;cases d with
 |true=>exact ha ac s1 σ H1 Q I1 q1
 |false=>exact hb ac s1 σ H1 Q I1 q1
end
def SqL(K:Sm)(H:Hp)(a:Sn)(xs:List V):Prop:=
 Rd H a (.lst xs)\/
  ∃(o:Obj) (ap:Array Sl) (n:Nat),K.lookup a=some o/\o.cls=.type "list"/\o.dict=none/\o.data=.seq ap n/\ap.size<=sizeLine/\Vals xs ap.toList
def SqT(K:Sm)(H:Hp)(a:Sn)(xs:List V):Prop:=
 Rd H a (.tup xs)\/
  ∃(o:Obj) (ap:Array Sl) (n:Nat),K.lookup a=some o/\o.cls=.type "tuple"/\o.data=.seq ap n/\ap.size<=sizeLine/\Vals xs ap.toList
noncomputable def MA:Sl->Option V
 | .none=>some .non
 | .bool b=>some (.bl b)
 | .int i _=>some (.int i)
 | .str x _=>some (.str x)
 | .bytes b _=>some (.byt b)
 | .float b _=>some (.flt b)
 | .ref a=>some (.ref a)
 | .type n=>some (.ty n)
 | _=>none
theorem RelV.abs {x:V}(r:RelV x u):MA u=some x:=by
 cases x with
 |non=>cases r;rfl
 |bl _=>cases r;rfl
 |int _=>obtain⟨t,rfl⟩:=r;rfl
 |str _=>obtain⟨t,rfl⟩:=r;rfl
 |byt _=>obtain⟨t,rfl⟩:=r;rfl
 |flt _=>obtain⟨t,rfl⟩:=r;rfl
 |ref _=>cases r;rfl
 |ty _=>cases r;rfl
theorem RelV.inj {x y:V}(r:RelV x u)(q:RelV y u):x=y:=L' (r.abs.symm.trans q.abs)
theorem Vals.inj:∀{xs ys:List V}{us:List Sl},Vals xs us->Vals ys us->xs=ys:=by
 intro xs ys us x;induction x generalizing ys with
 |nil=>intro y;cases y;rfl
 |cons r t ih=>
  intro y;cases y with
  |cons r' t'=>rw[r.inj r',ih t']
variable {K:Sm}
section
variable{X:Cx}{ac:List (Sn×Obj)}{σ:St}{H:Hp}{s:So}{a:Sn}{xs ys:List V}
theorem SqL.of (h:H a=some (.lst xs)):SqL K H a xs:=.inl (.inl h)
theorem SqT.of (h:H a=some (.tup xs)):SqT K H a xs:=.inl (.inl h)
theorem Inv.list (I:Inv X ac σ H s)(h:SqL X.K H a xs):∃ap:List Sl,Vals xs ap/\PlainL s.heap a ap.toArray/\xs.length<=sizeLine:=by
 rcases h with h|⟨o,ap,n,hk,hc,hd,hs,hz,r⟩
 ·obtain⟨z,ap,n,r,e⟩:=h.ok I.hok;exact⟨ap,r,⟨_,n,e,rfl,rfl,rfl⟩,z⟩
 refine⟨ap.toList,r,⟨o,n,I.kIn a o hk,hc,hd,by simpa using hs⟩,?_⟩;have e:=r.length;simp only[l_]at e;lia
theorem Inv.tuple (I:Inv X ac σ H s)(h:SqT X.K H a xs):∃ap:List Sl,Vals xs ap/\X6 s.heap a ap.toArray/\xs.length<=sizeLine:=by
 rcases h with h|⟨o,ap,n,hk,hc,hs,hz,r⟩
 ·obtain⟨z,ap,r,p⟩:=h.ok I.hok;exact⟨ap,r,p,z⟩
 refine⟨ap.toList,r,⟨o,I.kIn a o hk,hc,n,by simpa using hs⟩,?_⟩;have e:=r.length;simp only[l_]at e;lia
theorem Inv.wk (I:Inv X ac σ H s)(h:SqL X.K H a xs)(h':SqL X.K H a ys):xs=ys:=by
 obtain⟨ap,r,⟨o,n,e,_,_,d⟩,_⟩:=I.list h;obtain⟨its',r',⟨o',n',e',_,_,d'⟩,_⟩:=I.list h';rw[e]at e';cases e';rw[d]at d';injection d' with d1 _
 have:ap=its':=by simpa using congrArg R0 d1
 subst this;exact r.inj r'
theorem Inv.lN (I:Inv X ac σ H s)(h:SqT X.K H a xs)(h':SqT X.K H a ys):xs=ys:=by
 obtain⟨ap,r,⟨o,e,_,n,d⟩,_⟩:=I.tuple h;obtain⟨its',r',⟨o',e',_,n',d'⟩,_⟩:=I.tuple h';rw[e]at e';cases e';rw[d]at d';injection d' with d1 _
 have:ap=its':=by simpa using congrArg R0 d1
 subst this;exact r.inj r'
end
abbrev Cx.sU (X:Cx)(E:Sl->So->Prop):Cx:={ X with xe:=E}
abbrev Cx.nox (X:Cx):Cx:=X.sU λ_ _=>False
theorem Cx.Ok.sU (ok:X.Ok)(E:Sl->So->Prop):(X.sU E).Ok:=
 ⟨ok.mod,ok.kind,ok.glob,ok.blt,ok.above,ok.inj,ok.has,ok.cab,ok.hd,ok.frames,ok.stk,ok.exf,ok.bs,ok.bsz,ok.noex,ok.exfs,ok.sO,ok.frf⟩
theorem Cx.Ok.lq (ok:(X.sU E).Ok):X.Ok:=
 ⟨ok.mod,ok.kind,ok.glob,ok.blt,ok.above,ok.inj,ok.has,ok.cab,ok.hd,ok.frames,ok.stk,ok.exf,ok.bs,ok.bsz,ok.noex,ok.exfs,ok.sO,ok.frf⟩
section
variable{X:Cx}{ac:List (Sn×Obj)}{σ:St}{H:Hp}{s:So}{E:Sl->So->Prop}
theorem Inv.sU (I:Inv X ac σ H s)(E:Sl->So->Prop):Inv (X.sU E) ac σ H s:=⟨I.ok.sU E,I.os,I.bare,I.base,I.loc,I.cell,I.free,I.freeC,I.pin,I.hok,I.len⟩
theorem Inv.lq (I:Inv (X.sU E) ac σ H s):Inv X ac σ H s:=⟨I.ok.lq,I.os,I.bare,I.base,I.loc,I.cell,I.free,I.freeC,I.pin,I.hok,I.len⟩
theorem SP.lq {D:Ends}{f:Flow}{s':So}(h:SP (X.sU E) ac D f s'):SP X ac D f s':=by
 cases f with
 |next=>obtain⟨cl,H',I,q⟩:=h;exact⟨cl,H',I.lq,q⟩
 |brk=>obtain⟨cl,H',I,q⟩:=h;exact⟨cl,H',I.lq,q⟩
 |cont=>obtain⟨cl,H',I,q⟩:=h;exact⟨cl,H',I.lq,q⟩
 |ret u=>obtain⟨v,cl,H',I,r,q⟩:=h;exact⟨v,cl,H',I.lq,r,q⟩
theorem PSs.nox {st:List S5}{t:TS}(h:PSs X.nox st t):PSs X st t:=λac s σ H D I hw=>
 Tb (h ac s σ H D (I.sU _) hw) (λ_ _ q=>q.lq) λ_ _ z=>SQ z
end
section
variable{X:Cx}{st:S5}{rest:List S5}{t u:TS}{e:SK}{te:TE}{pos:Pos}
noncomputable def Lr:TS:=λD σ H=>D.nx σ H
noncomputable def ML(t u:TS):TS:=λD σ H=>t { D with nx:=u D} σ H
theorem vy:PSs X [] Lr:=λ_ _ σ H _ I h=>V7 ⟨σ,H,I,h⟩
theorem fm(h1:PS X st t)(h2:PSs X rest u):PSs X (st::rest) (ML t u):=by
 intro ac s σ H D I h;refine Xa (thn (h1 ac s σ H { D with nx:=u D} I h) λf s1 q=>?_);cases f with
 |next=>
  obtain⟨cl,H',I',q⟩:=q;exact h2 ac s1 cl H' D I' q
 |ret v=>exact q
 |brk=>exact q
 |cont=>exact q
theorem nB(h1:PS X st t):PSs X [st] t:=by
 intro ac s σ H D I h;refine Xa (thn (h1 ac s σ H D I h) λf s1 q=>?_);cases f with
 |next=>exact V7 q
 |ret v=>exact q
 |brk=>exact q
 |cont=>exact q
theorem Inv.quiet (I:Inv X ac σ H s):Yl X.env=false:=by simp[Yl,I.ok.kind]
noncomputable def LQ(te:TE):TS:=λD σ H=>te σ H λ_ H1=>D.nx σ H1
theorem Gd(he:PE X e te)(hs:UT e none pos.line X.env=pure false:=by rfl):PS X (.Expr e pos) (LQ te):=by intro ac s σ H D I h;exact wpAny_Expr_any (thn (he ac s σ H _ I h) λv s1 ⟨x,H1,I1,r1,q1⟩=>⟨σ,H1,I1,q1⟩) I.quiet hs
noncomputable def MG(te:TE):TS:=λD σ H=>te σ H D.rt
theorem vR(he:PE X e te):PS X (.Return (some e) pos) (MG te):=by intro ac s σ H D I h;exact wpAny_Return_some (thn (he ac s σ H _ I h) λv s1 ⟨x,H1,I1,r1,q1⟩=>⟨x,σ,H1,I1,r1,q1⟩)
noncomputable def Mh(c:TT)(t u:TS):TS:=λD σ H=>c σ H λb H1=>if b=true then t D σ H1 else u D σ H1
theorem CG{c:SK}{a b:List S5}{tc:TT}(hc:PT X c tc)(ha:PSs X a t)(hb:PSs X b u):PS X (.If c a b pos) (Mh tc t u):=by
 intro ac s σ H D I h;refine wpAny_If (thn (hc ac s σ H _ I h) ?_);rintro d s1 ⟨H1,I1,q1⟩;cases d with
 |true=>exact ha ac s1 σ H1 D I1 q1
 |false=>exact hb ac s1 σ H1 D I1 q1
end
abbrev TG:=V->St->Hp->(St->Hp->Prop)->Prop
abbrev TGs:=List V->St->Hp->(St->Hp->Prop)->Prop
def PG(X:Cx)(target:SK)(t:TG):Prop:=
 ∀(ac:List (Sn×Obj)) (s:So) (σ:St) (H:Hp) (v:V) (u:Sl) (Q:St->Hp->Prop),Inv X ac σ H s->RelV v u->t v σ H Q->
  Sw (SG X.prog X.w) X.A (UU target X.env u) (λ_ s'=>∃ cl H',Inv X ac cl H' s'/\Q cl H') X.xe s
def PGs(X:Cx)(ts:List SK)(t:TGs):Prop:=
 ∀(ac:List (Sn×Obj)) (s:So) (σ:St) (H:Hp) (vs:List V) (us:List Sl) (Q:St->Hp->Prop),Inv X ac σ H s->Vals vs us->t vs σ H Q->
  Sw (SG X.prog X.w) X.A (VE ((Tv ts X.env).map (·.2)) us) (λ_ s'=>∃ cl H',Inv X ac cl H' s'/\Q cl H') X.xe s
abbrev EK:=V->V->V->Hp->(Hp->Prop)->Prop
def yQ(X:Cx)(t:EK):Prop:=
 ∀(ac:List (Sn×Obj)) (s:So) (σ:St) (H:Hp) (o i v:V) (ov iv u:Sl) (Q:Hp->Prop),Inv X ac σ H s->RelV o ov->RelV i iv->RelV v u->t o i v H Q->
  Sw (SG X.prog X.w) X.A (Xy ov iv u) (λ_ s'=>∃H',Inv X ac σ H' s'/\Q H') X.xe s
variable {es:List SK}{ta:TA}{tg:SK}
section
variable{X:Cx}{pos:Pos}
noncomputable def A5(i:Nat):TG:=λv σ H Q=>Q (σ.set i (some v)) H
theorem zq(hN:X.N.Nodup)(hi:X.N[i]?=some x)(hx:Loc X.env.scope x)(hf:X.fn x=true\/X.env.scope.names.lookup x=some .local:=by first|exact .inl rfl|exact .inr rfl|assumption):PG X (.Name x pos) (A5 i):=by intro ac s σ H v u Q I r h;exact WX (ni I hN hi hx r (λs' I'=>⟨_,H,I',h⟩) hf)
noncomputable def MJ:TGs:=λvs σ H Q=>vs=[]/\Q σ H
noncomputable def La(t:TG)(u:TGs):TGs:=λvs σ H Q=>∃v r,vs=v::r/\t v σ H λcl H'=>u r cl H' Q
theorem Aq:PGs X [] MJ:=by intro ac s σ H vs us Q I r h;obtain⟨e,h⟩:=h;subst e;cases r;exact WY ⟨σ,H,I,h⟩
theorem sf{t:TG}{u:TGs}(h1:PG X e t)(h2:PGs X es u)
  (hs:(Tv (e::es) X.env).map (·.2)=UU e X.env::(Tv es X.env).map (·.2):=by rfl):PGs X (e::es) (La t u):=by
 intro ac s σ H vs us Q I r h;obtain⟨v,vr,e1,h⟩:=h;subst e1;cases r with
 |cons r rr=>
  rw[hs];refine Vy (thn (h1 ac s σ H _ _ _ I r h) ?_);rintro _ s1 ⟨σ1,H1,I1,q1⟩;exact h2 ac s1 σ1 H1 _ _ Q I1 rr q1
def Mz(K:Sm)(n:Nat)(t:TGs):TG:=λv σ H Q=>∃a xs,v=.ref a/\SqT K H a xs/\xs.length=n/\t xs σ H Q
theorem C6{k:Nat}{t:TGs}{n:Nat}(hc:X.calm=true)(h:PGs X es t)
  (hn:(Tv es X.env).length=n:=by rfl) (hst:(Tv es X.env).findIdx? (·.1)=none:=by rfl):PG X (.Tuple es k pos) (Mz X.K n t):=by
 intro ac s σ H v u Q I r hw;obtain⟨a,xs,e1,hq,hl,hw⟩:=hw;subst e1;cases r;obtain⟨ap,rv,ht,hz⟩:=I.tuple hq;refine assign_Tuple_tuple (I.ok.hd hc) ht (by simp[hn,<-hl,rv.length]) hst λh' hx=>?_
 have I1:Inv X ac σ H {s with heap:=h'}:=I.kept (t':=s.toks) λb o e=>hx b o (j_ (Sx e)) e;exact h ac _ σ H xs _ Q I1 (by simpa using rv) hw
noncomputable def MP(to ti:TE)(t:EK):TG:=λv σ H Q=>to σ H λo H1=>ti σ H1 λi H2=>t o i v H2 λH3=>Q σ H3
theorem DX{o i:SK}{to ti:TE}{t:EK}(ho:PE X o to)(hi:PE X i ti)(hs:yQ X t)
  (ha:∀v,UU (.Subscript o i pos) X.env v=(do
   let ov <-U2 [v] (Ta o X.env)
   let iv <-U2 [v,ov] (Ta i X.env)
   Xz pos
   U2 [v,ov,iv] (Xy ov iv v)
   release [v,ov,iv] []):=by intro _;rfl):PG X (.Subscript o i pos) (MP to ti t):=by
 intro ac s σ H v u Q I r h;rw[ha];refine Sj (SY (thn (ho ac s σ H _ I h) ?_));rintro ov s1 ⟨x,H1,I1,r1,q1⟩;refine Sj (SY (thn (hi ac s1 σ H1 _ I1 q1) ?_));rintro iv s2 ⟨y,H2,I2,r2,q2⟩;refine Sj (Uz (Sj (SY (thn (hs ac s2 σ H2 x y v ov iv u _ I2 r1 r2 r q2) ?_))));rintro _ s3 ⟨H3,I3,q3⟩;exact wpAny_release ⟨σ,H3,I3,q3⟩
noncomputable def F9(te:TE)(g:TG):TS:=λD σ H=>te σ H λx H1=>g x σ H1 D.nx
theorem BF{te:TE}{g:TG}(he:PE X e te)(hg:PG X tg g)(hs:VF [tg] e pos.line X.env=pure false:=by rfl)(hw:VG [tg] e X.env=pure none:=by rfl)
  (h1:(Tv [tg] X.env).map (·.2)=[UU tg X.env]:=by rfl):PS X (.Assign [tg] e pos) (F9 te g):=by
 intro ac s σ H D I h;refine wpAny_Assign_stores (thn (he ac s σ H _ I h) λv s1 ⟨x,H1,I1,r1,q1⟩=>?_) hs hw;rw[h1];exact thn (hg ac s1 σ H1 x v _ I1 r1 q1) λ_ s2 q=>q
theorem kM{te:TE}{pos':Pos}(hN:X.N.Nodup)(hi:X.N[i]?=some x)(hx:Loc X.env.scope x)(he:PE X e te)(hs:UT e (some (.Name x pos')) pos.line X.env=pure false:=by rfl)(hf:X.fn x=true\/X.env.scope.names.lookup x=some .local:=by first|exact .inl rfl|exact .inr rfl|assumption) :
  PS X (.Assign [.Name x pos'] e pos) (F9 te (A5 i)):=by
 intro ac s σ H D I h;refine wpAny_Assign_Name (thn (he ac s σ H _ I h) λv s1 ⟨y,H1,I1,r1,q1⟩=>?_) hs;exact ni I1 hN hi hx r1 (λs2 I2=>⟨_,H1,I2,q1⟩) hf
noncomputable def Mi(i j:Nat)(ta:TA):TS:=λD σ H=>ta σ H λvs H1=>∃v w,vs=[v,w]/\D.nx ((σ.set i (some v)).set j (some w)) H1
theorem J5{y:Str}{a b:SK}{px py pt:Pos}{kt k2 pt2}(hc:X.calm=true)(hN:X.N.Nodup)(hi:X.N[i]?=some x)(hj:X.N[j]?=some y)(jp:i≠j)
  (hx:X.env.scope.names.lookup x=some .local) (hy:X.env.scope.names.lookup y=some .local) (ha:PA X [a,b] ta)
  (hw:VG [.Tuple [.Name x px,.Name y py] kt pt] (.Tuple [a,b] k2 pt2) X.env=pure (some [x,y]))
  (hs:VF [.Tuple [.Name x px,.Name y py] kt pt] (.Tuple [a,b] k2 pt2) pos.line X.env=pure false:=by rfl) :
  PS X (.Assign [.Tuple [.Name x px,.Name y py] kt pt] (.Tuple [a,b] k2 pt2) pos) (Mi i j ta):=by
 intro ac s σ H D I h;rw[exec_Assign_arm];refine Sj (Uz ?_);rw[hs];refine Sj (Ss ?_);rw[if_neg (by decide)];refine Sj (Tuple_ (thn (ha _ ac s σ H _ I h) ?_));rintro us s1 ⟨vs,H1,I1,r1,q1⟩;obtain⟨v,w,e1,q1⟩:=q1;subst e1;obtain⟨u1,u2,rfl,rv,rw'⟩:∃u1 u2,us=[u1,u2]/\RelV v u1/\RelV w u2:=by
  cases r1 with
  |cons p q=>
   cases q with
   |cons p' q'=>
    cases q';exact⟨_,_,rfl,p,p'⟩
 refine TN ?_ (by show 2<=sizeLine;decide);have I2:Inv X ac σ H1 {s1 with heap:=s1.heap.push { cls:=.type "tuple",data:=.seq [u1,u2].toArray} }:=I1.kept (t':=s1.toks) λb o e=>Sr _ e;rw[hw];refine Sj (Ss ?_);show Sw (SG X.prog X.w) X.A (do rule "assign.swapped-stores";let items <-unpackItems (.ref s1.heap.objs.size) 2 none;VE [λv=>Xb X.env y v,λv=>Xb X.env x v] items.reverse;pure YH) _ _ _;refine Sj (UD (Sj (unpackItems_tuple (items:=#[u1,u2]) (I.ok.hd hc) (WM s1.heap _) λh' hx'=>?_)));have I3:=I2.kept (h':=h') (t':=s1.toks) λb o e=>hx' b o (j_ (Sx e)) e;show Sw _ _ (VE [λv=>Xb X.env y v,λv=>Xb X.env x v] [u2,u1] >>= λ_=>pure YH) _ _ _;refine Sj (Vy (XA (ni I3 hN hj (.inl hy) rw' (λs2 I4=>?_) (.inr hy))));refine Vy (XA (ni I4 hN hi (.inl hx) rv (λs3 I5=>WY (Ss ?_)) (.inr hx)));rw[List.set_comm _ _ (TR jp)]at I5;exact⟨_,H1,I5,q1⟩
end
structure It where
 go:Nat->Hp->Prop
 yld:Nat->Hp->V->Hp->Prop
 stop:Nat->Hp->Prop
noncomputable def ny(X:Cx)(ac:List (Sn×Obj))(H:Hp)(b:Sn):Prop:=
 H b=none/\b≠X.env.locals/\b ∉ X.fs/\(b∈X.ex\/X.s₀.heap.objs.size<=b)/\(∀x c,X.env.cells.lookup x=some c->c≠b)/\∀p∈X.pn++ac,p.1≠b
theorem Inv.wj {H':Hp}(I:Inv X ac σ H s)(hb:s.heap.objs.size<=b)(hn:H' b=none):ny X ac H' b:=by
 refine⟨hn,O0 (v_ I.lt hb),I.Mu hb,.inr (r_ I.sz hb),λx c e z=>?_,λp hp z=>?_⟩
 ·obtain⟨v,q⟩:=I.cell x c e;exact absurd (v_ q.lt (by rw[z];exact hb)) (NR _)
 exact absurd (v_ (Sx (I.pin p hp).1) (by rw[z];exact hb)) (NR _)
structure Turn (P:SD) (w:SI) (K:Sm) (tg:SK) (J:It) (fp:List Sn) (it:Sn) (tn:Nat->SJ->Prop):Prop where
 mem:it∈fp
 obj:∀i h,tn i h->∀b∈fp,∃o,h.get? b=some o/\∀v,o.data≠.cell v
 keep:∀i h h',tn i h->(∀b∈fp,∀o,h.get? b=some o->h'.get? b=some o)->tn i h'
 item:∀(X:Cx),X.prog=P->X.w=w->X.K=K->X.calm=true->∀(i:Nat) (ac:List (Sn×Obj)) (s:So) (σ:St) (H:Hp) (E:Sl->So->Prop),Inv X ac σ H s->(∀b∈fp,ny X ac H b)->tn i s.heap->J.go i H->
  Sw (SG P w) X.A (Ua (.ref it)) (λr s1=>∃u,r=some u/\
   Sw (SG P w) X.A (Vj tg (.ref it) u) (λ_ s2=>∃x H',Inv X ac σ H' s2/\RelV x u/\J.yld i H x H'/\tn (i+1) s2.heap/\∀b∈fp,H' b=none) E s1) E s
 done:∀(X:Cx),X.prog=P->X.w=w->X.K=K->X.calm=true->∀(i:Nat) (ac:List (Sn×Obj)) (s:So) (σ:St) (H:Hp) (E:Sl->So->Prop),Inv X ac σ H s->(∀b∈fp,ny X ac H b)->tn i s.heap->J.stop i H->
  Sw (SG P w) X.A (Ua (.ref it)) (λr s1=>r=none/\Inv X ac σ H s1) E s
 self:∀(A:SW) (i:Nat) (s:So) (Q:Sl->So->Prop) (E:Sl->So->Prop),tn i s.heap->Q (.ref it) s->Sw (SG P w) A (Wk (.ref it)) Q E s
abbrev TI:=St->Hp->(It->Hp->Prop)->Prop
def PIE(X:Cx)(ac:List (Sn×Obj))(σ:St)(tg:SK)(R:It->Hp->Prop)(itv:Sl)(s2:So):Prop:=
 ∃(it:Sn) (fp:List Sn) (tn:Nat->SJ->Prop) (J:It) (H':Hp),itv=.ref it/\Inv X ac σ H' s2/\Turn X.prog X.w X.K tg J fp it tn/\tn 0 s2.heap/\(∀b∈fp,ny X ac H' b)/\R J H'
def PI(X:Cx)(tg iter:SK)(wi:TI):Prop:=
 ∀(ac:List (Sn×Obj)) (s:So) (σ:St) (H:Hp) (R:It->Hp->Prop),Inv X ac σ H s->wi σ H R->
  Sw (SG X.prog X.w) X.A (Ta iter X.env) (λv s1=>Sw (SG X.prog X.w) X.A (Wk v) (PIE X ac σ tg R) X.xe s1) X.xe s
theorem By{it:Sn}{o:Obj}{n:String}{vs:Array Sl}(ho:s.heap.get? it=some o)(hc:o.cls=.type n)(hd:o.data=.fields vs)
    (hn:["enumerate","zip","dict_itemiterator","dict_reverseitemiterator","odict_iterator","itertools.zip_longest","itertools.pairwise"].contains n=false) (hQ:Q () s):Sw M A (Vj tg (.ref it) u) Q E s:=by
  unfold Vj;cases tg <;> first
    |exact Ss hQ
    | (cases u <;> first
        |exact Ss hQ
        | (refine Sj (wpAny_load ho ?_)
           rw[hc,hd];show Sw M A (if(["enumerate","zip","dict_itemiterator","dict_reverseitemiterator","odict_iterator","itertools.zip_longest","itertools.pairwise"].contains n&&vs[0]? == some (Vz _))=true then _ else _) Q E s;rw[if_neg (by intro h;rw[hn,N9]at h;cases h)];exact Ss hQ))
def Itl(K:Sm)(a:Sn):It:=
 ⟨λi H=>∃xs x,SqL K H a xs/\xs[i]?=some x,λi H x H'=>H'=H/\∀xs,SqL K H a xs->xs[i]?=some x,λi H=>∃xs,SqL K H a xs/\xs.length<=i⟩
def Itt(K:Sm)(a:Sn):It:=
 ⟨λi H=>∃xs x,SqT K H a xs/\xs[i]?=some x,λi H x H'=>H'=H/\∀xs,SqT K H a xs->xs[i]?=some x,λi H=>∃xs,SqT K H a xs/\xs.length<=i⟩
noncomputable def Itr(lo:Int)(n:Nat):It:=⟨λi _=>i<n,λi H x H'=>H'=H/\x=.int (lo+i),λi _=>n<=i⟩
theorem B7(a it:Sn):Turn P w K tg (Itl K a) [it] it (λi h=>h.IsListIter it a i) where
 mem:=by simp
 obj:=λi h st b hb=>by
  have e:b=it:=by simpa using hb
  subst e;obtain⟨o,e,c,d⟩:=st;exact⟨o,e,λv z=>by rw[d]at z;cases z⟩
 keep:=λi h h' st k=>st.at λo e=>k it (by simp) o e
 item:=by
  intro X hP hw hK hc i ac s σ H E I hf st hg;subst hP hw hK;obtain⟨xs,x,hq,hx⟩:=hg;obtain⟨ap,rv,p,hz⟩:=I.list hq;obtain⟨u,hu,ru⟩:=rv.get hx;obtain⟨f0,f1,f2,f3,f4,f5⟩:=hf it (by simp);refine wpAny_pyNext_list_item st p.isList (x:=u) (by simpa using hu) λh' am sb=>?_
  have I1:Inv X ac σ H {s with heap:=h'}:=I.turned (t':=s.toks) (λb o hb e=>(sb.2 b hb).trans e) f0 f1 f3 f4 f5;obtain⟨o,e,c,d⟩:=id am;exact⟨u,rfl,By (s:={s with heap:=h'}) e c d (by decide) ⟨x,H,I1,ru,⟨rfl,λys hy=>by rw[I.wk hy hq];exact hx⟩,am,λb hb=>(hf b hb).1⟩⟩
 done:=by intro X hP hw hK hc i ac s σ H E I hf st hg;subst hP hw hK;obtain⟨xs,hq,hx⟩:=hg;obtain⟨ap,rv,p,hz⟩:=I.list hq;obtain⟨f0,f1,f2,f3,f4,f5⟩:=hf it (by simp);have hl:=rv.length;exact wpAny_pyNext_list_end (I.ok.hd hc) st p.isList (by simp;lia) λh' eb=>⟨rfl,I.turned (t':=s.toks) (λb o hb e=>eb b o hb e) f0 f1 f3 f4 f5⟩
 self:=λ_ _ _ _ _ st h=>wpAny_pyIter_listiter st h
theorem yH(a it:Sn):Turn P w K tg (Itt K a) [it] it (λi h=>h.IsTupleIter it a i) where
 mem:=by simp
 obj:=λi h st b hb=>by
  have e:b=it:=by simpa using hb
  subst e;obtain⟨o,e,c,d⟩:=st;exact⟨o,e,λv z=>by rw[d]at z;cases z⟩
 keep:=λi h h' st k=>st.at λo e=>k it (by simp) o e
 item:=by
  intro X hP hw hK hc i ac s σ H E I hf st hg;subst hP hw hK;obtain⟨xs,x,hq,hx⟩:=hg;obtain⟨ap,rv,p,hz⟩:=I.tuple hq;obtain⟨u,hu,ru⟩:=rv.get hx;obtain⟨f0,f1,f2,f3,f4,f5⟩:=hf it (by simp);refine wpAny_pyNext_tuple_item st (show s.heap.IsTuple a ap.toArray from p) (x:=u) (by simpa using hu) λh' am sb=>?_
  have I1:Inv X ac σ H {s with heap:=h'}:=I.turned (t':=s.toks) (λb o hb e=>(sb.2 b hb).trans e) f0 f1 f3 f4 f5;obtain⟨o,e,c,d⟩:=id am;exact⟨u,rfl,By (s:={s with heap:=h'}) e c d (by decide) ⟨x,H,I1,ru,⟨rfl,λys hy=>by rw[I.lN hy hq];exact hx⟩,am,λb hb=>(hf b hb).1⟩⟩
 done:=by intro X hP hw hK hc i ac s σ H E I hf st hg;subst hP hw hK;obtain⟨xs,hq,hx⟩:=hg;obtain⟨ap,rv,p,hz⟩:=I.tuple hq;obtain⟨f0,f1,f2,f3,f4,f5⟩:=hf it (by simp);have hl:=rv.length;exact wpAny_pyNext_tuple_end (I.ok.hd hc) st (show s.heap.IsTuple a ap.toArray from p) (by simp;lia) λh' eb=>⟨rfl,I.turned (t':=s.toks) (λb o hb e=>eb b o hb e) f0 f1 f3 f4 f5⟩
 self:=λ_ _ _ _ _ st h=>wpAny_pyIter_tupleiter st h
theorem yy(it:Sn)(lo:Int)(n:Nat):Turn P w K tg (Itr lo n) [it] it (λi h=>Ym h it (lo+(i:Nat)*1) ((n:Int)-(i:Nat)) 1) where
 mem:=by simp
 obj:=λi h st b hb=>by
  have e:b=it:=by simpa using hb
  subst e;exact⟨_,st,λv z=>by have z':W9 _=V8 v:=z;cases z'⟩
 keep:=λi h h' st k=>k it (by simp) _ st
 item:=by intro X hP hw hK hc i ac s σ H E I hf st hg;subst hP hw hK;obtain⟨f0,f1,f2,f3,f4,f5⟩:=hf it (by simp);have W:=Walks.range (prog:=X.prog) (w:=X.w) (I.ok.hd hc) it lo 1 n;refine W.item i s _ _ hg st λv h' tk hv am kk=>?_;obtain⟨t,rfl⟩:=hv;have I1:Inv X ac σ H {s with heap:=h',toks:=tk}:=I.turned (λb o hb e=>kk b o (by simpa using hb) e) f0 f1 f3 f4 f5;refine⟨_,rfl,By (s:={s with heap:=h',toks:=tk}) (n:="range_iterator") am rfl rfl (by decide) ⟨.int (lo+i),H,I1,⟨t,?_⟩,⟨rfl,rfl⟩,am,λb hb=>(hf b hb).1⟩⟩;rw[Int.mul_one]
 done:=by intro X hP hw hK hc i ac s σ H E I hf st hg;subst hP hw hK;obtain⟨f0,f1,f2,f3,f4,f5⟩:=hf it (by simp);exact wpAny_pyNext_range_end (I.ok.hd hc) st (by have:n<=i:=hg;lia) λh' eb=>⟨rfl,I.turned (t':=s.toks) (λb o hb e=>eb b o hb e) f0 f1 f3 f4 f5⟩
 self:=λ_ _ _ _ _ st h=>wpAny_pyIter_rangeiter st h
variable {body:List S5}{fp:List Sn}
section
variable{X:Cx}{tg:SK}
theorem xn{R:It->Hp->Prop}{lo hi:Int}{t u v:Tok}{tk:Nat}(I:Inv X ac σ H s)(h1:-(2 ^ 62)<=lo)(h2:lo<2 ^ 62)(h3:-(2 ^ 62)<=hi)(h4:hi<2 ^ 62)
  (q:R (Itr lo (hi-lo).toNat) H):Sw (SG X.prog X.w) X.A (Wk (.ref s.heap.objs.size)) (PIE X ac σ tg R) E {s with heap:=s.heap.push { cls:=.type "range",data:=.fields #[.int lo t,.int hi u,.int 1 v] },toks:=tk}:=by
 refine wpAny_pyIter_range (IsRange.new ..) (small_one h1 h2 h3 h4) ?_;have I1:Inv X ac σ H {s with heap:=s.heap.push { cls:=.type "range",data:=.fields #[.int lo t,.int hi u,.int 1 v] },toks:=tk}:=I.kept λb o e=>Sr _ e;refine⟨(s.heap.push { cls:=.type "range",data:=.fields #[.int lo t,.int hi u,.int 1 v] }).objs.size,[(s.heap.push { cls:=.type "range",data:=.fields #[.int lo t,.int hi u,.int 1 v] }).objs.size],_,_,H,rfl,
  I1.kept (t':=tk) λb o e=>Sr _ e,yy _ lo (hi-lo).toNat,?_,λb hb=>?_,q⟩
 ·have e1:lo+((0:Nat):Int)*1=lo:=by simp
  have e2:(((hi-lo).toNat:Nat):Int)-((0:Nat):Int)=Yh lo hi 1:=by rw[rangeSize_one];split <;> lia
  show Ym _ _ (lo+((0:Nat):Int)*1) ((((hi-lo).toNat:Nat):Int)-((0:Nat):Int)) 1;rw[e1,e2];exact SF _ rfl
 have e:b=(s.heap.push { cls:=.type "range",data:=.fields #[.int lo t,.int hi u,.int 1 v] }).objs.size:=by simpa using hb
 subst e;exact I1.wj (e_ _) (I1.hok.fresh (e_ _))
def Kj(ta:TA):TI:=λσ H R=>ta σ H λvs H1=>∃j:Int,vs=[.int j]/\-(2 ^ 62)<=j/\j<2 ^ 62/\R (Itr 0 j.toNat) H1
def Lv(ta:TA):TI:=λσ H R=>ta σ H λvs H1=>∃i j:Int,vs=[.int i,.int j]/\(-(2 ^ 62)<=i/\i<2 ^ 62/\-(2 ^ 62)<=j/\j<2 ^ 62)/\R (Itr i (j-i).toNat) H1
theorem B4{a:SK}{p:Pos}(hg:Gl X "range")(hm:X.mg "range"=none)(ha:PA X [a] ta)(hs:SO [a] X.env=[(false,Ta a X.env)]:=by rfl):PI X tg (.Call (.Name "range" p) [a] [] pos) (Kj ta):=by
 intro ac s σ H R I h;refine Yu (j9 I hg hm boot_range (TZ (thn (ha pos ac s σ H _ I h) λus s1 ⟨vs,H1,I1,r1,q1⟩=>?_) hs rfl));obtain⟨j,e,q1,q2,q⟩:=q1;subst e;cases r1 with
 |cons r rr=>
  cases rr;obtain⟨t,rfl⟩:=r;exact call_range_1 (xn I1 (by lia) (by lia) q1 q2 (by simpa using q))
theorem Bm{a b:SK}{p:Pos}(hg:Gl X "range")(hm:X.mg "range"=none)(ha:PA X [a,b] ta)(hs:SO [a,b] X.env=[(false,Ta a X.env),(false,Ta b X.env)]:=by rfl)(hs2:SO [b] X.env=[(false,Ta b X.env)]:=by rfl) :
  PI X tg (.Call (.Name "range" p) [a,b] [] pos) (Lv ta):=by
 intro ac s σ H R I h;refine Yu (j9 I hg hm boot_range (TZ (thn (ha pos ac s σ H _ I h) λus s1 ⟨vs,H1,I1,r1,q1⟩=>?_) (by rw[hs,hs2]) (by rw[hs2];rfl)));obtain⟨i,j,e,⟨q1,q2,q3,q4⟩,q⟩:=q1;subst e;cases r1 with
 |cons r rr=>
  cases rr with
  |cons r' rr=>
   cases rr;obtain⟨t,rfl⟩:=r;obtain⟨t',rfl⟩:=r';exact call_range_2 (xn I1 q1 q2 q3 q4 q)
noncomputable def MM(wi:TI)(g:TG)(tb:TS):TS:=λD σ H=>wi σ H λJ H1=>∃W:Nat->Nat->St->Hp->Prop,(∃m,W 0 m σ H1)/\∀i m σ H,W i m σ H->
 (J.stop i H/\D.nx σ H)\/(J.go i H/\∃N:St->Hp->Prop,(∀ cl H',N cl H'->∃m',m'<m/\W (i+1) m' cl H')/\∀x H',J.yld i H x H'->g x σ H' λσ2 H2=>tb { D with nx:=N,ct:=N,bk:=D.nx} σ2 H2)
noncomputable def oB(fp:List Sn)(h:SJ):List (Sn×Obj):=fp.filterMap λb=>(h.get? b).map λo=>(b,o)
theorem iw{o:Obj}(hb:b∈fp)(e:h.get? b=some o):(b,o)∈oB fp h:=Rl.mpr ⟨b,hb,by rw[e];rfl⟩
theorem Az{p:Sn×Obj}(hp:p∈oB fp h):p.1∈fp/\h.get? p.1=some p.2:=by
 obtain⟨b,hb,e⟩:=Rl.mp hp;cases q:h.get? b with
 |none=>rw[q]at e;cases e
 |some o=>
  rw[q]at e;have e':(b,o)=p:=L' e;subst e';exact⟨hb,q⟩
theorem Inv.pinned (I:Inv X ac σ H s)(hf:∀b∈fp,ny X ac H b)(ho:∀b∈fp,∃o,s.heap.get? b=some o/\∀v,o.data≠.cell v):Inv X (ac++oB fp s.heap) σ H s:=
 I.zd λp hp=>(C_.mp hp).elim (λz=>I.pin p (q_ _ z)) λz=>by obtain⟨hb,e⟩:=Az z;obtain⟨f0,f1,f2,_⟩:=hf p.1 hb;obtain⟨o,e',d⟩:=ho p.1 hb;rw[e]at e';cases e';exact⟨e,f0,f1,f2,d⟩
theorem Inv.kQ {pl:List (Sn×Obj)}(I:Inv X (ac++pl) σ H s):Inv X ac σ H s:=I.zd λp hp=>I.pin p (q_ _ (MV _ hp))
theorem JP{iter:SK}{wi:TI}{g:TG}{tb:TS}(hp:PassesOwn (SG X.prog X.w) X.A X.env X.xe)(hc:X.calm=true)(hi:PI X tg iter wi)(hg:PG X tg g)(hb:PSs X body tb)
  (hs:∀x,Tx iter X.env x=pure x:=by intro _;rfl):PS X (.For tg iter body [] pos) (MM wi g tb):=by
 intro ac s σ H D I h;refine wpAny_For (thn (hi ac s σ H _ I h) λv s1 h1=>thn h1 λitv s2 h2=>?_) hs;obtain⟨it,fp,tn,J,H2,e,I2,T,ii,f2,W,⟨m0,w0⟩,turn⟩:=h2;subst e;have stat:∀{H':Hp},(∀b∈fp,H' b=none)->∀b∈fp,ny X ac H' b:=λhn b hb=>⟨hn b hb,(f2 b hb).2⟩;refine codeAny_forLoop_any (λn s'=>∃i cl H',Inv X ac cl H' s'/\tn i s'.heap/\(∀b∈fp,H' b=none)/\W i n cl H') ?_ m0 ⟨0,σ,H2,I2,ii,λb hb=>(f2 b hb).1,w0⟩;rintro n s3 ⟨i,σ3,H3,I3,im,fr3,w3⟩;rcases turn i n σ3 H3 w3 with⟨stop,qn⟩|⟨go,N,hN,step⟩
 ·refine UP hp (thn (T.done X rfl rfl rfl hc i ac s3 σ3 H3 X.xe I3 (stat fr3) im stop) ?_);rintro r s4 ⟨hr,I4⟩;subst hr;exact V7 ⟨σ3,H3,I4,qn⟩
 refine UP hp (thn (T.item X rfl rfl rfl hc i ac s3 σ3 H3 X.xe I3 (stat fr3) im go) ?_);rintro r s4 ⟨u,hr,h4⟩;subst hr;refine UP hp (thn h4 ?_);rintro _ s5 ⟨x,H5,I5,r5,y5,st5,fr5⟩;have I5':=I5.pinned (stat fr5) (T.obj _ _ st5);refine UP hp (thn (hg _ s5 σ3 H5 x u _ I5' r5 (step x H5 y5)) ?_);rintro _ s6 ⟨σ6,H6,I6,q6⟩;refine UP hp (thn (hb _ s6 σ6 H6 _ I6 q6) λf s7 q7=>?_);have V9:∀{σ7:St}{H7:Hp},Inv X (ac++oB fp s5.heap) σ7 H7 s7->N σ7 H7->∃m,m<n/\∃i cl H',Inv X ac cl H' s7/\tn i s7.heap/\(∀b∈fp,H' b=none)/\W i m cl H':=λ{σ7 H7} I7 n7=>by obtain⟨m',hm,w7⟩:=hN σ7 H7 n7;refine⟨m',hm,i+1,σ7,H7,I7.kQ,T.keep _ _ _ st5 λb hb o e=>(I7.pin (b,o) (q_ _ (q_ _ (iw hb e)))).1,λb hb=>?_,w7⟩;obtain⟨o,e,d⟩:=T.obj _ _ st5 b hb;exact(I7.pin (b,o) (q_ _ (q_ _ (iw hb e)))).2.1
 cases f with
 |next=>obtain⟨σ7,H7,I7,n7⟩:=q7;exact V9 I7 n7
 |cont=>obtain⟨σ7,H7,I7,n7⟩:=q7;exact V9 I7 n7
 |brk=>obtain⟨σ7,H7,I7,q7⟩:=q7;exact⟨σ7,H7,I7.kQ,q7⟩
 |ret v=>obtain⟨x7,σ7,H7,I7,r7,q7⟩:=q7;exact⟨x7,σ7,H7,I7.kQ,r7,q7⟩
end
abbrev R2:=V->V->Hp->VK->Prop
def OpR(X:Cx)(f:Sl->Sl->Sem Sl)(r:R2):Prop:=
 ∀(ac:List (Sn×Obj)) (s:So) (σ:St) (H:Hp) (x y:V) (v u:Sl) (Q:VK),Inv X ac σ H s->RelV x v->RelV y u->r x y H Q->
  Sw (SG X.prog X.w) X.A (f v u) (EP X ac σ Q) X.xe s
def UnR(X:Cx)(f:Sl->Sem Sl)(r:V->Hp->VK->Prop):Prop:=
 ∀(ac:List (Sn×Obj)) (s:So) (σ:St) (H:Hp) (x:V) (v:Sl) (Q:VK),Inv X ac σ H s->RelV x v->r x H Q->
  Sw (SG X.prog X.w) X.A (f v) (EP X ac σ Q) X.xe s
def d3(X:Cx)(f:Sl)(r:List V->Hp->VK->Prop):Prop:=
 ∀(ac:List (Sn×Obj)) (s:So) (σ:St) (H:Hp) (xs:List V) (us:List Sl) (Q:VK),Inv X ac σ H s->Vals xs us->r xs H Q->
  Sw (SG X.prog X.w) X.A (call f us) (EP X ac σ Q) X.xe s
def ME(X:Cx)(r:V->Hp->(Bool->Hp->Prop)->Prop):Prop:=
 ∀(ac:List (Sn×Obj)) (s:So) (σ:St) (H:Hp) (x:V) (v:Sl) (Q:Bool->Hp->Prop),Inv X ac σ H s->RelV x v->r x H Q->
  Sw (SG X.prog X.w) X.A (truthy v) (TP X ac σ Q) X.xe s
noncomputable def tOp(r:R2)(ta tb:TE):TE:=λσ H Q=>ta σ H λx H1=>tb σ H1 λy H2=>r x y H2 Q
noncomputable def tUn(r:V->Hp->VK->Prop)(ta:TE):TE:=λσ H Q=>ta σ H λx H1=>r x H1 Q
noncomputable def rI(C:Int->Int->Prop)(g:Int->Int->V):R2:=λx y H Q=>∃i j,x=.int i/\y=.int j/\C i j/\Q (g i j) H
noncomputable def rI0(g:Int->Int->V):R2:=λx y H Q=>∃i j,x=.int i/\y=.int j/\Q (g i j) H
noncomputable def rU(g:Int->V):V->Hp->VK->Prop:=λx H Q=>∃i,x=.int i/\Q (g i) H
variable {f:Sl->Sl->Sem Sl}{op:V_}
section
variable{X:Cx}{a b c:SK}{ta tb tc:TE}{pos:Pos}
theorem Jm(ha:PE X a ta)(hb:PE X b tb){R:V->V->Hp->Prop}(I:Inv X ac σ H s)
  (h:ta σ H λx H1=>tb σ H1 λy H2=>R x y H2) {Q:Sl->So->Prop} {f:Sl->Sl->Sem Sl}
  (hf:∀v u s2 x y H2,Inv X ac σ H2 s2->RelV x v->RelV y u->R x y H2->Sw (SG X.prog X.w) X.A (f v u) Q X.xe s2) :
  Sw (SG X.prog X.w) X.A (Ta a X.env) (λv s₁=>Sw (SG X.prog X.w) X.A (Ta b X.env) (λu s₂=>Sw (SG X.prog X.w) X.A (f v u) Q X.xe s₂) X.xe s₁) X.xe s:=by
 refine thn (ha ac s σ H _ I h) ?_;rintro v s1 ⟨x,H1,I1,r1,q1⟩;refine thn (hb ac s1 σ H1 _ I1 q1) ?_;rintro u s2 ⟨y,H2,I2,r2,q2⟩;exact hf v u s2 x y H2 I2 r1 r2 q2
theorem hX{op:Operator}{r:R2}(ho:OpR X (TU op) r)(ha:PE X a ta)(hb:PE X b tb):PE X (.BinOp a op b pos) (tOp r ta tb):=by intro ac s σ H Q I h;exact wpAny_BinOp (Jm ha hb I h λv u s2 x y H2 I2 rx ry q=>ho ac s2 σ H2 x y v u Q I2 rx ry q)
theorem L8{op:UnaryOp}{r:V->Hp->VK->Prop}(ho:UnR X (unaryOp op) r)(ha:PE X a ta):PE X (.UnaryOp op a pos) (tUn r ta):=by intro ac s σ H Q I h;exact UnaryOp_ (thn (ha ac s σ H _ I h) λv s1 ⟨x,H1,I1,r1,q1⟩=>ho ac s1 σ H1 x v Q I1 r1 q1)
theorem opI{C:Int->Int->Prop}{g:Int->Int->Int}
  (rule:∀(i j:Int) (t u:Tok) (s:So) (Q:Sl->So->Prop) (E:Sl->So->Prop),C i j->Q (.int (g i j) s.toks) {s with toks:=s.toks+1}->Sw (SG X.prog X.w) X.A (f (.int i t) (.int j u)) Q E s) :
  OpR X f (rI C λi j=>.int (g i j)):=by
 intro ac s σ H x y v u Q I rx ry h;obtain⟨i,j,rfl,rfl,hc,q⟩:=h;obtain⟨t,rfl⟩:=rx;obtain⟨t',rfl⟩:=ry;exact rule i j t t' s _ _ hc ⟨.int (g i j),H,I.tok _,⟨_,rfl⟩,q⟩
theorem KQ{g:Int->Int->Int}
  (rule:∀(i j:Int) (t u:Tok) (s:So) (Q:Sl->So->Prop) (E:Sl->So->Prop),Q (.int (g i j) s.toks) {s with toks:=s.toks+1}->Sw (SG X.prog X.w) X.A (f (.int i t) (.int j u)) Q E s) :
  OpR X f (rI0 λi j=>.int (g i j)):=by
 intro ac s σ H x y v u Q I rx ry h;obtain⟨i,j,rfl,rfl,q⟩:=h;obtain⟨t,rfl⟩:=rx;obtain⟨t',rfl⟩:=ry;exact rule i j t t' s _ _ ⟨.int (g i j),H,I.tok _,⟨_,rfl⟩,q⟩
theorem Fj{g:Int->Int->Bool}
  (rule:∀(i j:Int) (t u:Tok) (s:So) (Q:Sl->So->Prop) (E:Sl->So->Prop),Q (.bool (g i j)) s->Sw (SG X.prog X.w) X.A (f (.int i t) (.int j u)) Q E s) :
  OpR X f (rI0 λi j=>.bl (g i j)):=by
 intro ac s σ H x y v u Q I rx ry h;obtain⟨i,j,rfl,rfl,q⟩:=h;obtain⟨t,rfl⟩:=rx;obtain⟨t',rfl⟩:=ry;exact rule i j t t' s _ _ ⟨.bl (g i j),H,I,rfl,q⟩
noncomputable def EL(i j:Int):Prop:=0<j/\j<1073741824
noncomputable def Mj(i j:Int):Prop:=0<=j/\j<=1000000/\i.natAbs<2 ^ 64
noncomputable def yb(i j:Int):Prop:=(-(2 ^ 64)<i/\i<2 ^ 64)\/(-(2 ^ 64)<j/\j<2 ^ 64)
theorem yb.ok {i j:Int}(h:yb i j):IntMulOk i j:=by
 rcases h with⟨h1,h2⟩|⟨h1,h2⟩
 ·exact .of_left (XW h1 h2)
 exact .of_right (XW h1 h2)
theorem r6:OpR X (TU .Add) (rI0 λi j=>.int (i+j)):=KQ λ_ _ _ _ _ _ _ q=>add_int q
theorem JX:OpR X (TU .Sub) (rI0 λi j=>.int (i-j)):=KQ λ_ _ _ _ _ _ _ q=>sub_int q
theorem mW:OpR X (TU .Mult) (rI yb λi j=>.int (i*j)):=opI λ_ _ _ _ _ _ _ hc q=>mul_int q hc.ok
theorem Ap:OpR X (TU .FloorDiv) (rI EL λi j=>.int (i/j)):=opI λi j _ _ _ _ _ hc q=>by have h1:(0:Int)<j:=hc.1;have h2:j<1073741824:=hc.2;exact floordiv_int (by lia) (by rw[Qk i (by lia)];exact q) (.inl (Wd (by lia)))
theorem mQ:OpR X (TU .Mod) (rI (λ_ j=>0<j) λi j=>.int (i%j)):=opI λi j _ _ _ _ _ hc q=>by have h1:(0:Int)<j:=hc;exact mod_int' (by lia) (by rw[Ql i (by lia)];exact q)
theorem Jy:OpR X (TU .Pow) (rI Mj λi j=>.int (i ^ j.toNat)):=opI λ_ _ _ _ _ _ _ hc q=>pow_int_small hc.1 hc.2.1 hc.2.2 q
theorem unI{f:Sl->Sem Sl}{g:Int->Int}
  (rule:∀(i:Int) (t:Tok) (s:So) (Q:Sl->So->Prop) (E:Sl->So->Prop),Q (.int (g i) s.toks) {s with toks:=s.toks+1}->Sw (SG X.prog X.w) X.A (f (.int i t)) Q E s) :
  UnR X f (rU λi=>.int (g i)):=by
 intro ac s σ H x v Q I rx h;obtain⟨i,rfl,q⟩:=h;obtain⟨t,rfl⟩:=rx;exact rule i t s _ _ ⟨.int (g i),H,I.tok _,⟨_,rfl⟩,q⟩
theorem JF:UnR X (unaryOp .USub) (rU λi=>.int (-i)):=unI λ_ _ _ _ _ q=>neg_int q
theorem yd{Q:VK}{k k':Bool}(I:Inv X ac σ H s)(q:Q (.bl k) H)(e:k=k'):EP X ac σ Q (.bool k') s:=by subst e;exact⟨.bl k,H,I,rfl,q⟩
theorem Ld:OpR X (S8 .Lt) (rI0 λi j=>.bl (decide (i<j))):=Fj λ_ _ _ _ _ _ _ q=>lt_int q
theorem Lo:OpR X (S8 .LtE) (rI0 λi j=>.bl (decide (i<=j))):=Fj λ_ _ _ _ _ _ _ q=>le_int q
theorem Kr:OpR X (S8 .Gt) (rI0 λi j=>.bl (decide (j<i))):=Fj λ_ _ _ _ _ _ _ q=>gt_int q
theorem Lh:OpR X (S8 .GtE) (rI0 λi j=>.bl (decide (j<=i))):=Fj λ_ _ _ _ _ _ _ q=>ge_int q
theorem JT:OpR X (S8 .Is) (λx y H Q=>y=.non/\Q (.bl (decide (x=.non))) H):=by
 intro ac s σ H x y v u Q I rx ry h;obtain⟨rfl,q⟩:=h;cases ry;refine is_none_gen (yd I q ?_);cases x <;> first
  | (cases rx;rfl)
  | (obtain⟨t,rfl⟩:=rx;rfl)
theorem Ge:OpR X (S8 .IsNot) (λx y H Q=>y=.non/\Q (.bl (!decide (x=.non))) H):=by
 intro ac s σ H x y v u Q I rx ry h;obtain⟨rfl,q⟩:=h;cases ry;refine isnot_none_gen (yd I q ?_);cases x <;> first
  | (cases rx;rfl)
  | (obtain⟨t,rfl⟩:=rx;rfl)
theorem aV(b:SK)(h:op≠.In:=by decide)(h2:op≠.NotIn:=by decide):UJ op b=false:=by
 have e1:(op == CmpOp.In)=false:=by cases op <;> first|rfl|exact absurd rfl h
 have e2:(op == CmpOp.NotIn)=false:=by cases op <;> first|rfl|exact absurd rfl h2
 cases b <;> simp[UJ,e1,e2]
theorem EW{r:R2}(ho:OpR X (S8 op) r)(ha:PE X a ta)(hb:PE X b tb)(hm:UJ op b=false):PE X (.Compare a [op] [b] pos) (tOp r ta tb):=by intro ac s σ H Q I h;exact wpAny_Compare1 (Jm ha hb I h λv u s2 x y H2 I2 rx ry q=>ho ac s2 σ H2 x y v u Q I2 rx ry q) hm
noncomputable def Ef(t:TE):TT:=λσ H Q=>t σ H λx H'=>∃k,x=.bl k/\Q k H'
theorem uK{r:R2}(ho:OpR X (S8 op) r)(ha:PE X a ta)(hb:PE X b tb)(hm:UJ op b=false):PT X (.Compare a [op] [b] pos) (Ef (tOp r ta tb)):=by
 intro ac s σ H Q I h;refine wpAny_isTrue_Compare1 (thn (ha ac s σ H _ I h) λv s1 ⟨x,H1,I1,r1,q1⟩=>thn (hb ac s1 σ H1 _ I1 q1) λu s2 ⟨y,H2,I2,r2,q2⟩=>
  thn (ho ac s2 σ H2 x y v u _ I2 r1 r2 q2) λc s3 ⟨z,H3,I3,r3,k,e,q3⟩=>?_) hm
 subst e;cases r3;exact Ts ⟨H3,I3,q3⟩
noncomputable def ym(r r':R2)(ta tb tc:TE):TE:=λσ H Q=>ta σ H λx H1=>tb σ H1 λy H2=>r x y H2 λz H3=>∃k,z=.bl k/\
 (if k=true then tc σ H3 λw' H4=>r' y w' H4 Q else Q (.bl false) H3)
theorem Cf{op':V_}{r r':R2}(ho:OpR X (S8 op) r)(ho':OpR X (S8 op') r')(ha:PE X a ta)(hb:PE X b tb)(hc:PE X c tc)
  (hm:WN [op,op'] [b,c]=false:=by with_unfolding_all rfl):PE X (.Compare a [op,op'] [b,c] pos) (ym r r' ta tb tc):=by
 intro ac s σ H Q I h;refine Compare_chain (thn (ha ac s σ H _ I h) λv s1 ⟨x,H1,I1,r1,q1⟩=>chain_link (thn (hb ac s1 σ H1 _ I1 q1) λu s2 ⟨y,H2,I2,r2,q2⟩=>
  thn (ho ac s2 σ H2 x y v u _ I2 r1 r2 q2) λd s3 ⟨z,H3,I3,r3,k,e,q3⟩=>?_)) hm
 subst e;cases r3;refine Ts ?_;cases k with
 |false=>exact ite_ff ⟨.bl false,H3,I3,rfl,q3⟩
 |true=>exact ite_tt (chain_last (thn (hc ac s3 σ H3 _ I3 q3) λw' s4 ⟨z',H4,I4,r4,q4⟩=>ho' ac s4 σ H4 y z' u w' Q I4 r2 r4 q4))
theorem C2{op':V_}{r r':R2}(ho:OpR X (S8 op) r)(ho':OpR X (S8 op') r')(ha:PE X a ta)(hb:PE X b tb)(hc:PE X c tc)
  (hm:WN [op,op'] [b,c]=false:=by with_unfolding_all rfl):PT X (.Compare a [op,op'] [b,c] pos) (Ef (ym r r' ta tb tc)):=by
 intro ac s σ H Q I h;refine isTrue_chain (thn (ha ac s σ H _ I h) ?_) hm;rintro v s1 ⟨x,H1,I1,r1,q1⟩;refine test_link (thn (hb ac s1 σ H1 _ I1 q1) ?_);rintro u s2 ⟨y,H2,I2,r2,q2⟩;refine thn (ho ac s2 σ H2 x y v u _ I2 r1 r2 q2) ?_;rintro d s3 ⟨z,H3,I3,r3,k,e,q3⟩;subst e;cases r3;refine Ts ?_;cases k with
 |false=>
  obtain⟨k',e',q'⟩:=q3;cases e';exact ite_ff ⟨H3,I3,q'⟩
 |true=>
  refine ite_tt (test_last (thn (hc ac s3 σ H3 _ I3 q3) ?_));rintro w' s4 ⟨z',H4,I4,r4,q4⟩;refine thn (ho' ac s4 σ H4 y z' u w' _ I4 r2 r4 q4) ?_;rintro d' s5 ⟨z2,H5,I5,r5,k2,e2,q5⟩;subst e2;cases r5;exact Ts ⟨H5,I5,q5⟩
def HG(K:Sm)(x:V)(H:Hp)(k:Bool):Prop:=
 match x with
 | .non=>k=false
 | .bl b=>k=b
 | .int i=>k=(i != 0)
 | .str y=>y.length<=sizeLine/\k=((y.length:Int) != 0)
 | .byt y=>y.size<=sizeLine/\k=((y.size:Int) != 0)
 | .ref p=>(∃xs,SqL K H p xs/\k=!xs.isEmpty)\/(∃xs,SqT K H p xs/\k=!xs.isEmpty)\/∃al,H p=some (.dK al)/\k=!al.isEmpty
 | _=>False
theorem xU{κ:Type}{al:List (κ×V)}{vs:List (κ×Sl)}(r:KV al vs):(!vs.isEmpty)=!al.isEmpty:=by cases r <;> rfl
theorem sA{ap:List Sl}(r:Vals xs ap):(!ap.toArray.isEmpty)=!xs.isEmpty:=by cases r <;> simp
theorem n8:(sizeLine:Nat)<2 ^ 63:=by rw[SX];decide
theorem Ja:ME X (λx H Q=>∃k,HG X.K x H k/\Q k H):=by
 intro ac s σ H x v Q I rx h;obtain⟨k,e,q⟩:=h;have hl:=n8;have hs:sizeLine=16777216:=SX;cases x with
 |non=>
  cases rx;have e':k=false:=e;subst e';exact truthy_none ⟨H,I,q⟩
 |bl b=>
  cases rx;have e':k=b:=e;subst e';exact Ts ⟨H,I,q⟩
 |int i=>
  obtain⟨t,rfl⟩:=rx;have e':k=(i != 0):=e;subst e';exact PySem.P.truthy_int ⟨H,I,q⟩
 |str y=>
  obtain⟨t,rfl⟩:=rx;obtain⟨hy,e'⟩:y.length<=sizeLine/\k=((y.length:Int) != 0):=e;subst e';exact PySem.P.truthy_str (by lia) ⟨H,I.tok _,q⟩
 |byt y=>
  obtain⟨t,rfl⟩:=rx;obtain⟨hy,e'⟩:y.size<=sizeLine/\k=((y.size:Int) != 0):=e;subst e';exact PySem.W.truthy_bytes (by lia) ⟨H,I.tok _,q⟩
 |ref p=>
  cases rx;have e':(∃xs,SqL X.K H p xs/\k=!xs.isEmpty)\/(∃xs,SqT X.K H p xs/\k=!xs.isEmpty)\/∃al,H p=some (.dK al)/\k=!al.isEmpty:=e;rcases e' with⟨xs,hx,e'⟩|⟨xs,hx,e'⟩|⟨al,hx,e'⟩
  ·subst e';obtain⟨ap,r,pl,hz⟩:=I.list hx;have hlen:=r.length;exact wpAny_truthy_list pl.isList (by simp only[j'];lia) ⟨H,I.tok _,by rw[sA r];exact q⟩
  ·subst e';obtain⟨ap,r,pl,hz⟩:=I.tuple hx;have hlen:=r.length;exact truthy_tuple pl (by simp only[j'];lia) ⟨H,I.tok _,by rw[sA r];exact q⟩
  ·subst e';obtain⟨hz,hS,vs,r,m⟩:al.length<=sizeLine/\(p == T9)=false/\∃vs,KV al vs/\s.heap.DictOf (ff X.prog X.w) p vs:=I.hok p _ hx;have hlen:al.length=vs.length:=Vb r;exact wpAny_truthy_dict hS m (by lia) ⟨H,I.tok _,by rw[xU r];exact q⟩
 | _=>exact(show False from e).elim
theorem BX(ha:PE X a ta)(he:∀whole,WL a X.env whole=(do let v <-whole;Xz a.pos;U2 [v] (truthy v))) :
  PT X a (λσ H Q=>ta σ H λx H'=>∃k,HG X.K x H' k/\Q k H'):=by
 intro ac s σ H Q I h;exact isTrue_plain (thn (ha ac s σ H _ I h) λv s1 ⟨x,H1,I1,r1,q1⟩=>Ja ac s1 σ H1 x v Q I1 r1 q1) (he _)
theorem yu:OpR X (TU .Add) (λx y H Q=>∃i j,x=.str i/\y=.str j/\i.length+j.length<=sizeLine/\Q (.str (i++j)) H):=by intro ac s σ H x y v u Q I rx ry h;obtain⟨i,j,rfl,rfl,hz,q⟩:=h;obtain⟨t,rfl⟩:=rx;obtain⟨t',rfl⟩:=ry;exact add_str (λt' tk=>⟨.str (i++j),H,I.tok _,⟨_,rfl⟩,q⟩) hz
theorem vals1{x:V}(r:Vals [x] us):∃u,us=[u]/\RelV x u:=by
 cases r with
 |cons r1 r2=>cases r2;exact⟨_,rfl,r1⟩
theorem vals2{x y:V}(r:Vals [x,y] us):∃u w',us=[u,w']/\RelV x u/\RelV y w':=by
 cases r with
 |cons r1 r2=>
  cases r2 with
  |cons r3 r4=>cases r4;exact⟨_,_,rfl,r1,r3⟩
theorem Cq:d3 X (.builtin "abs") (λxs H Q=>∃i,xs=[.int i]/\Q (.int (if i<0 then -i else i)) H):=by intro ac s σ H xs us Q I r h;obtain⟨i,rfl,q⟩:=h;obtain⟨u,rfl,t,rfl⟩:=vals1 r;exact call_abs_int λu tk=>⟨.int (if i<0 then -i else i),H,I.tok _,⟨_,rfl⟩,q⟩
theorem Ay(hc:X.calm=true):d3 X (.builtin "max") (λxs H Q=>∃i j,xs=[.int i,.int j]/\Q (.int (if j > i then j else i)) H):=by
 intro ac s σ H xs us Q I r h;obtain⟨i,j,rfl,q⟩:=h;obtain⟨u,w',rfl,⟨t,rfl⟩,⟨t',rfl⟩⟩:=vals2 r;refine max_two_ints (I.ok.hd hc) λh' tk k=>⟨_,H,I.kept k,?_,q⟩;by_cases hj:j > i
 ·rw[if_pos hj,if_pos hj];exact⟨_,rfl⟩
 rw[if_neg hj,if_neg hj];exact⟨_,rfl⟩
theorem AU(hc:X.calm=true):d3 X (.builtin "min") (λxs H Q=>∃i j,xs=[.int i,.int j]/\Q (.int (if j<i then j else i)) H):=by
 intro ac s σ H xs us Q I r h;obtain⟨i,j,rfl,q⟩:=h;obtain⟨u,w',rfl,⟨t,rfl⟩,⟨t',rfl⟩⟩:=vals2 r;refine min_two_ints (I.ok.hd hc) λh' tk k=>⟨_,H,I.kept k,?_,q⟩;by_cases hj:j<i
 ·rw[if_pos hj,if_pos hj];exact⟨_,rfl⟩
 rw[if_neg hj,if_neg hj];exact⟨_,rfl⟩
theorem xA:d3 X (.builtin "divmod") (λxs H Q=>∃i j,xs=[.int i,.int j]/\EL i j/\∀p,H p=none->Q (.ref p) (upd H p (.tup [.int (i/j),.int (i%j)]))):=by intro ac s σ H xs us Q I r h;obtain⟨i,j,rfl,⟨h1,h2⟩,q⟩:=h;obtain⟨u,w',rfl,⟨t,rfl⟩,⟨t',rfl⟩⟩:=vals2 r;refine divmod_int (by lia) ?_ (.inl (Wd (by lia)));rw[Qk i (by lia),Ql i (by lia)];have hn:H s.heap.objs.size=none:=I.hok.fresh (e_ _);refine⟨.ref s.heap.objs.size,_,?_,rfl,q _ hn⟩;refine I.laid (λb o e=>Sr _ e) (e_ _) ⟨by simp only[i',N1];rw[SX];decide,[.int (i/j) s.toks,.int (i%j) (s.toks+1)],.cons ⟨_,rfl⟩ (.cons ⟨_,rfl⟩ .nil),?_⟩;exact⟨_,SF s.heap rfl,rfl,0,rfl⟩
end
theorem tm.some_of {o:Option Sl}(r:tm (some v) o):∃u,o=some u/\RelV v u:=by
 cases o with
 |none=>exact(show False from r).elim
 |some u=>exact⟨u,rfl,r⟩
structure Room (k:Nat) (A:SW):Prop where
 hd:A.handled=none
 dp:A.depth+3*k+5<recursionLimit
 un:A.units+16*k+200<cLine
 gs:A.guards=some []
theorem Room.mono {k:Nat}(r:Room k A)(h:j<=k):Room j A:=⟨r.hd,by have:=r.dp;lia,by have:=r.un;lia,r.gs⟩
theorem Room.deeper {k:Nat}(r:Room (k+1) A)(env:Env):Room k (A.deeper env):=
 ⟨r.hd,by have:=r.dp;show A.depth+1+3*k+5<_;lia,by have:=r.un;show A.units+3+16*k+200<_;lia,r.gs⟩
theorem Room.depth {k:Nat}(r:Room k A):A.depth<recursionLimit:=by have:=r.dp;lia
theorem Room.units {k:Nat}(r:Room k A):A.units+64<cLine:=by have:=r.un;lia
noncomputable def MR:TA:=λ_ H Q=>Q [] H
noncomputable def K7(ta:TE)(tr:TA):TA:=λσ H Q=>ta σ H λx H1=>tr σ H1 λxs H2=>Q (x::xs) H2
section
variable{X:Cx}{e:SK}{es:List SK}{te:TE}{t:TA}{pos:Pos}
theorem mJ:PA X [] MR:=λ_ _ _ _ H Q I h=>WZ ⟨[],H,I,.nil,h⟩
theorem jg(ha:PE X e te)(hr:PA X es t)(hs:SO (e::es) X.env=(false,Ta e X.env)::SO es X.env:=by rfl):PA X (e::es) (K7 te t):=by intro pos ac s σ H Q I h;rw[hs];show Sw _ _ (spliced ((false,Ta e X.env)::UH pos (SO es X.env))) _ _ s;refine UW (thn (ha ac s σ H _ I h) ?_);rintro u s1 ⟨x,H1,I1,r1,q1⟩;exact thn (hr pos ac s1 σ H1 _ I1 q1) λus s2 ⟨xs,H2,I2,r2,q2⟩=>⟨x::xs,H2,I2,.cons r1 r2,q2⟩
def Mk(t:TA):TE:=λσ H Q=>t σ H λxs H1=>xs.length<=sizeLine/\∀p,H1 p=none->Q (.ref p) (upd H1 p (.lst xs))
theorem E6(h:PA X es t):PE X (.List es pos) (Mk t):=by intro ac s σ H Q I hq;refine WO (thn (h pos ac s σ H _ I hq) λus s1 ⟨xs,H1,I1,r,z,q⟩=>⟨by rw[<-r.length];exact z,?_⟩);have hf:H1 s1.heap.objs.size=none:=I1.hok.fresh (e_ _);refine⟨.ref s1.heap.objs.size,upd H1 s1.heap.objs.size (.lst xs),I1.laid (t':=s1.toks) (λb u e=>Sr _ e) (e_ _) ?_,rfl,q _ hf⟩;exact⟨z,us,0,r,SF _ rfl⟩
end
abbrev Sp:=List V->Hp->VK->XK->Prop
abbrev CXT:=List Env->Hp->So->XK->Sl->So->Prop
structure Env0 (P:SD) (w:SI) (K:Sm) (mg:Str->Option Sl) (base:SJ) (A:SW) (outer:List Env) (s:So) (H:Hp):Prop where
 frames:A.frames=some outer
 mod:Mod K mg base
 bs:∀b o,base.get? b=some o->s.heap.get? b=some o/\H b=none
 bsz:base.objs.size<=s.heap.objs.size
 sO:s.heap.FunFrames base outer
 frf:∀b∈frs outer,H b=none
 hok:HOk P w H s.heap
 bare:Vf s.gens
def CE(outer:List Env)(P:SD)(w:SI)(H:Hp)(s:So)(Q:VK)(u:Sl)(s':So):Prop:=
 ∃v H',s'.os=s.os/\Vf s'.gens/\Un (frs outer) [] H H' s.heap s'.heap/\HOk P w H' s'.heap/\RelV v u/\Q v H'
def CR(CX:CXT)(outer:List Env)(P:SD)(w:SI)(H:Hp)(s:So)(Q:VK)(E:XK)(r:Xi)(s':So):Prop:=
 match r with
 | .ok (.ret u)=>CE outer P w H s Q u s'
 | .ok _=>False
 | .error e=>CX outer H s E e s'
structure FnOk (P:SD) (w:SI) (K:Sm) (mg:Str->Option Sl) (base:SJ) (CX:CXT) (k:Nat) (f:Sn) (fd:SR) (ps:List Str) (sp:Sp):Prop where
 len:∀vs H Q E,sp vs H Q E->vs.length=ps.length
 run:∀(A:SW) (outer:List Env) (s:So) (H:Hp) (args:Args) (us:List Sl) (vs:List V) (Q:VK) (E:XK),Room k A->Env0 P w K mg base A outer s H->Wl s fd args (ps.zip us)->Vals vs us->sp vs H Q E->
  Um (SG P w) A (.call (.ref f) args) (CR CX outer P w H s Q E) s
variable {CX:CXT}{base:SJ}{mg:Str->Option Sl}{ps:List Str}
theorem FnOk.imp {k:Nat}{f:Sn}{fd:SR}{sp sp':Sp}(F:FnOk P w K mg base CX k f fd ps sp)
  (h:∀vs H Q E,sp' vs H Q E->sp vs H Q E):FnOk P w K mg base CX k f fd ps sp':=
 ⟨λvs H Q E q=>F.len vs H Q E (h _ _ _ _ q),λA outer s H args us vs Q E hr he hb hv hs=>F.run A outer s H args us vs Q E hr he hb hv (h _ _ _ _ hs)⟩
section
variable{X:Cx}{ac:List (Sn×Obj)}{σ:St}{H:Hp}{s s':So}
theorem Inv.Mt (I:Inv X ac σ H s):Env0 X.prog X.w X.K X.mg X.base X.A X.stack s H:=
 ⟨I.ok.frames,I.ok.mod,I.bs,r_ I.ok.bsz I.sz,I.stack,I.Af,I.hok,I.bare⟩
theorem Inv.after {Q:VK}(I:Inv X ac σ H s)(h:CE X.stack X.prog X.w H s Q u s'):EP X ac σ Q u s':=by obtain⟨v,H',os,bare,un,hok,r,q⟩:=h;obtain⟨hh,g,d,t,os'⟩:=s';obtain rfl:os'=s.os:=os;exact⟨v,H',I.call (h':=hh) (g':=g) (d':=d) (t':=t) (ch:=[]) un hok bare (λb z=>absurd z (by simp)),r,q⟩
end
noncomputable def DS(sp:Sp)(dvs:List V)(E:XK)(t:TA):TE:=λσ H Q=>t σ H λvs H1=>sp (vs++dvs) H1 Q E
noncomputable def Binds(K:Sm)(fd:SR)(ps:List Str)(ds:List Sl):Prop:=
 ∀(s:So) (us:List Sl),K.In s.heap->(us++ds).length=ps.length->Wl s fd ⟨us,[]⟩ (ps.zip (us++ds))
theorem Binds.all {fd:SR}(h:∀us:List Sl,us.length=ps.length->X9 fd ⟨us,[]⟩=pure (ps.zip us)):Binds K fd ps []:=λs us _ hl=>by rw[Nb]at hl ⊢;exact .of_eq (h us hl)
noncomputable def Passes(CX:CXT)(X:Cx)(E:XK):Prop:=∀(ac:List (Sn×Obj)) (σ:St) (H:Hp) (s:So) (e:Sl) (s':So),Inv X ac σ H s->CX X.stack H s E e s'->X.xe e s'
variable {vs:List V}
section
variable{X:Cx}{CX:CXT}{k:Nat}{f C:Sn}{fd:SR}{ps:List Str}{sp:Sp}{dvs:List V}{ds:List Sl}{E:XK}{x m:Str}{p pos apos:Pos}{e o:SK}{es:List SK}{ta:TE}{t:TA}
theorem JC{Q:VK}(F:FnOk X.prog X.w X.K X.mg X.base CX k f fd ps sp)(hr:Room k X.A)(hb:Binds X.K fd ps ds)(hd:Vals dvs ds)(hx:Passes CX X E)
  (I:Inv X ac σ H s) (r:Vals vs us) (h:sp (vs++dvs) H Q E):Sw (SG X.prog X.w) X.A (call (.ref f) us) (EP X ac σ Q) X.xe s:=by
 have r2:Vals (vs++dvs) (us++ds):=r.append hd;have hl:(us++ds).length=ps.length:=by rw[<-r2.length];exact F.len _ _ _ _ h
 refine wpAny_call (Vk (F.run X.A X.stack s H ⟨us,[]⟩ (us++ds) (vs++dvs) Q E hr I.Mt (hb s us I.kIn hl) r2 h) λr s' hq=>?_);cases r with
 |error e=>exact hx ac σ H s e s' I hq
 |ok fl=>
  cases fl with
  |ret u=>exact I.after hq
  |next=>exact SQ hq
  |brk=>exact SQ hq
  |cont=>exact SQ hq
theorem Ek(F:FnOk X.prog X.w X.K X.mg X.base CX k f fd ps sp)(hr:Room k X.A)(hg:Gl X x)(hm:X.mg x=some (.ref f))(hk:U3 X.K (.ref f)=true)(hb:Binds X.K fd ps ds)(hd:Vals dvs ds)(hx:Passes CX X E)
  (ha:PA X (e::es) t) (hdb:(x ==("__debug__":Str))=false:=by decide) (he:SO (e::es) X.env=(false,Ta e X.env)::SO es X.env:=by rfl) (hpl:(UH pos (SO es X.env)).any (·.1)=false:=by rfl) :
  PE X (.Call (.Name x p) (e::es) [] pos) (DS sp dvs E t):=by
 intro ac s σ H Q I h;refine T7 (Ak I hg hm ?_ hdb);refine PySem.W.callWith_K (h₀:=X.base) I.ok.mod.kin hk (thn (ha pos ac s σ H _ I h) λus s1 ⟨vs,H1,I1,r,q⟩=>⟨I1.kIn,?_⟩) he hpl;exact JC F hr hb hd hx I1 r q
end
structure FnScope (N P:List Str) (sc:TF):Prop where
 kind:sc.kind=.function
 co:sc.isCoroutine=false
 gen:sc.isGenerator=false
 nd:N.Nodup
 pre:N.take P.length=P
 par:∀x∈P,sc.names.lookup x=some .local\/sc.names.lookup x=some .cell
 nofree:∀y∈sc.names,y.2≠.free
theorem tP{kindOf:Str->Option Up}{x:Str}:∀{binds:List (Str×Sl)}{m:Str->Option Sl},(∀v,(x,v) ∉ binds)->Wu kindOf binds m x=m x
 | [],_,_=>rfl
 | (n,v)::r,m,h=>by
  unfold Wu;rw[tP λw hw=>h w (t_ _ hw)];split
  ·have:x≠n:=by rintro rfl;exact h v lm
   simp[this]
  rfl
theorem u9{kindOf:Str->Option Up}{x:Str}:∀{binds:List (Str×Sl)}{m:Str->Option Sl},(∀v,(x,v) ∉ binds)->Wv kindOf binds m x=m x
 | [],_,_=>rfl
 | (n,v)::r,m,h=>by
  unfold Wv;rw[u9 λw hw=>h w (t_ _ hw)];split
  ·rfl
  have:x≠n:=by rintro rfl;exact h v lm
  simp[this]
theorem uE{kindOf:Str->Option Up}{x:Str}{v:Sl}:∀{P:List Str}{vs:List Sl}{i:Nat}{m:Str->Option Sl},P.Nodup->P[i]?=some x->vs[i]?=some v->kindOf x=some .local->
  Wu kindOf (P.zip vs) m x=some v
 | [],_,_,_,_,h,_,_=>by simp at h
 | _::_,[],_,_,_,_,h,_=>by simp at h
 |p::P,w::vs,0,m,nd,h1,h2,hk=>by simp at h1 h2;subst h1;subst h2;show Wu kindOf ((p,w)::P.zip vs) m p=_;unfold Wu;rw[tP λv hv=>(MW.mp nd).1 (PU hv).1,if_pos hk];simp
 |p::P,w::vs,i+1,m,nd,h1,h2,hk=>by show Wu kindOf ((p,w)::P.zip vs) m x=_;unfold Wu;exact uE (i:=i) (MW.mp nd).2 (by simpa using h1) (by simpa using h2) hk
theorem tY{kindOf:Str->Option Up}{x:Str}{v:Sl}:∀{P:List Str}{vs:List Sl}{i:Nat}{m:Str->Option Sl},P.Nodup->P[i]?=some x->vs[i]?=some v->kindOf x≠some .local->
  Wv kindOf (P.zip vs) m x=some v
 | [],_,_,_,_,h,_,_=>by simp at h
 | _::_,[],_,_,_,_,h,_=>by simp at h
 |p::P,w::vs,0,m,nd,h1,h2,hk=>by simp at h1 h2;subst h1;subst h2;show Wv kindOf ((p,w)::P.zip vs) m p=_;unfold Wv;rw[u9 λv hv=>(MW.mp nd).1 (PU hv).1,if_neg hk];simp
 |p::P,w::vs,i+1,m,nd,h1,h2,hk=>by show Wv kindOf ((p,w)::P.zip vs) m x=_;unfold Wv;exact tY (i:=i) (MW.mp nd).2 (by simpa using h1) (by simpa using h2) hk
noncomputable def start(N:List Str)(vs:List V):St:=vs.map some++NW (N.length-vs.length) none
noncomputable def yh(CX:CXT)(P:SD)(w:SI)(K:Sm)(mg:Str->Option Sl)(base:SJ)(N:List Str)(qual:Str)(scope:TF)(f:Sn)(cd:Sl)(A:SW)(outer:List Env)(s:So)(H:Hp)(E:XK):Cx where
 prog:=P
 w:=w
 K:=K
 mg:=mg
 base:=base
 A:=A.deeper (Vl qual scope s.heap.objs.size f cd)
 N:=N
 s₀:=s
 H₀:=H
 env:=Vl qual scope s.heap.objs.size f cd
 outer:=outer
 stack:=Vl qual scope s.heap.objs.size f cd::outer
 ex:=[]
 calm:=true
 fn:=λ_=>true
 pn:=[]
 xe:=λe s'=>Sw (SG P w) (A.deeper (Vl qual scope s.heap.objs.size f cd)) (leaving (Vl qual scope s.heap.objs.size f cd) e) (λ_ s''=>CX outer H s E e s'') (λe' s''=>CX outer H s E e' s'') s'
theorem wa{sc:TF}{n:Nat}(h:sc.names.lookup x=some .cell):∃c,(XR n sc.names []).lookup x=some c:=by have q:=We sc.names n [] (.inl h);exact Ot.mp q
theorem AX{qual:Str}{scope:TF}{f:Sn}{cd:Sl}{outer:List Env}{s1:So}{E:XK}
  (S:FnScope N ps scope) (hd:A.handled=none) (e0:Env0 P w K mg base A outer s H) (hl:vs.length=ps.length) (r:Vals vs us)
  (x:InCallC s s.heap.objs.size (Wu (Vl qual scope s.heap.objs.size f cd).kindOf (ps.zip us) λ_=>none) (XR (s.heap.objs.size+1) scope.names []) (Wv (Vl qual scope s.heap.objs.size f cd).kindOf (ps.zip us) λ_=>none) s1) :
  Inv (yh CX P w K mg base N qual scope f cd A outer s H E) [] (start N vs) H s1:=by
 have hpl:ps.length<=N.length:=by have:=congrArg Qe S.pre;rw[p_]at this;lia
 obtain⟨h1,tk,rfl,hk⟩:=x.done;have noA:∀b:Sn,b ∉ (yh CX P w K mg base N qual scope f cd A outer s H E).ex:=λb z=>absurd (show b∈([]:List Sn)from z) (by simp)
 refine⟨⟨e0.mod,S.kind,rfl,rfl,e_ _,λy z c h1 h2=>?_,λy hy=>?_,λy c _ h=>?_,λ_=>hd,Around.frames_deeper e0.frames,.inr ⟨rfl,rfl⟩,λb z=>absurd z (noA b),e0.bs,e0.bsz,λb _ _=>noA b,λb z=>absurd z (noA b),e0.sO,e0.frf⟩,
  rfl,e0.bare,Un.kept hk,⟨_,x.toInCall.ns,λi y v h1 h2 h3=>?_⟩,λy c h=>⟨_,x.cell y c h⟩,e0.hok.fresh (e_ _),λy c h=>?_,λp hp=>absurd (show p∈([]:List (Sn×Obj))from hp) (by simp),e0.hok.kept hk,?_⟩
 ·exact name_of_addr x.apart (T4 h1) (T4 h2)
 ·have hy:scope.names.lookup y=some .cell\/scope.names.lookup y=some .free:=hy;rcases hy with hy|hy
  ·exact wa hy
  exact absurd rfl (S.nofree _ (T4 hy))
 ·exact K' (x.above y c (T4 h))
 ·have hi:i<vs.length:=by
   unfold start at h2;by_cases hi:i<vs.length
   ·exact hi
   rw[MY (by simpa using hi)]at h2;rw[List.getElem?_replicate]at h2;split at h2 <;> cases h2
  have ha:vs[i]?=some v:=by
   unfold start at h2;rw[Ny (by simpa using hi),u_]at h2;cases e:vs[i]? with
   |none=>rw[e]at h2;cases h2
   |some a=>rw[e]at h2;cases h2;rfl
  obtain⟨u,hu,rv⟩:=r.get ha;have hp:ps[i]?=some y:=by rw[<-S.pre,NA (by lia)];exact h1
  have ndP:ps.Nodup:=by rw[<-S.pre];exact S.nd.sublist (OE _ _)
  refine⟨u,rv,?_⟩;rcases S.par y (D_ hp)with k|k
  ·exact .inl ⟨k,uE ndP hp hu k⟩
  obtain⟨c,e⟩:=wa (n:=s.heap.objs.size+1) k;refine .inr ⟨.inl k,c,e,?_⟩;have q:=x.cell y c e;rw[tY ndP hp hu (by show scope.names.lookup y≠_;rw[k];decide)]at q;exact q
 ·exact e0.hok.fresh (K' (x.above y c (T4 h)))
 unfold start;show _=N.length;rw[c_,a_,QZ];lia
theorem L5{k:Nat}{f:Sn}{name qual:Str}{params:Arguments}{scope:TF}{dV kV doc pm cdv ct oc:Sl}{an od:Option Sn}
  {osl:Array (Option Sl)}{N ps:List Str}{sp:Sp} (lk:K.lookup f=some ⟨oc,od,.func (Ud name qual params body scope dV kV doc pm an cdv ct),osl⟩) (hcd:Vq K cdv qual=true) (S:FnScope N ps scope)
  (len:∀vs H Q E,sp vs H Q E->vs.length=ps.length)
  (hbody:∀(A:SW) (outer:List Env) (s:So) (H:Hp) (vs:List V) (Q:VK) (E:XK),Room k (A.deeper (Vl qual scope s.heap.objs.size f cdv))->sp vs H Q E->
   ∃t,PSs (yh CX P w K mg base N qual scope f cdv A outer s H E) body t/\t { nx:=λ_ H'=>Q .non H',rt:=Q} (start N vs) H) :
  FnOk P w K mg base CX (k+1) f (Ud name qual params body scope dV kV doc pm an cdv ct) ps sp:=by
 refine⟨len,λA outer s H args us vs Q E hr e0 hb r hsp=>?_⟩;have hl:=len _ _ _ _ hsp;have KX:K.In s.heap:=e0.mod.kin.keeps λb o e=>(e0.bs b o e).1;have lim:s.heap.NoLimit:=e0.mod.nolimit.keeps λb o e=>(e0.bs b o e).1;have hkind:∀y∈ps.zip us,scope.names.lookup y.1=some .local\/(scope.names.lookup y.1=some .cell/\((XR (s.heap.objs.size+1) scope.names []).lookup y.1).isSome=true):=λ⟨n,v⟩ hy=>by
  rcases S.par n (PU hy).1 with q|q
  ·exact .inl q
  exact .inr ⟨q,We _ _ _ (.inl q)⟩
 refine codeAny_call_function hr.depth (KX _ _ lk) rfl S.co S.gen rfl (PySem.W.codeRec_of KX hcd) (hb _ _ _ _ ?_);refine wpAny_newFunctionEnv_cells S.kind hkind λenv he s1 x=>?_;subst he;refine⟨lim.keeps x.toInCall.keep,codeAny_func ?_⟩;obtain⟨t,ht,hq⟩:=hbody A outer s H vs Q E (hr.deeper _) hsp;have I:Inv (yh CX P w K mg base N qual scope f cdv A outer s H E) [] (start N vs) H s1:=AX S hr.hd e0 hl r x;refine Tb (ht [] s1 (start N vs) H _ I hq) (λfl s' hs=>?_) λe s' hs=>hs;have fin:∀{cl:St}{H':Hp}{v:V}{u:Sl},Inv (yh CX P w K mg base N qual scope f cdv A outer s H E) [] cl H' s'->RelV v u->Q v H'->CE outer P w H s Q u s':=
  λ{cl H' v u} J rv q=>⟨v,H',J.os,J.bare,J.base,J.hok,rv,q⟩
 cases fl with
 |ret u=>
  obtain⟨v,cl,H',J,rv,q⟩:=hs;exact fin J rv q
 |next=>
  obtain⟨cl,H',J,q⟩:=hs;exact fin (v:=V.non) (u:=Tq) J rfl q
 |brk=>
  obtain⟨_,_,_,q⟩:=hs;exact SQ q
 |cont=>
  obtain⟨_,_,_,q⟩:=hs;exact SQ q
section
variable{X:Cx}{x:Str}{p pos:Pos}{e:SK}{es:List SK}{t:TA}{id T:String}{r:List V->Hp->VK->Prop}
noncomputable def tCB(r:List V->Hp->VK->Prop)(t:TA):TE:=λσ H Q=>t σ H λvs H1=>r vs H1 Q
theorem sj(hc:d3 X (.builtin id) r)(hg:Gl X x)(hm:X.mg x=none)(hv:Uc x=some (.builtin id))(ha:PA X (e::es) t)(hn:x≠"__name__":=by decide)(hdb:(x ==("__debug__":Str))=false:=by decide)
  (he:SO (e::es) X.env=(false,Ta e X.env)::SO es X.env:=by rfl) (hpl:(UH pos (SO es X.env)).any (·.1)=false:=by rfl):PE X (.Call (.Name x p) (e::es) [] pos) (tCB r t):=by
 intro ac s σ H Q I h;refine T7 (j9 I hg hm hv ?_ hn hdb);exact Xj (thn (ha pos ac s σ H _ I h) λus s1 ⟨vs,H1,I1,r1,q1⟩=>hc ac s1 σ H1 vs us Q I1 r1 q1) he hpl
theorem ur(hc:d3 X (.type T) r)(hg:Gl X x)(hm:X.mg x=none)(hv:Uc x=some (.type T))(ha:PA X (e::es) t)(hn:x≠"__name__":=by decide)(hdb:(x ==("__debug__":Str))=false:=by decide)
  (he:SO (e::es) X.env=(false,Ta e X.env)::SO es X.env:=by rfl) (hpl:(UH pos (SO es X.env)).any (·.1)=false:=by rfl):PE X (.Call (.Name x p) (e::es) [] pos) (tCB r t):=by
 intro ac s σ H Q I h;refine T7 (j9 I hg hm hv ?_ hn hdb);exact TZ (thn (ha pos ac s σ H _ I h) λus s1 ⟨vs,H1,I1,r1,q1⟩=>hc ac s1 σ H1 vs us Q I1 r1 q1) he hpl
end
end L2
namespace HT
open PySem PyProof.Rows
variable {Q:Sl->So->Prop}{hi lo:Option Int}
section
variable{prog:SD}{w:SI}{A:SW}{E:Sl->So->Prop}{s:So}
theorem Fz{t b:Sn}{vs ws:List Sl}(ht:X6 s.heap t vs.toArray)(hb:X6 s.heap b ws.toArray)(hv:vs≠[])
  (h1:ws=[]->Q (.ref t) s) (h2:ws≠[]->Q (.ref s.heap.objs.size) {s with heap:=s.heap.push { cls:=.type "tuple",data:=.seq (vs++ws).toArray} })
  (hsz:vs.length+ws.length<=sizeLine):Sw (SG prog w) A (TU .Add (.ref t) (.ref b)) Q E s:=by
 obtain⟨⟨cls,dd,data,sl⟩,ho,hc,n,hd⟩:=id ht;obtain⟨⟨cls2,dd2,data2,sl2⟩,ho2,hc2,n2,hd2⟩:=id hb;simp only at hc hd hc2 hd2;subst hc hd hc2 hd2;have e:vs.toArray++ws.toArray=(vs++ws).toArray:=by simp
 by_cases hw:ws=[]
 ·exact WQ ⟨_,ho,rfl⟩ ⟨_,ho2,rfl⟩ VX WD U8 U5 (UX _ _)
   (tuple_addW1 t b vs.toArray ws.toArray n n2 dd dd2 sl sl2 (by simpa using hv) (by simp[hw])) ⟨ho,ho2,h1 hw⟩
 refine WQ ⟨_,ho,rfl⟩ ⟨_,ho2,rfl⟩ VX WD U8 U5 (UX _ _)
  (tuple_addW2 t b vs.toArray ws.toArray n n2 dd dd2 sl sl2 (by simpa using hv) (by simpa using hw) (by rw[j',j'];exact hsz)) ⟨ho,ho2,?_⟩
 rw[e];exact h2 hw
noncomputable def sIx(n d:Nat):Option Int->Nat
 |none=>d
 |some v=>if v<0 then(v+(n:Int)).toNat else min v.toNat n
theorem nS(n d:Nat):sIx n d none=d:=rfl
theorem lU(n d k:Nat):sIx n d (some (k:Int))=min k n:=by show(if(k:Int)<0 then((k:Int)+(n:Int)).toNat else min (k:Int).toNat n)=min k n;rw[if_neg (by lia),Pb]
theorem Jc(n d:Nat)(hd:d<=n)(o:Option Int):sIx n d o<=n:=by
 cases o with
 |none=>exact hd
 |some v=>
  show(if v<0 then(v+(n:Int)).toNat else min v.toNat n)<=n;by_cases hv:v<0
  ·rw[if_pos hv];lia
  rw[if_neg hv];exact Nat.min_le_right _ _
theorem yZ(v:Int)(n d:Nat):(if v<0 then max (v+(n:Int)) 0 else min v (n:Int))=((sIx n d (some v):Nat):Int):=by
 show(if v<0 then max (v+(n:Int)) 0 else min v (n:Int))=(((if v<0 then(v+(n:Int)).toNat else min v.toNat n):Nat):Int);by_cases hv:v<0
 ·simp only[if_pos hv];lia
 simp only[if_neg hv];lia
theorem yv(lo hi:Option Int)(n:Nat):UQ lo hi 1 (n:Int)=(((sIx n 0 lo:Nat):Int),((sIx n n hi:Nat):Int)):=by
 have h1:¬((1:Int)<0):=by lia
 unfold UQ;simp only[h1,if_false];refine D' ?_ ?_
 ·cases lo with
  |none=>rfl
  |some v=>exact yZ v n 0
 cases hi with
 |none=>rfl
 |some v=>exact yZ v n n
theorem xW(i j:Nat):Uk (i:Int) (j:Int) 1=j-i:=by
 unfold Uk;have h1:(1:Int) > 0:=by lia
 simp only[h1,if_true,Int.ediv_one];split <;> lia
theorem qH{v:Sl}{o:Option Int}{Q:Option Int->So->Prop}(p:VY v o)(h:Q o s):Sw (SG prog w) A (XB v) Q E s:=by
 cases p with
 |none=>exact XC h
 |int i t=>exact slicePart_int h
theorem oZ{sl:Sn}{vl vu:Sl}{n:Nat}{Q:Int×Int×Nat->So->Prop}(hs:s.heap.IsSliceOf sl vl vu .none)(pl:VY vl lo)(pu:VY vu hi)
  (h:Q (((sIx n 0 lo:Nat):Int),1,sIx n n hi-sIx n 0 lo) s):Sw (SG prog w) A (VH (.ref sl) (pure (n:Int))) Q E s:=by
 obtain⟨os,hos,hcs,hds⟩:=id hs;unfold VH X7;refine Sj (Sj (Tf hos hds (x:=vl) rfl (Sj (Tf hos hds (x:=vu) rfl (Sj (Tf hos hds (x:=.none) rfl (Ss ?_)))))));refine Sj (XC ?_);show Sw _ _ (if((1:Int) == 0)=true then _ else _) _ _ s;rw[if_neg (by decide)];refine Sj (qH pl (Sj (qH pu (Sj (Ss ?_)))));show Sw _ _ (match UQ lo hi 1 (n:Int)with|(lo,hi)=>pure (lo,(1:Int),Uk lo hi 1)) _ _ s;rw[yv lo hi n];show Sw _ _ (pure (((sIx n 0 lo:Nat):Int),(1:Int),Uk ((sIx n 0 lo:Nat):Int) ((sIx n n hi:Nat):Int) 1)) _ _ s;rw[xW];exact Ss h
theorem Dw(xs:Array Sl)(i k:Nat):((B' k).filterMap λ(m:Nat)=>xs[((i:Int)+(m:Int)*1).toNat]?).toArray=((xs.toList.drop i).take k).toArray:=by
 have e:(λ(m:Nat)=>xs[((i:Int)+(m:Int)*1).toNat]?)=λm=>xs[i+m]?:=by
  funext m;have:((i:Int)+(m:Int)*1).toNat=i+m:=by lia
  rw[this]
 rw[e];have:=pick_run xs i k;rw[List.filterMap_map]at this;have e2:((λx=>xs[x]?) ∘ λx=>i+x)=λm=>xs[i+m]?:=rfl;rw[e2]at this;rw[this]
theorem nA{t sl:Sn}{items:Array Sl}{vl vu:Sl}(ht:X6 s.heap t items)(hs:s.heap.IsSliceOf sl vl vu .none)(pl:VY vl lo)(pu:VY vu hi)
  (hw:¬(sIx items.size 0 lo=0/\sIx items.size items.size hi=items.size))
  (h:Q (.ref s.heap.objs.size) {s with heap:=s.heap.push { cls:=.type "tuple",data:=.seq ((items.toList.drop (sIx items.size 0 lo)).take (sIx items.size items.size hi-sIx items.size 0 lo)).toArray} })
  (hsz:items.size<=sizeLine):Sw (SG prog w) A (Vr (.ref t) (.ref sl)) Q E s:=by
 have htake:sizeOk (.seq ((items.toList.drop (sIx items.size 0 lo)).take (sIx items.size items.size hi-sIx items.size 0 lo)).toArray):=by show((items.toList.drop (sIx items.size 0 lo)).take (sIx items.size items.size hi-sIx items.size 0 lo)).toArray.size<=sizeLine;rw[j',p_,o_,l_];omega
 have hj:sIx items.size items.size hi<=items.size:=Jc _ _ (e_ _) hi;obtain⟨os,hos,hcs,hds⟩:=id hs;have hTs:s.TypeIs (.ref sl) "slice":=⟨os,hos,hcs⟩;unfold Vr
 try with_reducible refine SY ?_
 first|refine Sj (Ss ?_)|skip
 refine Sj (wpAny_sequenceKey ht.typeIs (by decide) ?_);refine Sj (Tu (name:=Ue "__getitem__") ht.typeIs Uy
  (Tp Uy ht.typeIs entry_tuple_getitem ?_ (args_tuple_getitem _ _)))
 show Sw _ _ (XX (.ref t) >>= _) _ _ s;refine Sj (tupleItemsOf_ ht ?_);refine Sj (WR hTs ?_);rw[if_pos (by decide)];refine Sj (oZ hs pl pu ?_);have hno:¬((((sIx items.size 0 lo:Nat):Int) == 0&&(1:Int) == 1&&(sIx items.size items.size hi-sIx items.size 0 lo) == items.size)=true):=by intro q;rw[L_,L_]at q;have q1:((sIx items.size 0 lo:Nat):Int)=0:=eq_of_beq q.1.1;have q2:sIx items.size items.size hi-sIx items.size 0 lo=items.size:=eq_of_beq q.2;exact hw ⟨by lia,by lia⟩
 show Sw _ _ (if(((sIx items.size 0 lo:Nat):Int) == 0&&(1:Int) == 1&&(sIx items.size items.size hi-sIx items.size 0 lo) == items.size)=true then _ else _) _ _ s;rw[if_neg hno,Dw]
 first
  |exact Sj (m:=Uq _) (TN (Ss ⟨_,rfl,Ss h⟩) htake)
  |exact Sj (m:=Uq _) (TN (Sj (Ss (Ss ⟨_,rfl,Ss h⟩))) htake)
  |exact Sj (Sj (m:=Uq _) (TN (Ss (Ss ⟨_,rfl,Ss h⟩)) htake))
  |exact Sj (Sj (m:=Uq _) (TN (Ss ⟨_,rfl,Ss h⟩) htake))
end
end HT
namespace L2
open PySem PySem.Spec PyProof.Rows
abbrev TO:=St->Hp->(Option Int->Hp->Prop)->Prop
noncomputable def PO(X:Cx)(e:Option SK)(t:TO):Prop:=
 ∀(ac:List (Sn×Obj)) (s:So) (σ:St) (H:Hp) (Q:Option Int->Hp->Prop),Inv X ac σ H s->t σ H Q->
  Sw (SG X.prog X.w) X.A (evalPart e X.env) (λu s'=>∃o H',Inv X ac σ H' s'/\VY u o/\Q o H') X.xe s
noncomputable def EI:TO:=λ_ H Q=>Q none H
noncomputable def M5(t:TE):TO:=λσ H Q=>t σ H λx H1=>∃i,x=.int i/\Q (some i) H1
variable {us:List Sl}
section
variable{X:Cx}{e:SK}{te:TE}{lo hi:Option SK}{tl th:TO}{pos p2:Pos}
theorem zP:PO X none EI:=by intro ac s σ H Q I h;rw[XY];exact Ss ⟨none,H,I,.none,h⟩
theorem zr(h:PE X e te):PO X (some e) (M5 te):=by intro ac s σ H Q I hw;rw[evalPart_some];refine thn (h ac s σ H _ I hw) ?_;rintro u s1 ⟨x,H1,I1,r1,q1⟩;obtain⟨i,rfl,q⟩:=q1;obtain⟨t,rfl⟩:=r1;exact⟨some i,H1,I1,.int i t,q⟩
def SlR(X:Cx)(r:V->Option Int->Option Int->Hp->VK->Prop):Prop:=
 ∀(ac:List (Sn×Obj)) (s:So) (σ:St) (H:Hp) (x:V) (v vl vu:Sl) (lo hi:Option Int) (sl:Sn) (Q:VK),Inv X ac σ H s->RelV x v->s.heap.IsSliceOf sl vl vu .none->VY vl lo->VY vu hi->r x lo hi H Q->
  ∃T id,Ww (.type T) "__getitem__"=pure (some (.builtin id))/\s.TypeIs v T/\Sw (SG X.prog X.w) X.A (Vr v (.ref sl)) (EP X ac σ Q) X.xe s
noncomputable def tSl(r:V->Option Int->Option Int->Hp->VK->Prop)(te:TE)(tl th:TO):TE:=λσ H Q=>te σ H λx H1=>tl σ H1 λl H2=>th σ H2 λu H3=>r x l u H3 Q
theorem xQ{r:V->Option Int->Option Int->Hp->VK->Prop}(hr:SlR X r)(he:PE X e te)(hl:PO X lo tl)(hu:PO X hi th):PE X (.Subscript e (.Slice lo hi none p2) pos) (tSl r te tl th):=by intro ac s σ H Q I h;refine Xk (thn (he ac s σ H _ I h) ?_);rintro v s1 ⟨x,H1,I1,r1,q1⟩;refine wpAny_Slice (thn (hl ac s1 σ H1 _ I1 q1) λvl s2 ⟨l,H2,I2,pl,q2⟩=>thn (hu ac s2 σ H2 _ I2 q2) ?_);rintro vu s3 ⟨u,H3,I3,pu,q3⟩;rw[XY];refine Ss ?_;have I4:Inv X ac σ H3 {s3 with heap:=s3.heap.push { cls:=.type "slice",data:=.fields #[vl,vu,.none] } }:=I3.kept (t':=s3.toks) λb ob q=>Sr _ q;obtain⟨T,id,hT,ht,hg⟩:=hr ac {s3 with heap:=s3.heap.push { cls:=.type "slice",data:=.fields #[vl,vu,.none] } } σ H3 x v vl vu l u s3.heap.objs.size Q I4 r1 (YI ..) pl pu q3;show Sw (SG X.prog X.w) X.A (Vc e (.Slice lo hi none p2) v (.ref s3.heap.objs.size)) (EP X ac σ Q) X.xe {s3 with heap:=s3.heap.push { cls:=.type "slice",data:=.fields #[vl,vu,.none] } };exact tail_any (ops:=[.ref s3.heap.objs.size,v]) ht hT hg (by with_unfolding_all rfl)
def lB(xs:List V)(lo hi:Option Int):List V:=(xs.drop (HT.sIx xs.length 0 lo)).take (HT.sIx xs.length xs.length hi-HT.sIx xs.length 0 lo)
theorem pM(xs:List V)(lo hi:Option Int):(lB xs lo hi).length<=xs.length:=by unfold lB;rw[p_,o_];lia
def Mq(K:Sm):V->Option Int->Option Int->Hp->VK->Prop:=λx lo hi H Q=>∃a xs,x=.ref a/\SqT K H a xs/\
 ¬(HT.sIx xs.length 0 lo=0/\HT.sIx xs.length xs.length hi=xs.length)/\∀p,H p=none->Q (.ref p) (upd H p (.tup (lB xs lo hi)))
theorem JN:SlR X (Mq X.K):=by
 intro ac s σ H x v vl vu lo hi sl Q I rx hs pl pu h;obtain⟨a,xs,rfl,hx,hw,q⟩:=h;cases rx;obtain⟨ap,r,ht,hz⟩:=I.tuple hx;have hlen:ap.toArray.size=xs.length:=by rw[j'];exact r.length.symm
 refine⟨"tuple",_,Uy.lookup,ht.typeIs,?_⟩;refine HT.nA ht hs pl pu (by rw[hlen];exact hw) ?_ (by rw[hlen];exact hz);rw[hlen];refine⟨.ref s.heap.objs.size,_,I.laid (t':=s.toks) (o:=.tup (lB xs lo hi)) (λb ob q=>Sr _ q) (e_ _) ?_,rfl,q _ (I.hok.fresh (e_ _))⟩;exact⟨r_ (pM xs lo hi) hz,_,(r.drop (HT.sIx xs.length 0 lo)).take (HT.sIx xs.length xs.length hi-HT.sIx xs.length 0 lo),WM _ _⟩
def Ke(K:Sm):R2:=λx y H Q=>∃a b xs ys,x=.ref a/\y=.ref b/\SqT K H a xs/\SqT K H b ys/\xs≠[]/\xs.length+ys.length<=sizeLine/\
 (ys=[]->Q (.ref a) H)/\(ys≠[]->∀p,H p=none->Q (.ref p) (upd H p (.tup (xs++ys))))
theorem Vals.vx {xs:List V}(r:Vals xs us):us=[]↔xs=[]:=by
 cases r with
 |nil=>simp
 |cons _ _=>simp
theorem Gf:OpR X (TU .Add) (Ke X.K):=by intro ac s σ H x y v u Q I rx ry h;obtain⟨a,b,xs,ys,rfl,rfl,ha,hb,hx,hz,q1,q2⟩:=h;cases rx;cases ry;obtain⟨ap,r1,p1,_⟩:=I.tuple ha;obtain⟨its2,r2,p2,_⟩:=I.tuple hb;refine HT.Fz p1 p2 (λz=>hx (r1.vx.mp z)) (λz=>⟨.ref a,H,I,rfl,q1 (r2.vx.mp z)⟩) (λz=>?_) (by rw[<-r1.length,<-r2.length];exact hz);refine⟨.ref s.heap.objs.size,_,I.laid (t':=s.toks) (o:=.tup (xs++ys)) (λb ob q=>Sr _ q) (e_ _) ?_,rfl,q2 (λw=>z (r2.vx.mpr w)) _ (I.hok.fresh (e_ _))⟩;exact⟨by rw[c_];exact hz,_,r1.append r2,WM _ _⟩
theorem pS:d3 X (.type "tuple") (λxs H Q=>∃a ys,xs=[.ref a]/\SqT X.K H a ys/\Q (.ref a) H):=by intro ac s σ H xs us Q I r h;obtain⟨a,ys,rfl,ha,q⟩:=h;obtain⟨u,rfl,ru⟩:=vals1 r;cases ru;obtain⟨ap,_,p1,_⟩:=I.tuple ha;exact Xl (items:=ap.toArray) p1 ⟨.ref a,H,I,rfl,q⟩
end
noncomputable def ixN(n:Nat)(i:Int):Option Nat:=if 0<=i then(if i<n then some i.toNat else none)else if -(n:Int)<=i then some (i+n).toNat else none
variable {α:Type}
def atI(xs:List α)(i:Int):Option α:=(ixN xs.length i).bind λj=>xs[j]?
variable {n:Nat}
theorem vz{i:Int}{j:Nat}(h:ixN n i=some j):seqIndex? i n=some j/\j<n/\-(n:Int)<=i/\i<n:=by
 unfold ixN at h;by_cases h0:0<=i
 ·rw[if_pos h0]at h;by_cases h1:i<n
  ·rw[if_pos h1]at h;have e:i.toNat=j:=L' h;exact⟨by rw[W_ h0 h1,e],by lia,by lia,h1⟩
  rw[if_neg h1]at h;cases h
 rw[if_neg h0]at h;by_cases h1:-(n:Int)<=i
 ·rw[if_pos h1]at h;have e:(i+n).toNat=j:=L' h;exact⟨by rw[WS (by lia) h1,e],by lia,h1,by lia⟩
 rw[if_neg h1]at h;cases h
theorem vw{xs:List α}{i:Int}{v:α}(h:atI xs i=some v):∃j,seqIndex? i xs.length=some j/\xs[j]?=some v/\j<xs.length/\-(xs.length:Int)<=i/\i<xs.length:=by
 unfold atI at h;cases e:ixN xs.length i with
 |none=>rw[e]at h;cases h
 |some j=>
  rw[e]at h;obtain⟨h1,h2,h3,h4⟩:=vz e;exact⟨j,h1,h,h2,h3,h4⟩
theorem qC{xs:List α}{j:Nat}{v:α}(h:xs[j]?=some v):atI xs (j:Int)=some v:=by
 have hj:j<xs.length:=(gV.mp h).1;have e:ixN xs.length (j:Int)=some j:=by unfold ixN;rw[if_pos (by lia),if_pos (by lia)];simp
 unfold atI;rw[e];exact h
noncomputable def zX(b:SK):Prop:=∀o i,Vu b false o i=Ys [o,i] (Vr o i)
def IxR(X:Cx)(r:R2):Prop:=
 ∀(value slice:SK) (ac:List (Sn×Obj)) (s:So) (σ:St) (H:Hp) (x y:V) (v u:Sl) (Q:VK),Inv X ac σ H s->RelV x v->RelV y u->r x y H Q->
  Vu slice false v u=Ys [v,u] (Vr v u)->Sw (SG X.prog X.w) X.A (Vc value slice v u) (EP X ac σ Q) X.xe s
def MtR(X:Cx)(id:String)(r:V->List V->Hp->VK->Prop):Prop:=
 ∀(ac:List (Sn×Obj)) (s:So) (σ:St) (H:Hp) (x:V) (xs:List V) (v:Sl) (us:List Sl) (Q:VK),Inv X ac σ H s->RelV x v->Vals xs us->r x xs H Q->
  Sw (SG X.prog X.w) X.A (call (.builtin id) (v::us)) (EP X ac σ Q) X.xe s
variable {H:Hp}{ap its':List Sl}{ac:List (Sn×Obj)}{s:So}{σ:St}
section
variable{X:Cx}{a b:SK}{ta tb:TE}{pos:Pos}
theorem IxR.or {r r':R2}(h:IxR X r)(h':IxR X r'):IxR X (λx y H Q=>r x y H Q\/r' x y H Q):=by
 intro value slice ac s σ H x y v u Q I rx ry q hs;rcases q with q|q
 ·exact h value slice ac s σ H x y v u Q I rx ry q hs
 exact h' value slice ac s σ H x y v u Q I rx ry q hs
theorem Hm{r:R2}(hr:IxR X r)(ha:PE X a ta)(hb:PE X b tb)(hs:zX b):PE X (.Subscript a b pos) (tOp r ta tb):=by intro ac s σ H Q I h;exact Xk (Jm ha hb I h λv u s2 x y H2 I2 rx ry q=>hr a b ac s2 σ H2 x y v u Q I2 rx ry q (hs _ _))
def Ki(K:Sm):R2:=λx y H Q=>∃p xs i v,x=.ref p/\y=.int i/\SqL K H p xs/\atI xs i=some v/\Q v H
def Le(K:Sm):R2:=λx y H Q=>∃p xs i v,x=.ref p/\y=.int i/\SqT K H p xs/\atI xs i=some v/\Q v H
def Ma:R2:=λx y H Q=>∃z i c,x=.str z/\y=.int i/\z.length<=sizeLine/\atI z.cps.toList i=some c/\Q (.str ⟨#[c]⟩) H
theorem zN:IxR X (Ki X.K):=by
 intro value slice ac s σ H x y v u Q I rx ry h hs;obtain⟨p,xs,i,z,rfl,rfl,hq,he,q⟩:=h;cases rx;obtain⟨t,rfl⟩:=ry;obtain⟨ap,r,pl,hz⟩:=I.list hq;obtain⟨j,h1,h2,h3,h4,h5⟩:=vw he;obtain⟨w,ew,rw'⟩:=r.get h2;have hl:=r.length;have hn:=n8;have fin:EP X ac σ Q w s:=⟨z,H,I,rw',q⟩;by_cases h0:0<=i
 ·have hj:i.toNat=j:=by rw[W_ h0 h5]at h1;exact L' h1
  exact item_listR pl.isList h0 (by lia) (by rw[hj];simpa using ew) fin hs
 have hj:(i+(ap.toArray.size:Int)).toNat=j:=by rw[WS (by lia) h4]at h1;rw[j',<-hl];exact L' h1
 exact Wf (x:=w) pl.isList.typeIs slot_list_getitem.lookup
  (wpAny_getItem_list_neg (Q:=λr s'=>r=w/\EP X ac σ Q r s') pl.isList (by lia) (by rw[j'] <;> lia) (by lia) (by rw[hj];simpa using ew) ⟨rfl,fin⟩) hs
theorem IV:IxR X (Le X.K):=by
 intro value slice ac s σ H x y v u Q I rx ry h hs;obtain⟨p,xs,i,z,rfl,rfl,hq,he,q⟩:=h;cases rx;obtain⟨t,rfl⟩:=ry;obtain⟨ap,r,pl,hz⟩:=I.tuple hq;obtain⟨j,h1,h2,h3,h4,h5⟩:=vw he;obtain⟨w,ew,rw'⟩:=r.get h2;have hl:=r.length;have hn:=n8;have fin:EP X ac σ Q w s:=⟨z,H,I,rw',q⟩;exact Wf (x:=w) pl.typeIs slot_tuple_getitem.lookup
  (getItem_tuple (j:=j) (Q:=λr s'=>r=w/\EP X ac σ Q r s') pl (by lia) (by lia) (by rw[j',<-hl];exact h1) (by simpa using ew) ⟨rfl,fin⟩) hs
theorem CN:IxR X Ma:=by
 intro value slice ac s σ H x y v u Q I rx ry h hs;obtain⟨z,i,c,rfl,rfl,hz,he,q⟩:=h;obtain⟨t,rfl⟩:=rx;obtain⟨t',rfl⟩:=ry;obtain⟨j,h1,h2,h3,h4,h5⟩:=vw he;have hl:z.cps.toList.length=z.length:=by simp[Str.length]
 rw[hl]at h1 h4 h5;have hn:=n8;exact tail_any (typeIs_str s z t) slot_str_getitem.lookup (getItem_str (c:=c) (by have e1:decide (i < -(2 ^ 63:Int))=false:=decide_eq_false (by lia);have e2:decide (i>=2 ^ 63)=false:=decide_eq_false (by lia);rw[e1,e2,Rc]) (by rw[h1];simpa using h2) ⟨.str ⟨#[c]⟩,H,I.tok _,⟨_,rfl⟩,q⟩) hs
def rIx(K:Sm):R2:=λx y H Q=>Ki K x y H Q\/Le K x y H Q\/Ma x y H Q
theorem Jf:IxR X (rIx X.K):=zN.or (IV.or CN)
theorem yV(ap:List Sl)(n j:Nat)(u:Sl):SN (·.setIfInBounds j u) { cls:=.type "list",data:=.seq ap.toArray n}={ cls:=.type "list",data:=.seq (ap.set j u).toArray n}:=by simp[SN]
theorem Inv.lst {ac:List (Sn×Obj)}{σ:St}{H:Hp}{s:So}{p:Sn}{xs:List V}(I:Inv X ac σ H s)(h:H p=some (.lst xs)) :
  ∃(ap:List Sl) (n:Nat),Vals xs ap/\s.heap.get? p=some { cls:=.type "list",data:=.seq ap.toArray n}/\xs.length<=sizeLine:=by
 obtain⟨z,ap,n,r,e⟩:=I.hok p _ h;exact⟨ap,n,r,e,z⟩
theorem Inv.JV {p:Sn}{xs ys:List V}{n':Nat}{f:Obj->Obj}(I:Inv X ac σ H s)(h:H p=some (.lst xs))
  (ho:s.heap.get? p=some { cls:=.type "list",data:=.seq ap.toArray n}) (hf:f { cls:=.type "list",data:=.seq ap.toArray n}={ cls:=.type "list",data:=.seq its'.toArray n'}) (r:Vals ys its') (hz:ys.length<=sizeLine) (t:Nat) :
  Inv X ac σ (upd H p (.lst ys)) {s with heap:=s.heap.update p f,toks:=t}:=by
 have e:(s.heap.update p f).get? p=some { cls:=.type "list",data:=.seq its'.toArray n'}:=by rw[Tg f ho (by rw[hf] <;> rfl),hf]
 refine I.write (x:=p) (e:=p) (by rw[h];trivial) (.inl rfl) (λb u hb q=>(SU _ _ (TR hb)).trans q) ⟨_,e⟩ ?_;exact⟨hz,its',n',r,e⟩
def K5:V->V->V->Hp->(Hp->Prop)->Prop:=λo i v H Q=>∃p xs k j,o=.ref p/\i=.int k/\H p=some (.lst xs)/\ixN xs.length k=some j/\Q (upd H p (.lst (xs.set j v)))
theorem set_list:yQ X K5:=by
 intro ac s σ H o i v ov iv u Q I ro ri rv h;obtain⟨p,xs,k,j,rfl,rfl,hp,hj,q⟩:=h;cases ro;obtain⟨t,rfl⟩:=ri;obtain⟨ap,n,r,ho,hz⟩:=I.lst hp;obtain⟨h1,h2,h3,h4⟩:=vz hj;have hl:=r.length;have hn:=n8;have I':Inv X ac σ (upd H p (.lst (xs.set j v))) {s with heap:=s.heap.update p (SN (·.setIfInBounds j u)) }:=
  I.JV hp ho (yV ap n j u) (r.set rv j) (by rw[Nf];exact hz) s.toks
 by_cases h0:0<=k
 ·have hk:k.toNat=j:=by rw[W_ h0 h4]at h1;exact L' h1
  exact PySem.W.ki_setAt ho h0 (by lia) (by rw[j',<-hl];exact h4) (by rw[hk];exact⟨_,I',q⟩)
 have hk:(k+(ap.toArray.size:Int)).toNat=j:=by rw[WS (by lia) h3]at h1;rw[j',<-hl];exact L' h1
 exact PySem.W.ki_setBack ho (by lia) (by rw[j',<-hl];exact h3) (by lia) (by rw[hk];exact⟨_,I',q⟩)
theorem vm(lo hi:Option Int)(n:Nat):(UN lo hi none n).1=((HT.sIx n 0 lo:Nat):Int)/\(UN lo hi none n).2.1=((HT.sIx n n hi:Nat):Int)/\(UN lo hi none n).2.2=1:=by
 refine⟨?_,?_,rfl⟩
 ·cases lo with
  |none=>simp[UN,HT.sIx]
  |some i=>
   simp only[UN,HT.sIx,RB,show(1:Int) > 0 by decide,if_true];by_cases h:i<0
   ·simp only[h,if_true] <;> lia
   simp only[h,if_false] <;> lia
 cases hi with
 |none=>simp[UN,HT.sIx]
 |some i=>
  simp only[UN,HT.sIx,RB,show(1:Int) > 0 by decide,if_true];by_cases h:i<0
  ·simp only[h,if_true] <;> lia
  simp only[h,if_false] <;> lia
theorem sZ(ap:List Sl)(lo hi:Option Int):slicePick ap.toArray lo hi none=((ap.drop (HT.sIx ap.length 0 lo)).take (HT.sIx ap.length ap.length hi-HT.sIx ap.length 0 lo)).toArray:=by obtain⟨h1,h2,h3⟩:=vm lo hi ap.toArray.size;unfold slicePick;rw[h1,h2,h3];simp only[sliceRange_one,pick_run,j'] <;> rfl
def MK(K:Sm):V->Option Int->Option Int->Hp->VK->Prop:=λx lo hi H Q=>∃a xs,x=.ref a/\SqL K H a xs/\∀p,H p=none->Q (.ref p) (upd H p (.lst (lB xs lo hi)))
theorem Aa:SlR X (MK X.K):=by intro ac s σ H x v vl vu lo hi sl Q I rx hs pl pu h;obtain⟨a,xs,rfl,hx,q⟩:=h;cases rx;obtain⟨ap,r,ht,hz⟩:=I.list hx;have hlen:=r.length;refine⟨"list",_,slot_list_getitem.lookup,ht.isList.typeIs,?_⟩;refine wpAny_getItem_list_slice ht.isList hs pl pu .none (by simp) ?_ (by rw[j'] <;> lia);rw[sZ,<-hlen];refine⟨.ref s.heap.objs.size,_,I.laid (t':=s.toks) (o:=.lst (lB xs lo hi)) (λb ob q=>Sr _ q) (e_ _) ?_,rfl,q _ (I.hok.fresh (e_ _))⟩;exact⟨r_ (pM xs lo hi) hz,_,0,(r.drop (HT.sIx xs.length 0 lo)).take (HT.sIx xs.length xs.length hi-HT.sIx xs.length 0 lo),SF _ rfl⟩
theorem nD:d3 X (.builtin "len") (λxs H Q=>∃p ys,xs=[.ref p]/\(SqL X.K H p ys\/SqT X.K H p ys)/\Q (.int ys.length) H):=by
 intro ac s σ H xs us Q I r h;obtain⟨p,ys,rfl,hq,q⟩:=h;obtain⟨u,rfl,rx⟩:=vals1 r;cases rx;have hn:=n8;rcases hq with hq|hq
 ·obtain⟨ap,r',pl,hz⟩:=I.list hq;have hlen:=r'.length;exact Calls.call_len_list pl.isList (by simp only[j'] <;> lia) ⟨.int ys.length,H,I.tok _,⟨s.toks+1,by rw[j',hlen]⟩,q⟩
 obtain⟨ap,r',pl,hz⟩:=I.tuple hq;have hlen:=r'.length;exact len_tuple pl (by simp only[j'] <;> lia) ⟨.int ys.length,H,I.tok _,⟨s.toks+1,by rw[j',hlen]⟩,q⟩
theorem uR:d3 X (.builtin "len") (λxs H Q=>∃z,xs=[.str z]/\z.length<=sizeLine/\Q (.int z.length) H):=by intro ac s σ H xs us Q I r h;obtain⟨z,rfl,hz,q⟩:=h;obtain⟨u,rfl,t,rfl⟩:=vals1 r;have hn:=n8;exact len_str (by lia) ⟨.int z.length,H,I.tok _,⟨_,rfl⟩,q⟩
theorem vh:d3 X (.type "list") (λxs H Q=>∃p ys,xs=[.ref p]/\(SqL X.K H p ys\/SqT X.K H p ys)/\∀l,H l=none->Q (.ref l) (upd H l (.lst ys))):=by
 intro ac s σ H xs us Q I r h;obtain⟨p,ys,rfl,hq,q⟩:=h;obtain⟨u,rfl,rx⟩:=vals1 r;cases rx;have fin:∀(ap:List Sl),Vals ys ap->ys.length<=sizeLine->∀(h':SJ) (c':Nat),(∀b o',s.heap.get? b=some o'->h'.get? b=some o')->
   h'.get? s.heap.objs.size=some { cls:=.type "list",dict:=none,data:=.seq ap.toArray c',slots:=#[] }->EP X ac σ Q (.ref s.heap.objs.size) {s with heap:=h'}:=λap r' hz h' c' kp e=>
  ⟨.ref s.heap.objs.size,_,I.laid (t':=s.toks) kp (e_ _) (show f7 X.prog X.w _ h' _ (.lst ys)from⟨hz,ap,c',r',e⟩),rfl,q _ (I.hok.fresh (e_ _))⟩
 rcases hq with hq|hq
 ·obtain⟨ap,r',pl,hz⟩:=I.list hq;have hlen:=r'.length;obtain⟨o,ho,hc,n,hd⟩:=pl.isList;exact XZ p (.inl rfl) ho hc hd (λh' c' kp e=>fin ap r' hz h' c' kp e) (by simp only[j'] <;> lia)
 obtain⟨ap,r',pl,hz⟩:=I.tuple hq;have hlen:=r'.length;obtain⟨o,ho,hc,n,hd⟩:=pl;exact XZ p (.inr rfl) ho hc hd (λh' c' kp e=>fin ap r' hz h' c' kp e) (by simp only[j'] <;> lia)
theorem sV:d3 X (.type "tuple") (λxs H Q=>∃p ys,xs=[.ref p]/\((SqL X.K H p ys/\∀l,H l=none->Q (.ref l) (upd H l (.tup ys)))\/(SqT X.K H p ys/\Q (.ref p) H))):=by
 intro ac s σ H xs us Q I r h;obtain⟨p,ys,rfl,h⟩:=h;obtain⟨u,rfl,rx⟩:=vals1 r;cases rx;rcases h with⟨hq,q⟩|⟨hq,q⟩
 ·obtain⟨ap,r',pl,hz⟩:=I.list hq;have hlen:=r'.length;refine call_tuple_list pl.isList (λh' kp=>?_) (by simp only[j'] <;> lia);have I1:Inv X ac σ H {s with heap:=h'}:=I.kept (t':=s.toks) kp;have I2:Inv X ac σ (upd H h'.objs.size (.tup ys)) {s with heap:=h'.push { cls:=.type "tuple",data:=.seq ap.toArray} }:=
   I1.laid (t':=s.toks) (λb o e=>Sr _ e) (e_ _) (show f7 X.prog X.w _ _ _ (.tup ys)from⟨hz,ap,r',WM _ _⟩)
  exact⟨.ref h'.objs.size,_,I2,rfl,q _ (I1.hok.fresh (e_ _))⟩
 obtain⟨ap,r',pl,hz⟩:=I.tuple hq;exact Xl pl ⟨.ref p,H,I,rfl,q⟩
def tyV(K:Sm)(T:String)(x:V)(H:Hp):Prop:=match x with
 | .str _=>T="str"
 | .int _=>T="int"
 | .ref p=>(T="list"/\∃xs,SqL K H p xs)\/(T="tuple"/\∃o,K.lookup p=some o/\o.cls=.type "tuple"/\o.dict=none)\/
   (T="dict"/\((∃al,H p=some (.dK al))\/∃al,H p=some (.dT al)))\/(T="set"/\∃S n,H p=some (.set S n))
 | _=>False
theorem BZ{T:String}{x:V}{v:Sl}(I:Inv X ac σ H s)(r:RelV x v)(ty:tyV X.K T x H) :
  s.TypeIs v T/\∀a,v=.ref a->∃ob,s.heap.get? a=some ob/\ob.dict=none:=by
 cases x with
 |str z=>
  obtain⟨t,rfl⟩:=r;cases (show T="str" from ty);exact⟨typeIs_str s z t,λ_ e=>nomatch e⟩
 |int i=>
  obtain⟨t,rfl⟩:=r;cases (show T="int" from ty);exact⟨VP s i t,λ_ e=>nomatch e⟩
 |ref p=>
  cases r;rcases ty with⟨rfl,xs,hq⟩|⟨rfl,o,hk,hc,hd⟩|⟨rfl,hk⟩|⟨rfl,S,n,hk⟩
  ·obtain⟨ap,_,pl,_⟩:=I.list hq;refine⟨pl.isList.typeIs,λa e=>?_⟩;cases e;obtain⟨o,n,e,c,hd,_⟩:=pl;exact⟨o,e,hd⟩
  ·refine⟨⟨o,I.kIn p o hk,hc⟩,λa e=>?_⟩;cases e;exact⟨o,I.kIn _ o hk,hd⟩
  ·have z:∃o,s.heap.get? p=some o/\o.ExactDict:=by
    rcases hk with⟨al,hk⟩|⟨al,hk⟩
    ·obtain⟨_,_,_,_,o,_,_,e,ex,_⟩:=I.hok p _ hk;exact⟨o,e,ex⟩
    obtain⟨_,_,_,_,o,_,_,e,ex,_⟩:=I.hok p _ hk;exact⟨o,e,ex⟩
   obtain⟨o,e,ex⟩:=z;refine⟨⟨o,e,ex.1⟩,λa e2=>?_⟩;cases e2;exact⟨o,e,ex.2.1⟩
  ·obtain⟨o,_,_,_,e,ex,_⟩:=I.hok p _ hk;refine⟨⟨o,e,ex.1⟩,λa e2=>?_⟩;cases e2;exact⟨o,e,ex.2.1⟩
 | _=>exact SQ ty
def Mw(K:Sm)(T:String)(r:V->List V->Hp->VK->Prop)(to:TE):TE:=λσ H Q=>to σ H λx H1=>tyV K T x H1/\r x [] H1 Q
def tBM(K:Sm)(T:String)(r:V->List V->Hp->VK->Prop)(to:TE)(t:TA):TE:=λσ H Q=>to σ H λx H1=>tyV K T x H1/\t σ H1 λxs H2=>r x xs H2 Q
variable{o e:SK}{es:List SK}{to:TE}{t:TA}{name:Str}{apos ld:Pos}{T id:String}{r:V->List V->Hp->VK->Prop}
theorem Ie(pa:PlainAttrs T)(slot:Slot T name id)(hty:X_ (.builtin id)=pure (.type "method_descriptor"))(hm:MtR X id r)(ho:PE X o to)
  (hbase:VI o name X.env (Ta o X.env)=Ta o X.env:=by rfl) (hline:(apos.endLine == ld.line)=true:=by rfl):PE X (.Call (.Attribute o name apos) [] [] ld) (Mw X.K T r to):=by
 intro ac s σ H Q I h;refine wpAny_Call_method0_late hbase hline (thn (ho ac s σ H _ I h) ?_);rintro v s1 ⟨x,H1,I1,r1,ty,q1⟩;obtain⟨h1,h2⟩:=BZ I1 r1 ty;exact⟨T,id,pa,slot,hty,h1,h2,Wg rfl (PySem.evalArgs_none (hm ac s1 σ H1 x [] v [] Q I1 r1 .nil q1))⟩
theorem LM(pa:PlainAttrs T)(slot:Slot T name id)(hty:X_ (.builtin id)=pure (.type "method_descriptor"))(hm:MtR X id r)(ho:PE X o to)(ha:PA X (e::es) t)
  (hbase:VI o name X.env (Ta o X.env)=Ta o X.env:=by rfl)
  (hfew:((UH ld (SO (e::es) X.env)).all (λx=>!x.1)&&(backToKw ld (Yn [] X.env)).all (λx=>x.1.isSome)
   && decide ((e::es).length+([]:List XD).length+(if([]:List XD).isEmpty then 0 else 1)<30))=true:=by rfl)
  (hline:(apos.endLine == ld.line)=true:=by rfl) (hs:SO (e::es) X.env=(false,Ta e X.env)::SO es X.env:=by rfl) (hplain:(UH ld (SO es X.env)).any (·.1)=false:=by rfl) :
  PE X (.Call (.Attribute o name apos) (e::es) [] ld) (tBM X.K T r to t):=by
 intro ac s σ H Q I h;refine wpAny_Call_method_late hbase hfew hline rfl (thn (ho ac s σ H _ I h) ?_);rintro v s1 ⟨x,H1,I1,r1,ty,q1⟩;obtain⟨h1,h2⟩:=BZ I1 r1 ty;refine⟨T,id,pa,slot,hty,h1,h2,?_⟩;have hA:=ha ld ac s1 σ H1 _ I1 q1;rw[hs]at hA ⊢;refine Wg (by show(false || (UH ld (SO es X.env)).any (·.1))=false;rw[hplain] <;> rfl) (Calls.evalArgs_plain ?_);exact thn hA λus s2 ⟨vs,H2,I2,r2,q2⟩=>hm ac s2 σ H2 x vs v us Q I2 r1 r2 q2
end
def MtM(X:Cx)(id:String)(r:V->List V->Hp->VK->Prop):Prop:=
 ∀(ac:List (Sn×Obj)) (s:So) (σ:St) (H:Hp) (x:V) (xs:List V) (v:Sl) (us:List Sl) (Q:VK),Inv X ac σ H s->RelV x v->Vals xs us->r x xs H Q->
  Sw (SG X.prog X.w) X.A (call (.builtin id) (v::us)) (EP X ac σ Q) X.xe s
theorem Vals.one:∀{x:V}{us:List Sl},Vals [x] us->∃u,us=[u]/\RelV x u:=by
 intro x us h;cases h with
 |cons r t=>cases t;exact⟨_,rfl,r⟩
theorem Vals.zero:∀{us:List Sl},Vals [] us->us=[]
 | _,.nil=>rfl
theorem Vals.reverse {xs:List V}(h:Vals xs us):Vals xs.reverse us.reverse:=by
 induction h with
 |nil=>exact .nil
 |cons r t ih=>rw[N4,N4];exact Vals.append ih (.cons r .nil)
variable {t':Nat}
section
variable{X:Cx}{ac:List (Sn×Obj)}{σ:St}{H:Hp}{s:So}{l b:Sn}{xs ys zs:List V}
theorem Inv.Js {f:Array Sl->Array Sl}(I:Inv X ac σ H s)(hH:H l=some (.lst xs))
  (e:s.heap.get? l=some { cls:=.type "list",data:=.seq ap.toArray n}) (hf:f ap.toArray=its'.toArray) (hv:Vals ys its') (hz:ys.length<=sizeLine) :
  Inv X ac σ (upd H l (.lst ys)) {s with heap:=s.heap.update l (SN f),toks:=t'}:=by
 have q:=YR e f;rw[hf]at q;refine I.write (x:=l) (e:=l) (by rw[hH];exact trivial) (.inl rfl) (λb' u hb hu=>(SU s.heap (SN f) (TR hb)).trans hu) ⟨_,q⟩ ?_;exact⟨hz,its',_,hv,q⟩
theorem Inv.MO (I:Inv X ac σ H s)(hv:Vals ys ap)(hz:ys.length<=sizeLine) :
  Inv X ac σ (upd H s.heap.objs.size (.lst ys)) {s with heap:=s.heap.push { cls:=.type "list",data:=.seq ap.toArray},toks:=t'}:=
 I.laid (λ_ _ q=>Sr _ q) (e_ _) ⟨hz,ap,0,hv,SF _ rfl⟩
theorem Inv.fresh (I:Inv X ac σ H s):H s.heap.objs.size=none:=I.hok.fresh (e_ _)
theorem Inv.EN (I:Inv X ac σ H s)(hH:H l=some (.lst xs)):xs.length<=sizeLine/\∃(ap:List Sl) (n:Nat),Vals xs ap/\xs.length=ap.length/\s.heap.get? l=some { cls:=.type "list",data:=.seq ap.toArray n}:=by obtain⟨z,ap,n,r,e⟩:=I.hok l _ hH;exact⟨z,ap,n,r,r.length,e⟩
theorem BL(h:n<=sizeLine):UY n=false:=by unfold UY;exact decide_eq_false (by lia)
end
section
variable{X:Cx}
def EB:V->List V->Hp->VK->Prop:=λx vs H Q=>∃l xs y,x=.ref l/\vs=[y]/\H l=some (.lst xs)/\xs.length<sizeLine/\Q .non (upd H l (.lst (xs++[y])))
theorem oR:MtM X "list.append" EB:=by intro ac s σ H x vs v us Q I rx rv h;obtain⟨l,xs,y,rfl,rfl,hH,hz,q⟩:=h;cases rx;obtain⟨u,rfl,ru⟩:=rv.one;obtain⟨z,ap,n,r,hl,e⟩:=I.EN hH;refine Xm F.slot_list_append ⟨_,e,rfl⟩ F.entry_list_append (F.args_list_append_2 _ _) (PySem.list_append l ap.toArray n u (by rw[j'];lia)) ⟨e,?_⟩;refine⟨.non,_,I.Js (its':=ap++[u]) hH e (by simp) (r.append (.cons ru .nil)) ?_,rfl,q⟩;rw[c_,List.length_singleton];lia
def FE:V->List V->Hp->VK->Prop:=λx vs H Q=>∃l b xs zs,x=.ref l/\vs=[.ref b]/\H l=some (.lst xs)/\H b=some (.lst zs)/\xs.length+zs.length<=sizeLine/\Q .non (upd H l (.lst (xs++zs)))
theorem Bn:MtM X "list.extend" FE:=by
 intro ac s σ H x vs v us Q I rx rv h;obtain⟨l,b,xs,zs,rfl,rfl,hH,hB,hz,q⟩:=h;cases rx;obtain⟨u,rfl,ru⟩:=rv.one;cases ru;obtain⟨z,ap,n,r,hl,e⟩:=I.EN hH;obtain⟨z2,its2,n2,r2,hl2,e2⟩:=I.EN hB;have hsz:ap.toArray.size+its2.toArray.size<=sizeLine:=by rw[j',j'];lia
 have hlong:¬(!ap.toArray.isEmpty&&UY (ap.toArray.size+its2.toArray.size))=true:=by rw[BL hsz,Bool.and_false];exact NX
 refine Xm F.slot_list_extend ⟨_,e,rfl⟩ F.entry_list_extend (F.args_list_extend_2 _ _)
  (Xc l ap.toArray n b its2.toArray n2 hlong (by rw[j'];lia) (by lia)) ⟨e,e2,?_⟩
 refine⟨.non,_,I.Js (its':=ap++its2) hH e (by simp) (r.append r2) ?_,rfl,q⟩;rw[c_];omega
def E3:V->List V->Hp->VK->Prop:=λx vs H Q=>∃l xs,x=.ref l/\vs=[]/\H l=some (.lst xs)/\Q .non (upd H l (.lst xs.reverse))
theorem yW:MtM X "list.reverse" E3:=by intro ac s σ H x vs v us Q I rx rv h;obtain⟨l,xs,rfl,rfl,hH,q⟩:=h;cases rx;have hus:=rv.zero;subst hus;obtain⟨z,ap,n,r,hl,e⟩:=I.EN hH;refine Xm F.slot_list_reverse ⟨_,e,rfl⟩ F.entry_list_reverse (F.args_list_reverse_1 _) (XE l ap.toArray n (by rw[j'];lia)) ⟨e,?_⟩;refine⟨.non,_,I.Js (its':=ap.reverse) hH e (by simp) r.reverse ?_,rfl,q⟩;rw[A'];omega
end
variable {o:Option V}{u:Sl}
section
variable{κ:Type}[DecidableEq κ]
noncomputable def iG(al:List (κ×V))(k:κ):Option V:=(al.find? λkv=>decide (kv.1=k)).map (·.2)
noncomputable def putK(al:List (κ×V))(k:κ)(v:V):List (κ×V):=
 if(al.any λkv=>decide (kv.1=k))=true then al.map (λkv=>if kv.1=k then(kv.1,v)else kv)else al++[(k,v)]
theorem sQ{p:κ×V}{r:List (κ×V)}{k:κ}(e:p.1=k):iG (p::r) k=some p.2:=by simp[iG,Nn,e]
theorem sE{p:κ×V}{r:List (κ×V)}{k:κ}(e:¬p.1=k):iG (p::r) k=iG r k:=by simp[iG,Nn,e]
theorem n9(k:κ):∀al:List (κ×V),(al.any λkv=>decide (kv.1=k))=(iG al k).isSome
 | []=>rfl
 |p::r=>by
  rw[Po];by_cases e:p.1=k
  ·simp only[sQ e,decide_eq_true e,Bool.true_or,Rm]
  rw[sE e,decide_eq_false e,Bool.false_or];exact n9 k r
theorem lC(al:List (κ×V))(k:κ)(v:V):(putK al k v).length<=al.length+1:=by
 unfold putK;split
 ·rw[a_];lia
 rw[c_,i',N1];lia
theorem xJ{al:List (κ×V)}{k:κ}(v:V)(h:iG al k=none):putK al k v=al++[(k,v)]:=by unfold putK;rw[n9,h];exact if_neg (by decide)
theorem tm.oW {u:Option Sl}(r:tm o u):o.isSome=u.isSome:=by
 cases o with
 |none=>cases u with
  |none=>rfl
  |some _=>exact(show False from r).elim
 |some _=>cases u with
  |none=>exact(show False from r).elim
  |some _=>rfl
theorem KV.val {al:List (κ×V)}{vs:List (κ×Sl)}(r:KV al vs)(k:κ):tm (iG al k) (VR vs k):=by
 unfold KV at r;induction r with
 |nil=>exact Ul
 | @cons p q ps qs h t ih=>
  obtain⟨h1,h2⟩:=h;by_cases e:p.1=k
  ·have e':q.1=k:=h1.symm.trans e;have b:VR (q::qs) k=some q.2:=by simp[VR,Nn,e']
   rw[sQ e,b];exact h2
  have e':¬q.1=k:=λz=>e (h1.trans z);have b:VR (q::qs) k=VR qs k:=by simp[VR,Nn,e']
  rw[sE e,b];exact ih
theorem KV.any {al:List (κ×V)}{vs:List (κ×Sl)}(r:KV al vs)(k:κ):(al.any λkv=>decide (kv.1=k))=vs.any λkv=>decide (kv.1=k):=by
 unfold KV at r;induction r with
 |nil=>rfl
 |cons h t ih=>rw[Po,Po,ih,h.1]
theorem KV.Hu {al:List (κ×V)}{vs:List (κ×Sl)}(r:KV al vs)(k:κ){y:V}(ry:RelV y u) :
  KV (al.map λkv=>if kv.1=k then(kv.1,y)else kv) (vs.map λkv=>if kv.1=k then(kv.1,u)else kv):=by
 unfold KV at r ⊢;induction r with
 |nil=>exact .nil
 | @cons p q ps qs h t ih=>
  rw[f',f'];refine .cons ?_ ih;obtain⟨h1,h2⟩:=h;by_cases e:p.1=k
  ·rw[if_pos e,if_pos (h1.symm.trans e)];exact⟨h1,ry⟩
  rw[if_neg e,if_neg (λz=>e (h1.trans z))];exact⟨h1,h2⟩
theorem KV.put {al:List (κ×V)}{vs:List (κ×Sl)}(r:KV al vs)(k:κ){y:V}{u:Sl}(ry:RelV y u):KV (putK al k y) (stored vs k u):=by
 unfold putK stored;rw[r.any k];by_cases e:(vs.any λkv=>decide (kv.1=k))=true
 ·rw[if_pos e,if_pos e];exact r.Hu k ry
 rw[if_neg e,if_neg e];exact Yo r ⟨rfl,ry⟩
theorem KV.length {al:List (κ×V)}{vs:List (κ×Sl)}(r:KV al vs):al.length=vs.length:=Vb r
end
variable {P:SD}{w:SI}
theorem xC{k:Key}(r:RelV (kV k) u):(ff P w).is k u=true:=by
 rcases k with i | _|x
 ·obtain⟨t,e⟩:=(show ∃t,u=US i t from r);subst e;exact wm P w i t
 ·cases r;rfl
 obtain⟨t,e⟩:=(show ∃t,u=WK x t from r);subst e;exact wW P w x t
theorem tK{P:SD}{w:SI}:∀{ks:List Key}{us:List Sl},Vals (ks.map kV) us->ItemsAre (ff P w) ks us
 | [],_,r=>by rw[NL]at r;cases r;exact .nil
 |k::ks,_,r=>by
  rw[f']at r;cases r with
  |cons h t=>exact .cons (xC h) (tK t)
abbrev KT(H:Hp):List (List Key×V)->List (List Key×Sn×Sl)->Prop:=Vx λp q=>p.1=q.1/\H q.2.1=some (.tup (p.1.map kV))/\RelV p.2 q.2.2
variable {al:List (List Key×V)}{xs:List (List Key×Sn×Sl)}
theorem KT.val (r:KT H al xs)(k:List Key):tm (iG al k) ((V' xs k).map (·.2)):=by
 induction r with
 |nil=>exact Ul
 | @cons p q ps qs h t ih=>
  obtain⟨h1,_,h2⟩:=h;by_cases e:p.1=k
  ·have e':q.1=k:=h1.symm.trans e;have b:V' (q::qs) k=some q.2:=by simp[V',Nn,e']
   rw[sQ e,b];exact h2
  have e':¬q.1=k:=λz=>e (h1.trans z);have b:V' (q::qs) k=V' qs k:=by simp[V',Nn,e']
  rw[sE e,b];exact ih
theorem KT.Hu (r:KT H al xs)(k:List Key){y:V}(ry:RelV y u) :
  KT H (al.map λkv=>if kv.1=k then(kv.1,y)else kv) (xs.map (putAt k u)):=by
 induction r with
 |nil=>exact .nil
 | @cons p q ps qs h t ih=>
  rw[f',f'];refine .cons ?_ ih;obtain⟨h1,h2,h3⟩:=h;unfold putAt;by_cases e:p.1=k
  ·rw[if_pos e,if_pos (h1.symm.trans e)];exact⟨h1,h2,ry⟩
  rw[if_neg e,if_neg (λz=>e (h1.trans z))];exact⟨h1,h2,h3⟩
theorem KT.put {H:Hp}{al:List (List Key×V)}{xs:List (List Key×Sn×Sl)}(r:KT H al xs)(k:List Key){b:Sn}{y:V}{u:Sl}(hb:H b=some (.tup (k.map kV)))(ry:RelV y u) :
  KT H (putK al k y) (storedH xs k b u):=by
 have e:(al.any λkv=>decide (kv.1=k))=(V' xs k).isSome:=by rw[n9,(r.val k).oW,Rz]
 unfold putK storedH;rw[e];by_cases q:(V' xs k).isSome=true
 ·rw[if_pos q,if_pos q];exact r.Hu k ry
 rw[if_neg q,if_neg q];exact Yo r ⟨rfl,hb,ry⟩
variable {H':Hp}
theorem KT.keeps (r:KT H al xs)(ht:∀b ys,H b=some (.tup ys)->H' b=some (.tup ys)):KT H' al xs:=
 Paired.Lu r λ_ _ z=>⟨z.1,ht _ _ z.2.1,z.2.2⟩
section
variable{P:SD}{w:SI}{H:Hp}{h:SJ}{a:Sn}
theorem Hq{u:HO}(ok:HOk P w H h)(e:Rd H a u):f7 P w H h a u:=e.ok ok
theorem wY{al:List (Key×V)}(ok:HOk P w H h)(e:Rd H a (.dK al)):al.length<=sizeLine/\(a == T9)=false/\∃vs,KV al vs/\h.DictOf (ff P w) a vs:=
 show f7 P w H h a (.dK al)from Hq ok e
theorem Hl{al:List (Key×V)}(ok:HOk P w H h)(e:H a=some (.dK al)):al.length<=sizeLine/\(a == T9)=false/\∃vs,KV al vs/\h.DictOf (ff P w) a vs:=wY ok (.inl e)
theorem vC{ks:List Key}(ok:HOk P w H h)(e:H a=some (.tup (ks.map kV))):(V6 (ff P w)).is h ks a:=by obtain⟨_,ap,r,o,h1,h2,n,h3⟩:=(show f7 P w H h a (.tup (ks.map kV))from ok a _ e);exact⟨o,ap.toArray,n,h1,h2,h3,by simpa using tK r⟩
theorem xo(ok:HOk P w H h)(e:Rd H a (.dT al)):al.length<=sizeLine/\(a == T9)=false/\
  ∃xs,KT H al xs/\h.DictOfH (V6 (ff P w)) a xs:=by
 obtain⟨z,y,xs,r,o,es,ep,h1,h2,h3,h4,h5⟩:=(show f7 P w H h a (.dT al)from Hq ok e);refine⟨z,y,xs,r,o,es,ep,h1,h2,h3,h4,λx hx=>?_,h5⟩;have all:∀{l:List (List Key×V)}{m:List (List Key×Sn×Sl)},KT H l m->∀x∈m,(V6 (ff P w)).is h x.1 x.2.1:=by
  intro l m q;induction q with
  |nil=>intro x hx;exact nomatch hx
  | @cons p q ps qs hq t ih=>
   intro x hx;rcases n_.mp hx with e|hx
   ·subst e;exact vC ok (by rw[<-hq.1];exact hq.2.1)
   exact ih x hx
 exact all r x hx
theorem Ln(ok:HOk P w H h)(e:H a=some (.dT al)):al.length<=sizeLine/\(a == T9)=false/\
  ∃xs,KT H al xs/\h.DictOfH (V6 (ff P w)) a xs:=xo ok (.inl e)
end
def pA(H:Hp)(a:Sn)(y:V)(r:Option V):Prop:=
 (∃al k,Rd H a (.dK al)/\y=kV k/\r=iG al k)\/∃al k b,Rd H a (.dT al)/\y=.ref b/\H b=some (.tup (k.map kV))/\r=iG al k
def B9(H:Hp)(a:Sn)(y v:V)(H':Hp):Prop:=
 (∃al k,H a=some (.dK al)/\y=kV k/\al.length<sizeLine/\H'=upd H a (.dK (putK al k v)))\/
 ∃al k b,H a=some (.dT al)/\y=.ref b/\H b=some (.tup (k.map kV))/\al.length<sizeLine/\H'=upd H a (.dT (putK al k v))
theorem pA.k {H:Hp}{a:Sn}{al:List (Key×V)}{k:Key}(e:H a=some (.dK al)):pA H a (kV k) (iG al k):=.inl ⟨al,k,.inl e,rfl,rfl⟩
theorem B9.k {H:Hp}{a:Sn}{al:List (Key×V)}{k:Key}{v:V}(e:H a=some (.dK al))(hl:al.length<sizeLine):B9 H a (kV k) v (upd H a (.dK (putK al k v))):=.inl ⟨al,k,e,rfl,hl,rfl⟩
variable {Q:Sl->So->Prop}
section
variable{X:Cx}{ac:List (Sn×Obj)}{σ:St}{H:Hp}{s:So}{a:Sn}{y v:V}{u r:Sl}{o:Option V}{A:SW}{E:Sl->So->Prop}
theorem Inv.big (I:Inv X ac σ H s):T9<s.heap.objs.size:=by have h:Tr<s.heap.objs.size:=(I.mod.glob.keeps I.bk).lt;exact Qz (by decide) h
theorem um(hu:A.units+1<cLine)(I:Inv X ac σ H s)(g:pA H a y (some v))(ry:RelV y u)(h:∀w' s',Inv X ac σ H s'->RelV v w'->Q w' s') :
  Sw (SG X.prog X.w) A (Vr (.ref a) u) Q E s:=by
 rcases g with⟨al,k,e,ey,l⟩|⟨al,k,b,e,ey,eb,l⟩
 ·subst ey;obtain⟨z,hd,vs,rel,dd⟩:=wY I.hok e;obtain⟨w',hw,rw'⟩:=tm.some_of (v:=v) (o:=VR vs k) (by rw[l];exact rel.val k);exact wpAny_getItem_of (xC ry) dd.mapOf hw (h w' _ (I.tok _) rw')
 subst ey;cases (show u=SV b from ry);obtain⟨z,hd,xs,rel,dd⟩:=xo I.hok e;obtain⟨w',hw,rw'⟩:=tm.some_of (v:=v) (o:=(V' xs k).map (·.2)) (by rw[l];exact rel.val k);obtain⟨p,hp,hp2⟩:=Option.map_eq_some_iff.mp hw;refine wpAny_getItem_heap (VA hu) (vC I.hok eb) dd hp ?_;rw[hp2];exact h w' _ (I.tok _) rw'
theorem FY(hu:A.units+1<cLine)(I:Inv X ac σ H s)(g:pA H a y o)(ry:RelV y u)(h:∀s',Inv X ac σ H s'->Q (.bool (!o.isSome)) s') :
  Sw (SG X.prog X.w) A (S8 .NotIn u (.ref a)) Q E s:=by
 rcases g with⟨al,k,e,ey,l⟩|⟨al,k,b,e,ey,eb,l⟩
 ·subst ey;obtain⟨z,hd,vs,rel,dd⟩:=wY I.hok e;refine wpAny_notIn_of (xC ry) hd dd.mapOf ?_;rw[<-(rel.val k).oW,<-l];exact h _ (I.tok _)
 subst ey;cases (show u=SV b from ry);obtain⟨z,hd,xs,rel,dd⟩:=xo I.hok e;refine wpAny_notIn_heap (VA hu) (vC I.hok eb) hd dd ?_;have q:=(rel.val k).oW;rw[Rz]at q;rw[<-q,<-l];exact h _ (I.tok _)
theorem ve{h':SJ}{ob:HO}(I:Inv X ac σ H s)(mu:Mut (H a))(hs:T_ a s.heap h')(he:∃q,h'.get? a=some q)(new:f7 X.prog X.w (upd H a ob) h' a ob) :
  Inv X ac σ (upd H a ob) {s with heap:=h',toks:=t'}:=
 I.write (x:=a) (e:=a) mu (.inl rfl) (λb q hb z=>(hs.2 b hb).trans z) he new
theorem Ea{h':SJ}{al:List (Key×V)}{vs:List (Key×Sl)}(z:al.length<=sizeLine)(hd:(a == T9)=false)(rel:KV al vs)(dd:h'.DictOf (ff P w) a vs) :
  f7 P w H' h' a (.dK al):=⟨z,hd,vs,rel,dd⟩
theorem oO{Q:Unit->So->Prop}(hu:A.units+1<cLine)(I:Inv X ac σ H s)(g:B9 H a y v H')(ry:RelV y u)(rv:RelV v r)(h:∀s',Inv X ac σ H' s'->Q () s') :
  Sw (SG X.prog X.w) A (Xy (.ref a) u r) Q E s:=by
 rcases g with⟨al,k,e,ey,l,eH⟩|⟨al,k,b,e,ey,eb,l,eH⟩
 ·subst ey eH;obtain⟨z,hd,vs,rel,dd⟩:=Hl I.hok e;have hz:vs.length<=sizeLine:=by rw[<-rel.length];exact z
  have hl:(putK al k v).length<=sizeLine:=by have:=lC al k v;lia
  refine wpAny_setItem_pairs (hsz:=hz) (xC ry) dd λh' dd' hs=>h _ ?_;have he:∃q,h'.get? a=some q:=let ⟨q,_,_,hq,_⟩:=dd';⟨q,hq⟩
  exact ve I (by rw[e];exact Ul) hs he (Ea hl hd (rel.put k rv) dd')
 subst ey eH;cases (show u=SV b from ry);obtain⟨z,hd,xs,rel,dd⟩:=Ln I.hok e;have hz:xs.length<=sizeLine:=by rw[<-Vb rel];exact z
 have hl:(putK al k v).length<=sizeLine:=by have:=lC al k v;lia
 refine wpAny_setItem_heap (hsz:=hz) (VA hu) (vC I.hok eb) dd λh' dd' hs=>h _ ?_;obtain⟨q,es,ep,hq,h2,h3,h4,_,h5⟩:=dd';refine ve I (by rw[e];exact Ul) hs ⟨q,hq⟩ ⟨hl,hd,_,(rel.put k eb rv).keeps λc ys ec=>?_,q,es,ep,hq,h2,h3,h4,h5⟩;rw[aQ (Hg ec e (λz=>nomatch z))];exact ec
end
section
variable{X:Cx}{ac:List (Sn×Obj)}{σ:St}{H:Hp}{s:So}{a:Sn}{al:List (Key×V)}{k:Key}{u:Sl}{A:SW}{E:Sl->So->Prop}
theorem Ky(I:Inv X ac σ H s)(e:Rd H a (.dK al))(h:∀t s',Inv X ac σ H s'->Q (.int al.length t) s'):Sw (SG X.prog X.w) A (call (.builtin "len") [.ref a]) Q E s:=by obtain⟨z,hd,vs,rel,dd⟩:=wY I.hok e;refine call_len_dict hd dd (by rw[<-rel.length];rw[SX]at z;lia) ?_;rw[<-rel.length];exact h _ _ (I.tok _)
end
noncomputable def M0(i:SK):Prop:=∀ov iv,Vu i false ov iv=Ys [ov,iv] (Vr ov iv)
variable {pos:Pos}
theorem Gh{prog:SD}{A:SW}{E:Sl->So->Prop}{env:Env}{value slice:SK}{T id:String}
  (hl:Ww (.type T) "__getitem__"=pure (some (.builtin id))) (hs:M0 slice)
  (h:Sw (SG prog w) A (Ta value env) (λo s₁=>Sw (SG prog w) A (Ta slice env) (λi s₂=>s₂.TypeIs o T/\Sw (SG prog w) A (Vr o i) Q E s₂) E s₁) E s) :
  Sw (SG prog w) A (Ta (.Subscript value slice pos) env) Q E s:=by
 refine Xk (Tb h (λo s₁ h₁=>Tb h₁ (λi s₂ h₂=>?_) λ_ _ x=>x) λ_ _ x=>x);obtain⟨hT,h₂⟩:=h₂;unfold Vc;refine Sj ?_;rw[Wm hT.not_modules];refine Sj (UE hT hl ?_);have fin:Sw (SG prog w) A (Vu slice false o i) (λr s₃=>Sw (SG prog w) A (XF value o r >>= λ_=>pure r) Q E s₃) E s₂:=by rw[hs o i];exact Xn (Tb h₂ (λr s₃ h₃=>Sj (Wx (Ss h₃))) λ_ _ x=>x)
 first
  |exact Ss (Sj fin)
  |exact Sj (Ss (Sj fin))
  |exact Sj fin
variable {X:Cx}
theorem pI{a:Sn}{y:V}(I:Inv X ac σ H s)(g:pA H a y o):s.TypeIs (.ref a) "dict":=by
 rcases g with⟨al,k,e,_,_⟩|⟨al,k,b,e,_,_,_⟩
 ·obtain⟨_,_,vs,_,dd⟩:=wY I.hok e;exact dd.typeIs
 obtain⟨_,_,xs,_,dd⟩:=xo I.hok e;exact dd.typeIs
def LP(td ty:TE):TE:=λσ H Q=>td σ H λx H1=>ty σ H1 λy H2=>∃a v,x=.ref a/\pA H2 a y (some v)/\Q v H2
def Km(td ty tv:TE):TS:=λD σ H=>tv σ H λv H1=>td σ H1 λx H2=>ty σ H2 λy H3=>∃a H4,x=.ref a/\B9 H3 a y v H4/\D.nx σ H4
section
variable{X:Cx}{o i e value:SK}{pos pos' tpos:Pos}{td ty tv:TE}
theorem qv(hu:X.A.units+1<cLine)(ho:PE X o td)(hi:PE X i ty)(hs:M0 i):PE X (.Subscript o i pos) (LP td ty):=by intro ac s σ H Q I h;refine Gh VQ.lookup hs (thn (ho ac s σ H _ I h) λu s1 ⟨x,H1,I1,rx,q1⟩=>thn (hi ac s1 σ H1 _ I1 q1) ?_);rintro iv s2 ⟨y,H2,I2,ry,a,v,ex,g,q2⟩;subst ex;obtain rfl:u=SV a:=rx;exact⟨pI I2 g,um hu I2 g ry λw' s3 I3 rw'=>⟨v,H2,I3,rw',q2⟩⟩
theorem Ei(hu:X.A.units+1<cLine)(ho:PE X o td)(hi:PE X i ty)(hv:PE X value tv)(hs:UT value (some (.Subscript o i pos')) pos.line X.env=pure false) :
  PS X (.Assign [.Subscript o i pos'] value pos) (Km td ty tv):=by
 intro ac s σ H D I h;refine wpAny_Assign_Subscript (thn (hv ac s σ H _ I h) ?_) hs;rintro r s1 ⟨v,H1,I1,rv,q1⟩;refine thn (ho ac s1 σ H1 _ I1 q1) ?_;rintro u s2 ⟨x,H2,I2,rx,q2⟩;refine thn (hi ac s2 σ H2 _ I2 q2) ?_;rintro iv s3 ⟨y,H3,I3,ry,a,H4,ex,g,q3⟩;subst ex;obtain rfl:u=SV a:=rx;exact oO hu I3 g ry rv λs4 I4=>⟨σ,H4,I4,q3⟩
end
theorem wy(h:SJ)(hb:T9<h.objs.size):f7 P w H (h.push { cls:=.type "dict",data:=.dict #[] }) h.objs.size (.dK []):=
 ⟨MU _,beq_eq_false_iff_ne.mpr (TR (j_ hb)),[],.nil,YX h⟩
def Hx:TE:=λ_ H Q=>∀p,H p=none->Q (.ref p) (upd H p (.dK []))
section
variable{X:Cx}{pos:Pos}
theorem Dc:PE X (.Dict [] [] pos) Hx:=λac s σ H Q I h=>
 wpAny_Dict_empty ⟨.ref s.heap.objs.size,_,I.laid (a:=s.heap.objs.size) (o:=.dK []) (t':=s.toks) (λ_ _ q=>Sr _ q) (e_ _) (wy s.heap I.big),rfl,h _ (I.hok.fresh (e_ _))⟩
end
noncomputable def yz:List (TE×TE)->St->Hp->(List (V×V)->Hp->Prop)->Prop
 | [],_,H,Q=>Q [] H
 | (tk,tv)::r,σ,H,Q=>tk σ H λx H1=>tv σ H1 λy H2=>yz r σ H2 λps H3=>Q ((x,y)::ps) H3
abbrev VV:List (V×V)->List (Sl×Sl)->Prop:=Vx λp q=>RelV p.1 q.1/\RelV p.2 q.2
def PPs(X:Cx)(pos:Pos)(keys:List (Option SK))(values:List SK)(trs:List (TE×TE)):Prop:=
 ∀(ac:List (Sn×Obj)) (s:So) (σ:St) (H:Hp) (Q:List (V×V)->Hp->Prop),Inv X ac σ H s->yz trs σ H Q->
  Sw (SG X.prog X.w) X.A (evalPairs (pairTrees keys values X.env pos)) (λvs s'=>∃ps H',Inv X ac σ H' s'/\VV ps vs/\Q ps H') X.xe s
theorem ER:PPs X pos [] [] []:=λac s σ H Q I h=>pairTrees_nil_walk ⟨[],H,I,.nil,h⟩
variable {trs:List (TE×TE)}
theorem wZ{k v:SK}{ks:List (Option SK)}{vs:List SK}{tk tv:TE}(hk:PE X k tk)(hv:PE X v tv)(hr:PPs X pos ks vs trs) :
  PPs X pos (some k::ks) (v::vs) ((tk,tv)::trs):=λac s σ H Q I h=>
 pairTrees_cons_walk (thn (hk ac s σ H _ I h) λu s1 ⟨x,H1,I1,rx,q1⟩=>thn (hv ac s1 σ H1 _ I1 q1) λw2 s2 ⟨y,H2,I2,ry,q2⟩=>
  thn (hr ac s2 σ H2 _ I2 q2) λws s3 ⟨ps,H3,I3,rel,q3⟩=>⟨(x,y)::ps,H3,I3,.cons ⟨rx,ry⟩ rel,q3⟩)
def kZ(al more:List (Key×V)):List (Key×V):=more.foldl (λacc kv=>putK acc kv.1 kv.2) al
theorem KV.merge:∀{more:List (Key×V)}{rs:List (Key×Sl)}{al:List (Key×V)}{vs:List (Key×Sl)},KV more rs->KV al vs->KV (kZ al more) (merged vs rs):=by
 intro more rs al vs r;unfold KV at r;induction r generalizing al vs with
 |nil=>intro q;exact q
 | @cons p q ps qs h t ih=>
  intro r0;have e:KV (putK al p.1 p.2) (stored vs q.1 q.2):=by have:=r0.put p.1 h.2;rw[<-h.1];exact this
  exact ih e
theorem mz:∀(more al:List (Key×V)),(kZ al more).length<=al.length+more.length
 | [],al=>by show al.length<=al.length+0;lia
 |p::r,al=>by have h1:=mz r (putK al p.1 p.2);have h2:=lC al p.1 p.2;show(kZ (putK al p.1 p.2) r).length<=_;rw[i'];lia
theorem rL{P:SD}{w:SI}:∀{al:List (Key×V)}{ws:List (Sl×Sl)},VV (al.map λkv=>(kV kv.1,kv.2)) ws->∃rs,Carries (ff P w) ws rs/\KV al rs
 | [],_,r=>by rw[NL]at r;cases r;exact⟨[],Ul,.nil⟩
 |p::al,_,r=>by
  rw[f']at r;cases r with
  | @cons a b as bs h t=>
   obtain⟨rs,c,q⟩:=rL (P:=P) (w:=w) t;obtain⟨b1,b2⟩:=b;exact⟨(p.1,b2)::rs,⟨xC h.1,rfl,c⟩,.cons ⟨rfl,h.2⟩ q⟩
def LH(trs:List (TE×TE)):TE:=λσ H Q=>∀p,H p=none->yz trs σ (upd H p (.dK [])) λps H2=>H2 p=some (.dK [])/\∃al:List (Key×V),ps=al.map (λkv=>(kV kv.1,kv.2))/\al.length<=15/\Q (.ref p) (upd H2 p (.dK (kZ [] al)))
theorem F6{keys:List (Option SK)}{values:List SK}(h:PPs X pos keys values trs)(hall:keys.all (·.isSome)=true)(hl:keys.length=values.length)(h0:keys≠[])
  (h15:keys.length<=15):PE X (.Dict keys values pos) (LH trs):=by
 intro ac s σ H Q I q;have hn:=I.hok.fresh (e_ s.heap.objs.size);have I1:=I.laid (a:=s.heap.objs.size) (o:=.dK []) (h':=s.heap.push { cls:=.type "dict",data:=.dict #[] }) (t':=s.toks) (λ_ _ q=>Sr _ q) (e_ _) (wy s.heap I.big);refine wpAny_Dict_walk (knd:=ff X.prog X.w) hall hl h0 h15 (thn (h ac _ σ _ _ I1 (q _ hn)) ?_);rintro ws s2 ⟨ps,H2,I2,rel,e,al,ep,lk,q2⟩;subst ep;obtain⟨rs,c,rk⟩:=rL (P:=X.prog) (w:=X.w) rel;obtain⟨z,hd,vs0,r0,dd⟩:=Hl I2.hok e;cases r0;refine⟨rs,c,dd,λh' dd' hs=>⟨.ref s.heap.objs.size,_,?_,rfl,q2⟩⟩;have hz:(kZ [] al).length<=sizeLine:=by have h1:=mz al [];rw[N1]at h1;rw[SX];lia
 have he:∃q,h'.get? s.heap.objs.size=some q:=let ⟨q,_,_,hq,_⟩:=dd';⟨q,hq⟩
 exact ve I2 (by rw[e];exact Ul) hs he (Ea hz hd (rk.merge .nil) dd')
end L2
namespace Att
open PySem PySem.W PySem.Calls PyProof.Rows
theorem pZ{P:VZ}{h:SJ}:∀(ns:List Int) (vs:List Sl),WellAll P h vs (ns.map WData.int)->IntsAre vs ns:=by
 intro ns;induction ns with
 |nil=>
  intro vs w;rw[NL]at w;cases w;exact .nil
 |cons n ns ih=>
  intro vs w;rw[f']at w;cases w with
  |cons a b=>
   cases a;exact .cons _ _ (ih _ b)
theorem B5{l:OpenLaw}{n:Nat}(hn:l.most=some n){P:VZ}{h:SJ}{args:List WData}{vals:List Sl}
  (hpre:l.row.toRowW.claim.pre args=true) (hwl:WellAll P h vals args) :
  ∃a vs ns,vals=[SV a]/\args=[WData.list (ns.map WData.int)]/\h.get? a=some { cls:=.type "list",data:=.seq vs.toArray}/\IntsAre vs ns/\ns.length<=n:=by
 have hsh:WShape.hasAll [] args [.list .int]=true:=(pre_splitW hpre).1;have hc:l.pre.holds [] { args:=args}=true:=(pre_splitW hpre).2;obtain⟨d,r,rfl,h1,h2⟩:=hasAllW_cons hsh;obtain rfl:=hasAllW_nil h2;obtain⟨xs,rfl,h3⟩:=hasW_list h1;obtain⟨ns,rfl⟩:=items_int h3;have hlen:ns.length<=n:=by
  unfold OpenLaw.pre at hc;have h4:(WTm.not (.lt (.lit (.int (n:Int))) (.len (.arg 0)))).holds [] { args:=[.list (ns.map .int)] }=true:=by have h4:=(holds_andW hc).1;rw[hn]at h4;exact h4
  have h5:=condW_of h4 (w_not (w_lt w_lit (w_len_list (w_arg rfl))));rw[a_]at h5;refine Nq λq=>?_;have q':(n:Int)<((ns.length:Nat):Int):=by lia
  first
   | (rw[decide_eq_true q']at h5;exact absurd h5 (by decide))
   | (simp at h5;omega)
 cases hwl with
 |cons w1 w2=>
  cases w2;cases w1 with
  |list ho hall=>exact⟨_,_,ns,rfl,rfl,ho,pZ ns _ hall,hlen⟩
theorem AO(l:OpenLaw)(args:List WData):l.row.toRowW.claim.post args (.bool true) args=true:=
 postW_of (r:=l.row.toRowW) (X:=(true == true))
  (show WShape.has [] (.bool true) .bool=true by first|rfl|decide|simp[WShape.has,WShape.arms,WShape.armsAll])
  (show(WTm.eq .res (.lit (.bool true))).value [] { args:=args,res:=some (.bool true),after:=args}=some (.bool (true == true))from w_eq_bool (w_res rfl) w_lit) rfl
theorem xh{l:OpenLaw}{n:Nat}{q:SD}{loose:List Str}{XP:(Str->Option Sl)->SJ->Prop}{YP:SI->SJ->Prop}{d:DefRec}
  (hn:l.most=some n) (hdf:d.params.defaults=[])
  (call:∀(w:SI) (s₀ s₁:So) (mg mb:Str->Option Sl) (fa:Sn) (o:Obj) (pm cd doc:Sl) (a:Sn) (vs:List Sl) (ns:List Int),
   Ground q loose [] XP w s₀ mg mb s₁.heap->YP w s₁.heap->
   s₁.heap.get? fa=some o->o.data=.func (docDef d.name d.params d.body d.scope pm cd doc)->s₁.heap.CodeRec cd d.name->mg d.name=some (.ref fa)->
   s₁.heap.get? a=some { cls:=.type "list",data:=.seq vs.toArray}->IntsAre vs ns->ns.length<=n->s₁.gens=#[]->
   Um (SG l.prog w) VS (.call (.ref fa) ⟨[.ref a],[]⟩) (λr s'=>r=.ok (.ret (.bool true))/\OldK s₁.heap s'.heap/\s'.os=s₁.os/\Vf s'.gens) s₁) :
  WalkO q loose XP YP l.row.toRowW d [] (λf vs=>Xo f vs):=by
 intro w s₀ s₁ mg mb G Y fa o pm cd doc dV kV ho hd hcd hD hmg hg args vals as hpre hlay hrd hwl hlo;obtain rfl:dV=.none:=Dflts.none hD hdf;obtain rfl:kV=.none:=Dflts.noKw hD;obtain⟨a,vs,ns,rfl,rfl,hobj,hints,hlen⟩:=B5 hn hpre hwl;refine enter_call (Vk (call w s₀ s₁ mg mb fa o pm cd doc a vs ns G Y ho (fd_plain hd) hcd hmg hobj hints hlen hg) λr s' hq=>?_);obtain⟨rfl,h2,h3,h4⟩:=hq;exact⟨.inl ⟨.bool true,.bool true,[],rfl,λ_=>rfl,.bool true,AO l _,λ_=>⟨NH,λ_ hm=>(nomatch hm)⟩⟩,h2,h3,h4⟩
section
variable{prog:SD}{w:SI}{A:SW}{E:Sl->So->Prop}{s:So}{K:Frag}
noncomputable def ledger(h:SJ)(L d:Sn):List (Sn×Obj):=(B' h.objs.size).filterMap λa=>if a=L\/a=d then none else(h.get? a).map λo=>(a,o)
end
end Att
namespace L2
open PySem PySem.Spec PyProof.Rows
theorem uv:∀{vs:List Sl}{ns:List Int},IntsAre vs ns->Vals (ns.map V.int) vs
 | _,_,.nil=>.nil
 | _,_,.cons n t h=>.cons ⟨t,rfl⟩ (uv h)
noncomputable def Il(H:Hp):Prop:=∀b,H b=none\/∃o xs,H b=some (.frz o (.lst xs))
variable {fd:SR}{x:Str}
theorem Ca{P:SD}{w:SI}{K:Sm}{mg mb:Str->Option Sl}{CX:CXT}{k:Nat}{fa a:Sn}{sp:Sp}{s₁:So}{vs:List Sl}{ns:List Int}
  (KX:K.In s₁.heap) (hns:s₁.heap.Ns Tr mg) (hb:s₁.heap.Ns Wt mb) (hbb:∀x:Str,x≠"__name__"->mb x=Uc x) (hlim:s₁.heap.NoLimit) (hg:s₁.gens=#[])
  (ha:s₁.heap.get? a=some { cls:=.type "list",data:=.seq vs.toArray}) (hi:IntsAre vs ns) (hl:ns.length<=sizeLine) (hr:Room k VS)
  (F:∀base:SJ,K.In base->base.Ns Tr mg->FnOk P w K mg base CX k fa fd [x] sp) (hbind:∀(s:So) (u:Sl),Wl s fd ⟨[u],[]⟩ [(x,u)])
  (hsp:∀H:Hp,Il H->SqL K H a (ns.map V.int)->sp [.ref a] H (λv _=>v=.bl true) λ_ _ _=>False)
  (hCX:∀H e s',CX [] H s₁ (λ_ _ _=>False) e s'->False) :
  Um (SG P w) VS (.call (.ref fa) ⟨[.ref a],[]⟩) (λr s'=>r=.ok (.ret (.bool true))/\OldK s₁.heap s'.heap/\s'.os=s₁.os/\Vf s'.gens) s₁:=by
 have rv:=uv hi;have lenV:=hi.length;have core:∀H:Hp,Il H->SqL K H a (ns.map V.int)->HOk P w H s₁.heap->(∀b,H b≠none->b=a)->(H a≠none->K.lookup a=none)->
   Um (SG P w) VS (.call (.ref fa) ⟨[.ref a],[]⟩) (λr s'=>r=.ok (.ret (.bool true))/\OldK s₁.heap s'.heap/\s'.os=s₁.os/\Vf s'.gens) s₁:=by
  intro H hO hS hok hA hK;have base_of:∀{b:Sn}{o:Obj},s₁.heap.get? b=some o->H b=none->(vQ s₁.heap H).get? b=some o:=λe n=>Co e n;have noA:∀{b:Sn}{o:Obj}{es:Array XS}{ep:Nat},s₁.heap.get? b=some o->o.data=.dict es ep->H b=none:=λ{b o es ep} e d=>by
   cases q:H b with
   |none=>rfl
   |some u=>
    have e':b=a:=hA b (by rw[q];simp);subst e';rw[ha]at e;cases e;have d':X' vs.toArray _=Data.dict es ep:=d;cases d'
  have nsK:∀{b:Sn}{m:Str->Option Sl},s₁.heap.Ns b m->(vQ s₁.heap H).Ns b m:=λ{b m} ⟨o,es,ep,e,d,r⟩=>⟨o,es,ep,base_of e (noA e d),d,r⟩;have hKb:K.In (vQ s₁.heap H):=λb o e=>base_of (KX b o e) (by
   cases q:H b with
   |none=>rfl
   |some u=>
    have e':b=a:=hA b (by rw[q];simp);subst e';rw[hK (by rw[q];simp)]at e;cases e)
  have hM:Mod K mg (vQ s₁.heap H):=⟨hKb,nsK hns,⟨mb,nsK hb,hbb⟩,let ⟨mc,h1,h2⟩:=hlim;⟨mc,nsK h1,h2⟩⟩;have e0:Env0 P w K mg (vQ s₁.heap H) VS [] s₁ H:=⟨rfl,hM,λb o e=>Fb e,PV (AQ _ _),trivial,λb hb=>absurd (show b∈([]:List Sn)from hb) (by simp),hok,.of_eq hg⟩;refine Vk ((F _ hKb (nsK hns)).run VS [] s₁ H ⟨[.ref a],[]⟩ [.ref a] [.ref a] _ _ hr e0 (hbind s₁ (.ref a)) (.cons rfl .nil) (hsp H hO hS)) λr s' h=>?_;cases r with
  |error e=>exact(hCX H e s' h).elim
  |ok fl=>
   cases fl with
   |next=>exact SQ h
   |brk=>exact SQ h
   |cont=>exact SQ h
   |ret u=>
    obtain⟨v,H',os,bare,un,hok',r',q⟩:=h;have q':v=.bl true:=q;subst q';obtain rfl:u=Xg true:=r';refine⟨rfl,OldK.of_keep λb o e=>?_,os,bare⟩;cases q:H b with
    |none=>exact un.keep b o e q (by intro z;exact absurd (show b∈([]:List Sn)from z) (by simp)) (by simp)
    |some u=>
     rcases hO b with z|⟨ob,xs,z⟩
     ·rw[q]at z;cases z
     have z2:=un.frzs b ob _ z;obtain⟨e1,_⟩:=hok b _ z;obtain⟨e2,_⟩:=hok' b _ z2;rw[e]at e1;cases e1;exact e2
 cases hk:K.lookup a with
 |some o=>
  have e:=KX a o hk;rw[ha]at e;cases e;refine core (λ_=>none) (λ_=>.inl rfl) (.inr ⟨_,vs.toArray,_,hk,rfl,rfl,rfl,by rw[j',lenV];exact hl,by simpa using rv⟩) (λb u z=>by have z':(none:Option HO)=some u:=z;cases z') (λb z=>absurd rfl z) λz=>absurd rfl z
 |none=>
  refine core (λb=>if b=a then some (.frz { cls:=.type "list",data:=.seq vs.toArray} (.lst (ns.map V.int)))else none) (λb=>?_) (.inl (.inr ⟨{ cls:=.type "list",data:=.seq vs.toArray},if_pos rfl⟩)) (λb u z=>?_) (λb z=>?_) λ_=>hk
  ·by_cases hb:b=a
   ·exact .inr ⟨_,_,if_pos hb⟩
   exact .inl (if_neg hb)
  ·by_cases hb:b=a
   ·have z':=(if_pos hb).symm.trans z;cases z';subst hb;exact⟨ha,by rw[a_];exact hl,vs,_,rv,ha⟩
   have z':=(if_neg hb).symm.trans z;cases z'
  by_cases hb:b=a
  ·exact hb
  exact absurd (if_neg hb) z
theorem FF{l:Wa}{n k:Nat}{q:SD}{loose:List Str}{XP:(Str->Option Sl)->SJ->Prop}{YP:SI->SJ->Prop}{d:DefRec}{K:VZ->Sm}{CX:SI->CXT}{sp:SI->Sp}
  (hn:l.most=some n) (hn2:n<=sizeLine) (hdf:d.params.defaults=[]) (hr:Room k VS)
  (hY:∀(w:SI) (h:SJ),YP w h->(K w.params).In h)
  (F:∀(w:SI) (mg:Str->Option Sl) (fa:Sn) (h:SJ),(K w.params).In h->h.Ns Tr mg->mg d.name=some (.ref fa)->
   ∃fd:SR,(∀(s:So) (u:Sl),Wl s fd ⟨[u],[]⟩ [(x,u)])/\
    ∀base:SJ,(K w.params).In base->base.Ns Tr mg->FnOk l.prog w (K w.params) mg base (CX w) k fa fd [x] (sp w))
  (hsp:∀(w:SI) (H:Hp) (a:Sn) (ns:List Int),ns.length<=n->Il H->SqL (K w.params) H a (ns.map V.int)->sp w [.ref a] H (λv _=>v=.bl true) λ_ _ _=>False)
  (hCX:∀(w:SI) (H:Hp) (s:So) (e:Sl) (s':So),CX w [] H s (λ_ _ _=>False) e s'->False) :
  X0 q loose XP YP l.row.toRowW d [] (λf vs=>Xo f vs):=by
 refine Att.xh hn hdf λw s₀ s₁ mg mb fa o pm cd doc a vs ns G Y ho hd hcd hmg hobj hints hlen hg=>?_;have KX:=hY w _ Y;obtain⟨fd,hb,hF⟩:=F w mg fa _ KX G.T.g hmg;exact Ca KX G.T.g G.T.b G.T.builtins G.T.nolimit hg hobj hints (r_ hlen hn2) hr hF hb (λH hO hS=>hsp w H a ns hlen hO hS) λH e s'=>hCX w H s₁ e s'
noncomputable def je(s:S5):Arguments:=match s with
 | .FunctionDef _ a _ _ _ _ _ _ _ _=>a
 | _=>{ posonlyargs:=[],args:=[],vararg:=none,kwonlyargs:=[],kw_defaults:=[],kwarg:=none,defaults:=[] }
noncomputable def iA(s:S5):List S5:=match s with
 | .FunctionDef _ _ b _ _ _ _ _ _ _=>b
 | _=>[]
noncomputable def ay(s:S5):TF:=match s with
 | .FunctionDef _ _ _ _ _ _ sc _ _ _=>sc
 | _=>{ kind:=.function,names:=[],isGenerator:=false,isCoroutine:=false}
abbrev CX0:CXT:=λ_ _ _ _ _ _=>False
abbrev E0:XK:=λ_ _ _=>False
theorem L0{X:Cx}:Passes CX0 X E0:=λ_ _ _ _ _ _ _ h=>h.elim
structure Fun (K:Sm) (x qual:Str) (st:S5) (f:Sn) (fd:SR):Prop where
 ex:∃(oc:Sl) (od:Option Sn) (kV doc pm:Sl) (an:Option Sn) (cdv ct:Sl) (osl:Array (Option Sl)),
  fd=Ud x qual (je st) (iA st) (ay st) .none kV doc pm an cdv ct/\K.lookup f=some ⟨oc,od,.func fd,osl⟩/\Vq K cdv qual=true
 kp:U3 K (.ref f)=true
variable {f:Sn}{ps:List Str}{qual:Str}{st:S5}
section
variable{P:SD}{w:SI}{K:Sm}{mg:Str->Option Sl}{base:SJ}
theorem Fun.ok {N:List Str}{k:Nat}{sp:Sp}(F:Fun K x qual st f fd)(S:FnScope N ps (ay st))(len:∀vs H Q E,sp vs H Q E->vs.length=ps.length)
  (hbody:∀(cdv:Sl) (A:SW) (outer:List Env) (s:So) (H:Hp) (vs:List V) (Q:VK) (E:XK),Room k (A.deeper (Vl qual (ay st) s.heap.objs.size f cdv))->sp vs H Q E->
   ∃t,PSs (yh CX0 P w K mg base N qual (ay st) f cdv A outer s H E).nox (iA st) t/\t { nx:=λ_ H'=>Q .non H',rt:=Q} (start N vs) H):FnOk P w K mg base CX0 (k+1) f fd ps sp:=by
 obtain⟨oc,od,kV,doc,pm,an,cdv,ct,osl,rfl,lk,hcd⟩:=F.ex;refine L5 lk hcd S len λA outer s H vs Q E hr hsp=>?_;obtain⟨t,h,q⟩:=hbody cdv A outer s H vs Q E hr hsp;exact⟨t,h.nox,q⟩
theorem Fun.binds (F:Fun K x qual st f fd)
  (h:∀(kV doc pm:Sl) (an:Option Sn) (cdv ct:Sl) (us:List Sl),us.length=ps.length->X9 (Ud x qual (je st) (iA st) (ay st) .none kV doc pm an cdv ct) ⟨us,[]⟩=pure (ps.zip us)):Binds K fd ps []:=by
 obtain⟨oc,od,kV,doc,pm,an,cdv,ct,osl,rfl,lk,hcd⟩:=F.ex;exact .all (h kV doc pm an cdv ct)
theorem xX{oc:Sl}{od an:Option Sn}{osl:Array (Option Sl)}{kV doc pm cdv ct:Sl}(l:K.lookup f=some ⟨oc,od,.func (Ud x qual (je st) (iA st) (ay st) .none kV doc pm an cdv ct),osl⟩)
  (c:Vq K cdv qual=true) (k:U3 K (.ref f)=true):Fun K x qual st f (Ud x qual (je st) (iA st) (ay st) .none kV doc pm an cdv ct):=⟨⟨oc,od,kV,doc,pm,an,cdv,ct,osl,rfl,l,c⟩,k⟩
end
theorem rV{A:SW}{k:Nat}(hr:Room k A):A.units+1<cLine:=NB (OU (by decide:1<=64) _) hr.units
section
variable{X:Cx}
theorem pv(i:Nat){pos:Pos}(hN:X.N[i]?=some x:=by rfl)(hv:Vis X.env.scope x:=by first|exact b_ rfl|exact d_ (b_ rfl)|exact d_ (d_ rfl))(hd:(x ==("__debug__":Str))=false:=by decide)
  (hcd:(x ==("__classdict__":Str))=false:=by decide):PE X (.Name x pos) (Jv i):=kO hN hv hd hcd
end
theorem MI{A B:Prop}(h:B):if false=true then A else B:=by rw[if_neg NX];exact h
theorem Mo{A B:Prop}(h:A):if true=true then A else B:=by rw[if_pos rfl];exact h
noncomputable def d4(H H':Hp):Prop:=∀b o,H b=some o->H' b=some o
theorem d4.seq {K:Sm}{H H':Hp}{a:Sn}{xs:List V}(e:d4 H H')(h:SqL K H a xs):SqL K H' a xs:=by
 rcases h with (h|⟨o,h⟩)|h
 ·exact .inl (.inl (e _ _ h))
 ·exact .inl (.inr ⟨o,e _ _ h⟩)
 exact .inr h
end L2
namespace ZG
open PySem
noncomputable def Sq(b:Bool)(h:SJ)(l:Sn)(xs:Array Sl):Prop:=match b with
 |true=>h.IsTuple l xs
 |false=>h.IsList l xs
noncomputable def Dr(b:Bool)(h:SJ)(i l:Sn)(k:Nat):Prop:=match b with
 |true=>h.IsTupleIter i l k
 |false=>h.IsListIter i l k
variable {b:Bool}{h h':SJ}{xs:Array Sl}
theorem Sq.ext {l c:Sn}(x:Sq b h l xs)(k:Vv c h h')(n:l≠c):Sq b h' l xs:=by
 cases b with
 |true=>exact YC (show h.IsTuple l xs from x) k n
 |false=>exact YJ (show h.IsList l xs from x) k n
variable {i:Sn}
theorem Dr.ext {l c:Sn}{k:Nat}(x:Dr b h i l k)(e:Vv c h h')(n:i≠c):Dr b h' i l k:=by
 cases b with
 |true=>exact Yi (show h.IsTupleIter i l k from x) e n
 |false=>exact Yp (show h.IsListIter i l k from x) e n
theorem Dr.some {b:Bool}{h:SJ}{i l:Sn}{k:Nat}(x:Dr b h i l k):∃o,h.get? i=some o/\∀v,o.data≠.cell v:=by
 cases b with
 |true=>obtain⟨o,e,_,d⟩:=(show h.IsTupleIter i l k from x);exact⟨o,e,λv z=>by rw[d]at z;cases z⟩
 |false=>obtain⟨o,e,_,d⟩:=(show h.IsListIter i l k from x);exact⟨o,e,λv z=>by rw[d]at z;cases z⟩
theorem Dr.at {l:Sn}{k:Nat}(x:Dr b h i l k)(e:∀o,h.get? i=QR o->h'.get? i=QR o):Dr b h' i l k:=by
 cases b with
 |true=>obtain⟨o,q,r⟩:=(show h.IsTupleIter i l k from x);exact⟨o,e o q,r⟩
 |false=>obtain⟨o,q,r⟩:=(show h.IsListIter i l k from x);exact⟨o,e o q,r⟩
theorem Sq.at {l:Sn}(x:Sq b h l xs)(e:∀o,h.get? l=QR o->h'.get? l=QR o):Sq b h' l xs:=by
 cases b with
 |true=>obtain⟨o,q,r⟩:=(show h.IsTuple l xs from x);exact⟨o,e o q,r⟩
 |false=>obtain⟨o,q,r⟩:=(show h.IsList l xs from x);exact⟨o,e o q,r⟩
variable {Q:Sl->So->Prop}{a:Sl}{b1 b2:Bool}{i1 i2 l1 l2 z:Sn}{ys:Array Sl}
section
variable{prog:SD}{w:SI}{A:SW}{E:Sl->So->Prop}{s:So}
theorem EV{l:Sn}{k:Nat}{v:Sl}(d:s.heap.IsTupleIter i l k)(q:s.heap.IsTuple l xs)(hv:xs[k]?=some v)
  (r:∀g,g.IsTupleIter i l (k+1)->T_ i s.heap g->Q v {s with heap:=g}):Sw (SG prog w) A (S0 (.ref i)) Q E s:=by
 obtain⟨oi,hoi,ci,di⟩:=id d;obtain⟨ol,hol,_,nl,dl⟩:=q;unfold S0;refine Sj (Tu (name:=Ue "__next__") d.typeIs Uj (Tp Uj d.typeIs VB ?_ (Vs _)));show Sw _ _ (Vm (.ref i) 0 >>= _) _ _ s;refine Sj (Tf hoi di (x:=.ref l) rfl ?_);show Sw _ _ (if(SV l == Tq)=true then _ else _) _ _ s;rw[if_neg (show ¬((SV l == Tq)=true)from NX)];show Sw _ _ (Vm (.ref i) 1 >>= _) _ _ s;refine Sj (Tf hoi di (x:=.int k 0) rfl ?_);show Sw _ _ (UZ (.ref l) >>= _) _ _ s;refine Sj (Td hol dl ?_);simp only[Pb,hv];refine Sj (XG hoi di (by simp) (Ss ⟨v,rfl,Ss (r _ ?_ (WH ..))⟩));exact⟨_,Tg _ hoi (Obj.isFreed_of_fields (WT di _)),(Obj.cls_mapFields ..).trans ci,by rw[WT di];simp[Vz]⟩
theorem JI{l:Sn}{k:Nat}(hh:A.handled=none)(d:s.heap.IsTupleIter i l k)(q:s.heap.IsTuple l xs)(hv:xs[k]?=none)
  (r:∀g e,Vv i s.heap g->(∃o,g.get? e=some o/\o.cls=.type "StopIteration")->E (.ref e) {s with heap:=g}):Sw (SG prog w) A (S0 (.ref i)) Q E s:=by
 obtain⟨oi,hoi,ci,di⟩:=id d;obtain⟨ol,hol,_,nl,dl⟩:=q;unfold S0;refine Sj (Tu (name:=Ue "__next__") d.typeIs Uj (Tp Uj d.typeIs VB ?_ (Vs _)));show Sw _ _ (Vm (.ref i) 0 >>= _) _ _ s;refine Sj (Tf hoi di (x:=.ref l) rfl ?_);show Sw _ _ (if(SV l == Tq)=true then _ else _) _ _ s;rw[if_neg (show ¬((SV l == Tq)=true)from NX)];show Sw _ _ (Vm (.ref i) 1 >>= _) _ _ s;refine Sj (Tf hoi di (x:=.int k 0) rfl ?_);show Sw _ _ (UZ (.ref l) >>= _) _ _ s;refine Sj (Td hol dl ?_);simp only[Pb,hv];refine Sj (UD (Sj (XG hoi di (by simp) ?_)));show Sw _ _ (newExc (.type "StopIteration") [] >>= _) _ _ _;refine Sj ?_;simp only[newExc,newTuple];refine Sj (TN ?_ (by size_fits));refine Sj (m:=XH _ _) (Vw (a:=Tq) (by first|rfl|(simp only[XH];rfl)) ?_);refine TN ?_ (by size_fits);simp only[raiseNew];refine Sj (wpAny_handled ?_)
 first|rw[show A.in1.handled=none from hh]|rw[hh]
 refine Sj (Ss (wpAny_throw ?_));exact r _ _ (((WH ..).extBut.push _).push _) ⟨_,SF _ rfl,rfl⟩
theorem pB{l:Sn}{k:Nat}{v:Sl}(d:Dr b s.heap i l k)(q:Sq b s.heap l xs)(hv:xs[k]?=some v)
  (r:∀g,Dr b g i l (k+1)->T_ i s.heap g->Q v {s with heap:=g}):Sw (SG prog w) A (S0 (.ref i)) Q E s:=by
 cases b with
 |true=>exact EV d q hv r
 |false=>exact wpAny_nextOf_list_item d q hv r
theorem zk{l:Sn}{k:Nat}(hh:A.handled=none)(d:Dr b s.heap i l k)(q:Sq b s.heap l xs)(hv:xs[k]?=none)
  (r:∀g e,Vv i s.heap g->(∃o,g.get? e=some o/\o.cls=.type "StopIteration")->E (.ref e) {s with heap:=g}):Sw (SG prog w) A (S0 (.ref i)) Q E s:=by
 cases b with
 |true=>exact JI hh d q hv r
 |false=>exact wpAny_nextOf_list_end hh d q hv r
theorem DA{l:Sn}(q:Sq b s.heap l xs)(r:∀g,Dr b g s.heap.objs.size l 0->g.objs.size=s.heap.objs.size+1->(∀c o,s.heap.get? c=some o->g.get? c=some o)->Q (.ref s.heap.objs.size) {s with heap:=g}) :
  Sw (SG prog w) A (Wk (.ref l)) Q E s:=by
 cases b with
 |true=>exact To q (r _ ⟨_,SF _ rfl,rfl,rfl⟩ (Tz ..) λc o e=>Sr _ e)
 |false=>exact TY q (r _ ⟨_,SF _ rfl,rfl,rfl⟩ (Tz ..) λc o e=>Sr _ e)
structure Off (z TI TO i1 i2 l1 l2:Sn):Prop where
 a1:TI≠z
 a2:TO≠z
 a3:i1≠z
 a4:i2≠z
 a5:TI≠TO
 a6:TI≠i1
 a7:TI≠i2
 a8:TO≠i1
 a9:TO≠i2
 b1:i1≠i2
 c1:l1≠z
 c2:l1≠TO
 c3:l1≠i1
 c4:l1≠i2
 e1:l2≠z
 e2:l2≠TO
 e3:l2≠i1
 e4:l2≠i2
theorem LR{TI TO:Sn}{k:Nat}{x y b:Sl}(D:Off z TI TO i1 i2 l1 l2)
  (hz:UG s.heap z TI TO .none) (hi:Tt s.heap TI (.ref i1) (.ref i2)) (ho:Tt s.heap TO a b)
  (d1:Dr b1 s.heap i1 l1 k) (d2:Dr b2 s.heap i2 l2 k) (q1:Sq b1 s.heap l1 xs) (q2:Sq b2 s.heap l2 ys) (hx:xs[k]?=some x) (hy:ys[k]?=some y)
  (r:∀g,UG g z TI TO (Vz s.heap.objs.size)->Tt g TO x y->Dr b1 g i1 l1 (k+1)->Dr b2 g i2 l2 (k+1)->Tt g s.heap.objs.size x y->g.objs.size=s.heap.objs.size+1->
   (∀c o,c≠z->c≠TO->c≠i1->c≠i2->s.heap.get? c=some o->g.get? c=some o)->Q (.ref s.heap.objs.size) {s with heap:=g}) :
  Sw (SG prog w) A (Uo.«zip.__next__» ⟨[.ref z],[]⟩) (λfin s'=>∃v,fin=.done (.ret v)/\Q v s') E s:=by
 show Sw _ _ (Vm (.ref z) 2 >>= _) _ _ _;refine Sj (Tf hz rfl (x:=.bool false) rfl ?_);show Sw _ _ (Vm (.ref z) 3 >>= _) _ _ _;refine Sj (Tf hz rfl (x:=.ref TI) rfl (Sj (Td hi rfl ?_)));show Sw _ _ (S7 (.ref z) >>= _) _ _ _;refine Sj ?_;unfold S7;refine Sj (Tf hz rfl (x:=.none) rfl (Ss ?_));simp only[if_true];refine Sj (UD (Sj (Tf hz rfl (x:=.ref TO) rfl (Sj (T8 hz (by simp) λg1 z1 s1=>?_)))));have z1:UG g1 z TI TO .ellipsis:=z1;refine Sj ?_;simp only[QA,RG,Oy,O_];refine Sj (Sj (VJ ?_));show Sw _ _ (S0 (.ref i1) >>= _) _ _ _;refine Sj (pB (d1.ext s1.extBut D.a3) (q1.ext s1.extBut D.c1) hx λg2 w2 s2=>Ss ?_);have o2:Tt g2 TO a b:=s2.extBut _ _ D.a8 (s1.extBut _ _ D.a2 ho);refine Sj (Td o2 rfl (Sj (Vn o2 λg3 o3 s3=>?_)));have o3:Tt g3 TO x b:=o3;refine Sj (TJ (Ss (Sj (Sj (VJ ?_)))));show Sw _ _ (S0 (.ref i2) >>= _) _ _ _;refine Sj (pB (((d2.ext s1.extBut D.a4).ext s2.extBut D.b1.symm).ext s3.extBut D.a9.symm) (((q2.ext s1.extBut D.e1).ext s2.extBut D.e3).ext s3.extBut D.e2) hy λg4 w4 s4=>Ss ?_);have o4:Tt g4 TO x b:=s4.extBut _ _ D.a9 o3;refine Sj (Td o4 rfl (Sj (Vn o4 λg5 o5 s5=>?_)));have o5:Tt g5 TO x y:=o5;refine Sj (TJ (Ss (Ss (Sj (Td o5 rfl (Sj (Vt ?_)))))));have sz:g5.objs.size=s.heap.objs.size:=by rw[s5.1,s4.1,s3.1,s2.1,s1.1]
 have z5:UG g5 z TI TO .ellipsis:=s5.extBut _ _ D.a2.symm (s4.extBut _ _ D.a4.symm (s3.extBut _ _ D.a2.symm (s2.extBut _ _ D.a3.symm z1)));have k5:∀c o,c≠z->c≠TO->c≠i1->c≠i2->s.heap.get? c=some o->g5.get? c=some o:=λc o n1 n2 n3 n4 e=>
  s5.extBut _ _ n2 (s4.extBut _ _ n4 (s3.extBut _ _ n2 (s2.extBut _ _ n3 (s1.extBut _ _ n1 e))))
 have w15:Dr b1 g5 i1 l1 (k+1):=((w2.ext s3.extBut D.a8.symm).ext s4.extBut D.b1).ext s5.extBut D.a8.symm;have w25:Dr b2 g5 i2 l2 (k+1):=w4.ext s5.extBut D.a9.symm;have zlt:z<g5.objs.size:=Sx z5;show Sw _ _ (U0 (.ref z) (.ref g5.objs.size) >>= _) _ _ _;refine Sj ?_;unfold U0;have z6:UG (g5.push { cls:=.type "tuple",data:=.seq #[x,y] }) z TI TO .ellipsis:=Sr _ z5;refine Sj (T8 z6 (by simp) λg7 z7 s7=>?_);have z7:UG g7 z TI TO (Vz g5.objs.size):=z7;refine T8 z7 (by simp) λg8 z8 s8=>?_
 have z8:UG g8 z TI TO (Vz g5.objs.size):=z8;have up:∀c o,c≠z->g5.get? c=some o->g8.get? c=some o:=λc o n e=>s8.extBut _ _ n (s7.extBut _ _ n (Sr _ e));have t8:Tt g8 g5.objs.size x y:=s8.extBut _ _ (O0 zlt) (s7.extBut _ _ (O0 zlt) (SF _ rfl));have e8:g8.objs.size=g5.objs.size+1:=by rw[s8.1,s7.1,Tz]
 rw[sz]at z8 t8 e8;refine Ss ⟨_,rfl,?_⟩;show Q (.ref g5.objs.size) _;rw[sz];exact r g8 z8 (up _ _ D.a2 o5) (w15.at λo e=>up _ o D.a3 e) (w25.at λo e=>up _ o D.a4 e) t8 e8 λc o n1 n2 n3 n4 e=>up c o n1 (k5 c o n1 n2 n3 n4 e)
theorem zEnd{TI TO:Sn}{k:Nat}{b:Sl}{Q:Fin->So->Prop}(hh:A.handled=none)(D:Off z TI TO i1 i2 l1 l2)
  (hz:UG s.heap z TI TO .none) (hi:Tt s.heap TI (.ref i1) (.ref i2)) (ho:Tt s.heap TO a b)
  (d1:Dr b1 s.heap i1 l1 k) (d2:Dr b2 s.heap i2 l2 k) (q1:Sq b1 s.heap l1 xs) (q2:Sq b2 s.heap l2 ys) (hn:xs[k]?=none\/ys[k]?=none)
  (r:∀g e,(∀c o,c≠z->c≠TO->c≠i1->c≠i2->s.heap.get? c=some o->g.get? c=some o)->(∃o,g.get? e=some o/\o.cls=.type "StopIteration")->E (.ref e) {s with heap:=g}) :
  Sw (SG prog w) A (Uo.«zip.__next__» ⟨[.ref z],[]⟩) Q E s:=by
 show Sw _ _ (Vm (.ref z) 2 >>= _) _ _ _;refine Sj (Tf hz rfl (x:=.bool false) rfl ?_);show Sw _ _ (Vm (.ref z) 3 >>= _) _ _ _;refine Sj (Tf hz rfl (x:=.ref TI) rfl (Sj (Td hi rfl ?_)));show Sw _ _ (S7 (.ref z) >>= _) _ _ _;refine Sj ?_;unfold S7;refine Sj (Tf hz rfl (x:=.none) rfl (Ss ?_));simp only[if_true];refine Sj (UD (Sj (Tf hz rfl (x:=.ref TO) rfl (Sj (T8 hz (by simp) λg1 z1 s1=>?_)))));have z1:UG g1 z TI TO .ellipsis:=z1;refine Sj ?_;simp only[QA,RG,Oy,O_];refine Sj (Sj (VJ ?_));show Sw _ _ (S0 (.ref i1) >>= _) _ _ _;cases hx:xs[k]? with
 |none=>
  refine Sj (zk hh (d1.ext s1.extBut D.a3) (q1.ext s1.extBut D.c1) hx λg2 e s2 he=>?_);obtain⟨oe,hoe,ce⟩:=he;have z2:UG g2 z TI TO .ellipsis:=s2 _ _ D.a3.symm z1;have ne:e≠z:=λq=>by subst q;rw[z2]at hoe;cases hoe;simp at ce
  exact T8 z2 (by simp) λg3 _ s3=>r g3 e (λc o n1 _ n3 _ q=>s3.extBut _ _ n1 (s2 _ _ n3 (s1.extBut _ _ n1 q))) ⟨oe,s3.extBut _ _ ne hoe,ce⟩
 |some x=>
  have hy:ys[k]?=none:=by
   rcases hn with h|h
   ·rw[hx]at h;cases h
   exact h
  refine Sj (pB (d1.ext s1.extBut D.a3) (q1.ext s1.extBut D.c1) hx λg2 w2 s2=>Ss ?_);have o2:Tt g2 TO a b:=s2.extBut _ _ D.a8 (s1.extBut _ _ D.a2 ho);refine Sj (Td o2 rfl (Sj (Vn o2 λg3 o3 s3=>?_)));refine Sj (TJ (Ss (Sj (Sj (VJ ?_)))));show Sw _ _ (S0 (.ref i2) >>= _) _ _ _;refine Sj (zk hh (((d2.ext s1.extBut D.a4).ext s2.extBut D.b1.symm).ext s3.extBut D.a9.symm) (((q2.ext s1.extBut D.e1).ext s2.extBut D.e3).ext s3.extBut D.e2) hy λg4 e s4 he=>?_);obtain⟨oe,hoe,ce⟩:=he;have z4:UG g4 z TI TO .ellipsis:=s4 _ _ D.a4.symm (s3.extBut _ _ D.a2.symm (s2.extBut _ _ D.a3.symm z1));have ne:e≠z:=λq=>by subst q;rw[z4]at hoe;cases hoe;simp at ce
  exact T8 z4 (by simp) λg5 _ s5=>r g5 e (λc o n1 n2 n3 n4 q=>s5.extBut _ _ n1 (s4 _ _ n4 (s3.extBut _ _ n2 (s2.extBut _ _ n3 (s1.extBut _ _ n1 q))))) ⟨oe,s5.extBut _ _ ne hoe,ce⟩
theorem pK{TI TO:Sn}{k:Nat}{x y b:Sl}{Q:Option Sl->So->Prop}(D:Off z TI TO i1 i2 l1 l2)
  (hz:UG s.heap z TI TO .none) (hi:Tt s.heap TI (.ref i1) (.ref i2)) (ho:Tt s.heap TO a b)
  (d1:Dr b1 s.heap i1 l1 k) (d2:Dr b2 s.heap i2 l2 k) (q1:Sq b1 s.heap l1 xs) (q2:Sq b2 s.heap l2 ys) (hx:xs[k]?=some x) (hy:ys[k]?=some y)
  (r:∀g,UG g z TI TO (Vz s.heap.objs.size)->Tt g TO x y->Dr b1 g i1 l1 (k+1)->Dr b2 g i2 l2 (k+1)->Tt g s.heap.objs.size x y->g.objs.size=s.heap.objs.size+1->
   (∀c o,c≠z->c≠TO->c≠i1->c≠i2->s.heap.get? c=some o->g.get? c=some o)->Q (some (.ref s.heap.objs.size)) {s with heap:=g}) :
  Sw (SG prog w) A (Ua (.ref z)) Q E s:=by
 have hT:s.TypeIs (.ref z) "zip":=⟨_,hz,rfl⟩;unfold Ua;refine Sj (UA (Tu (name:=Ue "__next__") hT T1 (Tp T1 hT Ve ?_ (U6 _))));exact LR D hz hi ho d1 d2 q1 q2 hx hy λg p1 p2 p3 p4 p5 p6 p7=>Ss (r g p1 p2 p3 p4 p5 p6 p7)
theorem qW{TI TO:Sn}{k:Nat}{b:Sl}{Q:Option Sl->So->Prop}(hh:A.handled=none)(D:Off z TI TO i1 i2 l1 l2)
  (hz:UG s.heap z TI TO .none) (hi:Tt s.heap TI (.ref i1) (.ref i2)) (ho:Tt s.heap TO a b)
  (d1:Dr b1 s.heap i1 l1 k) (d2:Dr b2 s.heap i2 l2 k) (q1:Sq b1 s.heap l1 xs) (q2:Sq b2 s.heap l2 ys) (hn:xs[k]?=none\/ys[k]?=none)
  (r:∀g,(∀c o,c≠z->c≠TO->c≠i1->c≠i2->s.heap.get? c=some o->g.get? c=some o)->Q none {s with heap:=g}):Sw (SG prog w) A (Ua (.ref z)) Q E s:=by
 have hT:s.TypeIs (.ref z) "zip":=⟨_,hz,rfl⟩;unfold Ua;refine Sj (UA (Tu (name:=Ue "__next__") hT T1 (Tp T1 hT Ve (zEnd hh D hz hi ho d1 d2 q1 q2 hn λg e k he=>?_) (U6 _))));obtain⟨o,he,hc⟩:=he;exact Sj (UI (T:="StopIteration") (b:=true) ⟨o,he,hc⟩ XI (Ss (r _ k)))
end
noncomputable def nm(b:Bool):String:=if b=true then "tuple_iterator" else "list_iterator"
abbrev Z1(h:SJ)(b1:Bool)(l1:Sn):SJ:=h.push { cls:=.type (nm b1),data:=.fields #[.ref l1,.int 0 0] }
abbrev Z2(h:SJ)(b1 b2:Bool)(l1 l2:Sn):SJ:=(Z1 h b1 l1).push { cls:=.type (nm b2),data:=.fields #[.ref l2,.int 0 0] }
abbrev Z3(h:SJ)(b1 b2:Bool)(l1 l2:Sn):SJ:=(Z2 h b1 b2 l1 l2).push { cls:=.type "tuple",data:=.seq #[.ref h.objs.size,.ref (Z1 h b1 l1).objs.size] }
abbrev Z4(h:SJ)(b1 b2:Bool)(l1 l2:Sn):SJ:=(Z3 h b1 b2 l1 l2).push { cls:=.type "tuple",data:=.seq #[.none,.none] }
abbrev Z5(h:SJ)(b1 b2:Bool)(l1 l2:Sn):SJ:=(Z4 h b1 b2 l1 l2).push { cls:=.type "zip",data:=.fields #[.none,.bool false,.bool false,.ref (Z2 h b1 b2 l1 l2).objs.size,.ref (Z3 h b1 b2 l1 l2).objs.size] }
theorem EF(b1 b2:Bool)(l1 l2:Sn)(xs ys:Array Sl) :
  Meets (Uo.«zip.__new__» ⟨[.type "zip",.ref l1,.ref l2],[]⟩) (λ_ R s=>Sq b1 s.heap l1 xs/\Sq b2 s.heap l2 ys/\R (.ok (.ret (.ref (Z4 s.heap b1 b2 l1 l2).objs.size))) {s with heap:=Z5 s.heap b1 b2 l1 l2}):=
 .of_wp λprog w A R s h=>by
  obtain⟨hp,g,d,tk,os⟩:=s;obtain⟨q1,q2,h⟩:=h;have hsub:=sub_zip;cases b1 with
  |false=>
   have p1:W' (UO ⟨hp,g,d,tk,os⟩) l1 xs:=q1;cases b2 with
   |false=>
    have p2:W' (UO ⟨hp.push { cls:=.type "list_iterator",data:=.fields #[.ref l1,.int 0 0] },g,d,tk,os⟩) l2 ys:=Xd q2 _
    wp_walk using TY p1,TY p2
    exact⟨_,rfl,h⟩
   |true=>
    have p2:V0 (UO ⟨hp.push { cls:=.type "list_iterator",data:=.fields #[.ref l1,.int 0 0] },g,d,tk,os⟩) l2 ys:=W0 q2 _
    wp_walk using TY p1,To p2
    exact⟨_,rfl,h⟩
  |true=>
   have p1:V0 (UO ⟨hp,g,d,tk,os⟩) l1 xs:=q1;cases b2 with
   |false=>
    have p2:W' (UO ⟨hp.push { cls:=.type "tuple_iterator",data:=.fields #[.ref l1,.int 0 0] },g,d,tk,os⟩) l2 ys:=Xd q2 _
    wp_walk using To p1,TY p2
    exact⟨_,rfl,h⟩
   |true=>
    have p2:V0 (UO ⟨hp.push { cls:=.type "tuple_iterator",data:=.fields #[.ref l1,.int 0 0] },g,d,tk,os⟩) l2 ys:=W0 q2 _
    wp_walk using To p1,To p2
    exact⟨_,rfl,h⟩
section
variable{prog:SD}{w:SI}{A:SW}{E:Sl->So->Prop}{s:So}
theorem wM(q1:Sq b1 s.heap l1 xs)(q2:Sq b2 s.heap l2 ys)
  (r:∀g,UG g (s.heap.objs.size+4) (s.heap.objs.size+2) (s.heap.objs.size+3) .none->Tt g (s.heap.objs.size+2) (.ref s.heap.objs.size) (.ref (s.heap.objs.size+1))->Tt g (s.heap.objs.size+3) .none .none->
    Dr b1 g s.heap.objs.size l1 0->Dr b2 g (s.heap.objs.size+1) l2 0->g.objs.size=s.heap.objs.size+5->(∀c o,s.heap.get? c=some o->g.get? c=some o)->Q (.ref (s.heap.objs.size+4)) {s with heap:=g}) :
  Sw (SG prog w) A (call (.type "zip") [.ref l1,.ref l2]) Q E s:=by
 refine Ya F.called_zip (by decide) (F.typeCall_zip_2 _ _) (F.newCall_zip_2 _ _) (λobj=>F.args_object_init_3 obj _ _) F.entry_zip_new (EF b1 b2 l1 l2 xs ys) ⟨q1,q2,?_⟩;have z1:(Z1 s.heap b1 l1).objs.size=s.heap.objs.size+1:=Tz ..;have z2:(Z2 s.heap b1 b2 l1 l2).objs.size=s.heap.objs.size+2:=by rw[Tz,z1]
 have z3:(Z3 s.heap b1 b2 l1 l2).objs.size=s.heap.objs.size+3:=by rw[Tz,z2]
 have z4:(Z4 s.heap b1 b2 l1 l2).objs.size=s.heap.objs.size+4:=by rw[Tz,z3]
 have z5:(Z5 s.heap b1 b2 l1 l2).objs.size=s.heap.objs.size+5:=by rw[Tz,z4]
 have u5:∀c o,(Z4 s.heap b1 b2 l1 l2).get? c=some o->(Z5 s.heap b1 b2 l1 l2).get? c=some o:=λc o e=>Sr _ e;have u4:∀c o,(Z3 s.heap b1 b2 l1 l2).get? c=some o->(Z5 s.heap b1 b2 l1 l2).get? c=some o:=λc o e=>u5 c o (Sr _ e);have u3:∀c o,(Z2 s.heap b1 b2 l1 l2).get? c=some o->(Z5 s.heap b1 b2 l1 l2).get? c=some o:=λc o e=>u4 c o (Sr _ e);have u2:∀c o,(Z1 s.heap b1 l1).get? c=some o->(Z5 s.heap b1 b2 l1 l2).get? c=some o:=λc o e=>u3 c o (Sr _ e);have g5:(Z5 s.heap b1 b2 l1 l2).get? (Z4 s.heap b1 b2 l1 l2).objs.size=some _:=SF _ rfl;have g4:=u5 (Z3 s.heap b1 b2 l1 l2).objs.size _ (SF _ rfl);have g3:=u4 (Z2 s.heap b1 b2 l1 l2).objs.size _ (SF _ rfl);have g2:=u3 (Z1 s.heap b1 l1).objs.size _ (SF _ rfl);have g1:=u2 s.heap.objs.size _ (SF _ rfl);show _/\_;rw[z2,z3,z4]at g5;rw[z1,z2]at g3;rw[z3]at g4;rw[z1]at g2;rw[z4];refine⟨⟨_,g5,rfl⟩,r _ g5 g3 g4 ?_ ?_ z5 λc o e=>u2 c o (Sr _ e)⟩
 ·cases b1 with
  |true=>exact⟨_,g1,rfl,rfl⟩
  |false=>exact⟨_,g1,rfl,rfl⟩
 cases b2 with
 |true=>exact⟨_,g2,rfl,rfl⟩
 |false=>exact⟨_,g2,rfl,rfl⟩
end
end ZG
namespace L2
open PySem PySem.Spec PyProof.Rows
noncomputable def iU(env:Env):List (Str×Up)->List (Str×Sn)->List (Str×Sn)
 | [],cs=>cs
 |x::r,cs=>iU env r (if(x.2 == T5)=true then(x.1,(env.cells.lookup x.1).getD 0)::cs else cs)
theorem qM{env:Env}(f:Str×Up->List (Str×Sn)->Sem (ForInStep (List (Str×Sn))))(hf:∀n k cs,f (n,k) cs=if(k == T5)=true then(do let a <-cellOf env n;pure (SS ((n,a)::cs)))else pure (SS cs)) :
  ∀(names:List (Str×Up)) (cs:List (Str×Sn)),(∀x∈names,x.2=.free->∃c,env.cells.lookup x.1=some c)->forIn names cs f=pure (iU env names cs)
 | [],cs,_=>by rw[O_];rfl
 | (n,k)::r,cs,h=>by
  rw[Oy,hf];have hr:∀x∈r,x.2=.free->∃c,env.cells.lookup x.1=some c:=λx hx=>h x (t_ _ hx);by_cases e:(k == T5)=true
  ·obtain⟨c,hc⟩:=h (n,k) lm (by simpa using e);have hc':env.cells.lookup n=some c:=hc;rw[if_pos e];have q:cellOf env n=pure c:=by unfold cellOf;rw[hc']
   rw[q,pure_bind,pure_bind];show forIn r ((n,c)::cs) f=pure (iU env ((n,k)::r) cs);rw[qM f hf r _ hr];unfold iU;rw[if_pos e,hc'];cases r <;> rfl
  rw[if_neg e,pure_bind];show forIn r cs f=pure (iU env ((n,k)::r) cs);rw[qM f hf r _ hr]
  conv=>rhs;unfold iU
  rw[if_neg e]
variable {sc:TF}
theorem qV{env:Env}(h:∀x∈sc.names,x.2=.free->∃c,env.cells.lookup x.1=some c):closureFor sc env=pure (iU env sc.names []):=by
 unfold closureFor;show(forIn sc.names [] _ >>= λcs=>pure cs)=_;rw[qM (env:=env) _ (λn k cs=>by cases e:k == T5 <;> simp[e]) sc.names [] h]
 rfl
theorem wu{env:Env}:∀{names:List (Str×Up)}{cs:List (Str×Sn)}{x:Str}{c:Sn},(∀y∈names,y.2=.free->∃c,env.cells.lookup y.1=some c)->(iU env names cs).lookup x=some c->
  (env.cells.lookup x=some c/\(x,T5)∈names)\/cs.lookup x=some c
 | [],cs,x,c,_,h=>.inr h
 | (n,k)::r,cs,x,c,hn,h=>by
  unfold iU at h;have hr:∀y∈r,y.2=.free->∃c,env.cells.lookup y.1=some c:=λy hy=>hn y (t_ _ hy);have hh:=wu hr h;clear h;rcases hh with⟨h1,h2⟩|h
  ·exact .inl ⟨h1,t_ _ h2⟩
  by_cases e:(k == T5)=true
  ·rw[if_pos e]at h;obtain⟨c',hc⟩:=hn (n,k) lm (by simpa using e);have hc':env.cells.lookup n=some c':=hc;rw[hc',OK]at h;by_cases ex:(x == n)=true
   ·rw[ex]at h;have ex':x=n:=by simpa using ex
    have ek:k=T5:=by simpa using e
    subst ex' ek;have h':c'=c:=L' h;subst h';exact .inl ⟨hc',lm⟩
   have ex':(x == n)=false:=by simpa using ex
   rw[ex']at h;exact .inr h
  rw[if_neg e]at h;exact .inr h
theorem x5{env:Env}:∀{names:List (Str×Up)}{cs:List (Str×Sn)}{x:Str}{c:Sn},(∀y∈names,y.2=.free->∃c,env.cells.lookup y.1=some c)->env.cells.lookup x=some c->cs.lookup x=some c->(iU env names cs).lookup x=some c
 | [],cs,x,c,_,_,h=>h
 | (n,k)::r,cs,x,c,hn,he,h=>by
  unfold iU;refine x5 (λy hy=>hn y (t_ _ hy)) he ?_;by_cases e:(k == T5)=true
  ·rw[if_pos e,OK];by_cases ex:(x == n)=true
   ·rw[ex];have ex':x=n:=by simpa using ex
    subst ex';show some ((env.cells.lookup x).getD 0)=some c;rw[he];rfl
   have ex':(x == n)=false:=by simpa using ex
   rw[ex'];exact h
  rw[if_neg e];exact h
theorem v8{env:Env}:∀{names:List (Str×Up)}{cs:List (Str×Sn)}{x:Str}{c:Sn},(∀y∈names,y.2=.free->∃c,env.cells.lookup y.1=some c)->env.cells.lookup x=some c->(x,T5)∈names->(iU env names cs).lookup x=some c
 | (n,k)::r,cs,x,c,hn,he,hm=>by
  have hr:∀y∈r,y.2=.free->∃c,env.cells.lookup y.1=some c:=λy hy=>hn y (t_ _ hy);unfold iU;rcases n_.mp hm with e|hm
  ·obtain⟨rfl,rfl⟩:=Prod.mk.inj e;rw[if_pos (by rfl)];refine x5 hr he ?_;rw[OK,beq_self_eq_true];show some ((env.cells.lookup x).getD 0)=some c;rw[he];rfl
  exact v8 hr he hm
noncomputable def qS(env:Env)(sc:TF):TF:={sc with names:=sc.names.map λx=>if(x.2 == .free&&env.scope.kind == .function&&env.kindOf x.1 == some .cell)=true then(x.1,.cell)else(x.1,x.2) }
theorem nz{f:Str×Up->Bool}(x:Str):∀names:List (Str×Up),(names.map λy=>if f y=true then(y.1,YZ)else(y.1,y.2)).lookup x=(names.lookup x).map λk=>if f (x,k)=true then .cell else k
 | []=>rfl
 | (n,k)::r=>by
  rw[f'];by_cases ex:(x == n)=true
  ·have ex':x=n:=by simpa using ex
   subst ex';cases e:f (x,k) <;> simp[e,OK]
  have ex':(x == n)=false:=by simpa using ex
  have ih:=nz (f:=f) x r;cases e:f (n,k) <;> simp only[e,if_true,if_false,MZ,OK,ex',ih]
theorem o6(env:Env)(sc:TF)(x:Str):(qS env sc).names.lookup x=(sc.names.lookup x).map λk=>if(k == .free&&env.scope.kind == .function&&env.kindOf x == some .cell)=true then .cell else k:=
 nz (f:=λy=>(y.2 == .free&&env.scope.kind == .function&&env.kindOf y.1 == some .cell)) x sc.names
def compEnv(env:Env)(sc:TF)(L:Sn):Env:={ newEnv sc L env.globals (iU env sc.names []) env.qual none .none (some env) Wt with scope:=qS env sc}
variable {Q:Sl->So->Prop}{e:SK}{gs:List VL}{newAcc:Sem Sl}{pos:Pos}{scope:TF}
section
variable{M:UC}{A:SW}{E:Sl->So->Prop}{s:So}{env:Env}
theorem oI{first:Sem Sl}{g:VL}
  (hcl:clausesOf e=g::gs) (hs:∀x,Tx g.iter env x=pure x)
  (hc:∀x∈scope.names,x.2≠.cell) (hfr:∀x∈scope.names,x.2=.free->∃c,env.cells.lookup x.1=some c) (hkind:scope.kind=.function) (hnames:∀x∈scope.names,x.2=.local->scope.names.lookup x.1=some .local)
  (h:Sw M A first (λx s₁=>Sw M A (Wk x) (λit s₂=>Sw M A newAcc (λacc s₃=>
   ∀h4,h4.Ns s₃.heap.objs.size (λ_=>none)->(∀b o,s₃.heap.get? b=some o->h4.get? b=some o)->
    Um M A (.compStart e 0 it acc (compEnv env scope s₃.heap.objs.size)) (λr s'=>∃m,s'.heap.Ns s₃.heap.objs.size m/\∀h',T_ s₃.heap.objs.size s'.heap h'->
     match r with | .ok _=>Q acc {s' with heap:=h'} | .error x=>False) { s₃ with heap:=h4}) E s₂) E s₁) E s) :
  Sw M A (Vd e scope env pos newAcc false first) Q E s:=by
 unfold Vd;rw[qV hfr,hcl];refine Sj (Tb h (λx s₁ h₁=>Sj (Uz (Sj (Vw (hs x) (Sj (SY (Tb h₁ (λit s₂ h₂=>
  X1 (Sj (Tb h₂ (λacc s₃ h₃=>Sj (Ss (Sj ?_))) λ_ _ h'=>h')))
   λ_ _ h'=>h'))))))) λ_ _ h'=>h')
 refine Wy hc (λx hx=>nomatch hx) (λh4 hn4 hs4=>?_) hkind;have h₄:=h₃ h4 hn4 λb o e=>hs4.extBut b o (j_ (Sx e)) (Sr _ e);dsimp only;have hv:∀x∈(scope.names.filter λx=>(x.2 == .local || x.2 == .cell)&&x.1 !=(".0":Str)).reverse,x.2=.local->
   Xp (compEnv env scope s₃.heap.objs.size) x.1=some .local:=λx hx hl=>by
  show(qS env scope).names.lookup x.1=some .local;rw[o6,hnames x (N0.mp (Pz.mp hx)).1 hl]
  rfl
 refine SY (Sj (UA (SY (wpAny_run (Vk h₄ λr s' hr=>?_)))));obtain⟨m,hn,hr⟩:=hr;cases r with
 |ok f=>exact Sj (SY (Xe (cenv:=compEnv env scope s₃.heap.objs.size) hkind _ s' m hv hn λh' m' _ hs'=>Ss (hr h' hs')))
 |error x=>exact(hr s'.heap (.refl ..)).elim
end
variable {elt iter target:SK}{ifs:List SK}
section
variable{prog:SD}{w:SI}{A:SW}{R:Xi->So->Prop}{s:So}
theorem pF{it acc:Sl}{env:Env}(I:Nat->So->Prop)
  (turn:∀n s,I n s->Sw (SG prog w) A (Ua it) (λr s₁=>match r with
   |none=>R (.ok .next) s₁
   |some v=>Sw (SG prog w) A (Vj target it v) (λ_ s₁'=>Sw (SG prog w) A (UU target env v) (λ_ s₂=>
     Sw (SG prog w) A (forIn ifs true λc r=>if r=true then do let ok <-WL c env (Ta c env);pure (SS ok)else pure (SS r)) (λok s₃=>
      if ok=true then Sw (SG prog w) A (Ta elt env) (λx s₄=>
       Sw (SG prog w) A (call (.builtin "list.append") [acc,x]) (λ_ s₅=>∃m,m<n/\I m s₅) (λ_ _=>False) s₄) (λ_ _=>False) s₃
      else ∃m,m<n/\I m s₃) (λ_ _=>False) s₂) (λ_ _=>False) s₁') (λ_ _=>False) s₁) (λ_ _=>False) s)
  (n:Nat) (h:I n s) :
  Um (SG prog w) A (.compLoop (.ListComp elt [⟨target,iter,ifs,0⟩] scope pos) 0 it acc env) R s:=by
 refine codeAny_loop rfl I (λn s hI=>?_) n h;show Sw _ A ((compTurn (.ListComp elt [⟨target,iter,ifs,0⟩] scope pos) 0 it acc env).onRaise (λx=>do noteFrame x env;theTreesLotGoes x)) _ _ s;refine wpAny_noted ?_;rw[compTurn_list];refine Sj (Uz (Sj (Tb (turn n s hI) (λr s₁ h₁=>?_) λ_ _ h'=>h'.elim)));cases r with
 |none=>exact Ss h₁
 |some v=>
  refine Sj (Tb h₁ (λ_ s₁' h₁'=>?_) λ_ _ h'=>h'.elim);refine Sj (Tb h₁' (λ_ s₂ h₂=>Sj (Tb h₂ (λok s₃ h₃=>?_) λ_ _ h'=>h'.elim)) λ_ _ h'=>h'.elim);cases ok with
  |false=>exact Ss ⟨rfl,h₃⟩
  |true=>
   exact Sj (Sj (Tb h₃ (λx s₄ h₄=>Sj (Tb h₄ (λ_ s₅ h₅=>Ss (Ss ⟨rfl,h₅⟩)) λ_ _ h'=>h'.elim)) λ_ _ h'=>h'.elim))
end
def bU(X:Cx)(N':List Str)(sc:TF)(s3:So)(H3:Hp)(fp:List Sn):Cx where
 prog:=X.prog
 w:=X.w
 K:=X.K
 mg:=X.mg
 base:=X.base
 A:=X.A
 N:=N'
 s₀:=s3
 H₀:=H3
 env:=compEnv X.env sc s3.heap.objs.size
 outer:=X.stack
 stack:=X.stack
 ex:=fp
 calm:=true
 fn:=λ_=>false
 pn:=[]
 xe:=λ_ _=>False
noncomputable def lE(N:List Str)(esc sc:TF)(N':List Str)(fr:List (Option Nat)):Bool:=
 sc.kind == .function&&esc.kind == .function
 && sc.names.all (λy=>(y.2 != .cell)&&(y.2 != .free || esc.names.lookup y.1 == some .cell)&&(y.2 != .local || sc.names.lookup y.1 == some .local))
 && fr.length == N'.length
 && (B' N'.length).all (λi=>match fr[i]? with
  |some (some j)=>match N'[i]? with
   |some x=>N[j]? == some x&&sc.names.lookup x == some .free
   |none=>false
  | _=>true)
structure CompOk (N:List Str) (esc sc:TF) (N':List Str) (fr:List (Option Nat)):Prop where
 kind:sc.kind=.function
 ekind:esc.kind=.function
 nocell:∀x∈sc.names,x.2≠.cell
 free:∀x∈sc.names,x.2=.free->esc.names.lookup x.1=some .cell
 names:∀x∈sc.names,x.2=.local->sc.names.lookup x.1=some .local
 len:fr.length=N'.length
 at_:∀(i j:Nat) (x:Str),fr[i]?=some (some j)->N'[i]?=some x->N[j]?=some x/\sc.names.lookup x=some .free
variable {N N':List Str}{esc:TF}{fr:List (Option Nat)}
theorem tO(h:lE N esc sc N' fr=true):CompOk N esc sc N' fr:=by
 unfold lE at h;simp only[L_,beq_iff_eq,NU,K_]at h;obtain⟨⟨⟨⟨h1,h2⟩,h3⟩,h4⟩,h5⟩:=h;refine⟨h1,h2,λx hx=>?_,λx hx e=>?_,λx hx e=>?_,h4,λi j x e1 e2=>?_⟩
 ·have:=(h3 x hx).1.1;simpa using this
 ·have:=(h3 x hx).1.2;rw[e]at this;simpa using this
 ·have:=(h3 x hx).2;rw[e]at this;simpa using this
 have hi:i<N'.length:=(gV.mp e2).1;have q:=h5 i hi;rw[e1,e2]at q;simpa using q
noncomputable def gU(fr:List (Option Nat))(σ:St):St:=fr.map λo=>match o with
 |some j=>(σ[j]?).join
 |none=>none
variable {X:Cx}
theorem xj{ac:List (Sn×Obj)}{σ:St}{H3:Hp}{s3:So}{fp:List Sn}{h4:SJ}(I:Inv X ac σ H3 s3)(C:CompOk X.N X.env.scope sc N' fr)(hc:X.calm=true)
  (hfp:∀b∈fp,ny X ac H3 b) (hfo:∀b∈fp,∃o,s3.heap.get? b=some o) (hn:h4.Ns s3.heap.objs.size (λ_=>none)) (hk:∀b o,s3.heap.get? b=some o->h4.get? b=some o) :
  Inv (bU X N' sc s3 H3 fp) [] (gU fr σ) H3 {s3 with heap:=h4}:=by
 have hfr:∀x∈sc.names,x.2=.free->∃c,X.env.cells.lookup x.1=some c:=λx hx e=>I.ok.has x.1 (.inl (C.free x hx e));have clo:∀{x c},(iU X.env sc.names []).lookup x=some c->X.env.cells.lookup x=some c:=λ{x c} e=>by
  rcases wu hfr e with⟨h1,_⟩|h
  ·exact h1
  cases h
 have nfs:∀b∈fp,b ∉ frs X.stack:=λb hb z=>by
  obtain⟨_,h1,h2,_⟩:=hfp b hb;rcases n_.mp (I.y9 b z)with e|e
  ·exact h1 e
  exact h2 e
 have hfresh:H3 s3.heap.objs.size=none:=I.hok.fresh (e_ _);refine⟨⟨I.ok.mod,C.kind,I.ok.glob,I.ok.blt,e_ _,λx y c e1 e2=>I.ok.inj x y c (clo e1) (clo e2),λx hx=>?_,λx c z=>(nomatch z),λ_=>I.ok.hd hc,I.ok.frames,.inl rfl,λb hb=>⟨?_,λx c e=>?_⟩,λb o e=>I.bs b o e,r_ I.ok.bsz I.sz,λb o e hb=>?_,nfs,I.stack,I.Af⟩,
  rfl,I.bare,Un.kept hk,⟨_,hn,λi x v e1 e2 e3=>?_⟩,λx c e=>?_,hfresh,λx c e=>I.freeC x c (clo e),λp hp=>(nomatch hp),I.hok.kept hk,?_⟩
 ·have hx:(qS X.env sc).names.lookup x=some .cell\/(qS X.env sc).names.lookup x=some .free:=hx;rw[o6]at hx;cases e:sc.names.lookup x with
  |none=>rw[e]at hx;rcases hx with z|z <;> cases z
  |some k=>
   have hm:(x,k)∈sc.names:=T4 e;have hk:k=.free:=by
    rw[e]at hx;cases k with
    |free=>rfl
    |cell=>exact absurd rfl (C.nocell _ hm)
    | _=>rcases hx with z|z <;>(simp at z)
   subst hk;obtain⟨c,hc'⟩:=hfr _ hm rfl;exact⟨c,v8 hfr hc' hm⟩
 ·obtain⟨o,ho⟩:=hfo b hb;exact j_ (Sx ho)
 ·exact(hfp b hb).2.2.2.2.1 x c (clo e)
 ·obtain⟨e1,_⟩:=I.ok.bs b o e;rcases(hfp b hb).2.2.2.1 with z|z
  ·exact I.ok.noex b o e z
  exact absurd (v_ (Sx e1) z) (NR _)
 ·have e2:(gU fr σ)[i]?=some (some v):=e2;unfold gU at e2;rw[u_]at e2;cases ef:fr[i]? with
  |none=>rw[ef]at e2;cases e2
  |some o=>
   rw[ef]at e2;cases o with
   |none=>cases e2
   |some j=>
    have e2':(σ[j]?).join=some v:=by simpa using e2
    have e2'':σ[j]?=some (some v):=by
     cases q:σ[j]? with
     |none=>rw[q]at e2';cases e2'
     |some z=>rw[q]at e2';exact congrArg some e2'
    obtain⟨hN,hfrx⟩:=C.at_ i j x ef e1;have hm:(x,T5)∈sc.names:=T4 hfrx;have hcell:=C.free _ hm rfl;obtain⟨m,_,hl⟩:=I.loc;obtain⟨u,r,l⟩:=hl j x v hN e2'' (.inr (.inl hcell));refine⟨u,r,.inr ⟨.inl ?_,?_⟩⟩
    ·show(qS X.env sc).names.lookup x=some .cell;rw[o6,hfrx];have h1:X.env.kindOf x=some .cell:=hcell;have h2:X.env.scope.kind=.function:=C.ekind;simp[h1,h2]
    rcases l with⟨k,_⟩|⟨_,c,ec,ic⟩
    ·have h1:X.env.kindOf x=some .cell:=hcell;rw[h1]at k;cases k
    obtain⟨o,ho,hd⟩:=ic;exact⟨c,v8 hfr ec hm,o,hk c o ho,hd⟩
 ·obtain⟨v,o,ho,hd⟩:=I.cell x c (clo e);exact⟨v,o,hk c o ho,hd⟩
 unfold gU;rw[a_];exact C.len
def PTs(X:Cx)(ifs:List SK)(t:TT):Prop:=
 ∀(ac:List (Sn×Obj)) (s:So) (σ:St) (H:Hp) (Q:Bool->Hp->Prop),Inv X ac σ H s->t σ H Q->
  Sw (SG X.prog X.w) X.A (forIn ifs true λc r=>if r=true then do let ok <-WL c X.env (Ta c X.env);pure (SS ok)else pure (SS r)) (TP X ac σ Q) X.xe s
noncomputable def Mx:TT:=λ_ H Q=>Q true H
theorem EY:PTs X [] Mx:=λac s σ H Q I h=>wpAny_tests_nil ⟨H,I,h⟩
theorem FV{c:SK}{t:TT}(h:PT X c t):PTs X [c] t:=λac s σ H Q I q=>wpAny_tests_one (h ac s σ H Q I q)
def Ka(J:It)(fr:List (Option Nat))(g:So->Hp->List Sn->TG)(tt:So->Hp->List Sn->TT)(te:So->Hp->List Sn->TE)(σ:St)(H1:Hp)(Q:VK):Prop:=∀p,H1 p=none->∀s3 H3' fp,∃W:Nat->Nat->St->Hp->Prop,(∃m,W 0 m (gU fr σ) (upd H1 p (.lst [])))/\∀i m cl H',W i m cl H'->
 (J.stop i H'/\Q (.ref p) H')\/(J.go i H'/\∀x H2,J.yld i H' x H2->g s3 H3' fp x cl H2 λσ2 H3=>tt s3 H3' fp σ2 H3 λb H4=>
  if b=true then te s3 H3' fp σ2 H4 λv H5=>∃ys,H5 p=some (.lst ys)/\ys.length<sizeLine/\∃m',m'<m/\W (i+1) m' σ2 (upd H5 p (.lst (ys++[v])))else ∃m',m'<m/\W (i+1) m' σ2 H4)
def zO(wi:TI)(fr:List (Option Nat))(g:So->Hp->List Sn->TG)(tt:So->Hp->List Sn->TT)(te:So->Hp->List Sn->TE):TE:=λσ H Q=>wi σ H λJ H1=>Ka J fr g tt te σ H1 Q
variable {te:So->Hp->List Sn->TE}{tt:So->Hp->List Sn->TT}{wi:TI}
theorem G1(N':List Str)(fr:List (Option Nat)){g:So->Hp->List Sn->TG}(hc:X.calm=true)(C:lE X.N X.env.scope sc N' fr=true)
  (hi:PI X target iter wi) (hg:∀s3 H3 fp,PG (bU X N' sc s3 H3 fp) target (g s3 H3 fp)) (ht:∀s3 H3 fp,PTs (bU X N' sc s3 H3 fp) ifs (tt s3 H3 fp)) (he:∀s3 H3 fp,PE (bU X N' sc s3 H3 fp) elt (te s3 H3 fp))
  (hs:∀x,Tx iter X.env x=pure x:=by intro _;rfl):PE X (.ListComp elt [⟨target,iter,ifs,0⟩] sc pos) (zO wi fr g tt te):=by
 have C:=tO C;intro ac s σ H Q I h;rw[eval_ListComp];have hfr:∀x∈sc.names,x.2=.free->∃c,X.env.cells.lookup x.1=some c:=λx hx e=>I.ok.has x.1 (.inl (C.free x hx e));refine oI (g:=⟨target,iter,ifs,0⟩) (gs:=[]) rfl hs C.nocell hfr C.kind C.names ?_;show Sw _ _ (Ta iter X.env) _ _ s;refine thn (hi ac s σ H _ I h) λv s1 h1=>thn h1 λitv s2 h2=>?_;obtain⟨it,fp,tn,J,H2,e,I2,T,ii,f2,k2⟩:=h2;subst e;refine UK ?_ (by show 0<=sizeLine;decide);have hf:H2 s2.heap.objs.size=none:=I2.hok.fresh (e_ _);obtain⟨W,⟨m0,w0⟩,turn⟩:=k2 _ hf {s2 with heap:=s2.heap.push { cls:=.type "list",data:=.seq ([]:List Sl).toArray} } (upd H2 s2.heap.objs.size (.lst [])) fp;have kp:∀b u,s2.heap.get? b=some u->(s2.heap.push { cls:=.type "list",data:=.seq ([]:List Sl).toArray}).get? b=some u:=λb u e=>Sr _ e;have I3:Inv X ac σ (upd H2 s2.heap.objs.size (.lst [])) {s2 with heap:=s2.heap.push { cls:=.type "list",data:=.seq ([]:List Sl).toArray} }:=
  I2.laid (t':=s2.toks) kp (e_ _) ⟨MU _,[],0,.nil,SF _ rfl⟩
 have obj2:=T.obj 0 s2.heap ii;have fpne:∀b∈fp,b≠s2.heap.objs.size:=λb hb=>by obtain⟨o,ho,_⟩:=obj2 b hb;exact j_ (Sx ho)
 have f3:∀b∈fp,ny X ac (upd H2 s2.heap.objs.size (.lst [])) b:=λb hb=>⟨by rw[aQ (fpne b hb)];exact(f2 b hb).1,(f2 b hb).2⟩
 have im:=T.keep 0 s2.heap _ ii λb hb o e=>kp b o e;have obj3:=T.obj 0 _ im;intro h4 hn4 hk4;have st4:=T.keep 0 _ h4 im λb hb o e=>hk4 b o e;have I4:=xj (N':=N') (fr:=fr) (fp:=fp) I3 C hc f3 (λb hb=>let ⟨o,ho,_⟩:=obj3 b hb;⟨o,ho⟩) hn4 hk4;have stat:∀{H':Hp},(∀b∈fp,H' b=none)->∀b∈fp,ny (bU X N' sc {s2 with heap:=s2.heap.push { cls:=.type "list",data:=.seq ([]:List Sl).toArray} } (upd H2 s2.heap.objs.size (.lst [])) fp) [] H' b:=λhn b hb=>
  ⟨hn b hb,(I4.ok.exf b hb).1,I4.ok.exfs b hb,.inl hb,(I4.ok.exf b hb).2,λp hp=>(nomatch hp)⟩
 have loop:Um (SG X.prog X.w) X.A (.compLoop (.ListComp elt [⟨target,iter,ifs,0⟩] sc pos) 0 (.ref it) (.ref s2.heap.objs.size) (compEnv X.env sc (s2.heap.push { cls:=.type "list",data:=.seq ([]:List Sl).toArray}).objs.size))
   (λr s'=>∃m,s'.heap.Ns (s2.heap.push { cls:=.type "list",data:=.seq ([]:List Sl).toArray}).objs.size m/\∀h',T_ (s2.heap.push { cls:=.type "list",data:=.seq ([]:List Sl).toArray}).objs.size s'.heap h'->
    match r with | .ok _=>EP X ac σ Q (.ref s2.heap.objs.size) {s' with heap:=h'} | .error x=>False) {s2 with heap:=h4}:=by
  refine pF (λn s'=>∃i cl H',Inv (bU X N' sc {s2 with heap:=s2.heap.push { cls:=.type "list",data:=.seq ([]:List Sl).toArray} } (upd H2 s2.heap.objs.size (.lst [])) fp) [] cl H' s'/\tn i s'.heap/\(∀b∈fp,H' b=none)/\W i n cl H') ?_ m0
   ⟨0,_,_,I4,st4,λb hb=>(f3 b hb).1,w0⟩
  rintro n s5 ⟨i,σ5,H5,I5,st5,fr5,w5⟩;rcases turn i n σ5 H5 w5 with⟨stop,q⟩|⟨go,step⟩
  ·refine thn (T.done (bU X N' sc _ _ fp) rfl rfl rfl rfl i [] s5 σ5 H5 (λ_ _=>False) I5 (stat fr5) st5 stop) ?_;rintro r s6 ⟨hr,I6⟩;subst hr;obtain⟨m6,hn6,_⟩:=id I6.loc;refine⟨m6,hn6,λh' hs'=>?_⟩;have hL:H5 (s2.heap.push { cls:=.type "list",data:=.seq ([]:List Sl).toArray}).objs.size=none:=I6.free;have hok':HOk X.prog X.w H5 h':=λb u e=>by
    refine(I6.hok b u e).mO (λc v hc q=>(hs'.2 c ?_).trans q) (λ_ q=>q) λ_ _ q=>q;rintro rfl;rcases hc with rfl|hc
    ·rw[hL]at e;cases e
    rw[hL]at hc;cases hc
   have ub:=I6.base;have lt:∀b o,(s2.heap.push { cls:=.type "list",data:=.seq ([]:List Sl).toArray}).get? b=some o->b≠(s2.heap.push { cls:=.type "list",data:=.seq ([]:List Sl).toArray}).objs.size:=λb o e=>j_ (Sx e);have un:Un (frs X.stack) fp (upd H2 s2.heap.objs.size (.lst [])) H5 (s2.heap.push { cls:=.type "list",data:=.seq ([]:List Sl).toArray}) h':=
    ⟨λb o e n hb hx=>(hs'.2 b (lt b o e)).trans (ub.keep b o e n hb hx),λb o e n hb hx=>let ⟨sl,z⟩:=ub.slot b o e n hb hx;⟨sl,(hs'.2 b (lt b o e)).trans z⟩,ub.free,
     λb o e hx=>let ⟨o',z⟩:=ub.there b o e hx;⟨o',(hs'.2 b (lt b o e)).trans z⟩,ub.tups,ub.frzs,ub.tbls⟩
   refine⟨.ref s2.heap.objs.size,H5,I3.He (s':={s6 with heap:=h'}) (ch:=fp) I6.os un hok' I6.bare (λb hb=>?_),rfl,q⟩;obtain⟨_,g1,g2,g3,g4,g5⟩:=f3 b hb;exact⟨g3,g1,g4,g5⟩
  refine thn (T.item (bU X N' sc _ _ fp) rfl rfl rfl rfl i [] s5 σ5 H5 (λ_ _=>False) I5 (stat fr5) st5 go) ?_;rintro r s6 ⟨u,hr,h6⟩;subst hr;refine thn h6 ?_;rintro _ s7 ⟨x,H7,I7,r7,y7,st7,fr7⟩;have I7':=I7.pinned (stat fr7) (T.obj _ _ st7);have V9:∀{σ8:St}{H8:Hp}{s8:So},Inv (bU X N' sc {s2 with heap:=s2.heap.push { cls:=.type "list",data:=.seq ([]:List Sl).toArray} } (upd H2 s2.heap.objs.size (.lst [])) fp) ([]++oB fp s7.heap) σ8 H8 s8->(∃m',m'<n/\W (i+1) m' σ8 H8)->
    ∃m,m<n/\∃i cl H',Inv (bU X N' sc {s2 with heap:=s2.heap.push { cls:=.type "list",data:=.seq ([]:List Sl).toArray} } (upd H2 s2.heap.objs.size (.lst [])) fp) [] cl H' s8/\tn i s8.heap/\(∀b∈fp,H' b=none)/\W i m cl H':=λ{σ8 H8 s8} I8 ⟨m',hm,w8⟩=>by
   refine⟨m',hm,i+1,σ8,H8,I8.kQ,T.keep _ _ _ st7 λb hb o e=>(I8.pin (b,o) (q_ _ (q_ _ (iw hb e)))).1,λb hb=>?_,w8⟩;obtain⟨o,e,d⟩:=T.obj _ _ st7 b hb;exact(I8.pin (b,o) (q_ _ (q_ _ (iw hb e)))).2.1
  refine thn (hg _ _ fp _ s7 σ5 H7 x u _ I7' r7 (step x H7 y7)) ?_;rintro _ s8 ⟨σ8,H8,I8,q8⟩;refine thn (ht _ _ fp _ s8 σ8 H8 _ I8 q8) ?_;rintro ok s9 ⟨H9,I9,q9⟩;cases ok with
  |false=>exact V9 I9 q9
  |true=>
   refine thn (he _ _ fp _ s9 σ8 H9 _ I9 q9) ?_;rintro y s10 ⟨v,H10,I10,r10,ys,hys,hl,q10⟩;refine thn (oR _ s10 σ8 H10 (.ref s2.heap.objs.size) [v] (.ref s2.heap.objs.size) [y] (λ_ H'=>∃m',m'<n/\W (i+1) m' σ8 H') I10 rfl (.cons r10 .nil) ⟨_,ys,v,rfl,rfl,hys,hl,q10⟩) ?_;rintro z s11 ⟨_,H11,I11,_,q11⟩;exact V9 I11 q11
 refine Wh loop ?_;exact T.self X.A 0 _ _ _ st4 loop
def SqG(b:Bool)(K:Sm)(H:Hp)(a:Sn)(xs:List V):Prop:=match b with
 |true=>SqT K H a xs
 |false=>SqL K H a xs
variable {a:Sn}{b:Bool}{xs:List V}
section
variable{X:Cx}{ac:List (Sn×Obj)}{σ:St}{H:Hp}{s:So}
theorem Inv.sq (I:Inv X ac σ H s)(h:SqG b X.K H a xs):∃ap:List Sl,Vals xs ap/\ZG.Sq b s.heap a ap.toArray/\xs.length<=sizeLine:=by
 cases b with
 |true=>exact I.tuple h
 |false=>
  obtain⟨ap,r,p,z⟩:=I.list h;exact⟨ap,r,p.isList,z⟩
theorem Inv.y8 (I:Inv X ac σ H s){ys:List V}(h:SqG b X.K H a xs)(h':SqG b X.K H a ys):xs=ys:=by
 cases b with
 |true=>exact I.lN h h'
 |false=>exact I.wk h h'
theorem Inv.GV (I:Inv X ac σ H s){b:Sn}{u:HO}(h:Rd H a u)(f:ny X ac H b):a≠b:=by
 rintro rfl;rcases h with h|⟨o,h⟩
 ·rw[f.1]at h;cases h
 rw[f.1]at h;cases h
theorem Inv.LL (I:Inv X ac σ H s){b:Sn}{o:Obj}(h:X.K.lookup a=some o)(f:ny X ac H b):a≠b:=by
 rintro rfl;have e:X.base.get? a=some o:=I.ok.mod.kin a o h;rcases f.2.2.2.1 with z|z
 ·exact I.ok.noex a o e z
 exact absurd (v_ (Sx (I.ok.bs a o e).1) z) (NR _)
theorem Inv.hV (I:Inv X ac σ H s){c:Sn}(h:SqG b X.K H a xs)(f:ny X ac H c):a≠c:=by
 cases b with
 |true=>
  rcases h with h|⟨o,ap,n,hk,_⟩
  ·exact I.GV h f
  ·exact I.LL hk f
 |false=>
  rcases h with h|⟨o,ap,n,hk,_⟩
  ·exact I.GV h f
  exact I.LL hk f
end
def Itz(K:Sm)(b1:Bool)(a1:Sn)(b2:Bool)(a2:Sn):It:=
  ⟨λi H=>∃xs ys x y,SqG b1 K H a1 xs/\SqG b2 K H a2 ys/\xs[i]?=some x/\ys[i]?=some y,
   λi H v H'=>∃p x y,H p=none/\v=.ref p/\H'=upd H p (.tup [x,y])/\(∀xs,SqG b1 K H a1 xs->xs[i]?=some x)/\∀ys,SqG b2 K H a2 ys->ys[i]?=some y,
   λi H=>∃xs ys,SqG b1 K H a1 xs/\SqG b2 K H a2 ys/\(xs.length<=i\/ys.length<=i)⟩
structure Off5 (z TI TO i1 i2:Sn):Prop where
 a1:TI≠z
 a2:TO≠z
 a3:i1≠z
 a4:i2≠z
 a5:TI≠TO
 a6:TI≠i1
 a7:TI≠i2
 a8:TO≠i1
 a9:TO≠i2
 b1:i1≠i2
variable {K:Sm}{P:SD}{es:List SK}{w:SI}
theorem Dk{x1:Nat}{tp:Pos}(b1:Bool)(a1:Sn)(b2:Bool)(a2 z TI TO i1 i2:Sn)(D:Off5 z TI TO i1 i2) :
  Turn P w K (.Tuple es x1 tp) (Itz K b1 a1 b2 a2) [z,TI,TO,i1,i2] z (λi h=>UG h z TI TO .none/\Tt h TI (.ref i1) (.ref i2)/\(∃a b,Tt h TO a b)/\ZG.Dr b1 h i1 a1 i/\ZG.Dr b2 h i2 a2 i) where
 mem:=by simp
 obj:=λi h st b hb=>by
  obtain⟨hz,hi,⟨a,c,ho⟩,d1,d2⟩:=st;have hb:b=z\/b=TI\/b=TO\/b=i1\/b=i2:=by simpa using hb
  rcases hb with rfl|rfl|rfl|rfl|rfl
  ·exact⟨_,hz,λv e=>by cases (show W9 _=V8 v from e)⟩
  ·exact⟨_,hi,λv e=>by cases (show X' _ _=V8 v from e)⟩
  ·exact⟨_,ho,λv e=>by cases (show X' _ _=V8 v from e)⟩
  ·exact d1.some
  exact d2.some
 keep:=λi h h' st k=>by obtain⟨hz,hi,⟨a,c,ho⟩,d1,d2⟩:=st;exact⟨k z (by simp) _ hz,k TI (by simp) _ hi,⟨a,c,k TO (by simp) _ ho⟩,d1.at λo e=>k i1 (by simp) o e,d2.at λo e=>k i2 (by simp) o e⟩
 item:=by
  intro X hP hw hK hc i ac s σ H E I hf st hg;subst hP hw hK;obtain⟨xs,ys,x,y,q1,q2,hx,hy⟩:=hg;obtain⟨ap,rv,p1,z1⟩:=I.sq q1;obtain⟨jts,sv,p2,z2⟩:=I.sq q2;obtain⟨u,hu,ru⟩:=rv.get hx;obtain⟨v,hv,rw'⟩:=sv.get hy;obtain⟨hz,hi,⟨a,c,ho⟩,d1,d2⟩:=st;have fz:=hf z (by simp);have fTI:=hf TI (by simp);have fTO:=hf TO (by simp);have f1:=hf i1 (by simp);have f2:=hf i2 (by simp);have DD:ZG.Off z TI TO i1 i2 a1 a2:=⟨D.a1,D.a2,D.a3,D.a4,D.a5,D.a6,D.a7,D.a8,D.a9,D.b1,I.hV q1 fz,I.hV q1 fTO,I.hV q1 f1,I.hV q1 f2,I.hV q2 fz,I.hV q2 fTO,I.hV q2 f1,I.hV q2 f2⟩;refine ZG.pK DD hz hi ho d1 d2 p1 p2 (by simpa using hu) (by simpa using hv) λg gz gO g1 g2 gT gs gk=>⟨_,rfl,?_⟩
  refine wpAny_letOwnedTupleGo_zip (s:={s with heap:=g}) gz λh' hz' hs'=>?_;have hfresh:H s.heap.objs.size=none:=I.hok.fresh (e_ _);have zT:s.heap.objs.size≠z:=O0 (Sx hz);have kp:∀b o,b ∉ [z,TI,TO,i1,i2]->s.heap.get? b=some o->h'.get? b=some o:=λb o hb e=>by
   have n:b≠z/\b≠TI/\b≠TO/\b≠i1/\b≠i2:=by simpa using hb
   exact hs'.extBut _ _ n.1 (gk b o n.1 n.2.2.1 n.2.2.2.1 n.2.2.2.2 e)
  have hT:h'.get? s.heap.objs.size=some { cls:=.type "tuple",data:=.seq #[u,v] }:=hs'.extBut _ _ zT gT;have notfp:∀b o,H b=some o->b ∉ [z,TI,TO,i1,i2]:=λb o e hb=>by have:=(hf b hb).1;rw[e]at this;cases this
  have ne:∀b o,s.heap.get? b=some o->b≠s.heap.objs.size:=λb o e=>j_ (Sx e);have nt:∀b o,H b=some o->b≠s.heap.objs.size:=λb o e=>f6 e hfresh;have I1:Inv X ac σ (upd H s.heap.objs.size (.tup [x,y])) {s with heap:=h'}:=by
   refine I.step (g':=s.gens) (d':=s.drawn) (t':=s.toks) (ch:=[z,TI,TO,i1,i2]) (λb hb=>?_) (λb o _ _ hc e _=>kp b o hc e) (λb o _ _ hc e _=>⟨o.slots,kp b o hc e⟩)
    (λb o _ e n=>by rw[aQ (ne b o e)];exact n) (λb o hc e=>⟨o,kp b o hc e⟩) (λb zs e=>by rw[aQ (nt b _ e)];exact e) (λb o u e=>by rw[aQ (nt b _ e)];exact e)
    (λb ps e=>⟨#[],by rw[aQ (nt b _ e),e];simp⟩) (λm hm=>?_) (λb o e=>?_) I.bare
   ·obtain⟨g0,g1,g2,g3,g4,g5⟩:=hf b hb;exact⟨g3,g1,g4,g5⟩
   ·obtain⟨o,es,ep,ho',r⟩:=hm;exact⟨o,es,ep,kp _ o (λhb=>(hf _ hb).2.1 rfl) ho',r⟩
   by_cases hb:b=s.heap.objs.size
   ·subst hb;rw[aX]at e;cases e;exact⟨by show 2<=sizeLine;decide,[u,v],.cons ru (.cons rw' .nil),_,hT,rfl,_,rfl⟩
   rw[aQ hb]at e;refine(I.hok b o e).mO (λc' w' hc' q=>kp c' w' ?_ q) (λc' q=>by rw[aQ (nt c' _ q)];exact q) λc' zs q=>by rw[aQ (nt c' _ q)];exact q
   rcases hc' with rfl|hc'
   ·exact notfp _ _ e
   exact notfp _ _ hc'
  refine⟨.ref s.heap.objs.size,_,I1,rfl,⟨s.heap.objs.size,x,y,hfresh,rfl,rfl,λzs hq=>by rw[I.y8 hq q1];exact hx,λzs hq=>by rw[I.y8 hq q2];exact hy⟩,?_,λb hb=>?_⟩
  ·exact⟨hz',hs'.extBut _ _ D.a1 (gk _ _ D.a1 D.a5 D.a6 D.a7 hi),⟨_,_,hs'.extBut _ _ D.a2 gO⟩,g1.ext hs'.extBut D.a3,g2.ext hs'.extBut D.a4⟩
  have hb0:=(hf b hb).1;have hb':b=z\/b=TI\/b=TO\/b=i1\/b=i2:=by simpa using hb
  have kw:∃o,s.heap.get? b=some o:=by
   rcases hb' with rfl|rfl|rfl|rfl|rfl
   ·exact⟨_,hz⟩
   ·exact⟨_,hi⟩
   ·exact⟨_,ho⟩
   ·obtain⟨o,e,_⟩:=d1.some;exact⟨o,e⟩
   obtain⟨o,e,_⟩:=d2.some;exact⟨o,e⟩
  obtain⟨o,e⟩:=kw;rw[aQ (ne b o e)];exact hb0
 done:=by
  intro X hP hw hK hc i ac s σ H E I hf st hg;subst hP hw hK;obtain⟨xs,ys,q1,q2,hn⟩:=hg;obtain⟨ap,rv,p1,z1⟩:=I.sq q1;obtain⟨jts,sv,p2,z2⟩:=I.sq q2;obtain⟨hz,hi,⟨a,c,ho⟩,d1,d2⟩:=st;have fz:=hf z (by simp);have fTI:=hf TI (by simp);have fTO:=hf TO (by simp);have f1:=hf i1 (by simp);have f2:=hf i2 (by simp);have DD:ZG.Off z TI TO i1 i2 a1 a2:=⟨D.a1,D.a2,D.a3,D.a4,D.a5,D.a6,D.a7,D.a8,D.a9,D.b1,I.hV q1 fz,I.hV q1 fTO,I.hV q1 f1,I.hV q1 f2,I.hV q2 fz,I.hV q2 fTO,I.hV q2 f1,I.hV q2 f2⟩;have l1:=rv.length;have l2:=sv.length;refine ZG.qW (I.ok.hd hc) DD hz hi ho d1 d2 p1 p2 (hn.elim (λz=>.inl (by simp;omega)) λz=>.inr (by simp;omega)) λg gk=>⟨rfl,?_⟩
  have kp:∀b o,b ∉ [z,TI,TO,i1,i2]->s.heap.get? b=some o->g.get? b=some o:=λb o hb e=>by
   have n:b≠z/\b≠TI/\b≠TO/\b≠i1/\b≠i2:=by simpa using hb
   exact gk b o n.1 n.2.2.1 n.2.2.2.1 n.2.2.2.2 e
  have notfp:∀b o,H b=some o->b ∉ [z,TI,TO,i1,i2]:=λb o e hb=>by have:=(hf b hb).1;rw[e]at this;cases this
  refine I.step (g':=s.gens) (d':=s.drawn) (t':=s.toks) (ch:=[z,TI,TO,i1,i2]) (λb hb=>?_) (λb o _ _ hc e _=>kp b o hc e) (λb o _ _ hc e _=>⟨o.slots,kp b o hc e⟩)
   (λb o _ e n=>n) (λb o hc e=>⟨o,kp b o hc e⟩) (λb zs e=>e) (λb o u e=>e) (λb ps e=>⟨#[],by rw[e];simp⟩) (λm hm=>?_) (λb o e=>?_) I.bare
  ·obtain⟨g0,g1,g2,g3,g4,g5⟩:=hf b hb;exact⟨g3,g1,g4,g5⟩
  ·obtain⟨o,es,ep,ho',r⟩:=hm;exact⟨o,es,ep,kp _ o (λhb=>(hf _ hb).2.1 rfl) ho',r⟩
  refine(I.hok b o e).mO (λc' w' hc' q=>kp c' w' ?_ q) (λc' q=>q) λc' zs q=>q;rcases hc' with rfl|hc'
  ·exact notfp _ _ e
  exact notfp _ _ hc'
 self:=λ_ _ _ _ _ st h=>Xf st.1 h
def Ms(K:Sm)(ta:TA):TI:=λσ H R=>ta σ H λvs H1=>∃b1 a1 b2 a2,vs=[.ref a1,.ref a2]/\(∃xs,SqG b1 K H1 a1 xs)/\(∃ys,SqG b2 K H1 a2 ys)/\R (Itz K b1 a1 b2 a2) H1
theorem IS{x1:Nat}{tp:Pos}{a b:SK}{ta:TA}{p:Pos}(hg:Gl X "zip")(hm:X.mg "zip"=none)(ha:PA X [a,b] ta)(hs:SO [a,b] X.env=[(false,Ta a X.env),(false,Ta b X.env)]:=by rfl)(hs2:SO [b] X.env=[(false,Ta b X.env)]:=by rfl) :
  PI X (.Tuple es x1 tp) (.Call (.Name "zip" p) [a,b] [] pos) (Ms X.K ta):=by
 intro ac s σ H R I h;refine Yu (j9 I hg hm boot_zip (TZ (thn (ha pos ac s σ H _ I h) λus s1 ⟨vs,H1,I1,r1,q1⟩=>?_) (by rw[hs,hs2]) (by rw[hs2];rfl)));obtain⟨b1,a1,b2,a2,e,⟨xs,q1⟩,⟨ys,q2⟩,q⟩:=q1;subst e;cases r1 with
 |cons r rr=>
  cases rr with
  |cons r' rr=>
   cases rr;cases r;cases r';obtain⟨ap,rv,p1,z1⟩:=I1.sq q1;obtain⟨jts,sv,p2,z2⟩:=I1.sq q2;refine ZG.wM p1 p2 λg gz gi go g1 g2 gs gk=>Xf (s:={s1 with heap:=g}) gz ?_;have I2:Inv X ac σ H1 {s1 with heap:=g}:=I1.kept (t':=s1.toks) gk;refine⟨_,_,_,_,H1,rfl,I2,Dk b1 a1 b2 a2 _ (s1.heap.objs.size+2) (s1.heap.objs.size+3) s1.heap.objs.size (s1.heap.objs.size+1) ?_,⟨gz,gi,⟨_,_,go⟩,g1,g2⟩,λb hb=>?_,q⟩
   ·constructor <;>(show(_:Nat)≠_) <;> omega
   have hb':s1.heap.objs.size<=b:=by
    have z:b=s1.heap.objs.size+4\/b=s1.heap.objs.size+2\/b=s1.heap.objs.size+3\/b=s1.heap.objs.size\/b=s1.heap.objs.size+1:=by simpa using hb
    rcases z with z|z|z|z|z <;> rw[z] <;>(show(_:Nat)<=_) <;> omega
   exact I1.wj hb' (I1.hok.fresh hb')
noncomputable def bools(bs:List Bool):List V:=bs.map V.bl
variable {i:Nat}
theorem tM{bs:List Bool}{us:List Sl}(r:Vals (bools bs) us){u:Sl}(h:us[i]?=some u):∃b,bs[i]?=some b/\u=.bool b:=by
 have hl:=r.length;have hi:i<us.length:=(gV.mp h).1;have hb:i<bs.length:=by rw[<-hl]at hi;simpa[bools]using hi
 have e:(bools bs)[i]?=some (.bl bs[i]):=by unfold bools;rw[u_,f_ hb];rfl
 obtain⟨u',h',ru⟩:=r.get e;rw[h]at h';cases h';exact⟨bs[i],f_ hb,ru⟩
theorem yN(bs:List Bool):((B' bs.length).all λi=>(bs[i]?).getD true)=bs.all id:=by
 have e:bs=(B' bs.length).map λi=>(bs[i]?).getD true:=by
  apply QB
  ·simp
  intro i h1 h2;simp[h1]
 conv=>rhs;rw[e,Ou]
 rfl
theorem ya(bs:List Bool):((B' bs.length).any λi=>(bs[i]?).getD true)=bs.any id:=by
 have e:bs=(B' bs.length).map λi=>(bs[i]?).getD true:=by
  apply QB
  ·simp
  intro i h1 h2;simp[h1]
 conv=>rhs;rw[e,PX]
 rfl
section
variable{X:Cx}
theorem DI(hc:X.calm=true):d3 X (.builtin "all") (λxs H Q=>∃a bs,xs=[.ref a]/\SqL X.K H a (bools bs)/\Q (.bl (bs.all id)) H):=by
 intro ac s σ H xs us Q I r h;obtain⟨a,bs,rfl,hq,q⟩:=h;obtain⟨u,rfl,ru⟩:=vals1 r;cases ru;obtain⟨ap,rv,p,z⟩:=I.list hq;have hl:=p.isList;have kw:a<s.heap.objs.size:=by obtain⟨_,e,_⟩:=hl;exact Sx e
 have hlen:ap.toArray.size=bs.length:=by rw[j',<-rv.length];simp[bools]
 refine call_all_walk (TY hl ⟨s.heap.objs.size,[s.heap.objs.size,a],[s.heap.objs.size],ap.toArray.size,_,_,λi=>(bs[i]?).getD true,rfl,Wz (A:=X.A.in1) (I.ok.hd hc) _ a (j_ kw) ap.toArray,⟨⟨_,SF _ rfl,rfl,rfl⟩,hl.push _⟩,λi v s' Q' E' hP hQ=>?_,λh' tk hk=>?_⟩)
 ·obtain⟨b,e,rfl⟩:=tM rv (i:=i) (u:=v) (by simpa using hP);simp only[e,Nc]at hQ;exact Ts hQ
 rw[hlen,yN];exact⟨.bl (bs.all id),H,I.kept (t':=tk) (X2 hk),rfl,q⟩
theorem DE(hc:X.calm=true):d3 X (.builtin "any") (λxs H Q=>∃a bs,xs=[.ref a]/\SqL X.K H a (bools bs)/\Q (.bl (bs.any id)) H):=by
 intro ac s σ H xs us Q I r h;obtain⟨a,bs,rfl,hq,q⟩:=h;obtain⟨u,rfl,ru⟩:=vals1 r;cases ru;obtain⟨ap,rv,p,z⟩:=I.list hq;have hl:=p.isList;have kw:a<s.heap.objs.size:=by obtain⟨_,e,_⟩:=hl;exact Sx e
 have hlen:ap.toArray.size=bs.length:=by rw[j',<-rv.length];simp[bools]
 refine call_any_walk (TY hl ⟨s.heap.objs.size,[s.heap.objs.size,a],[s.heap.objs.size],ap.toArray.size,_,_,λi=>(bs[i]?).getD true,rfl,Wz (A:=X.A.in1) (I.ok.hd hc) _ a (j_ kw) ap.toArray,⟨⟨_,SF _ rfl,rfl,rfl⟩,hl.push _⟩,λi v s' Q' E' hP hQ=>?_,λh' tk hk=>?_⟩)
 ·obtain⟨b,e,rfl⟩:=tM rv (i:=i) (u:=v) (by simpa using hP);simp only[e,Nc]at hQ;exact Ts hQ
 rw[hlen,ya];exact⟨.bl (bs.any id),H,I.kept (t':=tk) (X2 hk),rfl,q⟩
end
inductive Ty where
 |non|bl|int|str|lst|tup|dct
 deriving DecidableEq
noncomputable def Ty.nm:Ty->String
 | .non=>"NoneType"
 | .bl=>"bool"
 | .int=>"int"
 | .str=>"str"
 | .lst=>"list"
 | .tup=>"tuple"
 | .dct=>"dict"
noncomputable def isA(t c:Ty):Bool:=decide (t=c) || (decide (t=.bl)&&decide (c=.int))
inductive TyG (K:Sm) (H:Hp):V->Ty->Prop where
 |non:TyG K H .non .non
 |bl (b:Bool):TyG K H (.bl b) .bl
 |int (i:Int):TyG K H (.int i) .int
 |str (x:Str):TyG K H (.str x) .str
 |lst {a:Sn}{xs:List V} (h:SqL K H a xs):TyG K H (.ref a) .lst
 |tup {a:Sn}{xs:List V} (h:SqT K H a xs):TyG K H (.ref a) .tup
 |dct {a:Sn}{al:List (Key×V)} (h:Rd H a (.dK al)):TyG K H (.ref a) .dct
theorem zl(K:Sm)(t c:Ty):PySem.W.kitOne K (.type t.nm) (.type c.nm)=some (isA t c):=by cases t <;> cases c <;> kernel_rfl
theorem Am(K:Sm)(t:Ty):∀cs:List Ty,XJ K (.type t.nm) (cs.map λc=>Vi c.nm)=some (cs.any (isA t))
 | []=>rfl
 |c::r=>by
  rw[f',Po];unfold XJ;rw[zl];cases isA t c with
  |true=>rfl
  |false=>exact Am K t r
section
variable{X:Cx}{ac:List (Sn×Obj)}{σ:St}{H:Hp}{s:So}{A:SW}{E:Sl->So->Prop}{Q:Sl->So->Prop}
theorem Vals.tys:∀{cs:List Ty}{us:List Sl},Vals (cs.map λc=>V.ty c.nm) us->us=cs.map λc=>Vi c.nm
 | [],_,.nil=>rfl
 |c::r,_,.cons h t=>by have e:_=Vi c.nm:=h;rw[f',<-Vals.tys t,e]
def zv(K:Sm)(H:Hp)(y:V)(cs:List Ty):Prop:=(∃c,y=.ty c.nm/\cs=[c])\/∃p,y=.ref p/\H p=some (.tup (cs.map λc=>V.ty c.nm))
theorem DJ{x y:V}{u v:Sl}{t:Ty}{cs:List Ty}(I:Inv X ac σ H s)(rx:RelV x u)(ry:RelV y v)(ty:TyG X.K H x t)(ka:zv X.K H y cs)(h:∀tk,Q (.bool (cs.any (isA t))) {s with toks:=tk}) :
  Sw (SG X.prog X.w) A (call (.builtin "isinstance") [u,v]) Q E s:=by
 have go:∀{P:SJ->Prop},PySem.W.KitX X.K u (.type t.nm) P->P s.heap->u≠.builtin "__main__.__loader__#opaque"->Sw (SG X.prog X.w) A (call (.builtin "isinstance") [u,v]) Q E s:=λ{P} Z p hx=>by
  rcases ka with⟨c,rfl,rfl⟩|⟨q,rfl,hq⟩
  ·cases (show v=Vi c.nm from ry);have e:([c].any (isA t))=isA t c:=by simp
   exact PySem.W.kia_one Z I.kIn p (zl X.K t c) hx (λtk=>by rw[<-e];exact h tk)
  cases (show v=SV q from ry);obtain⟨_,ap,rv,o,ho,hc,n,hd⟩:=(show f7 X.prog X.w H s.heap q (.tup _)from I.hok q _ hq);have e:=rv.tys;subst e;obtain⟨c,dd,dt,sl⟩:=o;cases (show c=_ from hc);cases (show dt=_ from hd);exact PySem.W.kia_tup Z I.kIn p ho (Am X.K t cs) hx h
 cases ty with
 |non=>cases (show u=Tq from rx);exact go PySem.W.kitx_none Ul (λz=>nomatch z)
 |bl y=>cases (show u=Xg y from rx);exact go PySem.W.kitx_bool Ul (λz=>nomatch z)
 |int i=>obtain⟨t,q⟩:=(show ∃t,u=US i t from rx);cases q;exact go PySem.W.kitx_int Ul (λz=>nomatch z)
 |str y=>obtain⟨t,q⟩:=(show ∃t,u=WK y t from rx);cases q;exact go PySem.W.kitx_str Ul (λz=>nomatch z)
 | @lst a xs hq=>
  cases (show u=SV a from rx);obtain⟨_,_,p,_⟩:=I.list hq;obtain⟨o,h1,h2,_⟩:=p.isList;exact go PySem.W.kitx_list ⟨o,h1,h2⟩ (λz=>nomatch z)
 | @tup a xs hq=>
  cases (show u=SV a from rx);obtain⟨_,_,p,_⟩:=I.tuple hq;obtain⟨o,h1,h2,_⟩:=p;exact go PySem.W.kitx_tuple ⟨o,h1,h2⟩ (λz=>nomatch z)
 | @dct a al hq=>
  cases (show u=SV a from rx);obtain⟨_,_,vs,_,p⟩:=(show f7 X.prog X.w H s.heap a (.dK al)from hq.ok I.hok);obtain⟨o,es,ep,h1,h2,_⟩:=p;exact go PySem.W.kitx_dict ⟨o,h1,h2.1⟩ (λz=>nomatch z)
theorem pJ:d3 X (.builtin "isinstance") (λxs H Q=>∃x y t cs,xs=[x,y]/\TyG X.K H x t/\zv X.K H y cs/\Q (.bl (cs.any (isA t))) H):=by
 intro ac s σ H xs us Q I r h;obtain⟨x,y,t,cs,rfl,ty,ka,q⟩:=h;cases r with
 |cons r rr=>
  cases rr with
  |cons r' rr=>
   cases rr;exact DJ I r r' ty ka λtk=>⟨.bl (cs.any (isA t)),H,I.tok tk,rfl,q⟩
end
variable {H H':Hp}
theorem SqL.same (e:d4 H H')(h:SqL K H a xs):SqL K H' a xs:=e.seq h
theorem SqT.same (e:d4 H H')(h:SqT K H a xs):SqT K H' a xs:=by
 rcases h with (h|⟨o,h⟩)|h
 ·exact .inl (.inl (e _ _ h))
 ·exact .inl (.inr ⟨o,e _ _ h⟩)
 exact .inr h
theorem SqG.same (e:d4 H H')(h:SqG b K H a xs):SqG b K H' a xs:=by
 cases b with
 |true=>exact SqT.same e h
 |false=>exact SqL.same e h
structure Cal (P:SD) (w:SI) (K:Sm) (mg:Str->Option Sl) (base:SJ) (k:Nat) (x:Str) (ps:List Str) (sp:Sp):Prop where
 ex:∃(f:Sn) (fd:SR),FnOk P w K mg base CX0 k f fd ps sp/\mg x=some (.ref f)/\U3 K (.ref f)=true/\Binds K fd ps []
variable {ps:List Str}{sp:Sp}{x:Str}
theorem IQ{j k:Nat}{t:TA}{p:Pos}(D:Cal X.prog X.w X.K X.mg X.base j x ps sp)(hr:Room k X.A)(hg:Gl X x)(ha:PA X (e::es) t)(hjk:j<=k:=by omega)(hdb:(x ==("__debug__":Str))=false:=by decide)
  (he:SO (e::es) X.env=(false,Ta e X.env)::SO es X.env:=by rfl) (hpl:(UH pos (SO es X.env)).any (·.1)=false:=by rfl):PE X (.Call (.Name x p) (e::es) [] pos) (DS sp [] E0 t):=by
 obtain⟨f,fd,F,hm,hk,hb⟩:=D.ex;exact Ek F (hr.mono hjk) hg hm hk hb .nil L0 ha hdb he hpl
variable {mg:Str->Option Sl}
theorem Cal.imp {base:SJ}{k:Nat}{sp':Sp}(D:Cal P w K mg base k x ps sp)(h:∀vs H Q E,sp' vs H Q E->sp vs H Q E):Cal P w K mg base k x ps sp':=by obtain⟨f,fd,F,r⟩:=D.ex;exact⟨f,fd,F.imp h,r⟩
structure Dfn (K:Sm) (mg:Str->Option Sl) (x:Str) (st:S5) (ps:List Str):Prop where
 ex:∃(f:Sn) (fd:SR),Fun K x x st f fd/\mg x=some (.ref f)/\Binds K fd ps []
theorem Dfn.cal {base:SJ}{k:Nat}{st:S5}(D:Dfn K mg x st ps)(h:∀f fd,Fun K x x st f fd->FnOk P w K mg base CX0 k f fd ps sp):Cal P w K mg base k x ps sp:=by obtain⟨f,fd,F,hm,hb⟩:=D.ex;exact⟨f,fd,h f fd F,hm,F.kp,hb⟩
theorem d4.gQ :d4 H H:=λ_ _ e=>e
variable {H1:Hp}
theorem d4.trans' {H2:Hp}(a:d4 H H1)(b:d4 H1 H2):d4 H H2:=λc o e=>b c o (a c o e)
variable {p:Sn}
theorem eX(h:H p=none)(o:HO):d4 H (upd H p o):=λb u q=>by rw[aQ (f6 q h)];exact q
theorem d4.none {H H':Hp}(a:d4 H H'){p:Sn}(h:H' p=none):H p=none:=by
 cases e:H p with
 |none=>rfl
 |some o=>rw[a p o e]at h;cases h
noncomputable def Kp(a c:Sn)(H H':Hp):Prop:=∀b o,H b=some o->b≠a->b≠c->H' b=some o
variable {n:Nat}
theorem Ao{i:Int}(h0:0<=i)(h1:i<(n:Int)):ixN n i=some i.toNat:=by unfold ixN;rw[if_pos h0,if_pos h1]
theorem ED{α:Type}{xs:List α}{i:Int}{v:α}(h0:0<=i)(hv:xs[i.toNat]?=some v):atI xs i=some v:=by have h1:i.toNat<xs.length:=(gV.mp hv).1;unfold atI;rw[Ao h0 (by omega)];exact hv
variable {ns:List Int}
theorem CC{i:Int}(h0:0<=i)(h1:i<(ns.length:Int)):atI (ns.map V.int) i=some (.int (ns.getD i.toNat 0)):=by
 have h2:i.toNat<ns.length:=by omega
 refine ED h0 ?_;rw[u_,f_ h2,i_,f_ h2]
 rfl
theorem JH{i:Int}{v:V}{Q:VK}(h:SqG b K H p xs)(hv:atI xs i=some v)(q:Q v H):rIx K (.ref p) (.int i) H Q:=by
 cases b with
 |true=>exact .inr (.inl ⟨p,xs,i,v,rfl,rfl,h,hv,q⟩)
 |false=>exact .inl ⟨p,xs,i,v,rfl,rfl,h,hv,q⟩
theorem KD{A B:Prop}(h1:b=true->A)(h2:b=false->B):if b=true then A else B:=by
 cases b with
 |true=>exact Mo (h1 rfl)
 |false=>exact MI (h2 rfl)
theorem Cv(S:FnScope N ps esc)(N':List Str)(fr:List (Option Nat))(nd:N'.Nodup){g:So->Hp->List Sn->TG}(C:lE N esc sc N' fr=true)
  (hi:PI X target iter wi) (hg:∀s3 H3 fp,PG (bU X N' sc s3 H3 fp) target (g s3 H3 fp)) (ht:∀s3 H3 fp,PTs (bU X N' sc s3 H3 fp) ifs (tt s3 H3 fp)) (he:∀s3 H3 fp,PE (bU X N' sc s3 H3 fp) elt (te s3 H3 fp))
  (hc:X.calm=true:=by rfl) (hN:X.N=N:=by rfl) (hS:X.env.scope=esc:=by rfl) (hs:∀x,Tx iter X.env x=pure x:=by intro _;rfl):PE X (.ListComp elt [⟨target,iter,ifs,0⟩] sc pos) (zO wi fr g tt te):=
 G1 N' fr hc (by rw[hN,hS];exact C) hi hg ht he hs
def Its(K:Sm)(b:Bool)(a:Sn):It:=match b with
 |true=>Itt K a
 |false=>Itl K a
def iSq(K:Sm)(tl:TE):TI:=λσ H R=>tl σ H λx H1=>∃b a xs,x=.ref a/\SqG b K H1 a xs/\R (Its K b a) H1
theorem Ib{tg l:SK}{tl:TE}(hl:PE X l tl):PI X tg l (iSq X.K tl):=by
 intro ac s σ H R I h;refine thn (hl ac s σ H _ I h) ?_;rintro v s1 ⟨x,H1,I1,r1,q1⟩;obtain⟨b,a,xs,rfl,hq,q⟩:=q1;cases r1;cases b with
 |true=>
  obtain⟨ap,rv,p,hz⟩:=I1.tuple hq;refine To (show s1.heap.IsTuple a ap.toArray from p) ⟨s1.heap.objs.size,[s1.heap.objs.size],_,_,H1,rfl,I1.kept (t':=s1.toks) λb o e=>Sr _ e,yH a _,⟨_,SF _ rfl,rfl,rfl⟩,λb hb=>?_,q⟩;have e:b=s1.heap.objs.size:=by simpa using hb
  subst e;exact I1.wj (e_ _) (I1.hok.fresh (e_ _))
 |false=>
  obtain⟨ap,rv,p,hz⟩:=I1.list hq;refine TY p.isList ⟨s1.heap.objs.size,[s1.heap.objs.size],_,_,H1,rfl,I1.kept (t':=s1.toks) λb o e=>Sr _ e,B7 a _,⟨_,SF _ rfl,rfl,rfl⟩,λb hb=>?_,q⟩;have e:b=s1.heap.objs.size:=by simpa using hb
  subst e;exact I1.wj (e_ _) (I1.hok.fresh (e_ _))
theorem Gk{H2:Hp}{v:V}(h1:SqG b K H1 a xs)(s:d4 H1 H')(h:(Its K b a).yld i H' v H2):H2=H'/\xs[i]?=some v:=by
 cases b with
 |true=>exact⟨h.1,h.2 xs (SqG.same s h1)⟩
 |false=>exact⟨h.1,h.2 xs (SqG.same s h1)⟩
theorem IB(h1:SqG b K H1 a xs)(hx:xs.length=n):∀i H',d4 H1 H'->i<n->(Its K b a).go i H':=λi H' s hi=>by
 cases b with
 |true=>exact⟨xs,xs[i]'(by lia),SqT.same s h1,f_ _⟩
 |false=>exact⟨xs,xs[i]'(by lia),SqL.same s h1,f_ _⟩
theorem Ci(h1:SqG b K H1 a xs)(hx:xs.length=n):∀H',d4 H1 H'->(Its K b a).stop n H':=λH' s=>by
 cases b with
 |true=>exact⟨xs,SqT.same s h1,by lia⟩
 |false=>exact⟨xs,SqL.same s h1,by lia⟩
def New(o:HO)(H:Hp)(Q:VK):Prop:=∀p H',H p=none->d4 H H'->H' p=some o->Q (.ref p) H'
theorem New.at {o:HO}{Q:VK}(h:New o H Q)(hp:H p=none):Q (.ref p) (upd H p o):=h p _ hp (eX hp o) aX
section
variable{X:Cx}{es:List SK}{t:TA}{pos:Pos}
def Li(t:TA):TE:=λσ H Q=>t σ H λxs H1=>xs.length<=sizeLine/\New (.tup xs) H1 Q
def LA(t:TA):TE:=λσ H Q=>t σ H λxs H1=>xs.length<=sizeLine/\New (.lst xs) H1 Q
theorem Fl{x1}(h:PA X es t):PE X (.Tuple es x1 pos) (Li t):=by intro ac s σ H Q I hq;refine wpAny_Tuple_spliced (thn (h pos ac s σ H _ I hq) λus s1 ⟨xs,H1,I1,r,z,q⟩=>⟨by rw[<-r.length];exact z,?_⟩);refine⟨.ref s1.heap.objs.size,upd H1 s1.heap.objs.size (.tup xs),I1.laid (t':=s1.toks) (λb u e=>Sr _ e) (e_ _) ⟨z,us,r,⟨_,SF _ rfl,rfl,_,rfl⟩⟩,rfl,q.at (I1.hok.fresh (e_ _))⟩
theorem Fv(h:PA X es t):PE X (.List es pos) (LA t):=by intro ac s σ H Q I hq;refine WO (thn (h pos ac s σ H _ I hq) λus s1 ⟨xs,H1,I1,r,z,q⟩=>⟨by rw[<-r.length];exact z,?_⟩);refine⟨.ref s1.heap.objs.size,upd H1 s1.heap.objs.size (.lst xs),I1.laid (t':=s1.toks) (λb u e=>Sr _ e) (e_ _) ⟨z,us,0,r,SF _ rfl⟩,rfl,q.at (I1.hok.fresh (e_ _))⟩
theorem d3.imp {f:Sl}{r r':List V->Hp->VK->Prop}(h:d3 X f r)(k:∀vs H Q,r' vs H Q->r vs H Q):d3 X f r':=λac s σ H xs us Q I rv q=>h ac s σ H xs us Q I rv (k _ _ _ q)
theorem OpR.imp {f:Sl->Sl->Sem Sl}{r r':R2}(h:OpR X f r)(k:∀x y H Q,r' x y H Q->r x y H Q):OpR X f r':=λac s σ H x y v u Q I rx ry q=>h ac s σ H x y v u Q I rx ry (k _ _ _ _ q)
theorem xg:d3 X (.type "tuple") (λxs H Q=>∃p ys,xs=[.ref p]/\SqL X.K H p ys/\New (.tup ys) H Q):=sV.imp (by rintro vs H Q ⟨p,ys,e,h,q⟩;exact⟨p,ys,e,.inl ⟨h,λl hl=>q.at hl⟩⟩)
theorem Bo:d3 X (.builtin "len") (λxs H Q=>∃b p ys,xs=[.ref p]/\SqG b X.K H p ys/\Q (.int ys.length) H):=nD.imp λvs H Q ⟨b,p,ys,e,h,q⟩=>by
 refine⟨p,ys,e,?_,q⟩;cases b with
 |true=>exact .inr h
 |false=>exact .inl h
def MT(K:Sm):R2:=λx y H Q=>∃b p xs i v,x=.ref p/\y=.int i/\SqG b K H p xs/\atI xs i=some v/\Q v H
theorem MB:IxR X (MT X.K):=by rintro value slice ac s σ H x y v u Q I rx ry ⟨b,p,xs,i,z,e1,e2,hq,ha,q⟩ hs;subst e1 e2;exact Jf value slice ac s σ H (.ref p) (.int i) v u Q I rx ry (JH hq ha q) hs
end
noncomputable def tI(ns:List Int)(r:Int):Prop:=r∈ns/\∀x∈ns,r<=x
noncomputable def uj(ns:List Int)(r:Int):Prop:=r∈ns/\∀x∈ns,x<=r
theorem gL:∀{ns:List Int}{us:List Sl},Vals (ns.map V.int) us->∃ps:List (Int×Tok),us=ps.map (λp=>US p.1 p.2)/\ps.map (·.1)=ns
 | [],_,.nil=>⟨[],rfl,rfl⟩
 |n::r,_,.cons h t=>by obtain⟨ps,e1,e2⟩:=gL t;obtain⟨tk,e⟩:=h;exact⟨(n,tk)::ps,by rw[e,e1];rfl,by rw[<-e2];rfl⟩
theorem hU{ps:List (Int×Tok)}(e:ps.map (·.1)=ns)(hi:i<ns.length):Uw ps.toArray i=ns[i]:=by
 subst e;have h2:i<ps.length:=by simpa using hi
 simp[Uw,h2]
section
variable{X:Cx}
theorem AL(hc:X.calm=true):d3 X (.builtin "min") (λxs H Q=>∃a ns,xs=[.ref a]/\SqL X.K H a (ns.map V.int)/\ns≠[]/\∀r,tI ns r->Q (.int r) H):=by
 intro ac s σ H xs us Q I r h;obtain⟨a,ns,rfl,hq,io,q⟩:=h;obtain⟨u,rfl,ru⟩:=vals1 r;cases ru;obtain⟨ap,rv,p,z⟩:=I.list hq;obtain⟨ps,e1,e2⟩:=gL rv;subst e1;have hl:s.heap.IsList a (Tj ps.toArray):=by
  have e:Tj ps.toArray=(ps.map λp=>US p.1 p.2).toArray:=by simp[Tj]
  rw[e];exact p.isList
 have hlen:ps.length=ns.length:=by rw[<-e2];simp
 have hpos:0<ns.length:=Nm λz=>io (I_ z);refine min_intList (I.ok.hd hc) hl (by simp;lia) λv h' tk hv hk=>?_
 obtain⟨tv,rfl⟩:=U9 hv;obtain⟨b1,b2⟩:=argBest_lt (Uw ps.toArray) (ps.toArray.size-1);have hi:S_ (λi j=>decide (Uw ps.toArray i<Uw ps.toArray j)) (ps.toArray.size-1)<ns.length:=by simp at b1 ⊢;lia
 refine⟨.int _,H,I.kept (t':=tk) hk,⟨tv,rfl⟩,q _ ⟨?_,λx hx=>?_⟩⟩
 ·rw[hU e2 hi];exact N_ hi
 obtain⟨j,hj,rfl⟩:=NM.mp hx;have:=b2 j (by simp;lia);rw[hU e2 hj]at this;exact this
theorem Bv(hc:X.calm=true):d3 X (.builtin "max") (λxs H Q=>∃a ns,xs=[.ref a]/\SqL X.K H a (ns.map V.int)/\ns≠[]/\∀r,uj ns r->Q (.int r) H):=by
 intro ac s σ H xs us Q I r h;obtain⟨a,ns,rfl,hq,io,q⟩:=h;obtain⟨u,rfl,ru⟩:=vals1 r;cases ru;obtain⟨ap,rv,p,z⟩:=I.list hq;obtain⟨ps,e1,e2⟩:=gL rv;subst e1;have hl:s.heap.IsList a (Tj ps.toArray):=by
  have e:Tj ps.toArray=(ps.map λp=>US p.1 p.2).toArray:=by simp[Tj]
  rw[e];exact p.isList
 have hlen:ps.length=ns.length:=by rw[<-e2];simp
 have hpos:0<ns.length:=Nm λz=>io (I_ z);refine max_intList (I.ok.hd hc) hl (by simp;lia) λv h' tk hv hk=>?_
 obtain⟨tv,rfl⟩:=U9 hv;obtain⟨b1,b2⟩:=argBest_gt (Uw ps.toArray) (ps.toArray.size-1);have hi:S_ (λi j=>decide (Uw ps.toArray i > Uw ps.toArray j)) (ps.toArray.size-1)<ns.length:=by simp at b1 ⊢;lia
 refine⟨.int _,H,I.kept (t':=tk) hk,⟨tv,rfl⟩,q _ ⟨?_,λx hx=>?_⟩⟩
 ·rw[hU e2 hi];exact N_ hi
 obtain⟨j,hj,rfl⟩:=NM.mp hx;have:=b2 j (by simp;lia);rw[hU e2 hj]at this;exact this
theorem AB(hc:X.calm=true):d3 X (.builtin "max") (λxs H Q=>∃i j k,xs=[.int i,.int j,.int k]/\∀r,i<=r->j<=r->k<=r->(r=i\/r=j\/r=k)->Q (.int r) H):=by
 intro ac s σ H xs us Q I r h;obtain⟨i,j,k,rfl,q⟩:=h;cases r with
 |cons r1 rr=>
  cases rr with
  |cons r2 rr=>
   cases rr with
   |cons r3 rr=>
    cases rr;obtain⟨t1,rfl⟩:=r1;obtain⟨t2,rfl⟩:=r2;obtain⟨t3,rfl⟩:=r3;refine max_three_ints (I.ok.hd hc) λh' tk hk=>?_;have fin:∀(r:Int) (t:Tok),i<=r->j<=r->k<=r->(r=i\/r=j\/r=k)->EP X ac σ Q (.int r t) {s with heap:=h',toks:=tk}:=λr t a b c d=>⟨.int r,H,I.kept (t':=tk) hk,⟨t,rfl⟩,q r a b c d⟩;split
    ·split
     ·exact fin _ _ (by lia) (by lia) (by lia) (by lia)
     exact fin _ _ (by lia) (by lia) (by lia) (by lia)
    split
    ·exact fin _ _ (by lia) (by lia) (by lia) (by lia)
    exact fin _ _ (by lia) (by lia) (by lia) (by lia)
theorem AZ(hc:X.calm=true):d3 X (.builtin "min") (λxs H Q=>∃i j k,xs=[.int i,.int j,.int k]/\∀r,r<=i->r<=j->r<=k->(r=i\/r=j\/r=k)->Q (.int r) H):=by
 intro ac s σ H xs us Q I r h;obtain⟨i,j,k,rfl,q⟩:=h;cases r with
 |cons r1 rr=>
  cases rr with
  |cons r2 rr=>
   cases rr with
   |cons r3 rr=>
    cases rr;obtain⟨t1,rfl⟩:=r1;obtain⟨t2,rfl⟩:=r2;obtain⟨t3,rfl⟩:=r3;refine min_three_ints (I.ok.hd hc) λh' tk hk=>?_;have fin:∀(r:Int) (t:Tok),r<=i->r<=j->r<=k->(r=i\/r=j\/r=k)->EP X ac σ Q (.int r t) {s with heap:=h',toks:=tk}:=λr t a b c d=>⟨.int r,H,I.kept (t':=tk) hk,⟨t,rfl⟩,q r a b c d⟩;split
    ·split
     ·exact fin _ _ (by lia) (by lia) (by lia) (by lia)
     exact fin _ _ (by lia) (by lia) (by lia) (by lia)
    split
    ·exact fin _ _ (by lia) (by lia) (by lia) (by lia)
    exact fin _ _ (by lia) (by lia) (by lia) (by lia)
end
section
variable{X:Cx}{a b c d:SK}{ta tb tc td:TE}{pos:Pos}
theorem Ck:SlR X (λx lo hi H Q=>∃a xs,x=.ref a/\SqL X.K H a xs/\New (.lst (lB xs lo hi)) H Q):=by rintro ac s σ H x v vl vu lo hi sl Q I rx hs pl pu ⟨a,xs,e,h,q⟩;exact Aa ac s σ H x v vl vu lo hi sl Q I rx hs pl pu ⟨a,xs,e,h,λp hp=>q.at hp⟩
theorem zg:SlR X (λx lo hi H Q=>∃a xs,x=.ref a/\SqT X.K H a xs/\¬(HT.sIx xs.length 0 lo=0/\HT.sIx xs.length xs.length hi=xs.length)/\New (.tup (lB xs lo hi)) H Q):=by rintro ac s σ H x v vl vu lo hi sl Q I rx hs pl pu ⟨a,xs,e,h,hw,q⟩;exact JN ac s σ H x v vl vu lo hi sl Q I rx hs pl pu ⟨a,xs,e,h,hw,λp hp=>q.at hp⟩
end
structure Put (H:Hp) (p:Sn) (o:HO) (H':Hp):Prop where
 at_:H' p=some o
 else_:∀b,b≠p->H' b=H b
theorem Put.up {o:HO}:Put H p o (upd H p o):=⟨aX,λb h=>aQ h⟩
section
variable{X:Cx}
theorem yQ.imp {t t':EK}(h:yQ X t)(k:∀o i v H Q,t' o i v H Q->t o i v H Q):yQ X t':=λac s σ H o i v ov iv u Q I r1 r2 r3 q=>h ac s σ H o i v ov iv u Q I r1 r2 r3 (k _ _ _ _ _ q)
theorem AN:yQ X (λo i v H Q=>∃p xs k j,o=.ref p/\i=.int k/\H p=some (.lst xs)/\ixN xs.length k=some j/\∀H',Put H p (.lst (xs.set j v)) H'->Q H'):=set_list.imp (by rintro o i v H Q ⟨p,xs,k,j,e1,e2,h,hj,q⟩;exact⟨p,xs,k,j,e1,e2,h,hj,q _ Put.up⟩)
end
section
variable{M:UC}{A:SW}{E:Sl->So->Prop}{s:So}{env:Env}
theorem og{first:Sem Sl}{g:VL}{u:Sl->Sem Unit}
  (hcl:clausesOf e=g::gs) (hs:∀x,Tx g.iter env x=pure x)
  (hc:∀x∈scope.names,x.2≠.cell) (hfr:∀x∈scope.names,x.2=.free->∃c,env.cells.lookup x.1=some c) (hkind:scope.kind=.function) (hnames:∀x∈scope.names,x.2=.local->scope.names.lookup x.1=some .local)
  (h:Sw M A first (λx s₁=>Sw M A (Wk x) (λit s₂=>Sw M A newAcc (λacc s₃=>
   ∀h4,h4.Ns s₃.heap.objs.size (λ_=>none)->(∀b o,s₃.heap.get? b=some o->h4.get? b=some o)->
    Um M A (.compStart e 0 it acc (L2.compEnv env scope s₃.heap.objs.size)) (λr s'=>match r with
     | .ok _=>Sw M A (u acc) (λ_ s''=>∃m,s''.heap.Ns s₃.heap.objs.size m/\∀h',T_ s₃.heap.objs.size s''.heap h'->Q .none {s'' with heap:=h'}) E s'
     | .error x=>False) { s₃ with heap:=h4}) E s₂) E s₁) E s) :
  Sw M A (Vd e scope env pos newAcc false first (some u)) Q E s:=by
 unfold Vd;rw[qV hfr,hcl];refine Sj (Tb h (λx s₁ h₁=>Sj (Uz (Sj (Vw (hs x) (Sj (SY (Tb h₁ (λit s₂ h₂=>
  X1 (Sj (Tb h₂ (λacc s₃ h₃=>Sj (Ss (Sj ?_))) λ_ _ h'=>h'))) λ_ _ h'=>h'))))))) λ_ _ h'=>h')
 refine Wy hc (λx hx=>nomatch hx) (λh4 hn4 hs4=>?_) hkind;have h₄:=h₃ h4 hn4 λb o e=>hs4.extBut b o (j_ (Sx e)) (Sr _ e);dsimp only;have hv:∀x∈(scope.names.filter λx=>(x.2 == .local || x.2 == .cell)&&x.1 !=(".0":Str)).reverse,x.2=.local->
   Xp (L2.compEnv env scope s₃.heap.objs.size) x.1=some .local:=λx hx hl=>by
  show(qS env scope).names.lookup x.1=some .local;rw[o6,hnames x (N0.mp (Pz.mp hx)).1 hl]
  rfl
 have hv':∀x∈(scope.names.filter λx=>(x.2 == .local || x.2 == .cell)&&x.1 !=(".0":Str)).reverse.drop 1++(scope.names.filter λx=>(x.2 == .local || x.2 == .cell)&&x.1 !=(".0":Str)).reverse.take 1,
   x.2=.local->Xp (L2.compEnv env scope s₃.heap.objs.size) x.1=some .local:=λx hx hl=>
  (C_.mp hx).elim (λz=>hv x (Nt z) hl) λz=>hv x (Nk z) hl
 refine SY (Sj (UA (SY (wpAny_run (Vk h₄ λr s' hr=>?_)))));cases r with
 |ok f=>
  refine Sj (UD (Sj (SY (Tb hr (λ_ s'' hr'=>?_) λ_ _ h'=>h'))));obtain⟨m,hn,hr'⟩:=hr';exact Sj (Xe (cenv:=L2.compEnv env scope s₃.heap.objs.size) hkind _ s'' m hv' hn λh' m' _ hs'=>Ss (hr' h' hs'))
 |error x=>exact hr.elim
end
theorem zI(S:FnScope N ps esc){pos':Pos}(N':List Str)(fr:List (Option Nat))(nd:N'.Nodup){li:Pos}{g:So->Hp->List Sn->TG}(C:lE N esc sc N' fr=true)
  (hi:X.N[i]?=some x) (hx:Loc X.env.scope x) (hit:PI X target iter wi) (hg:∀s3 H3 fp,PG (bU X N' sc s3 H3 fp) target (g s3 H3 fp)) (ht:∀s3 H3 fp,PTs (bU X N' sc s3 H3 fp) ifs (tt s3 H3 fp)) (he:∀s3 H3 fp,PE (bU X N' sc s3 H3 fp) elt (te s3 H3 fp))
  (hsw:UT (.ListComp elt [⟨target,iter,ifs,0⟩] sc li) (some (.Name x pos')) pos.line X.env=pure true) (hf:X.fn x=true:=by rfl)
  (hc:X.calm=true:=by rfl) (hN:X.N=N:=by rfl) (hS:X.env.scope=esc:=by rfl) (hs:∀x,Tx iter X.env x=pure x:=by intro _;rfl):PS X (.Assign [.Name x pos'] (.ListComp elt [⟨target,iter,ifs,0⟩] sc li) pos) (F9 (zO wi fr g tt te) (A5 i)):=by
 have C:CompOk X.N X.env.scope sc N' fr:=tO (by rw[hN,hS];exact C);have hNd:X.N.Nodup:=by rw[hN];exact S.nd
 intro ac s σ H D I h;rw[exec_Assign_Name_used _ _ _ _ hsw];refine Sj (Uz (Sj ?_));show Sw _ X.A (do let _ <-Vd (.ListComp elt [⟨target,iter,ifs,0⟩] sc li) sc X.env _ (newList []) false (Ta iter X.env) (some (UU (.Name x pos') X.env))) _ _ s;have hfr:∀x∈sc.names,x.2=.free->∃c,X.env.cells.lookup x.1=some c:=λx hx e=>I.ok.has x.1 (.inl (C.free x hx e));refine Sj (Tb (og (g:=⟨target,iter,ifs,0⟩) (gs:=[]) (Q:=λ_ s'=>SP X ac D .next s') rfl hs C.nocell hfr C.kind C.names ?_) (λ_ s' hq=>Ss (Ss hq)) λ_ _ e=>e);refine thn (hit ac s σ H _ I h) λv s1 h1=>thn h1 λitv s2 h2=>?_;obtain⟨it,fp,tn,J,H2,e,I2,T,ii,f2,k2⟩:=h2;subst e;refine UK ?_ (by show 0<=sizeLine;decide);have hfree:H2 s2.heap.objs.size=none:=I2.hok.fresh (e_ _);obtain⟨W,⟨m0,w0⟩,turn⟩:=k2 _ hfree {s2 with heap:=s2.heap.push { cls:=.type "list",data:=.seq ([]:List Sl).toArray} } (upd H2 s2.heap.objs.size (.lst [])) fp;have kp:∀b u,s2.heap.get? b=some u->(s2.heap.push { cls:=.type "list",data:=.seq ([]:List Sl).toArray}).get? b=some u:=λb u e=>Sr _ e;have I3:Inv X ac σ (upd H2 s2.heap.objs.size (.lst [])) {s2 with heap:=s2.heap.push { cls:=.type "list",data:=.seq ([]:List Sl).toArray} }:=
  I2.laid (t':=s2.toks) kp (e_ _) ⟨MU _,[],0,.nil,SF _ rfl⟩
 have obj2:=T.obj 0 s2.heap ii;have fpne:∀b∈fp,b≠s2.heap.objs.size:=λb hb=>by obtain⟨o,ho,_⟩:=obj2 b hb;exact j_ (Sx ho)
 have f3:∀b∈fp,ny X ac (upd H2 s2.heap.objs.size (.lst [])) b:=λb hb=>⟨by rw[aQ (fpne b hb)];exact(f2 b hb).1,(f2 b hb).2⟩
 have im:=T.keep 0 s2.heap _ ii λb hb o e=>kp b o e;have obj3:=T.obj 0 _ im;intro h4 hn4 hk4;have st4:=T.keep 0 _ h4 im λb hb o e=>hk4 b o e;have I4:=xj (N':=N') (fr:=fr) (fp:=fp) I3 C hc f3 (λb hb=>let ⟨o,ho,_⟩:=obj3 b hb;⟨o,ho⟩) hn4 hk4;have stat:∀{H':Hp},(∀b∈fp,H' b=none)->∀b∈fp,ny (bU X N' sc {s2 with heap:=s2.heap.push { cls:=.type "list",data:=.seq ([]:List Sl).toArray} } (upd H2 s2.heap.objs.size (.lst [])) fp) [] H' b:=λhn b hb=>
  ⟨hn b hb,(I4.ok.exf b hb).1,I4.ok.exfs b hb,.inl hb,(I4.ok.exf b hb).2,λp hp=>(nomatch hp)⟩
 have loop:Um (SG X.prog X.w) X.A (.compLoop (.ListComp elt [⟨target,iter,ifs,0⟩] sc li) 0 (.ref it) (.ref s2.heap.objs.size) (L2.compEnv X.env sc (s2.heap.push { cls:=.type "list",data:=.seq ([]:List Sl).toArray}).objs.size))
   (λr s'=>match r with
    | .ok _=>Sw (SG X.prog X.w) X.A (UU (.Name x pos') X.env (.ref s2.heap.objs.size)) (λ_ s''=>∃m,s''.heap.Ns (s2.heap.push { cls:=.type "list",data:=.seq ([]:List Sl).toArray}).objs.size m/\∀h',T_ (s2.heap.push { cls:=.type "list",data:=.seq ([]:List Sl).toArray}).objs.size s''.heap h'->SP X ac D .next {s'' with heap:=h'}) X.xe s'
    | .error x=>False) {s2 with heap:=h4}:=by
  refine pF (λn s'=>∃i cl H',Inv (bU X N' sc {s2 with heap:=s2.heap.push { cls:=.type "list",data:=.seq ([]:List Sl).toArray} } (upd H2 s2.heap.objs.size (.lst [])) fp) [] cl H' s'/\tn i s'.heap/\(∀b∈fp,H' b=none)/\W i n cl H') ?_ m0
   ⟨0,_,_,I4,st4,λb hb=>(f3 b hb).1,w0⟩
  rintro n s5 ⟨j,σ5,H5,I5,st5,fr5,w5⟩;rcases turn j n σ5 H5 w5 with⟨stop,q⟩|⟨go,step⟩
  ·refine thn (T.done (bU X N' sc _ _ fp) rfl rfl rfl rfl j [] s5 σ5 H5 (λ_ _=>False) I5 (stat fr5) st5 stop) ?_;rintro r s6 ⟨hr,I6⟩;subst hr;obtain⟨m6,hn6,_⟩:=id I6.loc;have hL:H5 (s2.heap.push { cls:=.type "list",data:=.seq ([]:List Sl).toArray}).objs.size=none:=I6.free;have I7:Inv X ac σ H5 s6:=I3.He (s':=s6) (ch:=fp) I6.os I6.base I6.hok I6.bare (λb hb=>by obtain⟨_,g1,g2,g3,g4,g5⟩:=f3 b hb;exact⟨g3,g1,g4,g5⟩)
   have Lne:(s2.heap.push { cls:=.type "list",data:=.seq ([]:List Sl).toArray}).objs.size≠X.env.locals:=O0 I3.lt;have cne:∀y c,X.env.cells.lookup y=some c->c≠(s2.heap.push { cls:=.type "list",data:=.seq ([]:List Sl).toArray}).objs.size:=λy c e=>by obtain⟨v',z⟩:=I3.cell y c e;exact j_ z.lt
   refine WX (uD (v:=.ref s2.heap.objs.size) I7 hNd hi hx rfl (λs8 I8 ⟨a8,sb8,ha8⟩=>?_) (.inl hf));refine⟨m6,hn6.sameBut sb8 (λz=>ha8.elim (λw'=>Lne (z.trans w')) λw'=>cne _ _ w' z.symm),λh' hs'=>⟨_,H5,?_,q⟩⟩;refine I8.turned (it:=(s2.heap.push { cls:=.type "list",data:=.seq ([]:List Sl).toArray}).objs.size) (t':=s8.toks) (λb o hb e=>(hs'.2 b hb).trans e) hL Lne (.inr I3.sz) cne λp hp z=>?_;have lt:=Sx (I3.pin p hp).1;rw[z]at lt;exact NR _ lt
  refine thn (T.item (bU X N' sc _ _ fp) rfl rfl rfl rfl j [] s5 σ5 H5 (λ_ _=>False) I5 (stat fr5) st5 go) ?_;rintro r s6 ⟨u,hr,h6⟩;subst hr;refine thn h6 ?_;rintro _ s7 ⟨y,H7,I7,r7,y7,st7,fr7⟩;have I7':=I7.pinned (stat fr7) (T.obj _ _ st7);have V9:∀{σ8:St}{H8:Hp}{s8:So},Inv (bU X N' sc {s2 with heap:=s2.heap.push { cls:=.type "list",data:=.seq ([]:List Sl).toArray} } (upd H2 s2.heap.objs.size (.lst [])) fp) ([]++oB fp s7.heap) σ8 H8 s8->(∃m',m'<n/\W (j+1) m' σ8 H8)->
    ∃m,m<n/\∃i cl H',Inv (bU X N' sc {s2 with heap:=s2.heap.push { cls:=.type "list",data:=.seq ([]:List Sl).toArray} } (upd H2 s2.heap.objs.size (.lst [])) fp) [] cl H' s8/\tn i s8.heap/\(∀b∈fp,H' b=none)/\W i m cl H':=λ{σ8 H8 s8} I8 ⟨m',hm,w8⟩=>by
   refine⟨m',hm,j+1,σ8,H8,I8.kQ,T.keep _ _ _ st7 λb hb o e=>(I8.pin (b,o) (q_ _ (q_ _ (iw hb e)))).1,λb hb=>?_,w8⟩;obtain⟨o,e,d⟩:=T.obj _ _ st7 b hb;exact(I8.pin (b,o) (q_ _ (q_ _ (iw hb e)))).2.1
  refine thn (hg _ _ fp _ s7 σ5 H7 y u _ I7' r7 (step y H7 y7)) ?_;rintro _ s8 ⟨σ8,H8,I8,q8⟩;refine thn (ht _ _ fp _ s8 σ8 H8 _ I8 q8) ?_;rintro ok s9 ⟨H9,I9,q9⟩;cases ok with
  |false=>exact V9 I9 q9
  |true=>
   refine thn (he _ _ fp _ s9 σ8 H9 _ I9 q9) ?_;rintro y s10 ⟨v,H10,I10,r10,ys,hys,hl,q10⟩;refine thn (oR _ s10 σ8 H10 (.ref s2.heap.objs.size) [v] (.ref s2.heap.objs.size) [y] (λ_ H'=>∃m',m'<n/\W (j+1) m' σ8 H') I10 rfl (.cons r10 .nil) ⟨_,ys,v,rfl,rfl,hys,hl,q10⟩) ?_;rintro z s11 ⟨_,H11,I11,_,q11⟩;exact V9 I11 q11
 refine Wh loop ?_;exact T.self X.A 0 _ _ _ st4 loop
section
variable{X:Cx}
theorem MtM.imp {id:String}{r r':V->List V->Hp->VK->Prop}(h:MtM X id r)(k:∀x xs H Q,r' x xs H Q->r x xs H Q):MtM X id r':=λac s σ H x xs v us Q I r1 r2 q=>h ac s σ H x xs v us Q I r1 r2 (k _ _ _ _ q)
theorem xT:MtM X "list.extend" (λx vs H Q=>∃l b xs zs,x=.ref l/\vs=[.ref b]/\H l=some (.lst xs)/\H b=some (.lst zs)/\xs.length+zs.length<=sizeLine/\∀H',Put H l (.lst (xs++zs)) H'->Q .non H'):=Bn.imp (by rintro x vs H Q ⟨l,b,xs,zs,e1,e2,h1,h2,hz,q⟩;exact⟨l,b,xs,zs,e1,e2,h1,h2,hz,q _ Put.up⟩)
theorem yA:MtM X "list.append" (λx vs H Q=>∃l xs y,x=.ref l/\vs=[y]/\H l=some (.lst xs)/\xs.length<sizeLine/\∀H',Put H l (.lst (xs++[y])) H'->Q .non H'):=oR.imp (by rintro x vs H Q ⟨l,xs,y,e1,e2,h1,hz,q⟩;exact⟨l,xs,y,e1,e2,h1,hz,q _ Put.up⟩)
end
end L2
namespace ZG
open PySem
theorem E9{prog:SD}{w:SI}{A:SW}(hh:A.handled=none)(b:Bool)(it l:Sn)(io:l≠it)(items:Array Sl) :
  Draws prog w A it [it,l] items.size (λi v=>items[i]?=some v) (λi h=>Dr b h it l i/\Sq b h l items) where
 live:=λ_ _ st=>let ⟨o,ho,_⟩:=st.1.some;⟨o,ho⟩
 frame:=λ_ _ _ st hk=>⟨st.1.at λo e=>hk it (by simp) o e,st.2.at λo e=>hk l (by simp) o e⟩
 item:=λi s Q E hi st hQ=>by
  refine pB st.1 st.2 (v:=items[i]) (by simp[hi]) λh' hit' hs'=>?_
  exact hQ _ h' s.toks (by simp[hi]) ⟨hit',st.2.ext hs'.extBut io⟩ hs'
 done:=λs Q E st hE=>zk hh st.1 st.2 (by simp) hE
set_option maxHeartbeats 1000000 in
theorem Av(l:Sn)(items:Array Sl)(n:Nat)(dct:Option Sn)(sl:Array (Option Sl)) :
  Meets (Uo.«enumerate.__new__» ⟨[.type "enumerate",.ref l],[]⟩) (λ_ R s=>s.heap.get? l=some { cls:=.type "tuple",dict:=dct,data:=.seq items n,slots:=sl}/\
   R (.ok (.ret (.ref (s.heap.push { cls:=.type "tuple_iterator",data:=.fields #[.ref l,.int 0 0] }).objs.size)))
    {s with heap:=(s.heap.push { cls:=.type "tuple_iterator",data:=.fields #[.ref l,.int 0 0] }).push { cls:=.type "enumerate",data:=.fields #[.none,.bool false,.ref s.heap.objs.size,Vz 0,.none,.none] } }):=
 .of_wp λprog w A R s h=>by
  obtain⟨hp,g,d,tk,os⟩:=s;obtain⟨hl,h⟩:=h;have hsub:=sub_enumerate;have hL:V0 (UO ⟨hp,g,d,tk,os⟩) l items:=⟨_,hl,rfl,n,rfl⟩
  wp_walk using Ur hl
  refine wpAny_stack_any λst=>Ss ?_;split
  ·rename_i c _ _ _ _ _;cases (c == Vi "enumerate")
   ·wp_walk using Ur hl,To hL
    exact⟨_,rfl,h⟩
   wp_walk using Ur hl,To hL
   exact⟨_,rfl,h⟩
  wp_walk using Ur hl,To hL
  exact⟨_,rfl,h⟩
variable {Q:Sl->So->Prop}
section
variable{prog:SD}{w:SI}{A:SW}{E:Sl->So->Prop}{s:So}
theorem yB{l:Sn}{items:Array Sl}(hL:s.heap.IsTuple l items)
  (h:∀h',Yb h' (s.heap.objs.size+1) s.heap.objs.size 0 .none->h'.IsTupleIter s.heap.objs.size l 0->h'.objs.size=s.heap.objs.size+2->
   (∀b o,s.heap.get? b=some o->h'.get? b=some o)->Q (.ref (s.heap.objs.size+1)) {s with heap:=h'}) :
  Sw (SG prog w) A (call (.type "enumerate") [.ref l]) Q E s:=by
 obtain⟨⟨c,dct,dt,sl⟩,hl,hc,n,hd⟩:=hL;replace hc:c=.type "tuple":=hc;replace hd:dt=.seq items n:=hd;subst hc hd;refine Ya F.called_enumerate (by decide) (F.typeCall_enumerate_1 _) (F.newCall_enumerate_1 _) (λobj=>F.args_object_init_2 obj _) F.entry_enumerate_new
  (Av l items n dct sl) ⟨hl,?_⟩
 have hz:(s.heap.push { cls:=.type "tuple_iterator",data:=.fields #[.ref l,.int 0 0] }).objs.size=s.heap.objs.size+1:=Tz ..;show _/\_;rw[hz];have he:Yb ((s.heap.push { cls:=.type "tuple_iterator",data:=.fields #[.ref l,.int 0 0] }).push
   { cls:=.type "enumerate",data:=.fields #[.none,.bool false,.ref s.heap.objs.size,Vz 0,.none,.none] }) (s.heap.objs.size+1) s.heap.objs.size 0 .none:=by
  have:=SF (s.heap.push { cls:=.type "tuple_iterator",data:=.fields #[.ref l,.int 0 0] })
   (o:={ cls:=.type "enumerate",data:=.fields #[.none,.bool false,.ref s.heap.objs.size,Vz 0,.none,.none] }) rfl
  rw[hz]at this;exact this
 refine⟨⟨_,he,rfl⟩,h _ he ⟨_,Sr _ (SF _ rfl),rfl,rfl⟩ (by rw[Tz,hz]) λb o x=>Sr _ (Sr _ x)⟩
theorem yL{b:Bool}{l:Sn}{items:Array Sl}(hL:Sq b s.heap l items)
  (h:∀h',Yb h' (s.heap.objs.size+1) s.heap.objs.size 0 .none->Dr b h' s.heap.objs.size l 0->h'.objs.size=s.heap.objs.size+2->
   (∀b o,s.heap.get? b=some o->h'.get? b=some o)->Q (.ref (s.heap.objs.size+1)) {s with heap:=h'}) :
  Sw (SG prog w) A (call (.type "enumerate") [.ref l]) Q E s:=by
 cases b with
 |true=>exact yB hL h
 |false=>exact call_enumerate_list hL h
end
end ZG
namespace L2
open PySem PySem.Spec PyProof.Rows
def Ite(K:Sm)(b:Bool)(a:Sn):It:=
  ⟨λi H=>∃xs x,SqG b K H a xs/\xs[i]?=some x,
   λi H v H'=>∃p x,H p=none/\v=.ref p/\H'=upd H p (.tup [.int i,x])/\∀xs,SqG b K H a xs->xs[i]?=some x,
   λi H=>∃xs,SqG b K H a xs/\xs.length=i⟩
variable {es:List SK}
theorem AJ{P:SD}{w:SI}{K:Sm}{x1:Nat}{tp:Pos}(b:Bool)(a e it:Sn)(D:e≠it) :
  Turn P w K (.Tuple es x1 tp) (Ite K b a) [e,it] e (λi h=>(∃old,Yb h e it i old)/\ZG.Dr b h it a i) where
 mem:=by simp
 obj:=λi h st c hb=>by
  obtain⟨⟨old,he⟩,d⟩:=st;have hb:c=e\/c=it:=by simpa using hb
  rcases hb with rfl|rfl
  ·exact⟨_,he,λv z=>by cases (show W9 _=V8 v from z)⟩
  exact d.some
 keep:=λi h h' st k=>by obtain⟨⟨old,he⟩,d⟩:=st;exact⟨⟨old,k e (by simp) _ he⟩,d.at λo z=>k it (by simp) o z⟩
 item:=by
  intro X hP hw hK hc i ac s σ H E I hf st hg;subst hP hw hK;obtain⟨xs,x,q1,hx⟩:=hg;obtain⟨ap,rv,p1,z1⟩:=I.sq q1;obtain⟨u,hu,ru⟩:=rv.get hx;obtain⟨⟨old,he⟩,d⟩:=st;have fe:=hf e (by simp);have fi:=hf it (by simp);have nai:=I.hV q1 fi;have nae:=I.hV q1 fe;have kw:i<ap.toArray.size:=by have:=(gV.mp hu).1;simpa using this
  refine wpAny_pyNext_enum_itemD (ZG.E9 (A:=X.A.in1) (I.ok.hd hc) b it a nai ap.toArray) he ⟨d,p1⟩ kw D (by simp[D,nae.symm]) λy h1 tk hP hO hst hT hsz hk=>⟨_,rfl,?_⟩
  have ey:y=u:=by
   have e1:ap.toArray[i]?=some u:=by simpa using hu
   rw[e1]at hP;exact(L' hP).symm
  subst ey;refine wpAny_letOwnedTupleGo_enum (s:={s with heap:=h1,toks:=tk+1}) hO λh' he' hs'=>?_;have hfresh:H s.heap.objs.size=none:=I.hok.fresh (e_ _);have eT:s.heap.objs.size≠e:=O0 (Sx he);have kp:∀c o,c ∉ [e,it]->s.heap.get? c=some o->h'.get? c=some o:=λc o hb z=>by
   have n:c≠e/\c≠it:=by simpa using hb
   exact hs'.extBut _ _ n.1 (hk c o n.1 n.2 z)
  have hT':h'.get? s.heap.objs.size=some { cls:=.type "tuple",data:=.seq #[.int i tk,y] }:=hs'.extBut _ _ eT hT;have notfp:∀c o,H c=some o->c ∉ [e,it]:=λc o z hb=>by have:=(hf c hb).1;rw[z]at this;cases this
  have ne:∀c o,s.heap.get? c=some o->c≠s.heap.objs.size:=λc o z=>j_ (Sx z);have nt:∀c o,H c=some o->c≠s.heap.objs.size:=λc o z=>f6 z hfresh;have I1:Inv X ac σ (upd H s.heap.objs.size (.tup [.int i,x])) {s with heap:=h',toks:=tk+1}:=by
   refine I.step (g':=s.gens) (d':=s.drawn) (t':=tk+1) (ch:=[e,it]) (λc hb=>?_) (λc o _ _ hc z _=>kp c o hc z) (λc o _ _ hc z _=>⟨o.slots,kp c o hc z⟩)
    (λc o _ z n=>by rw[aQ (ne c o z)];exact n) (λc o hc z=>⟨o,kp c o hc z⟩) (λc zs z=>by rw[aQ (nt c _ z)];exact z) (λc o u z=>by rw[aQ (nt c _ z)];exact z)
    (λc ps z=>⟨#[],by rw[aQ (nt c _ z),z];simp⟩) (λm hm=>?_) (λc o z=>?_) I.bare
   ·obtain⟨g0,g1,g2,g3,g4,g5⟩:=hf c hb;exact⟨g3,g1,g4,g5⟩
   ·obtain⟨o,es,ep,ho',r⟩:=hm;exact⟨o,es,ep,kp _ o (λhb=>(hf _ hb).2.1 rfl) ho',r⟩
   by_cases hb:c=s.heap.objs.size
   ·subst hb;rw[aX]at z;cases z;exact⟨by show 2<=sizeLine;decide,[.int i tk,y],.cons ⟨tk,rfl⟩ (.cons ru .nil),_,hT',rfl,_,rfl⟩
   rw[aQ hb]at z;refine(I.hok c o z).mO (λc' w' hc' q=>kp c' w' ?_ q) (λc' q=>by rw[aQ (nt c' _ q)];exact q) λc' zs q=>by rw[aQ (nt c' _ q)];exact q
   rcases hc' with rfl|hc'
   ·exact notfp _ _ z
   exact notfp _ _ hc'
  refine⟨.ref s.heap.objs.size,_,I1,rfl,⟨s.heap.objs.size,x,hfresh,rfl,rfl,λzs hq=>by rw[I.y8 hq q1];exact hx⟩,?_,λc hb=>?_⟩
  ·exact⟨⟨_,he'⟩,hst.1.ext hs'.extBut D.symm⟩
  have hb0:=(hf c hb).1;have hb':c=e\/c=it:=by simpa using hb
  have kw:∃o,s.heap.get? c=some o:=by
   rcases hb' with rfl|rfl
   ·exact⟨_,he⟩
   obtain⟨o,z,_⟩:=d.some;exact⟨o,z⟩
  obtain⟨o,z⟩:=kw;rw[aQ (ne c o z)];exact hb0
 done:=by
  intro X hP hw hK hc i ac s σ H E I hf st hg;subst hP hw hK;obtain⟨xs,q1,hn⟩:=hg;obtain⟨ap,rv,p1,z1⟩:=I.sq q1;obtain⟨⟨old,he⟩,d⟩:=st;have fe:=hf e (by simp);have fi:=hf it (by simp);have nai:=I.hV q1 fi;have l1:=rv.length;have en:ap.toArray.size=i:=by simp;omega
  refine wpAny_pyNext_enum_endD (ZG.E9 (A:=X.A.in1) (I.ok.hd hc) b it a nai ap.toArray) he (by rw[en];exact⟨d,p1⟩) λg gk=>⟨rfl,?_⟩
  have kp:∀c o,c ∉ [e,it]->s.heap.get? c=some o->g.get? c=some o:=λc o hb z=>by
   have n:c≠e/\c≠it:=by simpa using hb
   exact gk c o n.2 z
  have notfp:∀c o,H c=some o->c ∉ [e,it]:=λc o z hb=>by have:=(hf c hb).1;rw[z]at this;cases this
  refine I.step (g':=s.gens) (d':=s.drawn) (t':=s.toks) (ch:=[e,it]) (λc hb=>?_) (λc o _ _ hc z _=>kp c o hc z) (λc o _ _ hc z _=>⟨o.slots,kp c o hc z⟩)
   (λc o _ z n=>n) (λc o hc z=>⟨o,kp c o hc z⟩) (λc zs z=>z) (λc o u z=>z) (λc ps z=>⟨#[],by rw[z];simp⟩) (λm hm=>?_) (λc o z=>?_) I.bare
  ·obtain⟨g0,g1,g2,g3,g4,g5⟩:=hf c hb;exact⟨g3,g1,g4,g5⟩
  ·obtain⟨o,es,ep,ho',r⟩:=hm;exact⟨o,es,ep,kp _ o (λhb=>(hf _ hb).2.1 rfl) ho',r⟩
  refine(I.hok c o z).mO (λc' w' hc' q=>kp c' w' ?_ q) (λc' q=>q) λc' zs q=>q;rcases hc' with rfl|hc'
  ·exact notfp _ _ z
  exact notfp _ _ hc'
 self:=λ_ _ _ _ _ st h=>by obtain⟨⟨old,he⟩,_⟩:=st;exact W4 he h
def K0(K:Sm)(ta:TA):TI:=λσ H R=>ta σ H λvs H1=>∃b a,vs=[.ref a]/\(∃xs,SqG b K H1 a xs)/\R (Ite K b a) H1
theorem G4{X:Cx}{x1:Nat}{tp:Pos}{a:SK}{ta:TA}{p pos:Pos}(hg:Gl X "enumerate")(hm:X.mg "enumerate"=none)(ha:PA X [a] ta)(hs:SO [a] X.env=[(false,Ta a X.env)]:=by rfl) :
  PI X (.Tuple es x1 tp) (.Call (.Name "enumerate" p) [a] [] pos) (K0 X.K ta):=by
 intro ac s σ H R I h;refine Yu (j9 I hg hm boot_enumerate (TZ (thn (ha pos ac s σ H _ I h) λus s1 ⟨vs,H1,I1,r1,q1⟩=>?_) hs rfl));obtain⟨b,a,e,⟨xs,q1⟩,q⟩:=q1;subst e;cases r1 with
 |cons r rr=>
  cases rr;cases r;obtain⟨ap,rv,p1,z1⟩:=I1.sq q1;refine ZG.yL p1 λg gz g1 gs gk=>W4 (s:={s1 with heap:=g}) gz ?_;have I2:Inv X ac σ H1 {s1 with heap:=g}:=I1.kept (t':=s1.toks) gk;refine⟨_,_,_,_,H1,rfl,I2,AJ b a _ s1.heap.objs.size (show(_:Nat)≠_ by omega),⟨⟨_,gz⟩,g1⟩,λc hb=>?_,q⟩;have hb':s1.heap.objs.size<=c:=by
   have z:c=s1.heap.objs.size+1\/c=s1.heap.objs.size:=by simpa using hb
   rcases z with z|z <;> rw[z] <;>(show(_:Nat)<=_) <;> omega
  exact I1.wj hb' (I1.hok.fresh hb')
theorem CW{α:Type}[BEq α][LawfulBEq α][DecidableEq α](d:α)(a b:List α):(((B' (min a.length b.length)).all λj=>a.getD j d == b.getD j d)&&a.length == b.length)=decide (a=b):=by
 refine Bool.eq_iff_iff.mpr ?_;rw[L_,NU,beq_iff_eq,decide_eq_true_iff];constructor
 ·rintro⟨h,l⟩;refine QB l λi h1 h2=>?_;have:=beq_iff_eq.mp (h i (K_.mpr (Nat.lt_min.mpr ⟨h1,h2⟩)));rw[i_,i_,f_ h1,f_ h2]at this;exact this
 rintro rfl;exact⟨λj _=>beq_self_eq_true _,rfl⟩
section
variable{X:Cx}{ac:List (Sn×Obj)}{σ:St}{H:Hp}{s:So}{A:SW}
theorem jI{a b:List Int}{us vs:List Sl}(r1:Vals (a.map V.int) us)(r2:Vals (b.map V.int) vs)(j:Nat)(g1:j<us.toArray.size)(g2:j<vs.toArray.size):SeqAt.EqAt A s us.toArray[j] vs.toArray[j] (a.getD j 0 == b.getD j 0):=by
 obtain⟨ps,rfl,rfl⟩:=gL r1;obtain⟨qs,rfl,rfl⟩:=gL r2;have h1:j<ps.length:=by simpa using g1
 have h2:j<qs.length:=by simpa using g2
 rw[i_,i_,u_,u_,f_ h1,f_ h2,Q8,Q8,RC,RC];exact .int_int _ _ _ _
def EqS(K:Sm)(H:Hp)(x y:V)(b:Bool):Prop:=
 (∃i j,x=.int i/\y=.int j/\b=decide (i=j))\/(∃i j,x=.str i/\y=.str j/\b=decide (i=j))\/(∃i j,x=.bl i/\y=.bl j/\b=(i == j))\/
 ∃c p q,∃u v:List Int,x=.ref p/\y=.ref q/\b=decide (u=v)/\SqG c K H p (u.map V.int)/\SqG c K H q (v.map V.int)
theorem BA(I:Inv X ac σ H s)(hu:A.units<cLine){x y:V}{v u:Sl}{b:Bool}(rx:RelV x v)(ry:RelV y u)(h:EqS X.K H x y b):SeqAt.RcAt A s v u b/\SeqAt.RcNeAt A s v u (!b):=by
 rcases h with⟨i,j,rfl,rfl,rfl⟩|⟨i,j,rfl,rfl,rfl⟩|⟨i,j,rfl,rfl,rfl⟩|⟨c,p,q,a,d,rfl,rfl,rfl,s1,s2⟩
 ·obtain⟨_,rfl⟩:=rx;obtain⟨_,rfl⟩:=ry;rw[<-Q0];exact⟨.int_int _ _ _ _,.int_int _ _ _ _⟩
 ·obtain⟨_,rfl⟩:=rx;obtain⟨_,rfl⟩:=ry;rw[<-Q0];exact⟨.str_str _ _ _ _,.str_str _ _ _ _⟩
 ·cases rx;cases ry;exact⟨.bool_bool _ _,.bool_bool _ _⟩
 cases rx;cases ry;have key:=CW 0 a d;cases c with
 |true=>
  obtain⟨us,r1,p1,_⟩:=I.tuple s1;obtain⟨vs,r2,p2,_⟩:=I.tuple s2;have l1:us.toArray.size=a.length:=by rw[j',<-r1.length,a_]
  have l2:vs.toArray.size=d.length:=by rw[j',<-r2.length,a_]
  have k1:=YN p1 p2 hu (jI r1 r2);have k2:=YD p1 p2 hu (jI r1 r2);rw[l1,l2,key]at k1 k2;exact⟨k1,k2⟩
 |false=>
  obtain⟨us,r1,p1,_⟩:=I.list s1;obtain⟨vs,r2,p2,_⟩:=I.list s2;have l1:us.toArray.size=a.length:=by rw[j',<-r1.length,a_]
  have l2:vs.toArray.size=d.length:=by rw[j',<-r2.length,a_]
  by_cases e:a.length=d.length
  ·have k1:=YS p1.isList p2.isList (by rw[l1,l2,e]) hu (jI r1 r2);have k2:=YK p1.isList p2.isList (by rw[l1,l2,e]) hu (jI r1 r2);rw[<-e,QC,beq_self_eq_true,Qm]at key;rw[l1,key]at k1 k2;exact⟨k1,k2⟩
  have hz:(us.toArray.size != vs.toArray.size)=true:=by rw[l1,l2];exact bne_iff_ne.mpr e
  rw[decide_eq_false λz=>e (by rw[z])];exact⟨.lists_lengths p1.isList p2.isList hz hu,.lists_lengths p1.isList p2.isList hz hu⟩
def M9(K:Sm)(neg:Bool):R2:=λx y H Q=>∃b,EqS K H x y b/\Q (.bl (b != neg)) H
theorem DY(hu:X.A.units<cLine):OpR X (S8 .Eq) (M9 X.K false):=by rintro ac s σ H x y v u Q I rx ry ⟨b,e,q⟩;rw[RP]at q;exact(BA I hu rx ry e).1 _ _ _ _ ⟨.bl b,H,I,rfl,q⟩
theorem Ji(hu:X.A.units<cLine):OpR X (S8 .NotEq) (M9 X.K true):=by rintro ac s σ H x y v u Q I rx ry ⟨b,e,q⟩;rw[RY]at q;exact(BA I hu rx ry e).2 _ _ _ _ ⟨.bl (!b),H,I,rfl,q⟩
end
end L2
namespace ZR
open PySem
variable {E:Sl->So->Prop}
theorem BM{prog:SD}{w:SI}{A:SW}{s:So}{it l:Sn}{i:Int}{Q:Bool->So->Prop}(h:s.heap.IsRevIter it l i)(q:Q false s):Sw (SG prog w) A (Ug (SV it)) Q E s:=by have ty:s.TypeIs (SV it) "list_reverseiterator":=h.typeIs;unfold Ug;refine Sj (UE ty (r:=none) rfl ?_);refine S4 (λc=>absurd c (by decide)) (λ_=>?_);refine S4 (λc=>absurd c (by decide)) (λ_=>?_);refine Sj (UE ty (r:=some (Value.builtin "list_reverseiterator.__length_hint__")) rfl ?_);refine Sj (UI ty (b:=true) (by rw[Wn];rfl) ?_);refine S4 (λc=>absurd c (by decide)) (λ_=>?_);refine S4 (λ_=>?_) (λc=>absurd rfl c);refine S4 (λc=>absurd c (by decide)) (λ_=>?_);exact Ss q
theorem sT{prog:SD}{w:SI}{A:SW}{s:So}{I l:Sn}{items:Array Sl}{Q:Sl->So->Prop}(hh:A.handled=none)(io:l≠I)
  (h1:s.heap.IsRevIter I l ((items.size:Int)-1)) (h2:s.heap.IsList l items) (hn:items.size<=sizeLine)
  (q:∀(h':SJ) (tk:Nat) (acc':Array Sl) (c':Nat),(∀b o,b≠I->s.heap.get? b=some o->h'.get? b=some o)->
   h'.get? s.heap.objs.size=some { cls:=.type "list",data:=.seq acc' c'}->ItemsOf (λi v=>items[items.size-1-i]?=some v) acc' items.size->Q (.ref s.heap.objs.size) {s with heap:=h',toks:=tk}) :
  Sw (SG prog w) A (call (.type "list") [.ref I]) Q E s:=by
 have hI:I<s.heap.objs.size:=by obtain⟨o,e,_⟩:=h1;exact Sx e
 have hl:l<s.heap.objs.size:=by obtain⟨o,e,_⟩:=h2;exact Sx e
 refine XM X3 (W5 _) W6 (X4 _ (Q₁:=λv s1=>v=.ref s.heap.objs.size/\s1={s with heap:=s.heap.push { cls:=.type "list",data:=.seq #[] } }) ⟨rfl,rfl⟩) ?_;rintro _ _ ⟨rfl,rfl⟩;have hS:(s.heap.push ({ cls:=.type "list",data:=.seq #[] }:Obj)).get? s.heap.objs.size=some { cls:=.type "list",data:=.seq #[] }:=SF _ rfl;refine⟨⟨_,hS,rfl⟩,WU _ _,?_⟩;have k1:(s.heap.push { cls:=.type "list",data:=.seq #[] }).IsRevIter I l ((items.size:Int)-1):=h1.at λo e=>Sr _ e;have k2:(s.heap.push { cls:=.type "list",data:=.seq #[] }).IsList l items:=by obtain⟨o,e,r⟩:=h2;exact⟨o,Sr _ e,r⟩
 unfold Uo.«list.__init__»;refine Sj (Sj (Td hS rfl (Ss ?_)));refine Sj (TC hS rfl ?_ (by simp) (by simp));refine Sj (TJ ?_);have hS2:((s.heap.push ({ cls:=.type "list",data:=.seq #[] }:Obj)).update s.heap.objs.size (SN λ_=>#[])).get? s.heap.objs.size=some (SN (λ_=>#[]) { cls:=.type "list",data:=.seq #[] }):=by exact Tg _ hS rfl
 have kp:∀b o,b≠s.heap.objs.size->(s.heap.push ({ cls:=.type "list",data:=.seq #[] }:Obj)).get? b=some o->((s.heap.push ({ cls:=.type "list",data:=.seq #[] }:Obj)).update s.heap.objs.size (SN λ_=>#[])).get? b=some o:=λb o hb e=>by rw[Tw _ _ _ _ hb];exact e
 have k1':=k1.at λo e=>kp I o (j_ hI) e;have k2':((s.heap.push ({ cls:=.type "list",data:=.seq #[] }:Obj)).update s.heap.objs.size (SN λ_=>#[])).IsList l items:=by obtain⟨o,e,r⟩:=k2;exact⟨o,kp l o (j_ hl) e,r⟩
 generalize (s.heap.push ({ cls:=.type "list",data:=.seq #[] }:Obj)).update s.heap.objs.size (SN λ_=>#[])=h2' at *;show Sw (SG prog w) A.in1.in1 (Uh (.ref s.heap.objs.size) (.ref I) .none) _ _ {s with heap:=h2'};unfold Uh;refine Sj (WR (T:="list_reverseiterator") (Yt (s:={s with heap:=h2'}) k1') ?_);refine S4 (λc=>absurd c ?_) (λ_=>?_)
 ·have e:Us (.ref s.heap.objs.size) (.ref I)=false:=by unfold Us;exact beq_eq_false_iff_ne.mpr (λz=>j_ hI z.symm)
  rw[e]
  decide
 refine Sj (wpAny_pyIter_revIter k1' ?_);refine Sj (SY (BM k1' ?_));refine S4 (λc=>absurd c (by decide)) (λ_=>?_);refine Ss ⟨TV Ux _,?_⟩;have W:=(Walks.listRev (prog:=prog) (w:=w) (A:=A.in1.in1) hh I l io items).toS;refine codeAny_extend_loopS W hn s.heap.objs.size (λz=>by rcases n_.mp z with z|z;exact j_ hI z.symm;exact j_ hl (x_.mp z).symm) .none items.size 0 {s with heap:=h2'} #[] _ rfl (MU _) ⟨MU _,by simpa using k1',k2'⟩ hS2 ⟨rfl,λj v e=>by simp at e⟩ λs' acc' c' m e it=>⟨rfl,?_⟩
 obtain⟨h',g',d',tk',os'⟩:=s';have e1:=m.gens;have e2:=m.drawn;have e3:=m.os;dsimp only at e1 e2 e3;subst e1 e2 e3;exact q h' tk' acc' c' (λb o hb eb=>m.heap b o (λz=>by rcases n_.mp z with z|z;exact j_ (Sx eb) z;exact hb (x_.mp z)) (kp b o (j_ (Sx eb)) (Sr _ eb))) e it
end ZR
namespace L2
open PySem PySem.Spec PyProof.Rows
section
variable{X:Cx}
theorem DR{xs:List V}{us:List Sl}(h:Vals xs us):Vals xs.reverse us.reverse:=by
 have app:∀{a:List V}{b:List Sl}{c:List V}{d:List Sl},Vals a b->Vals c d->Vals (a++c) (b++d):=λ{a b c d} p q=>by
  induction p with
  |nil=>exact q
  |cons r _ ih=>exact .cons r ih
 induction h with
 |nil=>exact .nil
 |cons r _ ih=>
  rw[N4,N4];exact app ih (.cons r .nil)
theorem yf{e:SK}{te:TE}{p1 p2 pos1 li:Pos}(hc:X.calm=true)(hg1:Gl X "list")(hm1:X.mg "list"=none)(hg2:Gl X "reversed")(hm2:X.mg "reversed"=none)(he:PE X e te)
  (hs1:SO [e] X.env=[(false,Ta e X.env)]:=by rfl) (hs2:SO [.Call (.Name "reversed" p2) [e] [] li] X.env=[(false,Ta (.Call (.Name "reversed" p2) [e] [] li) X.env)]:=by rfl) :
  PE X (.Call (.Name "list" p1) [.Call (.Name "reversed" p2) [e] [] li] [] pos1) (λσ H Q=>te σ H λx H1=>∃l xs,x=.ref l/\SqL X.K H1 l xs/\New (.lst xs.reverse) H1 Q):=by
 intro ac s σ H Q I h;refine T7 (j9 I hg1 hm1 boot_list (callWith_type1 ?_ (by rw[hs2];rfl) rfl));rw[hs2];refine UW ?_;refine T7 (j9 I hg2 hm2 boot_reversed (callWith_type1 ?_ (by rw[hs1];rfl) rfl));rw[hs1];refine UW (thn (he ac s σ H _ I h) ?_);rintro u s1 ⟨x,H1,I1,r1,l,xs,ex,hl,q⟩;subst ex;cases r1;obtain⟨ap,rv,pl,hz⟩:=I1.list hl;refine Ss ?_;refine call_reversed_list pl.isList ?_;have hlen:=rv.length;have kw:l<s1.heap.objs.size:=by obtain⟨o,n,e,_⟩:=pl;exact Sx e
 refine Ss ?_;have I2:Inv X ac σ H1 {s1 with heap:=s1.heap.push (revObj l ((ap.toArray.size:Int)-1)) }:=I1.kept (t':=s1.toks) λb o e=>Sr _ e;obtain⟨f0,f1,f2,f3,f4,f5⟩:=I1.wj (b:=s1.heap.objs.size) (e_ _) (I1.hok.fresh (e_ _));refine ZR.sT (items:=ap.toArray) (l:=l) (I2.ok.hd hc) (j_ kw) ⟨_,SF _ rfl,rfl,rfl⟩ ?_ (by simp only[j'];lia) λh' tk acc c kp ea it=>?_
 ·obtain⟨o,e,r⟩:=pl.isList;exact⟨o,Sr _ e,r⟩
 have hacc:acc.toList=ap.reverse:=by
  refine Pc λj=>?_;rw[k_];by_cases hj:j<ap.length
  ·have hja:j<acc.size:=by rw[it.1,j'];exact hj
   have ha:acc[j]?=some acc[j]:=y_ hja;have:=it.2 j _ ha;rw[ha,OH hj,<-this];simp
  rw[QS (by rw[it.1,j'];lia),NK (by rw[A'];lia)]
 have ea2:acc=ap.reverse.toArray:=by rw[<-hacc]
 have hfr:H1 (s1.heap.objs.size+1)=none:=I1.hok.fresh (QT _);have esz:(s1.heap.push (revObj l ((ap.toArray.size:Int)-1))).objs.size=s1.heap.objs.size+1:=by simp[Vg]
 dsimp only at ea ⊢;rw[esz]at ea ⊢;rw[ea2]at ea;refine⟨.ref (s1.heap.objs.size+1),_,I1.laid (t':=tk) (h':=h') (λb o e=>kp b o (j_ (Sx e)) (Sr _ e)) (QT _) (show f7 X.prog X.w _ h' _ (.lst xs.reverse)from⟨by rw[A'];exact hz,ap.reverse,c,DR rv,ea⟩),rfl,q _ _ hfr (eX hfr _) aX⟩
theorem Bg(hc:X.calm=true):d3 X (.builtin "min") (λxs H Q=>∃a ns,xs=[.ref a]/\SqT X.K H a (ns.map V.int)/\ns≠[]/\∀r,tI ns r->Q (.int r) H):=by
 intro ac s σ H xs us Q I r h;obtain⟨a,ns,rfl,hq,io,q⟩:=h;obtain⟨u,rfl,ru⟩:=vals1 r;cases ru;obtain⟨ap,rv,p,z⟩:=I.tuple hq;obtain⟨ps,e1,e2⟩:=gL rv;have ei:Tj ps.toArray=ap.toArray:=by simp[Tj,e1]
 have hT:s.heap.IsTuple a (Tj ps.toArray):=by rw[ei];exact p
 have hlen:ps.length=ns.length:=by rw[<-e2];simp
 have hpos:0<ns.length:=Nm λz=>io (I_ z);have kw:a<s.heap.objs.size:=by obtain⟨o,e,_⟩:=p;exact Sx e
 have hh:X.A.in1.handled=none:=I.ok.hd hc;have W1:=Wi (prog:=X.prog) (w:=X.w) hh s.heap.objs.size a (j_ kw) (Tj ps.toArray);refine call_min_walk (To hT ⟨s.heap.objs.size,_,_,_,_,_,_,rfl,W1,?_,λb hb=>?_,?_,CmpOf.ints_lt (Uw ps.toArray) (λi v hv=>U9 hv),λv h' tk hv hk=>?_⟩)
 ·refine⟨⟨_,SF _ rfl,rfl,rfl⟩,?_⟩;obtain⟨o,e,r⟩:=hT;exact⟨o,Sr _ e,r⟩
 ·show b<(s.heap.push _).objs.size;have e:(s.heap.push { cls:=.type "tuple_iterator",data:=.fields #[.ref a,.int 0 0] }).objs.size=s.heap.objs.size+1:=by simp[Vg]
  rcases n_.mp hb with hb|hb
  ·rw[hb];simp[Vg]
  rw[x_.mp hb];exact v_ kw (by simp[Vg])
 ·simp[Tj];lia
 obtain⟨tv,rfl⟩:=U9 hv;obtain⟨b1,b2⟩:=argBest_lt (Uw ps.toArray) ((Tj ps.toArray).size-1);have es:(Tj ps.toArray).size=ns.length:=by simp[Tj,hlen]
 have hi:S_ (λi j=>decide (Uw ps.toArray i<Uw ps.toArray j)) ((Tj ps.toArray).size-1)<ns.length:=by rw[es]at b1 ⊢;lia
 obtain⟨f0,f1,f2,f3,f4,f5⟩:=I.wj (b:=s.heap.objs.size) (e_ _) (I.hok.fresh (e_ _));have kk:∀b o,s.heap.get? b=some o->h'.get? b=some o:=λb o e=>hk b o (λz=>j_ (Sx e) (x_.mp z)) (Sr _ e);refine⟨.int _,H,I.kept (t':=tk) kk,⟨tv,rfl⟩,q _ ⟨?_,λx hx=>?_⟩⟩
 ·rw[hU e2 hi];exact N_ hi
 obtain⟨j,hj,rfl⟩:=NM.mp hx;have:=b2 j (by rw[es];lia);rw[hU e2 hj]at this;exact this
theorem AD(hc:X.calm=true):d3 X (.builtin "max") (λxs H Q=>∃a ns,xs=[.ref a]/\SqT X.K H a (ns.map V.int)/\ns≠[]/\∀r,uj ns r->Q (.int r) H):=by
 intro ac s σ H xs us Q I r h;obtain⟨a,ns,rfl,hq,io,q⟩:=h;obtain⟨u,rfl,ru⟩:=vals1 r;cases ru;obtain⟨ap,rv,p,z⟩:=I.tuple hq;obtain⟨ps,e1,e2⟩:=gL rv;have ei:Tj ps.toArray=ap.toArray:=by simp[Tj,e1]
 have hT:s.heap.IsTuple a (Tj ps.toArray):=by rw[ei];exact p
 have hlen:ps.length=ns.length:=by rw[<-e2];simp
 have hpos:0<ns.length:=Nm λz=>io (I_ z);have kw:a<s.heap.objs.size:=by obtain⟨o,e,_⟩:=p;exact Sx e
 have hh:X.A.in1.handled=none:=I.ok.hd hc;have W1:=Wi (prog:=X.prog) (w:=X.w) hh s.heap.objs.size a (j_ kw) (Tj ps.toArray);refine call_max_walk (To hT ⟨s.heap.objs.size,_,_,_,_,_,_,rfl,W1,?_,λb hb=>?_,?_,CmpOf.ints_gt (Uw ps.toArray) (λi v hv=>U9 hv),λv h' tk hv hk=>?_⟩)
 ·refine⟨⟨_,SF _ rfl,rfl,rfl⟩,?_⟩;obtain⟨o,e,r⟩:=hT;exact⟨o,Sr _ e,r⟩
 ·show b<(s.heap.push _).objs.size;have e:(s.heap.push { cls:=.type "tuple_iterator",data:=.fields #[.ref a,.int 0 0] }).objs.size=s.heap.objs.size+1:=by simp[Vg]
  rcases n_.mp hb with hb|hb
  ·rw[hb];simp[Vg]
  rw[x_.mp hb];exact v_ kw (by simp[Vg])
 ·simp[Tj];lia
 obtain⟨tv,rfl⟩:=U9 hv;obtain⟨b1,b2⟩:=argBest_gt (Uw ps.toArray) ((Tj ps.toArray).size-1);have es:(Tj ps.toArray).size=ns.length:=by simp[Tj,hlen]
 have hi:S_ (λi j=>decide (Uw ps.toArray i > Uw ps.toArray j)) ((Tj ps.toArray).size-1)<ns.length:=by rw[es]at b1 ⊢;lia
 obtain⟨f0,f1,f2,f3,f4,f5⟩:=I.wj (b:=s.heap.objs.size) (e_ _) (I.hok.fresh (e_ _));have kk:∀b o,s.heap.get? b=some o->h'.get? b=some o:=λb o e=>hk b o (λz=>j_ (Sx e) (x_.mp z)) (Sr _ e);refine⟨.int _,H,I.kept (t':=tk) kk,⟨tv,rfl⟩,q _ ⟨?_,λx hx=>?_⟩⟩
 ·rw[hU e2 hi];exact N_ hi
 obtain⟨j,hj,rfl⟩:=NM.mp hx;have:=b2 j (by rw[es];lia);rw[hU e2 hj]at this;exact this
end
end L2
namespace ZG
open PySem
abbrev IsZ(h:SJ)(z TI TO:Sn)(f0:Sl)(f1:Bool):Prop:=h.get? z=some { cls:=.type "zip",dict:=none,data:=.fields #[f0,.bool f1,.bool false,.ref TI,.ref TO],slots:=#[] }
variable {Q:Option Sl->So->Prop}{a:Int}{b1 b2:Bool}{i1 i2 l1 l2 z:Sn}{o:Obj}{t:Tok}{xs ys:Array Sl}
section
variable{prog:SD}{w:SI}{A:SW}{E:Sl->So->Prop}{s:So}
theorem Ha{TI TO:Sn}{f1:Bool}{Q:Bool->So->Prop}(hz:IsZ s.heap z TI TO (.int a t) f1)(ha:s.heap.get? a.toNat=some o)
  (r:∀g,IsZ g z TI TO (.int a t) true->T_ z s.heap g->Q false {s with heap:=g}):Sw (SG prog w) A (S7 (.ref z)) Q E s:=by
 unfold S7;refine Sj (Tf hz rfl (x:=.int a t) rfl ?_);refine Sj (PySem.W.kdx_alive ha ?_);refine S4 (λc=>absurd c (by simp)) (λ_=>?_);refine Sj (Tf hz rfl (x:=.bool f1) rfl ?_);cases f1 with
 |true=>
  refine S4 (λc=>absurd c (by decide)) (λ_=>?_);exact Ss (r _ hz ⟨rfl,λ_ _=>rfl⟩)
 |false=>
  refine S4 (λ_=>?_) (λc=>absurd (by decide) c);refine Sj (T8 hz (by simp) λg z1 s1=>?_);exact Ss (r g z1 s1)
theorem HM{TI TO:Sn}{k:Nat}{x y:Sl}{f1:Bool}{Q:Sl->So->Prop}(D:Off z TI TO i1 i2 l1 l2)
  (hz:IsZ s.heap z TI TO (.int a t) f1) (ha:s.heap.get? a.toNat=some o) (hi:Tt s.heap TI (.ref i1) (.ref i2))
  (d1:Dr b1 s.heap i1 l1 k) (d2:Dr b2 s.heap i2 l2 k) (q1:Sq b1 s.heap l1 xs) (q2:Sq b2 s.heap l2 ys) (hx:xs[k]?=some x) (hy:ys[k]?=some y)
  (r:∀g,IsZ g z TI TO (.int a t) true->Dr b1 g i1 l1 (k+1)->Dr b2 g i2 l2 (k+1)->Tt g s.heap.objs.size x y->g.objs.size=s.heap.objs.size+1->
   (∀c o,c≠z->c≠i1->c≠i2->s.heap.get? c=some o->g.get? c=some o)->Q (.ref s.heap.objs.size) {s with heap:=g}) :
  Sw (SG prog w) A (Uo.«zip.__next__» ⟨[.ref z],[]⟩) (λfin s'=>∃v,fin=.done (.ret v)/\Q v s') E s:=by
 show Sw _ _ (Vm (.ref z) 2 >>= _) _ _ _;refine Sj (Tf hz rfl (x:=.bool false) rfl ?_);show Sw _ _ (Vm (.ref z) 3 >>= _) _ _ _;refine Sj (Tf hz rfl (x:=.ref TI) rfl (Sj (Td hi rfl ?_)));show Sw _ _ (S7 (.ref z) >>= _) _ _ _;refine Sj (Ha hz ha λg1 z1 s1=>?_);refine S4 (λc=>absurd c (by decide)) (λ_=>?_);refine Sj ?_;simp only[Rn,Oy,O_];refine Sj (Sj (SY ?_));show Sw _ _ (S0 (.ref i1) >>= _) _ _ _;refine Sj (pB (d1.ext s1.extBut D.a3) (q1.ext s1.extBut D.c1) hx λg2 w2 s2=>Ss ?_);refine Ss ?_;refine Sj (Sj (SY ?_));show Sw _ _ (S0 (.ref i2) >>= _) _ _ _;refine Sj (pB ((d2.ext s1.extBut D.a4).ext s2.extBut D.b1.symm) ((q2.ext s1.extBut D.e1).ext s2.extBut D.e3) hy λg3 w3 s3=>Ss ?_);refine Ss ?_;refine Ss ?_;refine Sj (Vt ?_ (by show 2<=sizeLine;decide));refine Ss ⟨_,rfl,?_⟩;have sz:g3.objs.size=s.heap.objs.size:=by rw[s3.1,s2.1,s1.1]
 have zz:IsZ g3 z TI TO (.int a t) true:=s3.extBut _ _ D.a4.symm (s2.extBut _ _ D.a3.symm z1);show Q (.ref g3.objs.size) _;rw[sz];refine r _ (Sr _ zz) ((w2.ext s3.extBut D.b1).at λo e=>Sr _ e) (w3.at λo e=>Sr _ e) ?_ ?_ ?_
 ·have e:(g3.push ({ cls:=.type "tuple",data:=.seq #[x,y] }:Obj)).get? g3.objs.size=_:=SF _ rfl;rw[sz]at e;exact e
 ·rw[Tz,sz]
 exact λc o n1 n2 n3 e=>Sr _ (s3.extBut _ _ n3 (s2.extBut _ _ n2 (s1.extBut _ _ n1 e)))
theorem LW{TI TO:Sn}{k:Nat}{f1:Bool}{Q:Fin->So->Prop}(hh:A.handled=none)(D:Off z TI TO i1 i2 l1 l2)
  (hz:IsZ s.heap z TI TO (.int a t) f1) (ha:s.heap.get? a.toNat=some o) (hi:Tt s.heap TI (.ref i1) (.ref i2))
  (d1:Dr b1 s.heap i1 l1 k) (q1:Sq b1 s.heap l1 xs) (hx:xs[k]?=none)
  (r:∀g e,(∀c o,c≠z->c≠i1->s.heap.get? c=some o->g.get? c=some o)->(∃o,g.get? e=some o/\o.cls=.type "StopIteration")->E (.ref e) {s with heap:=g}) :
  Sw (SG prog w) A (Uo.«zip.__next__» ⟨[.ref z],[]⟩) Q E s:=by
 show Sw _ _ (Vm (.ref z) 2 >>= _) _ _ _;refine Sj (Tf hz rfl (x:=.bool false) rfl ?_);show Sw _ _ (Vm (.ref z) 3 >>= _) _ _ _;refine Sj (Tf hz rfl (x:=.ref TI) rfl (Sj (Td hi rfl ?_)));show Sw _ _ (S7 (.ref z) >>= _) _ _ _;refine Sj (Ha hz ha λg1 z1 s1=>?_);refine S4 (λc=>absurd c (by decide)) (λ_=>?_);refine Sj ?_;simp only[Rn,Oy,O_];refine Sj (Sj (SY ?_));show Sw _ _ (S0 (.ref i1) >>= _) _ _ _;refine Sj (zk hh (d1.ext s1.extBut D.a3) (q1.ext s1.extBut D.c1) hx λg2 e s2 he=>?_);exact r g2 e (λc o n1 n2 q=>s2 _ _ n2 (s1.extBut _ _ n1 q)) he
structure ZSt (b1 b2:Bool) (z TI TO i1 i2 l1 l2:Sn) (xs ys:Array Sl) (i:Nat) (h:SJ):Prop where
 st:UG h z TI TO .none\/∃f1 a t o,IsZ h z TI TO (.int a t) f1/\h.get? a.toNat=some o
 pi:Tt h TI (.ref i1) (.ref i2)
 po:∃a b,Tt h TO a b
 d1:Dr b1 h i1 l1 i
 d2:Dr b2 h i2 l2 i
 q1:Sq b1 h l1 xs
 q2:Sq b2 h l2 ys
theorem Fx{TI TO:Sn}{i:Nat}{x y:Sl}(D:Off z TI TO i1 i2 l1 l2)(S:ZSt b1 b2 z TI TO i1 i2 l1 l2 xs ys i s.heap)(hx:xs[i]?=some x)(hy:ys[i]?=some y)
  (r:∀g,ZSt b1 b2 z TI TO i1 i2 l1 l2 xs ys (i+1) g->Tt g s.heap.objs.size x y->g.objs.size=s.heap.objs.size+1->(∀c o,c≠z->c≠TO->c≠i1->c≠i2->s.heap.get? c=some o->g.get? c=some o)->Q (some (.ref s.heap.objs.size)) {s with heap:=g}) :
  Sw (SG prog w) A (Ua (.ref z)) Q E s:=by
 obtain⟨a0,b0,ho⟩:=S.po;rcases S.st with hz|⟨f1,a,t,o,hz,ha⟩
 ·refine pK D hz S.pi ho S.d1 S.d2 S.q1 S.q2 hx hy λg p1 p2 p3 p4 p5 p6 p7=>r g ⟨.inr ⟨false,(s.heap.objs.size:Int),0,_,p1,by rw[Pb];exact p5⟩,p7 _ _ D.a1 D.a5 D.a6 D.a7 S.pi,⟨_,_,p2⟩,p3,p4,S.q1.at λo e=>p7 _ o D.c1 D.c2 D.c3 D.c4 e,S.q2.at λo e=>p7 _ o D.e1 D.e2 D.e3 D.e4 e⟩ p5 p6 p7
 have hT:s.TypeIs (.ref z) "zip":=⟨_,hz,rfl⟩;unfold Ua;refine Sj (UA (Tu (name:=Ue "__next__") hT T1 (Tp T1 hT Ve ?_ (U6 _))));refine HM D hz ha S.pi S.d1 S.d2 S.q1 S.q2 hx hy λg p1 p3 p4 p5 p6 p7=>Ss (r g ⟨.inr ⟨true,a,t,?_⟩,p7 _ _ D.a1 D.a6 D.a7 S.pi,⟨_,_,p7 _ _ D.a2 D.a8 D.a9 ho⟩,p3,p4,S.q1.at λo e=>p7 _ o D.c1 D.c3 D.c4 e,S.q2.at λo e=>p7 _ o D.e1 D.e3 D.e4 e⟩ p5 p6 λc o n1 _ n3 n4 e=>p7 c o n1 n3 n4 e);by_cases e1:a.toNat=z
 ·exact⟨_,p1,by rw[e1];exact p1⟩
 by_cases e2:a.toNat=i1
 ·obtain⟨u,hu,_⟩:=p3.some;exact⟨u,p1,by rw[e2];exact hu⟩
 by_cases e3:a.toNat=i2
 ·obtain⟨u,hu,_⟩:=p4.some;exact⟨u,p1,by rw[e3];exact hu⟩
 exact⟨o,p1,p7 _ _ e1 e2 e3 ha⟩
theorem Iq{TI TO:Sn}{i:Nat}(hh:A.handled=none)(D:Off z TI TO i1 i2 l1 l2)(S:ZSt b1 b2 z TI TO i1 i2 l1 l2 xs ys i s.heap)(hx:xs[i]?=none)
  (r:∀g,(∀c o,c≠z->c≠TO->c≠i1->c≠i2->s.heap.get? c=some o->g.get? c=some o)->Q none {s with heap:=g}):Sw (SG prog w) A (Ua (.ref z)) Q E s:=by
 obtain⟨a0,b0,ho⟩:=S.po;rcases S.st with hz|⟨f1,a,t,o,hz,ha⟩
 ·exact qW hh D hz S.pi ho S.d1 S.d2 S.q1 S.q2 (.inl hx) r
 have hT:s.TypeIs (.ref z) "zip":=⟨_,hz,rfl⟩;unfold Ua;refine Sj (UA (Tu (name:=Ue "__next__") hT T1 (Tp T1 hT Ve (LW hh D hz ha S.pi S.d1 S.q1 hx λg e k he=>?_) (U6 _))));obtain⟨o,he,hc⟩:=he;exact Sj (UI (T:="StopIteration") (b:=true) ⟨o,he,hc⟩ XI (Ss (r _ λc o n1 _ n3 _ e=>k c o n1 n3 e)))
theorem ZSt.keep {b1 b2:Bool}{z TI TO i1 i2 l1 l2 S:Sn}{xs ys:Array Sl}{i:Nat}{h h':SJ}(Z:ZSt b1 b2 z TI TO i1 i2 l1 l2 xs ys i h)(k:∀b o,b≠S->h.get? b=some o->h'.get? b=some o)(e:∃o,h'.get? S=some o)
  (n:z≠S/\TI≠S/\TO≠S/\i1≠S/\i2≠S/\l1≠S/\l2≠S):ZSt b1 b2 z TI TO i1 i2 l1 l2 xs ys i h':=by
 obtain⟨n1,n2,n3,n4,n5,n6,n7⟩:=n;obtain⟨a0,b0,ho⟩:=Z.po;refine⟨?_,k _ _ n2 Z.pi,⟨_,_,k _ _ n3 ho⟩,Z.d1.at λo q=>k _ o n4 q,Z.d2.at λo q=>k _ o n5 q,Z.q1.at λo q=>k _ o n6 q,Z.q2.at λo q=>k _ o n7 q⟩;rcases Z.st with hz|⟨f1,a,t,o,hz,ha⟩
 ·exact .inl (k _ _ n1 hz)
 by_cases e1:a.toNat=S
 ·obtain⟨u,hu⟩:=e;exact .inr ⟨f1,a,t,u,k _ _ n1 hz,by rw[e1];exact hu⟩
 exact .inr ⟨f1,a,t,o,k _ _ n1 hz,k _ _ e1 ha⟩
theorem Fn{TI TO S n0:Sn}{n:Nat}{R:Xi->So->Prop}(hh:A.in1.handled=none)(D:Off z TI TO i1 i2 l1 l2)(n7:z≠S/\TI≠S/\TO≠S/\i1≠S/\i2≠S/\l1≠S/\l2≠S)
  (off:∀j,n0+j≠S/\n0+j≠z/\n0+j≠TO/\n0+j≠i1/\n0+j≠i2) (ex:xs.size=n) (ey:ys.size=n) (hn:n<=sizeLine) (res:Sl) :
  ∀(k i:Nat) (s:So) (acc:Array Sl) (c:Nat),n-i=k->i<=n->ZSt b1 b2 z TI TO i1 i2 l1 l2 xs ys i s.heap->s.heap.get? S=some { cls:=.type "list",dict:=none,data:=.seq acc c,slots:=#[] }->
   s.heap.objs.size=n0+i->acc=((OR n0 i).map SV).toArray->(∀j x y,j<i->xs[j]?=some x->ys[j]?=some y->Tt s.heap (n0+j) x y)->
   (∀h' c',(∀b o,b≠S->b≠z->b≠TO->b≠i1->b≠i2->s.heap.get? b=some o->h'.get? b=some o)->h'.get? S=some { cls:=.type "list",dict:=none,data:=.seq ((OR n0 n).map SV).toArray c',slots:=#[] }->
    (∀j x y,j<n->xs[j]?=some x->ys[j]?=some y->Tt h' (n0+j) x y)->R (.ok (.ret res)) {s with heap:=h'})->
   Um (SG prog w) A (.builtin "list.extend.loop" ⟨[.ref S,.ref z,res],[]⟩) R s:=by
 intro k;induction k with
 |zero=>
  intro i s acc c hk hi st hS hs ea hp r;have:i=n:=by omega
  subst this;refine T' WI ?_;rw[TH Ux _];show Sw _ A.in1 (Ua (.ref z) >>= _) _ _ s;refine Sj (Iq hh D st (by rw[QS];omega) λg kp=>?_);refine Ss (r g c (λb o m1 m2 m3 m4 m5 e=>kp b o m2 m3 m4 m5 e) (by rw[<-ea];exact kp _ _ n7.1.symm n7.2.2.1.symm n7.2.2.2.1.symm n7.2.2.2.2.1.symm hS) λj x y hj hx hy=>?_);obtain⟨o0,o1,o2,o3,o4⟩:=off j;exact kp _ _ o1 o2 o3 o4 (hp j x y hj hx hy)
 |succ k ih=>
  intro i s acc c hk hi st hS hs ea hp r;have kw:i<n:=by omega
  refine T' WI ?_;rw[TH Ux _];show Sw _ A.in1 (Ua (.ref z) >>= _) _ _ s;obtain⟨x,hx⟩:∃x,xs[i]?=some x:=⟨_,y_ (by omega)⟩;obtain⟨y,hy⟩:∃y,ys[i]?=some y:=⟨_,y_ (by omega)⟩;refine Sj (Fx D st hx hy λg am pr sz kp=>?_);rw[hs]at pr sz ⊢;have hS':=kp _ _ n7.1.symm n7.2.2.1.symm n7.2.2.2.1.symm n7.2.2.2.2.1.symm hS;show Sw _ A.in1 (Vh S (·.push (.ref (n0+i))) >>= _) _ _ _;have hacc:acc.size=i:=by rw[ea];simp
  refine Sj ?_;have up:∀b o,b≠S->g.get? b=some o->(g.update S (SN (·.push (.ref (n0+i))))).get? b=some o:=λb o hb e=>by rw[Tw _ _ _ _ hb];exact e
  have hS2:(g.update S (SN (·.push (.ref (n0+i))))).get? S=some _:=Tg _ hS' rfl;refine TC hS' rfl (Ss ⟨TV Ux _,ih (i+1) _ (acc.push (.ref (n0+i))) _ (by omega) kw (am.keep up ⟨_,hS2⟩ n7) hS2 ?_ ?_ ?_ ?_⟩) (by rw[hacc];omega) (by show(acc.push _).size<=sizeLine+1;rw[Array.size_push,hacc];omega)
  ·show(g.update S _).objs.size=_;rw[Ut,sz,OQ]
  ·rw[ea,List.range'_1_concat,m_,List.push_toArray];rfl
  ·intro j x' y' hj hx' hy';refine up _ _ (off j).1 ?_;rcases O1.mp hj with hj|rfl
   ·obtain⟨o0,o1,o2,o3,o4⟩:=off j;exact kp _ _ o1 o2 o3 o4 (hp j x' y' hj hx' hy')
   rw[hx]at hx';rw[hy]at hy';cases hx';cases hy';exact pr
  intro h' c' k1 k2 k3;exact r h' c' (λb o m1 m2 m3 m4 m5 e=>k1 b o m1 m2 m3 m4 m5 (up b o m1 (kp b o m2 m3 m4 m5 e))) k2 k3
theorem yF:Ww (.type "zip") "__len__"=pure none:=by rw[Xq,Wo];kernel_rfl
theorem wC:Ww (.type "zip") "__length_hint__"=pure none:=by rw[Xq,Wo];kernel_rfl
theorem Ct{Q:Bool->So->Prop}(ty:s.TypeIs (.ref z) "zip")(q:Q true s):Sw (SG prog w) A (Ug (SV z)) Q E s:=by unfold Ug;refine Sj (UE ty (r:=none) yF ?_);refine S4 (λc=>absurd c (by decide)) (λ_=>?_);refine S4 (λc=>absurd c (by decide)) (λ_=>?_);refine Sj (UE ty (r:=none) wC ?_);exact Ss q
theorem tB{TI TO:Sn}{n:Nat}{Q:Sl->So->Prop}(hh:A.handled=none)(D:Off z TI TO i1 i2 l1 l2)(S:ZSt b1 b2 z TI TO i1 i2 l1 l2 xs ys 0 s.heap)(ex:xs.size=n)(ey:ys.size=n)(hn:n<=sizeLine)
  (q:∀(h':SJ) (c':Nat),(∀b o,b≠z->b≠TO->b≠i1->b≠i2->s.heap.get? b=some o->h'.get? b=some o)->
   h'.get? s.heap.objs.size=some { cls:=.type "list",data:=.seq ((OR (s.heap.objs.size+1) n).map SV).toArray c'}->(∀j x y,j<n->xs[j]?=some x->ys[j]?=some y->Tt h' (s.heap.objs.size+1+j) x y)->Q (.ref s.heap.objs.size) {s with heap:=h'}) :
  Sw (SG prog w) A (call (.type "list") [.ref z]) Q E s:=by
 have lz:z<s.heap.objs.size/\TI<s.heap.objs.size/\TO<s.heap.objs.size/\i1<s.heap.objs.size/\i2<s.heap.objs.size/\l1<s.heap.objs.size/\l2<s.heap.objs.size:=by
  obtain⟨a0,b0,ho⟩:=S.po;refine⟨?_,Sx S.pi,Sx ho,?_,?_,?_,?_⟩
  ·rcases S.st with hz|⟨f1,a,t,o,hz,ha⟩
   ·exact Sx hz
   exact Sx hz
  ·obtain⟨u,hu,_⟩:=S.d1.some;exact Sx hu
  ·obtain⟨u,hu,_⟩:=S.d2.some;exact Sx hu
  ·have:=S.q1;cases b1 with
   |true=>obtain⟨o,e,_⟩:=(show s.heap.IsTuple l1 xs from this);exact Sx e
   |false=>obtain⟨o,e,_⟩:=(show s.heap.IsList l1 xs from this);exact Sx e
  have:=S.q2;cases b2 with
  |true=>obtain⟨o,e,_⟩:=(show s.heap.IsTuple l2 ys from this);exact Sx e
  |false=>obtain⟨o,e,_⟩:=(show s.heap.IsList l2 ys from this);exact Sx e
 obtain⟨z1,z2,z3,z4,z5,z6,z7⟩:=lz;refine XM X3 (W5 _) W6 (X4 _ (Q₁:=λv s1=>v=.ref s.heap.objs.size/\s1={s with heap:=s.heap.push { cls:=.type "list",data:=.seq #[] } }) ⟨rfl,rfl⟩) ?_;rintro _ _ ⟨rfl,rfl⟩;have hS:(s.heap.push ({ cls:=.type "list",data:=.seq #[] }:Obj)).get? s.heap.objs.size=some { cls:=.type "list",data:=.seq #[] }:=SF _ rfl;refine⟨⟨_,hS,rfl⟩,WU _ _,?_⟩;unfold Uo.«list.__init__»;refine Sj (Sj (Td hS rfl (Ss ?_)));refine Sj (TC hS rfl ?_ (by simp) (by simp));refine Sj (TJ ?_);have hS2:((s.heap.push ({ cls:=.type "list",data:=.seq #[] }:Obj)).update s.heap.objs.size (SN λ_=>#[])).get? s.heap.objs.size=some (SN (λ_=>#[]) { cls:=.type "list",data:=.seq #[] }):=by exact Tg _ hS rfl
 have kp:∀b o,b≠s.heap.objs.size->s.heap.get? b=some o->((s.heap.push ({ cls:=.type "list",data:=.seq #[] }:Obj)).update s.heap.objs.size (SN λ_=>#[])).get? b=some o:=λb o hb e=>by rw[Tw _ _ _ _ hb];exact Sr _ e
 have esz:((s.heap.push ({ cls:=.type "list",data:=.seq #[] }:Obj)).update s.heap.objs.size (SN λ_=>#[])).objs.size=s.heap.objs.size+1:=by rw[Ut,Tz]
 generalize (s.heap.push ({ cls:=.type "list",data:=.seq #[] }:Obj)).update s.heap.objs.size (SN λ_=>#[])=h2' at *;have n7:z≠s.heap.objs.size/\TI≠s.heap.objs.size/\TO≠s.heap.objs.size/\i1≠s.heap.objs.size/\i2≠s.heap.objs.size/\l1≠s.heap.objs.size/\l2≠s.heap.objs.size:=⟨j_ z1,j_ z2,j_ z3,j_ z4,j_ z5,j_ z6,j_ z7⟩;have S2:=S.keep kp ⟨_,hS2⟩ n7;have ty:Shared.TypeIs {s with heap:=h2'} (.ref z) "zip":=by
  rcases S2.st with hz|⟨f1,a,t,o,hz,ha⟩
  ·exact⟨_,hz,rfl⟩
  exact⟨_,hz,rfl⟩
 show Sw (SG prog w) A.in1.in1 (Uh (.ref s.heap.objs.size) (.ref z) .none) _ _ {s with heap:=h2'};unfold Uh;refine Sj (WR (T:="zip") ty ?_);refine S4 (λc=>absurd c ?_) (λ_=>?_)
 ·have e:Us (.ref s.heap.objs.size) (.ref z)=false:=by unfold Us;exact beq_eq_false_iff_ne.mpr (λh=>n7.1 h.symm)
  rw[e]
  decide
 have itz:∀{Q:Sl->So->Prop}{E:Sl->So->Prop}{A:SW},Q (.ref z) {s with heap:=h2'}->Sw (SG prog w) A (Wk (.ref z)) Q E {s with heap:=h2'}:=λh=>by refine wpAny_pyIter_slot ty Xr (Tp Xr ty F.entry_zip_iter ?_ (F.args_zip_iter_1 _));show Sw _ _ (ret (.ref z)) _ _ _;exact Ss ⟨_,rfl,"zip",_,ty,T1.lookup,h⟩
 refine Sj (itz ?_);refine Sj (SY (Ct ty ?_));refine S4 (λ_=>?_) (λc=>absurd rfl c);refine Sj (UD ?_);refine Sj ?_;show Sw _ _ (Vh s.heap.objs.size (·.push .none) >>= λ_=>Vh s.heap.objs.size (·.pop)) _ _ _;have hT1:=Tg (SN (·.push Tq)) hS2 rfl;have hT2:=Tg (SN (·.pop)) hT1 rfl;have oth:∀b o,b≠s.heap.objs.size->h2'.get? b=some o->((h2'.update s.heap.objs.size (SN (·.push Tq))).update s.heap.objs.size (SN (·.pop))).get? b=some o:=
  λb o hb e=>(SU _ _ (TR hb)).trans ((SU _ _ (TR hb)).trans e)
 refine Sj (TC hS2 rfl ?_);refine TC hT1 rfl ?_;have S3:=S2.keep oth ⟨_,hT2⟩ n7;have esz3:((h2'.update s.heap.objs.size (SN (·.push Tq))).update s.heap.objs.size (SN (·.pop))).objs.size=s.heap.objs.size+1:=by rw[Ut,Ut,esz]
 generalize (h2'.update s.heap.objs.size (SN (·.push Tq))).update s.heap.objs.size (SN (·.pop))=h3 at *;refine Ss ⟨TV Ux _,?_⟩;refine Fn (A:=A.in1) (n0:=s.heap.objs.size+1) hh D n7 (λj=>?_) ex ey hn .none n 0 {s with heap:=h3} #[] _ rfl (MU _) S3 hT2 esz3 rfl (λj x y hj=>absurd hj (RH _)) λh' c' k1 k2 k3=>⟨rfl,?_⟩
 ·have ge:∀x:Nat,x<=s.heap.objs.size->s.heap.objs.size+1+j≠x:=λx h=>by omega
  exact⟨ge _ (e_ _),ge _ (K' z1),ge _ (K' z3),ge _ (K' z4),ge _ (K' z5)⟩
 exact q h' c' (λb o m2 m3 m4 m5 e=>k1 b o (j_ (Sx e)) m2 m3 m4 m5 (oth b o (j_ (Sx e)) (kp b o (j_ (Sx e)) e))) k2 k3
end
end ZG
namespace L2
open PySem PySem.Spec PyProof.Rows
variable {H:Hp}
theorem Un.more {fs ex:List Sn}{H':Hp}{h h':SJ}(k:∀b u,h.get? b=some u->h'.get? b=some u)(e:d4 H H')(low:∀b,b<h.objs.size->H' b=H b):Un fs ex H H' h h' where
 keep:=λb u q _ _ _=>k b u q
 slot:=λb u q _ _ _=>⟨u.slots,k b u q⟩
 free:=λb u q n _=>by rw[low b (Sx q)];exact n
 there:=λb u q _=>⟨u,k b u q⟩
 tups:=λb xs q=>e _ _ q
 frzs:=λb u xs q=>e _ _ q
 tbls:=λb ps q=>⟨#[],by rw[e _ _ q];simp⟩
theorem HOk.more {P:SD}{w:SI}{H':Hp}{h h':SJ}(x:HOk P w H h)(k:∀b u,h.get? b=some u->h'.get? b=some u)(e:d4 H H')(new:∀b o,H b=none->H' b=some o->f7 P w H' h' b o):HOk P w H' h':=λb o q=>by
 cases hb:H b with
 |none=>exact new b o hb q
 |some u=>
  rw[e _ _ hb]at q;cases q;exact(x b o hb).mO (λc v _ q=>k c v q) (λc q=>e _ _ q) λc xs q=>e _ _ q
noncomputable def lzH(H:Hp)(S n0:Sn)(xs ys:List V):Hp:=λb=>if b=S then some (.lst ((OR n0 xs.length).map V.ref))else
 if n0<=b then(match xs[b-n0]?,ys[b-n0]? with
  |some x,some y=>some (.tup [x,y])
  | _,_=>H b)else H b
section
variable{X:Cx}
theorem tN:∀(ns:List Nat),Vals (ns.map V.ref) (ns.map SV)
 | []=>.nil
 | _::r=>.cons rfl (tN r)
theorem t6{ac:List (Sn×Obj)}{σ:St}{s:So}{b1 b2:Bool}{l1 l2:Sn}{xs ys:List V}{Q:VK}(I:Inv X ac σ H s)(hc:X.calm=true)(q1:SqG b1 X.K H l1 xs)(q2:SqG b2 X.K H l2 ys)(el:xs.length=ys.length)
  (q:∀(S n0:Sn) (H':Hp),H S=none->(∀j,n0+j≠S)->d4 H H'->H' S=some (.lst ((OR n0 xs.length).map V.ref))->(∀j x y,xs[j]?=some x->ys[j]?=some y->H' (n0+j)=some (.tup [x,y]))->Q (.ref S) H') :
  Sw (SG X.prog X.w) X.A (call (.type "zip") [.ref l1,.ref l2]) (λv s1=>Sw (SG X.prog X.w) X.A (call (.type "list") [v]) (EP X ac σ Q) X.xe s1) X.xe s:=by
 obtain⟨ap,rv,p1,z1⟩:=I.sq q1;obtain⟨jts,sv,p2,z2⟩:=I.sq q2;have lv:=rv.length;have lw:=sv.length;refine ZG.wM p1 p2 λg gz gi go g1 g2 gs gk=>?_;have lt1:l1<s.heap.objs.size:=by
  cases b1 with
  |true=>obtain⟨o,e,_⟩:=(show s.heap.IsTuple l1 _ from p1);exact Sx e
  |false=>obtain⟨o,e,_⟩:=(show s.heap.IsList l1 _ from p1);exact Sx e
 have lt2:l2<s.heap.objs.size:=by
  cases b2 with
  |true=>obtain⟨o,e,_⟩:=(show s.heap.IsTuple l2 _ from p2);exact Sx e
  |false=>obtain⟨o,e,_⟩:=(show s.heap.IsList l2 _ from p2);exact Sx e
 refine ZG.tB (s:={s with heap:=g}) (n:=xs.length) (I.ok.hd hc) (z:=s.heap.objs.size+4) (TI:=s.heap.objs.size+2) (TO:=s.heap.objs.size+3) (i1:=s.heap.objs.size) (i2:=s.heap.objs.size+1) (l1:=l1) (l2:=l2) ?_ ⟨.inl gz,gi,⟨_,_,go⟩,g1,g2,p1.at λo e=>gk _ o e,p2.at λo e=>gk _ o e⟩ (by simpa using lv.symm) (by rw[el];simpa using lw.symm) z1 λh' c' k1 k2 k3=>?_
 ·constructor <;>(show(_:Nat)≠_) <;>(have a1:@Wb Nat instLTNat l1 s.heap.objs.size:=lt1;have a2:@Wb Nat instLTNat l2 s.heap.objs.size:=lt2;omega)
 rw[show(g.objs.size:Nat)=s.heap.objs.size+5 from gs]at k2 k3 ⊢;have kp:∀b u,s.heap.get? b=some u->h'.get? b=some u:=λb u e=>by have hb:@Wb Nat instLTNat b s.heap.objs.size:=Sx e;refine k1 b u ?_ ?_ ?_ ?_ (gk b u e) <;>(show(_:Nat)≠_) <;> omega
 have hi:∀b:Nat,s.heap.objs.size<=b->H b=none:=λb hb=>I.hok.fresh hb;have hS:lzH H (s.heap.objs.size+5) (s.heap.objs.size+5+1) xs ys (s.heap.objs.size+5)=some (.lst ((OR (s.heap.objs.size+5+1) xs.length).map V.ref)):=by unfold lzH;rw[if_pos rfl]
 have hT:∀j x y,xs[j]?=some x->ys[j]?=some y->lzH H (s.heap.objs.size+5) (s.heap.objs.size+5+1) xs ys (s.heap.objs.size+5+1+j)=some (.tup [x,y]):=λj x y hx hy=>by unfold lzH;rw[if_neg (by show ¬(_:Nat)=_;omega),if_pos (OL _ _),N7,hx,hy]
 have low:∀b:Nat,b<s.heap.objs.size->lzH H (s.heap.objs.size+5) (s.heap.objs.size+5+1) xs ys b=H b:=λb hb=>by unfold lzH;rw[if_neg (by show ¬(_:Nat)=_;omega),if_neg (by show ¬(_:Nat)<=_;omega)]
 have sm:d4 H (lzH H (s.heap.objs.size+5) (s.heap.objs.size+5+1) xs ys):=λb o e=>by rw[low b (by have:=I.hok.lt e;exact this)];exact e
 refine⟨.ref (s.heap.objs.size+5),_,I.un (t':=s.toks) (h':=h') (Un.more kp sm low) (HOk.more I.hok kp sm λb o hn e=>?_),rfl,q _ _ _ (hi _ (OL _ _)) (λj=>by show ¬(_:Nat)=_;omega) sm hS hT⟩;have new:=e;unfold lzH at e;by_cases h1:b=s.heap.objs.size+5
 ·rw[if_pos h1]at e;cases e;subst h1;exact⟨by rw[a_,Ro];exact z1,_,c',tN _,k2⟩
 rw[if_neg h1]at e;by_cases h2:s.heap.objs.size+5+1<=b
 ·rw[if_pos h2]at e;obtain⟨j,rfl⟩:∃j,b=s.heap.objs.size+5+1+j:=⟨b-(s.heap.objs.size+5+1),(Ow h2).symm⟩;rw[N7]at e;cases hx:xs[j]? with
  |none=>rw[hx]at e;rw[show H _=none from hn]at e;cases e
  |some x=>
   cases hy:ys[j]? with
   |none=>rw[hx,hy]at e;rw[show H _=none from hn]at e;cases e
   |some y=>
    rw[hx,hy]at e;cases e;have hj:j<xs.length:=(gV.mp hx).1;obtain⟨u,hu,ru⟩:=Vals.get rv hx;obtain⟨v,hv,rw2⟩:=Vals.get sv hy;have pr:=k3 j u v hj (by simpa using hu) (by simpa using hv);exact⟨by show 2<=sizeLine;decide,[u,v],.cons ru (.cons rw2 .nil),⟨_,pr,rfl,0,rfl⟩⟩
 rw[if_neg h2]at e;rw[hn]at e;cases e
end
end L2
namespace ZM
open PySem
noncomputable def Kt(h0 h:SJ):Prop:=∀b o,h0.get? b=some o->o.cls=.type "tuple"->h.get? b=some o
section
variable{prog:SD}{w:SI}{A:SW}{E:Sl->So->Prop}{s:So}
theorem zb{Q:Bool->So->Prop}{n m:Int}{t u:Tok}(q:Q (decide (n=m)) s):Sw (SG prog w) A (eqBool (.int n t) (.int m u)) Q E s:=VU (by
 have:(n == m)=decide (n=m):=by by_cases z:n=m <;> simp[z]
 rw[this];exact q)
noncomputable def lx:List Int->List Int->Bool
 | [],[]=>false
 | [],_::_=>true
 | _::_,[]=>false
 |a::x,b::y=>if a=b then lx x y else decide (a<b)
def rO(ks:List (List Int))(i j:Nat):Bool:=lx (ks.getD i []) (ks.getD j [])
end
section
variable{prog:SD}{w:SI}{A:SW}{R:Xi->So->Prop}{I:Sn}{fp wr:List Sn}{n:Nat}{vs:Array Sl}{St:Nat->SJ->Prop}{h0:SJ}{bt:Nat->Nat->Bool}
def Dz(prog:SD)(w:SI)(A:SW)(h0:SJ)(vs:Array Sl)(bt:Nat->Nat->Bool):Prop:=∀(i j:Nat) (x y:Sl) (z:So) (Q:Sl->So->Prop) (E:Sl->So->Prop),vs[i]?=some x->vs[j]?=some y->Kt h0 z.heap->Q (.bool (bt i j)) z->Sw (SG prog w) A (U_ .Lt x y) Q E z
theorem LZ(W:Yv prog w A.in1 I fp wr n (λi v=>vs[i]?=some v) St)(cm:Dz prog w A.in1 h0 vs bt)(S:Sn)(off:S ∉ fp)(tk:∀b o,h0.get? b=some o->o.cls=.type "tuple"->b ∉ wr/\b≠S) :
  ∀(k j:Nat) (z:So) (x:Sl) (c:Nat),n-(j+1)=k->j+1<=n->St (j+1) z.heap->vs[S_ bt j]?=some x->Kt h0 z.heap->z.heap.get? S=some { cls:=.type "list",dict:=none,data:=.seq #[x,x] c,slots:=#[] }->
  (∀y h' t,vs[S_ bt (n-1)]?=some y->(∀b o,b ∉ wr->b≠S->z.heap.get? b=some o->h'.get? b=some o)->R (.ok (.ret y)) {z with heap:=h',toks:=t})->
  Um (SG prog w) A (.builtin "min.loop" ⟨[.ref I,.none,.ref S],[]⟩) R z:=by
 have so:S ∉ wr:=λh=>off (W.sub _ h);have nm:(toString "min"++toString ".loop":String)="min.loop":=by decide
 intro k;induction k with
 |zero=>
  intro j z x c hk hj st hx kt hS r;have e:j+1=n:=by omega
  refine T' U' ?_;rw[TH TL _];show Sw _ A.in1 (UZ (.ref S) >>= _) _ _ z;refine Sj (Td hS rfl ?_);show Sw _ A.in1 (tryCatch (Ua (.ref I)) _ >>= _) _ _ z;refine Sj (Ub (W.done z _ _ (e▸st) λh' t kp=>?_));have hS':=kp S _ so hS;show Sw _ A.in1 (Vh S (λ_=>#[]) >>= _) _ _ _;refine Sj (TC hS' rfl (Sj (TJ (Ss ?_))));exact r x _ t (by rw[<-e];exact hx) λb o h1 h2 q=>(SU _ _ (TR h2)).trans (kp b o h1 q)
 |succ k ih=>
  intro j z x c hk hj st hx kt hS r;have lt:j+1<n:=by omega
  refine T' U' ?_;rw[TH TL _];show Sw _ A.in1 (UZ (.ref S) >>= _) _ _ z;refine Sj (Td hS rfl ?_);show Sw _ A.in1 (tryCatch (Ua (.ref I)) _ >>= _) _ _ z;refine Sj (Ub (W.item (j+1) z _ _ lt st λy h' t hy am kp=>?_));have hS':=kp S _ so hS;have kt':Kt h0 h':=λb o q d=>kp b o (tk b o q d).1 (kt b o q d);show Sw _ A.in1 (tryCatch (U2 [y,y] (U_ .Lt y x >>= _)) _ >>= _) _ _ _;refine Sj (Ub (SY (Sj (cm (j+1) (S_ bt j) y x _ _ _ hy hx kt' ?_))));refine Sj (SY (Ts ?_));refine Sj (TJ (Ss ?_));cases hb:bt (j+1) (S_ bt j)with
  |true=>
   have ea:S_ bt (j+1)=j+1:=by rw[S_,hb];rfl
   simp only[if_true];refine Sj (TC hS' rfl (Sj (TJ ?_)));rw[nm];refine Ss ⟨TV TL _,ih (j+1) _ y _ (by omega) lt (W.frame _ _ _ am λb bf o q=>?_) (by rw[ea];exact hy) (λb o q d=>?_) (Tg _ hS' rfl) λy2 h2 t2 g1 g2=>?_⟩
   ·exact(SU _ _ (λe:S=b=>off (by rw[e];exact bf))).trans q
   ·exact(SU _ _ (TR (tk b o q d).2)).trans (kt' b o q d)
   ·exact r y2 h2 t2 g1 λb o m1 m2 q=>g2 b o m1 m2 ((SU _ _ (TR m2)).trans (kp b o m1 q))
  |false=>
   have ea:S_ bt (j+1)=S_ bt j:=by rw[S_,hb];rfl
   simp only[MZ,if_false];refine Sj (TJ ?_);rw[nm];refine Ss ⟨TV TL _,ih (j+1) _ x c (by omega) lt am (by rw[ea];exact hx) kt' hS' λy2 h2 t2 g1 g2=>?_⟩;exact r y2 h2 t2 g1 λb o m1 m2 q=>g2 b o m1 m2 (kp b o m1 q)
theorem E2(W:Yv prog w A.in1 I fp wr n (λi v=>vs[i]?=some v) St)(cm:Dz prog w A.in1 h0 vs bt)(S:Sn)(off:S ∉ fp)(tk:∀b o,h0.get? b=some o->o.cls=.type "tuple"->b ∉ wr/\b≠S)(hn:0<n){z:So}{c:Nat}(st:St 0 z.heap)(kt:Kt h0 z.heap)
  (hS:z.heap.get? S=some { cls:=.type "list",dict:=none,data:=.seq #[] c,slots:=#[] })
  (r:∀y h' t,vs[S_ bt (n-1)]?=some y->(∀b o,b ∉ wr->b≠S->z.heap.get? b=some o->h'.get? b=some o)->R (.ok (.ret y)) {z with heap:=h',toks:=t}) :
  Um (SG prog w) A (.builtin "min.loop" ⟨[.ref I,.none,.ref S],[]⟩) R z:=by
 have so:S ∉ wr:=λh=>off (W.sub _ h);have nm:(toString "min"++toString ".loop":String)="min.loop":=by decide
 refine T' U' ?_;rw[TH TL _];show Sw _ A.in1 (UZ (.ref S) >>= _) _ _ z;refine Sj (Td hS rfl ?_);show Sw _ A.in1 (tryCatch (Ua (.ref I)) _ >>= _) _ _ z;refine Sj (Ub (W.item 0 z _ _ hn st λy h' t hy am kp=>?_));have hS':=kp S _ so hS;have kt':Kt h0 h':=λb o q d=>kp b o (tk b o q d).1 (kt b o q d);show Sw _ A.in1 (Vh S (λ_=>#[y,y]) >>= _) _ _ _;refine Sj (TC hS' rfl ?_);rw[nm];refine Ss ⟨TV TL _,LZ W cm S off tk _ 0 _ y _ rfl hn (W.frame _ _ _ am λb bf o q=>?_) hy (λb o q d=>?_) (Tg _ hS' rfl) λy2 h2 t2 g1 g2=>?_⟩
 ·exact(SU _ _ (λe:S=b=>off (by rw[e];exact bf))).trans q
 ·exact(SU _ _ (TR (tk b o q d).2)).trans (kt' b o q d)
 exact r y2 h2 t2 g1 λb o m1 m2 q=>g2 b o m1 m2 ((SU _ _ (TR m2)).trans (kp b o m1 q))
end
section
variable{prog:SD}{w:SI}{A:SW}{E:Sl->So->Prop}{s:So}
def rP(ks:List (List Int))(i j:Nat):Bool:=lx (ks.getD j []) (ks.getD i [])
end
section
variable{prog:SD}{w:SI}{A:SW}{R:Xi->So->Prop}{I:Sn}{fp wr:List Sn}{n:Nat}{vs:Array Sl}{St:Nat->SJ->Prop}{h0:SJ}{bt:Nat->Nat->Bool}
def Bx(prog:SD)(w:SI)(A:SW)(h0:SJ)(vs:Array Sl)(bt:Nat->Nat->Bool):Prop:=∀(i j:Nat) (x y:Sl) (z:So) (Q:Sl->So->Prop) (E:Sl->So->Prop),vs[i]?=some x->vs[j]?=some y->Kt h0 z.heap->Q (.bool (bt i j)) z->Sw (SG prog w) A (U_ .Gt x y) Q E z
theorem Lw(W:Yv prog w A.in1 I fp wr n (λi v=>vs[i]?=some v) St)(cm:Bx prog w A.in1 h0 vs bt)(S:Sn)(off:S ∉ fp)(tk:∀b o,h0.get? b=some o->o.cls=.type "tuple"->b ∉ wr/\b≠S) :
  ∀(k j:Nat) (z:So) (x:Sl) (c:Nat),n-(j+1)=k->j+1<=n->St (j+1) z.heap->vs[S_ bt j]?=some x->Kt h0 z.heap->z.heap.get? S=some { cls:=.type "list",dict:=none,data:=.seq #[x,x] c,slots:=#[] }->
  (∀y h' t,vs[S_ bt (n-1)]?=some y->(∀b o,b ∉ wr->b≠S->z.heap.get? b=some o->h'.get? b=some o)->R (.ok (.ret y)) {z with heap:=h',toks:=t})->
  Um (SG prog w) A (.builtin "max.loop" ⟨[.ref I,.none,.ref S],[]⟩) R z:=by
 have so:S ∉ wr:=λh=>off (W.sub _ h);have nm:(toString "max"++toString ".loop":String)="max.loop":=by decide
 intro k;induction k with
 |zero=>
  intro j z x c hk hj st hx kt hS r;have e:j+1=n:=by omega
  refine T' Va ?_;rw[TH TM _];show Sw _ A.in1 (UZ (.ref S) >>= _) _ _ z;refine Sj (Td hS rfl ?_);show Sw _ A.in1 (tryCatch (Ua (.ref I)) _ >>= _) _ _ z;refine Sj (Ub (W.done z _ _ (e▸st) λh' t kp=>?_));have hS':=kp S _ so hS;show Sw _ A.in1 (Vh S (λ_=>#[]) >>= _) _ _ _;refine Sj (TC hS' rfl (Sj (TJ (Ss ?_))));exact r x _ t (by rw[<-e];exact hx) λb o h1 h2 q=>(SU _ _ (TR h2)).trans (kp b o h1 q)
 |succ k ih=>
  intro j z x c hk hj st hx kt hS r;have lt:j+1<n:=by omega
  refine T' Va ?_;rw[TH TM _];show Sw _ A.in1 (UZ (.ref S) >>= _) _ _ z;refine Sj (Td hS rfl ?_);show Sw _ A.in1 (tryCatch (Ua (.ref I)) _ >>= _) _ _ z;refine Sj (Ub (W.item (j+1) z _ _ lt st λy h' t hy am kp=>?_));have hS':=kp S _ so hS;have kt':Kt h0 h':=λb o q d=>kp b o (tk b o q d).1 (kt b o q d);show Sw _ A.in1 (tryCatch (U2 [y,y] (U_ .Gt y x >>= _)) _ >>= _) _ _ _;refine Sj (Ub (SY (Sj (cm (j+1) (S_ bt j) y x _ _ _ hy hx kt' ?_))));refine Sj (SY (Ts ?_));refine Sj (TJ (Ss ?_));cases hb:bt (j+1) (S_ bt j)with
  |true=>
   have ea:S_ bt (j+1)=j+1:=by rw[S_,hb];rfl
   simp only[if_true];refine Sj (TC hS' rfl (Sj (TJ ?_)));rw[nm];refine Ss ⟨TV TM _,ih (j+1) _ y _ (by omega) lt (W.frame _ _ _ am λb bf o q=>?_) (by rw[ea];exact hy) (λb o q d=>?_) (Tg _ hS' rfl) λy2 h2 t2 g1 g2=>?_⟩
   ·exact(SU _ _ (λe:S=b=>off (by rw[e];exact bf))).trans q
   ·exact(SU _ _ (TR (tk b o q d).2)).trans (kt' b o q d)
   ·exact r y2 h2 t2 g1 λb o m1 m2 q=>g2 b o m1 m2 ((SU _ _ (TR m2)).trans (kp b o m1 q))
  |false=>
   have ea:S_ bt (j+1)=S_ bt j:=by rw[S_,hb];rfl
   simp only[MZ,if_false];refine Sj (TJ ?_);rw[nm];refine Ss ⟨TV TM _,ih (j+1) _ x c (by omega) lt am (by rw[ea];exact hx) kt' hS' λy2 h2 t2 g1 g2=>?_⟩;exact r y2 h2 t2 g1 λb o m1 m2 q=>g2 b o m1 m2 (kp b o m1 q)
theorem Cp(W:Yv prog w A.in1 I fp wr n (λi v=>vs[i]?=some v) St)(cm:Bx prog w A.in1 h0 vs bt)(S:Sn)(off:S ∉ fp)(tk:∀b o,h0.get? b=some o->o.cls=.type "tuple"->b ∉ wr/\b≠S)(hn:0<n){z:So}{c:Nat}(st:St 0 z.heap)(kt:Kt h0 z.heap)
  (hS:z.heap.get? S=some { cls:=.type "list",dict:=none,data:=.seq #[] c,slots:=#[] })
  (r:∀y h' t,vs[S_ bt (n-1)]?=some y->(∀b o,b ∉ wr->b≠S->z.heap.get? b=some o->h'.get? b=some o)->R (.ok (.ret y)) {z with heap:=h',toks:=t}) :
  Um (SG prog w) A (.builtin "max.loop" ⟨[.ref I,.none,.ref S],[]⟩) R z:=by
 have so:S ∉ wr:=λh=>off (W.sub _ h);have nm:(toString "max"++toString ".loop":String)="max.loop":=by decide
 refine T' Va ?_;rw[TH TM _];show Sw _ A.in1 (UZ (.ref S) >>= _) _ _ z;refine Sj (Td hS rfl ?_);show Sw _ A.in1 (tryCatch (Ua (.ref I)) _ >>= _) _ _ z;refine Sj (Ub (W.item 0 z _ _ hn st λy h' t hy am kp=>?_));have hS':=kp S _ so hS;have kt':Kt h0 h':=λb o q d=>kp b o (tk b o q d).1 (kt b o q d);show Sw _ A.in1 (Vh S (λ_=>#[y,y]) >>= _) _ _ _;refine Sj (TC hS' rfl ?_);rw[nm];refine Ss ⟨TV TM _,Lw W cm S off tk _ 0 _ y _ rfl hn (W.frame _ _ _ am λb bf o q=>?_) hy (λb o q d=>?_) (Tg _ hS' rfl) λy2 h2 t2 g1 g2=>?_⟩
 ·exact(SU _ _ (λe:S=b=>off (by rw[e];exact bf))).trans q
 ·exact(SU _ _ (TR (tk b o q d).2)).trans (kt' b o q d)
 exact r y2 h2 t2 g1 λb o m1 m2 q=>g2 b o m1 m2 ((SU _ _ (TR m2)).trans (kp b o m1 q))
end
variable {Q:Sl->So->Prop}{n1 n2:List Int}{xs ys:Array Sl}
section
variable{prog:SD}{w:SI}{A:SW}{E:Sl->So->Prop}{s:So}
noncomputable def IntsAre:List Sl->List Int->Prop
 | [],[]=>True
 |v::l,n::r=>(∃t,v=.int n t)/\IntsAre l r
 | _,_=>False
theorem yY{M:UC}{F:Sl×Sl->Option Fin×Unit->Sem (ForInStep (Option Fin×Unit))}{R:Option Fin×Unit->So->Prop}{cmp:Int->Int->Bool}{lxx:List Int->List Int->Option Bool}
  (h0:∀l,lxx [] l=none) (h1:∀l,lxx l []=none) (h2:∀a x b y,lxx (a::x) (b::y)=if a=b then lxx x y else some (cmp a b))
  (hF:∀(n m:Int) (t u:Tok) (Q:ForInStep (Option Fin×Unit)->So->Prop),(if n=m then Q (.yield (none,())) s else Q (.done (some (.done (.ret (.bool (cmp n m)))),())) s)->Sw M A (F (.int n t,.int m u) (none,())) Q E s) :
  ∀(l1 l2:List Sl) (n1 n2:List Int),IntsAre l1 n1->IntsAre l2 n2->R ((lxx n1 n2).map λb=>.done (.ret (.bool b)),()) s->Sw M A (forIn (l1.zip l2) (none,()) F) R E s:=by
 intro l1;induction l1 with
 |nil=>
  intro l2 n1 n2 i1 i2 r;cases n1 with
  |nil=>rw[h0]at r;exact Ss r
  |cons n n1=>exact i1.elim
 |cons v l1 ih=>
  intro l2 n1 n2 i1 i2 r;cases n1 with
  |nil=>exact i1.elim
  |cons n n1=>
   cases l2 with
   |nil=>
    cases n2 with
    |nil=>rw[h1]at r;exact Ss r
    |cons m n2=>exact i2.elim
   |cons v2 l2=>
    cases n2 with
    |nil=>exact i2.elim
    |cons m n2=>
     obtain⟨⟨t,rfl⟩,i1⟩:=i1;obtain⟨⟨u,rfl⟩,i2⟩:=i2;rw[NC,Oy];refine Sj (hF n m t u _ ?_);rw[h2]at r;by_cases z:n=m
     ·rw[if_pos z]at r ⊢;exact ih l2 n1 n2 i1 i2 r
     rw[if_neg z]at r ⊢;exact Ss r
noncomputable def lxo:List Int->List Int->Option Bool
 |a::x,b::y=>if a=b then lxo x y else some (decide (a<b))
 | _,_=>none
theorem BP:∀(x y:List Int),(lxo x y).getD (decide (x.length<y.length))=lx x y:=by
 intro x;induction x with
 |nil=>
  intro y;cases y with
  |nil=>rfl
  |cons b y=>rfl
 |cons a x ih=>
  intro y;cases y with
  |nil=>rfl
  |cons b y=>
   rw[lxo,lx];by_cases z:a=b
   ·rw[if_pos z,if_pos z,<-ih,i',i'];congr 1;exact decide_eq_decide.mpr (by omega)
   rw[if_neg z,if_neg z];rfl
theorem vB:∀{l:List Sl}{n:List Int},IntsAre l n->l.length=n.length:=by
 intro l;induction l with
 |nil=>
  intro n h;cases n with
  |nil=>rfl
  |cons a n=>exact h.elim
 |cons v l ih=>
  intro n h;cases n with
  |nil=>exact h.elim
  |cons a n=>rw[i',i',ih h.2]
theorem HX{a b:Sn}{oa ob:Obj}{na nb:Nat}(ha:s.heap.get? a=some oa)(ca:oa.cls=.type "tuple")(da:oa.data=.seq xs na)(hb:s.heap.get? b=some ob)(cb:ob.cls=.type "tuple")(db:ob.data=.seq ys nb)(hu:A.units<cLine)(i1:IntsAre xs.toList n1)(i2:IntsAre ys.toList n2)(q:Q (.bool (lx n1 n2)) s):Sw (SG prog w) A (U_ .Lt (.ref a) (.ref b)) Q E s:=by
 refine VC (T:="tuple") ⟨_,ha,ca⟩ ⟨_,hb,cb⟩ Wq (Tp Wq ⟨_,ha,ca⟩ PySem.F.entry_tuple_lt ?_ (PySem.F.args_tuple_lt_2 _ _)) hu;show Sw _ _ (isInstance (.ref b) (.type "tuple") >>= _) _ _ _;refine Sj (UI (T:="tuple") (b:=true) ⟨_,hb,cb⟩ (by rw[Wn];rfl) ?_);refine S4 (λc=>absurd c (by decide)) (λ_=>?_);refine Sj (U1 ha da (Sj (U1 hb db (Sj ?_))));refine yY (cmp:=λa b=>decide (a<b)) (lxx:=lxo) (λl=>rfl) (λl=>by cases l <;> rfl) (λa x b y=>rfl) (λn m t u Q h=>?_) xs.toList ys.toList n1 n2 i1 i2 ?_
 ·refine Sj (zb ?_);by_cases z:n=m
  ·rw[if_pos z]at h;rw[decide_eq_true z];exact Ss h
  rw[if_neg z]at h;rw[decide_eq_false z];refine S4 (λ_=>?_) (λc=>absurd rfl c);exact Sj (UD (Sj (W7 (op:=.Lt) (VP s n t) (VP s m u) PySem.F.slot_int_lt PySem.F.entry_int_lt (PySem.F.args_int_lt_2 _ _) (gives_int_lt n m t u) (λz=>nomatch z) (Sj (Ss (Ss h))))))
 have e:=BP n1 n2;have l1:=vB i1;have l2:=vB i2;cases hl:lxo n1 n2 with
 |some b=>
  rw[hl]at e;have e:b=lx n1 n2:=e;exact Ss ⟨_,rfl,(λz=>nomatch z),by rw[e];exact q⟩
 |none=>
  rw[hl]at e;have e:decide (n1.length<n2.length)=lx n1 n2:=e;refine Ss ⟨_,rfl,(λz=>nomatch z),?_⟩;show Q (.bool (decide (xs.size<ys.size))) s;rw[<-l_,<-l_,l1,l2,e];exact q
theorem IF{a b:Sn}{oa ob:Obj}{na nb:Nat}(ha:s.heap.get? a=some oa)(ca:oa.cls=.type "tuple")(da:oa.data=.seq xs na)(hb:s.heap.get? b=some ob)(cb:ob.cls=.type "tuple")(db:ob.data=.seq ys nb)(hu:A.units<cLine)(i1:IntsAre xs.toList n1)(i2:IntsAre ys.toList n2)(q:Q (.bool (lx n2 n1)) s):Sw (SG prog w) A (U_ .Gt (.ref a) (.ref b)) Q E s:=by
 refine VC (T:="tuple") ⟨_,ha,ca⟩ ⟨_,hb,cb⟩ Wr (Tp Wr ⟨_,ha,ca⟩ PySem.F.entry_tuple_gt ?_ (PySem.F.args_tuple_gt_2 _ _)) hu;show Sw _ _ (isInstance (.ref b) (.type "tuple") >>= _) _ _ _;refine Sj (UI (T:="tuple") (b:=true) ⟨_,hb,cb⟩ (by rw[Wn];rfl) ?_);refine S4 (λc=>absurd c (by decide)) (λ_=>?_);refine Sj (U1 ha da (Sj (U1 hb db (Sj ?_))));refine yY (cmp:=λa b=>decide (b<a)) (lxx:=λx y=>lxo y x) (λl=>by cases l <;> rfl) (λl=>rfl) (λa x b y=>?_) (λn m t u Q h=>?_) xs.toList ys.toList n1 n2 i1 i2 ?_
 ·show(if b=a then _ else _)=_;by_cases z:a=b
  ·rw[if_pos z,if_pos z.symm]
  rw[if_neg z,if_neg (λh=>z h.symm)]
 ·refine Sj (zb ?_);by_cases z:n=m
  ·rw[if_pos z]at h;rw[decide_eq_true z];exact Ss h
  rw[if_neg z]at h;rw[decide_eq_false z];refine S4 (λ_=>?_) (λc=>absurd rfl c);exact Sj (UD (Sj (W7 (op:=.Gt) (VP s n t) (VP s m u) PySem.F.slot_int_gt PySem.F.entry_int_gt (PySem.F.args_int_gt_2 _ _) (gives_int_gt n m t u) (λz=>nomatch z) (Sj (Ss (Ss h))))))
 have e:=BP n2 n1;have l1:=vB i1;have l2:=vB i2;cases hl:lxo n2 n1 with
 |some b=>
  rw[hl]at e;have e:b=lx n2 n1:=e;exact Ss ⟨_,rfl,(λz=>nomatch z),by rw[e];exact q⟩
 |none=>
  rw[hl]at e;have e:decide (n2.length<n1.length)=lx n2 n1:=e;refine Ss ⟨_,rfl,(λz=>nomatch z),?_⟩;show Q (.bool (decide (ys.size<xs.size))) s;rw[<-l_,<-l_,l2,l1,e];exact q
end
theorem xN:∀{x y z:List Int},lx x y=true->lx y z=true->lx x z=true:=by
 intro x;induction x with
 |nil=>
  intro y z h1 h2;cases y with
  |nil=>cases h1
  |cons b y=>
   cases z with
   |nil=>cases h2
   |cons c z=>rfl
 |cons a x ih=>
  intro y z h1 h2;cases y with
  |nil=>cases h1
  |cons b y=>
   cases z with
   |nil=>cases h2
   |cons c z=>
    rw[lx]at h1 h2 ⊢;by_cases e1:a=b
    ·rw[if_pos e1]at h1;subst e1;by_cases e2:a=c
     ·rw[if_pos e2]at h2 ⊢;exact ih h1 h2
     rw[if_neg e2]at h2 ⊢;exact h2
    rw[if_neg e1,decide_eq_true_eq]at h1;by_cases e2:b=c
    ·subst e2;rw[if_neg e1,decide_eq_true_eq];exact h1
    rw[if_neg e2,decide_eq_true_eq]at h2;rw[if_neg (by omega),decide_eq_true_eq];omega
theorem E5:∀(x:List Int),lx x x=false:=by
 intro x;induction x with
 |nil=>rfl
 |cons a x ih=>rw[lx,if_pos rfl,ih]
theorem zK{bt:Nat->Nat->Bool}(tr:∀i j k,bt i j=true->bt j k=true->bt i k=true)(ir:∀i,bt i i=false):∀n,S_ bt n<=n/\∀j,j<=n->bt j (S_ bt n)=false:=by
 intro n;induction n with
 |zero=>exact⟨e_ _,λj hj=>by rw[Nat.le_zero.mp hj];exact ir _⟩
 |succ n ih=>
  cases hb:bt (n+1) (S_ bt n)with
  |true=>
   have e:S_ bt (n+1)=n+1:=by rw[S_,hb];rfl
   rw[e];refine⟨e_ _,λj hj=>?_⟩;rcases R1 n j with h|h
   ·rw[show j=n+1 by omega];exact ir _
   ·rw[N5];intro z;have:=tr _ _ _ z hb;rw[ih.2 j h]at this;cases this
  |false=>
   have e:S_ bt (n+1)=S_ bt n:=by rw[S_,hb];rfl
   rw[e];refine⟨Pe ih.1,λj hj=>?_⟩;rcases R1 n j with h|h
   ·rw[show j=n+1 by omega];exact hb
   exact ih.2 j h
end ZM
namespace L2
open PySem PySem.Spec PyProof.Rows
section
variable{X:Cx}
theorem qZ:∀{ps:List Sn}{us:List Sl},Vals (ps.map V.ref) us->us=ps.map SV:=by
 intro ps;induction ps with
 |nil=>intro us h;cases h;rfl
 |cons p ps ih=>
  intro us h;cases h with
  |cons r t=>rw[f',<-ih t];cases r;rfl
theorem nh:∀{ns:List Int}{us:List Sl},Vals (ns.map V.int) us->ZM.IntsAre us ns:=by
 intro ns;induction ns with
 |nil=>intro us h;cases h;exact trivial
 |cons n ns ih=>
  intro us h;cases h with
  |cons r t=>exact⟨r,ih t⟩
theorem yT{k:Nat}(hr:Room k X.A)(hc:X.calm=true):d3 X (.builtin "min") (λxs H Q=>∃(b:Bool) (a:Sn) (ps:List Sn) (ks:List (List Int)),xs=[.ref a]/\SqG b X.K H a (ps.map V.ref)/\ps≠[]/\ks.length=ps.length/\(∀(i:Nat) (p:Sn) (n:List Int),ps[i]?=some p->ks[i]?=some n->SqT X.K H p (n.map V.int))/\∀(i:Nat) (p:Sn) (m:List Int),ps[i]?=some p->ks[i]?=some m->(∀n,n∈ks->ZM.lx n m=false)->Q (.ref p) H):=by
 intro ac s σ H xs us Q I r h;obtain⟨b,a,ps,ks,rfl,hq,io,hl,ht,q⟩:=h;obtain⟨u,rfl,ru⟩:=vals1 r;cases ru;obtain⟨ap,rv,p,z⟩:=I.sq hq;have ei:=qZ rv;subst ei;have kw:a<s.heap.objs.size:=by
  cases b with
  |true=>obtain⟨o,e,_⟩:=(show s.heap.IsTuple a _ from p);exact Sx e
  |false=>obtain⟨o,e,_⟩:=(show s.heap.IsList a _ from p);exact Sx e
 have hh:X.A.in1.handled=none:=I.ok.hd hc;have hpos:0<ps.length:=Nm λz=>io (I_ z);have es:((ps.map SV).toArray).size=ps.length:=by simp
 have tup:∀(i:Nat) (x:Sl),((ps.map SV).toArray)[i]?=some x->∃c oc xs n m,x=.ref c/\s.heap.get? c=some oc/\oc.cls=.type "tuple"/\oc.data=.seq xs n/\ks[i]?=some m/\ZM.IntsAre xs.toList m:=λi x hx=>by
  rw[OI,u_]at hx;cases hp:ps[i]? with
  |none=>rw[hp]at hx;cases hx
  |some c=>
   rw[hp]at hx;cases hx;obtain⟨m,hm⟩:∃m,ks[i]?=some m:=⟨_,f_ (by rw[hl];exact(gV.mp hp).1)⟩;obtain⟨ap,rv,⟨oc,e,c1,n,d⟩,_⟩:=I.tuple (ht i c m hp hm);exact⟨c,oc,ap.toArray,n,m,rfl,e,c1,d,hm,nh rv⟩
 have cm:∀A:SW,A.units<cLine->ZM.Dz X.prog X.w A s.heap (ps.map SV).toArray (ZM.rO ks):=λA hA i j x y z Q E hx hy kt qq=>by obtain⟨c,oc,xs,n,m,rfl,e1,c1,d1,m1,i1⟩:=tup i x hx;obtain⟨c',oc',xs',n',m',rfl,e2,c2,d2,m2,i2⟩:=tup j y hy;refine ZM.HX (kt c oc e1 c1) c1 d1 (kt c' oc' e2 c2) c2 d2 hA i1 i2 ?_;unfold ZM.rO at qq;rw[i_,i_,m1,m2]at qq;exact qq
 have fin:∀(y:Sl) (h':SJ) (tk:Nat),((ps.map SV).toArray)[S_ (ZM.rO ks) (((ps.map SV).toArray).size-1)]?=some y->(∀b o,s.heap.get? b=some o->h'.get? b=some o)->EP X ac σ Q y {s with heap:=h',toks:=tk}:=λy h' tk hy kk=>by
  obtain⟨b1,b2⟩:=ZM.zK (bt:=ZM.rO ks) (λi j k h1 h2=>ZM.xN h1 h2) (λi=>ZM.E5 _) (((ps.map SV).toArray).size-1);rw[es]at b1 b2 hy;have hy2:=hy;rw[OI,u_]at hy;generalize S_ (ZM.rO ks) (ps.length-1)=i at *;cases hp:ps[i]? with
  |none=>rw[hp]at hy;cases hy
  |some c=>
   rw[hp]at hy;cases hy;obtain⟨m,hm⟩:∃m,ks[i]?=some m:=⟨_,f_ (by rw[hl];exact(gV.mp hp).1)⟩;refine⟨.ref c,H,I.kept (t':=tk) kk,rfl,q i c m hp hm λn mn=>?_⟩;obtain⟨j,hj,rfl⟩:=NM.mp mn;have:=b2 j (by omega);unfold ZM.rO at this;rw[i_,i_,hm,f_ hj]at this;exact this
 have un:X.A.in1.units<cLine:=by have:=hr.un;show X.A.units+1<cLine;omega
 have nm:(toString "min"++toString ".loop":String)="min.loop":=by decide
 refine WV PySem.F.kind_min PySem.F.plain_min PySem.F.entry_min (PySem.F.args_min1 _) ?_;show Sw _ X.A.in1 (Ui "min" ["key","default"] 0 ⟨[],[]⟩ >>= _) _ _ s;refine Sj (Vw (show Ui "min" ["key","default"] 0 ⟨[],[]⟩=pure [none,none]from rfl) (Sj (Ss (Sj ?_))));refine ZG.DA (b:=b) p λg d gs gk=>?_;refine Sj (TN ?_);rw[nm];have tk:∀c o,s.heap.get? c=some o->o.cls=.type "tuple"->c ∉ [s.heap.objs.size]/\c≠g.objs.size:=λc o e _=>by have h1:@Wb Nat instLTNat c s.heap.objs.size:=Sx e;refine⟨λz=>j_ h1 (x_.mp z),?_⟩;rw[gs];show ¬(_:Nat)=_;omega
 have off:g.objs.size ∉ [s.heap.objs.size,a]:=λz=>by
  rw[gs]at z;have h1:@Wb Nat instLTNat a s.heap.objs.size:=kw;rcases n_.mp z with z|z
  ·exact absurd z (by show ¬(_:Nat)=_;omega)
  exact absurd (x_.mp z) (by show ¬(_:Nat)=_;omega)
 have last:∀(y:Sl) (h':SJ) (t:Nat),((ps.map SV).toArray)[S_ (ZM.rO ks) (((ps.map SV).toArray).size-1)]?=some y->(∀c o,c ∉ [s.heap.objs.size]->c≠g.objs.size->(g.push { cls:=.type "list",data:=.seq ([]:List Sl).toArray}).get? c=some o->h'.get? c=some o)->EP X ac σ Q y {s with heap:=h',toks:=t}:=λy h' t hy kk=>fin y h' t hy λc o e=>by have h1:@Wb Nat instLTNat c s.heap.objs.size:=Sx e;refine kk c o (λz=>j_ h1 (x_.mp z)) ?_ (Sr _ (gk c o e));rw[gs];show ¬(_:Nat)=_;omega
 refine Ss ⟨TV TL _,?_⟩;cases b with
 |true=>
  refine ZM.E2 (Wi hh s.heap.objs.size a (j_ kw) (ps.map SV).toArray) (cm _ un) g.objs.size off tk (by rw[es];exact hpos) ⟨?_,?_⟩ (λc o e _=>Sr _ (gk c o e)) (SF _ rfl) last
  ·obtain⟨o,e,r⟩:=(show g.IsTupleIter s.heap.objs.size a 0 from d);exact⟨o,Sr _ e,r⟩
  ·obtain⟨o,e,r⟩:=(show s.heap.IsTuple a _ from p);exact⟨o,Sr _ (gk _ o e),r⟩
 |false=>
  refine ZM.E2 (Wz hh s.heap.objs.size a (j_ kw) (ps.map SV).toArray) (cm _ un) g.objs.size off tk (by rw[es];exact hpos) ⟨?_,?_⟩ (λc o e _=>Sr _ (gk c o e)) (SF _ rfl) last
  ·obtain⟨o,e,r⟩:=(show g.IsListIter s.heap.objs.size a 0 from d);exact⟨o,Sr _ e,r⟩
  obtain⟨o,e,r⟩:=(show s.heap.IsList a _ from p);exact⟨o,Sr _ (gk _ o e),r⟩
theorem yP{k:Nat}(hr:Room k X.A)(hc:X.calm=true):d3 X (.builtin "max") (λxs H Q=>∃(b:Bool) (a:Sn) (ps:List Sn) (ks:List (List Int)),xs=[.ref a]/\SqG b X.K H a (ps.map V.ref)/\ps≠[]/\ks.length=ps.length/\(∀(i:Nat) (p:Sn) (n:List Int),ps[i]?=some p->ks[i]?=some n->SqT X.K H p (n.map V.int))/\∀(i:Nat) (p:Sn) (m:List Int),ps[i]?=some p->ks[i]?=some m->(∀n,n∈ks->ZM.lx m n=false)->Q (.ref p) H):=by
 intro ac s σ H xs us Q I r h;obtain⟨b,a,ps,ks,rfl,hq,io,hl,ht,q⟩:=h;obtain⟨u,rfl,ru⟩:=vals1 r;cases ru;obtain⟨ap,rv,p,z⟩:=I.sq hq;have ei:=qZ rv;subst ei;have kw:a<s.heap.objs.size:=by
  cases b with
  |true=>obtain⟨o,e,_⟩:=(show s.heap.IsTuple a _ from p);exact Sx e
  |false=>obtain⟨o,e,_⟩:=(show s.heap.IsList a _ from p);exact Sx e
 have hh:X.A.in1.handled=none:=I.ok.hd hc;have hpos:0<ps.length:=Nm λz=>io (I_ z);have es:((ps.map SV).toArray).size=ps.length:=by simp
 have tup:∀(i:Nat) (x:Sl),((ps.map SV).toArray)[i]?=some x->∃c oc xs n m,x=.ref c/\s.heap.get? c=some oc/\oc.cls=.type "tuple"/\oc.data=.seq xs n/\ks[i]?=some m/\ZM.IntsAre xs.toList m:=λi x hx=>by
  rw[OI,u_]at hx;cases hp:ps[i]? with
  |none=>rw[hp]at hx;cases hx
  |some c=>
   rw[hp]at hx;cases hx;obtain⟨m,hm⟩:∃m,ks[i]?=some m:=⟨_,f_ (by rw[hl];exact(gV.mp hp).1)⟩;obtain⟨ap,rv,⟨oc,e,c1,n,d⟩,_⟩:=I.tuple (ht i c m hp hm);exact⟨c,oc,ap.toArray,n,m,rfl,e,c1,d,hm,nh rv⟩
 have cm:∀A:SW,A.units<cLine->ZM.Bx X.prog X.w A s.heap (ps.map SV).toArray (ZM.rP ks):=λA hA i j x y z Q E hx hy kt qq=>by obtain⟨c,oc,xs,n,m,rfl,e1,c1,d1,m1,i1⟩:=tup i x hx;obtain⟨c',oc',xs',n',m',rfl,e2,c2,d2,m2,i2⟩:=tup j y hy;refine ZM.IF (kt c oc e1 c1) c1 d1 (kt c' oc' e2 c2) c2 d2 hA i1 i2 ?_;unfold ZM.rP at qq;rw[i_,i_,m1,m2]at qq;exact qq
 have fin:∀(y:Sl) (h':SJ) (tk:Nat),((ps.map SV).toArray)[S_ (ZM.rP ks) (((ps.map SV).toArray).size-1)]?=some y->(∀b o,s.heap.get? b=some o->h'.get? b=some o)->EP X ac σ Q y {s with heap:=h',toks:=tk}:=λy h' tk hy kk=>by
  obtain⟨b1,b2⟩:=ZM.zK (bt:=ZM.rP ks) (λi j k h1 h2=>ZM.xN h2 h1) (λi=>ZM.E5 _) (((ps.map SV).toArray).size-1);rw[es]at b1 b2 hy;have hy2:=hy;rw[OI,u_]at hy;generalize S_ (ZM.rP ks) (ps.length-1)=i at *;cases hp:ps[i]? with
  |none=>rw[hp]at hy;cases hy
  |some c=>
   rw[hp]at hy;cases hy;obtain⟨m,hm⟩:∃m,ks[i]?=some m:=⟨_,f_ (by rw[hl];exact(gV.mp hp).1)⟩;refine⟨.ref c,H,I.kept (t':=tk) kk,rfl,q i c m hp hm λn mn=>?_⟩;obtain⟨j,hj,rfl⟩:=NM.mp mn;have:=b2 j (by omega);unfold ZM.rP at this;rw[i_,i_,hm,f_ hj]at this;exact this
 have un:X.A.in1.units<cLine:=by have:=hr.un;show X.A.units+1<cLine;omega
 have nm:(toString "max"++toString ".loop":String)="max.loop":=by decide
 refine WV PySem.F.kind_max PySem.F.plain_max PySem.F.entry_max (PySem.F.args_max1 _) ?_;show Sw _ X.A.in1 (Ui "max" ["key","default"] 0 ⟨[],[]⟩ >>= _) _ _ s;refine Sj (Vw (show Ui "max" ["key","default"] 0 ⟨[],[]⟩=pure [none,none]from rfl) (Sj (Ss (Sj ?_))));refine ZG.DA (b:=b) p λg d gs gk=>?_;refine Sj (TN ?_);rw[nm];have tk:∀c o,s.heap.get? c=some o->o.cls=.type "tuple"->c ∉ [s.heap.objs.size]/\c≠g.objs.size:=λc o e _=>by have h1:@Wb Nat instLTNat c s.heap.objs.size:=Sx e;refine⟨λz=>j_ h1 (x_.mp z),?_⟩;rw[gs];show ¬(_:Nat)=_;omega
 have off:g.objs.size ∉ [s.heap.objs.size,a]:=λz=>by
  rw[gs]at z;have h1:@Wb Nat instLTNat a s.heap.objs.size:=kw;rcases n_.mp z with z|z
  ·exact absurd z (by show ¬(_:Nat)=_;omega)
  exact absurd (x_.mp z) (by show ¬(_:Nat)=_;omega)
 have last:∀(y:Sl) (h':SJ) (t:Nat),((ps.map SV).toArray)[S_ (ZM.rP ks) (((ps.map SV).toArray).size-1)]?=some y->(∀c o,c ∉ [s.heap.objs.size]->c≠g.objs.size->(g.push { cls:=.type "list",data:=.seq ([]:List Sl).toArray}).get? c=some o->h'.get? c=some o)->EP X ac σ Q y {s with heap:=h',toks:=t}:=λy h' t hy kk=>fin y h' t hy λc o e=>by have h1:@Wb Nat instLTNat c s.heap.objs.size:=Sx e;refine kk c o (λz=>j_ h1 (x_.mp z)) ?_ (Sr _ (gk c o e));rw[gs];show ¬(_:Nat)=_;omega
 refine Ss ⟨TV TM _,?_⟩;cases b with
 |true=>
  refine ZM.Cp (Wi hh s.heap.objs.size a (j_ kw) (ps.map SV).toArray) (cm _ un) g.objs.size off tk (by rw[es];exact hpos) ⟨?_,?_⟩ (λc o e _=>Sr _ (gk c o e)) (SF _ rfl) last
  ·obtain⟨o,e,r⟩:=(show g.IsTupleIter s.heap.objs.size a 0 from d);exact⟨o,Sr _ e,r⟩
  ·obtain⟨o,e,r⟩:=(show s.heap.IsTuple a _ from p);exact⟨o,Sr _ (gk _ o e),r⟩
 |false=>
  refine ZM.Cp (Wz hh s.heap.objs.size a (j_ kw) (ps.map SV).toArray) (cm _ un) g.objs.size off tk (by rw[es];exact hpos) ⟨?_,?_⟩ (λc o e _=>Sr _ (gk c o e)) (SF _ rfl) last
  ·obtain⟨o,e,r⟩:=(show g.IsListIter s.heap.objs.size a 0 from d);exact⟨o,Sr _ e,r⟩
  obtain⟨o,e,r⟩:=(show s.heap.IsList a _ from p);exact⟨o,Sr _ (gk _ o e),r⟩
end
end L2
namespace ZS
open PySem PyProof.Rows
noncomputable def gal:Bool->Keyed->Array Keyed->Nat->Nat->Nat->StateT SortSt Sem (Option Nat):=sortPriv% PySem.Builtin.gallop
noncomputable def mLo:Array Keyed->Array Keyed->StateT SortSt Sem (Array Keyed):=sortPriv% PySem.Builtin.mergeLo
noncomputable def mHi:Array Keyed->Array Keyed->StateT SortSt Sem (Array Keyed):=sortPriv% PySem.Builtin.mergeHi
noncomputable def bey(lf:Bool)(ky:Su)(ar:Array Su)(b0 i:Nat):StateT Sz Sem (Option Bool):=do
 let xx <-Tn ar (b0+i)
 if lf then lt' xx ky else return (<-lt' ky xx).map (!·)
def lJ(lf:Bool)(ky:Su)(ar:Array Su)(b0 n l0 h0:Nat):StateT Sz Sem (Option Nat):=do
 let mut l:=l0
 let mut h:=h0
 for _ in [0:n]do
  if l>=h then break
  let m:=l+(h-l)/2
  let some mo <-bey lf ky ar b0 m | return none
  if mo then l:=m+1 else h:=m
 return some h
def GC(lf:Bool)(ky:Su)(ar:Array Su)(b0 n h0:Nat):StateT Sz Sem (Option Nat):=do
 let mut la:=0
 let mut of:=1
 for _ in [0:n]do
  if of>=n-h0 then break
  let some mo <-bey lf ky ar b0 (h0+of) | return none
  if !mo then break
  la:=of
  of:=2*of+1
 lJ lf ky ar b0 n (h0+la+1) (h0+min of (n-h0))
def A6(lf:Bool)(ky:Su)(ar:Array Su)(b0 n h0:Nat):StateT Sz Sem (Option Nat):=do
 let mut la:=0
 let mut of:=1
 for _ in [0:n]do
  if of>=h0+1 then break
  let some fo <-bey lf ky ar b0 (h0-of) | return none
  if fo then break
  la:=of
  of:=2*of+1
 lJ lf ky ar b0 n (h0+1-min of (h0+1)) (h0-la)
theorem Jd(lf:Bool)(ky:Su)(ar:Array Su)(b0 n h0:Nat):gal lf ky ar b0 n h0=(do
 let some rt <-bey lf ky ar b0 h0 | return none
 if rt then GC lf ky ar b0 n h0 else A6 lf ky ar b0 n h0):=rfl
variable {Q:Option Nat->Sz->Prop}{ar:Array Su}{b0 n:Nat}{ky:Su}{lf:Bool}{st:Sz}
section
variable{M:UC}{A:SW}{E:Sl->So->Prop}{s:So}
theorem IA{h0:Nat}{bd:Nat->Bool}(hh:h0<n)(hb:∀(i:Nat) (R:Option Bool->Sz->Prop),i<n->R (some (bd i)) st->wpS M A E s (bey lf ky ar b0 i) R st)
  (mono:∀i j,i<=j->j<n->bd j=true->bd i=true) (h:∀k,k<=n->(∀i,i<k->bd i=true)->(∀i,k<=i->i<n->bd i=false)->Q (some k) st):wpS M A E s (gal lf ky ar b0 n h0) Q st:=by
 rw[Jd];have last:∀(l hi:Nat),l<=hi->hi<=n->(∀i,i<l->bd i=true)->(∀i,hi<=i->i<n->bd i=false)->wpS M A E s (lJ lf ky ar b0 n l hi) Q st:=λl hi h1 h2 h3 h4=>by
  unfold lJ;dsimp only;refine Sy (Te (I:=λx c am=>am=st/\∃l hi,c=(none,l,hi)/\l<=hi/\hi<=n/\hi-l<=n-x/\(∀i,i<l->bd i=true)/\(∀i,hi<=i->i<n->bd i=false)) ?_ ?_ ⟨rfl,l,hi,rfl,h1,h2,by lia,h3,h4⟩)
  ·rintro x c am _ hx ⟨rfl,l,hi,rfl,g1,g2,g3,g4,g5⟩;dsimp only;by_cases z:l>=hi
   ·rw[if_pos z];have e:l=hi:=by lia
    subst e;exact SH (SH (h l g2 g4 g5))
   rw[if_neg z];have m1:l<=l+(hi-l)/2:=OL ..;have m2:l+(hi-l)/2<hi:=by omega
   generalize l+(hi-l)/2=m at m1 m2 ⊢;have m3:=v_ m2 g2;refine Sy (hb _ _ m3 ?_);dsimp only;cases e:bd m with
   |true=>
    simp only[if_true];exact SH ⟨rfl,_,_,rfl,m2,g2,by lia,λi hi'=>mono i _ (Pf hi') m3 e,g5⟩
   |false=>
    simp only[MZ,if_false];refine SH ⟨rfl,_,_,rfl,m1,K' m3,by lia,g4,λi h1 h2=>?_⟩;cases e2:bd i with
    |false=>rfl
    |true=>rw[mono _ i h1 h2 e2]at e;cases e
  rintro c am ⟨rfl,l,hi,rfl,g1,g2,g3,g4,g5⟩;have e:l=hi:=by lia
  subst e;exact SH (h l g2 g4 g5)
 have up:∀la of,la<of->h0+la<n->bd (h0+la)=true->(n-h0<=of\/bd (h0+of)=false)->wpS M A E s (lJ lf ky ar b0 n (h0+la+1) (h0+min of (n-h0))) Q st:=λla of g1 g3 g4 g5=>by
  have k1:h0+min of (n-h0)<=n:=by lia
  refine last _ _ (by lia) k1 (λi hi=>mono i _ (Pf hi) g3 g4) (λi h1 h2=>?_);rcases g5 with g5|g5
  ·rw[PC g5]at h1;lia
  cases e2:bd i with
  |false=>rfl
  |true=>rw[mono (h0+of) i (by lia) h2 e2]at g5;cases g5
 have dwn:∀la of,la<of->la<=h0->bd (h0-la)=false->(h0+1<=of\/of<=h0/\bd (h0-of)=true)->wpS M A E s (lJ lf ky ar b0 n (h0+1-min of (h0+1)) (h0-la)) Q st:=λla of g1 g3 g4 g5=>by
  refine last _ _ (by omega) (r_ (NS ..) (K' hh)) (λi hi=>?_) (λi h1 h2=>?_)
  ·rcases g5 with g5|⟨g5,g6⟩
   ·rw[PC g5,O2]at hi;exact absurd hi (RH _)
   rw[Oc (Pe g5)]at hi;exact mono i _ (by lia) (NB (NS ..) hh) g6
  cases e2:bd i with
  |false=>rfl
  |true=>rw[mono (h0-la) i h1 h2 e2]at g4;cases g4
 refine Sy (hb _ _ hh ?_);dsimp only;cases e0:bd h0 with
 |true=>
  simp only[if_true];unfold GC;dsimp only;refine Sy (Te (I:=λx c am=>am=st/\∃la of,c=(none,la,of)/\la<of/\x+1<=of/\h0+la<n/\bd (h0+la)=true) ?_ ?_ ⟨rfl,0,1,rfl,OB,e_ _,hh,e0⟩)
  ·rintro x c am _ hx ⟨rfl,la,of,rfl,g1,g2,g3,g4⟩;dsimp only;by_cases z:of>=n-h0
   ·rw[if_pos z];exact SH (up la of g1 g3 g4 (.inl z))
   rw[if_neg z];refine Sy (hb _ _ (by lia) ?_);dsimp only;cases e:bd (h0+of)with
   |false=>
    simp only[Qb,if_true];exact SH (up la of g1 g3 g4 (.inr e))
   |true=>
    simp only[Pp,MZ,if_false];exact SH ⟨rfl,_,_,rfl,by lia,by lia,by lia,e⟩
  ·rintro c am ⟨rfl,la,of,rfl,g1,g2,g3,g4⟩;exact up la of g1 g3 g4 (.inl (by lia))
 |false=>
  simp only[MZ,if_false];unfold A6;dsimp only;refine Sy (Te (I:=λx c am=>am=st/\∃la of,c=(none,la,of)/\la<of/\x+1<=of/\la<=h0/\bd (h0-la)=false) ?_ ?_ ⟨rfl,0,1,rfl,OB,e_ _,MU _,e0⟩)
  ·rintro x c am _ hx ⟨rfl,la,of,rfl,g1,g2,g3,g4⟩;dsimp only;by_cases z:of>=h0+1
   ·rw[if_pos z];exact SH (dwn la of g1 g3 g4 (.inl z))
   rw[if_neg z];have z:=Nat.lt_succ_iff.mp (RD z);refine Sy (hb _ _ (NB (NS ..) hh) ?_);dsimp only;cases e:bd (h0-of)with
   |true=>
    simp only[if_true];exact SH (dwn la of g1 g3 g4 (.inr ⟨z,e⟩))
   |false=>
    simp only[MZ,if_false];exact SH ⟨rfl,_,_,rfl,by lia,by lia,z,e⟩
  rintro c am ⟨rfl,la,of,rfl,g1,g2,g3,g4⟩;exact dwn la of g1 g3 g4 (.inl (by lia))
end
noncomputable def setG(g:Nat):StateT Sz Sem Unit:=modify λs=>T6 (kindOf s) (Sv s) (SM s) g (Tc s)
noncomputable def dn(a b out:Array Su)(i j:Nat):Array Su:=out++a.extract i a.size++b.extract j b.size
noncomputable def md(a b out:Array Su)(i j:Nat):Array Su:=out++b.extract j b.size++a.extract i a.size
theorem Io(a b:Array Su):mLo a b=(do
 rule "list.sort.merge-lo"
 let mut out:Array Su:=#[<-Tn b 0]
 let mut i:=0
 let mut j:=1
 if j == b.size then return dn a b out i j
 if i+1 == a.size then return md a b out i j
 let mut mg:=V1 (<-get)
 for _ in [0:a.size+b.size]do
  let mut ca:=0
  let mut cb:=0
  for _ in [0:a.size+b.size]do
   let some bw <-lt' (<-Tn b j) (<-Tn a i) | return dn a b out i j
   if bw then
    out:=out.push (<-Tn b j);j:=j+1;cb:=cb+1;ca:=0
    if j == b.size then return dn a b out i j
    if cb>=mg then break
   else
    out:=out.push (<-Tn a i);i:=i+1;ca:=ca+1;cb:=0
    if i+1 == a.size then return md a b out i j
    if ca>=mg then break
  rule "list.sort.gallop"
  mg:=mg+1
  for _ in [0:a.size+b.size]do
   if mg > 1 then mg:=mg-1
   setG mg
   let some k <-gal false (<-Tn b j) a i (a.size-i) 0 | return dn a b out i j
   ca:=k
   if k > 0 then
    out:=out++a.extract i (i+k);i:=i+k
    if i+1 == a.size then return md a b out i j
    if i == a.size then return dn a b out i j
   out:=out.push (<-Tn b j);j:=j+1
   if j == b.size then return dn a b out i j
   let some k <-gal true (<-Tn a i) b j (b.size-j) 0 | return dn a b out i j
   cb:=k
   if k > 0 then
    out:=out++b.extract j (j+k);j:=j+k
    if j == b.size then return dn a b out i j
   out:=out.push (<-Tn a i);i:=i+1
   if i+1 == a.size then return md a b out i j
   if ca<7&&cb<7 then break
  mg:=mg+1
  setG mg
 unsupported "internal:list.sort.merge-bound"):=rfl
abbrev GS:=Option (Array Su)×Array Su×Nat×Nat×Nat×Nat×Nat
abbrev FS:=Option (Array Su)×Array Su×Nat×Nat×Nat×Nat
abbrev OS:=Option (Array Su)×Array Su×Nat×Nat×Nat
def g3(a b out:Array Su)(i j mg ca cb:Nat):StateT Sz Sem (ForInStep GS):=do
 let y <-Tn a i
 if(i+1+1 == a.size)=true then pure (SE (some (md a b (out.push y) (i+1) j),out.push y,i+1,j,mg,ca,cb))
 else if(decide (ca<7)&&decide (cb<7))=true then pure (SE (none,out.push y,i+1,j,mg,ca,cb))
 else pure (SS (none,out.push y,i+1,j,mg,ca,cb))
def g2(a b out:Array Su)(i j mg ca cb:Nat):StateT Sz Sem (ForInStep GS):=do
 let y <-Tn b j
 if(j+1 == b.size)=true then pure (SE (some (dn a b (out.push y) i (j+1)),out.push y,i,j+1,mg,ca,cb))
 else do
  let z <-Tn a i
  let some k <-gal true z b (j+1) (b.size-(j+1)) 0 | pure (SE (some (dn a b (out.push y) i (j+1)),out.push y,i,j+1,mg,ca,cb))
  if k > 0 then
    if(j+1+k == b.size)=true then pure (SE (some (dn a b (out.push y++b.extract (j+1) (j+1+k)) i (j+1+k)),out.push y++b.extract (j+1) (j+1+k),i,j+1+k,mg,ca,k))
    else g3 a b (out.push y++b.extract (j+1) (j+1+k)) i (j+1+k) mg ca k
  else g3 a b (out.push y) i (j+1) mg ca k
def g1(a b out:Array Su)(i j mg ca cb:Nat):StateT Sz Sem (ForInStep GS):=do
 setG mg
 let y <-Tn b j
 let some k <-gal false y a i (a.size-i) 0 | pure (SE (some (dn a b out i j),out,i,j,mg,ca,cb))
 if k > 0 then
   if(i+k+1 == a.size)=true then pure (SE (some (md a b (out++a.extract i (i+k)) (i+k) j),out++a.extract i (i+k),i+k,j,mg,k,cb))
   else if(i+k == a.size)=true then pure (SE (some (dn a b (out++a.extract i (i+k)) (i+k) j),out++a.extract i (i+k),i+k,j,mg,k,cb))
   else g2 a b (out++a.extract i (i+k)) (i+k) j mg k cb
 else g2 a b out i j mg k cb
def f1(a b out:Array Su)(i j ca cb mg:Nat):StateT Sz Sem (ForInStep FS):=do
 let y <-Tn b j
 let z <-Tn a i
 let some bw <-lt' y z | pure (SE (some (dn a b out i j),out,i,j,ca,cb))
 if bw=true then do
   let y <-Tn b j
   if(j+1 == b.size)=true then pure (SE (some (dn a b (out.push y) i (j+1)),out.push y,i,j+1,0,cb+1))
   else if cb+1>=mg then pure (SE (none,out.push y,i,j+1,0,cb+1))else pure (SS (none,out.push y,i,j+1,0,cb+1))
 else do
   let z <-Tn a i
   if(i+1+1 == a.size)=true then pure (SE (some (md a b (out.push z) (i+1) j),out.push z,i+1,j,ca+1,0))
   else if ca+1>=mg then pure (SE (none,out.push z,i+1,j,ca+1,0))else pure (SS (none,out.push z,i+1,j,ca+1,0))
def oLo(a b:Array Su)(c:OS):StateT Sz Sem (ForInStep OS):=do
 let r <-forIn [0:a.size+b.size] ((none,c.2.1,c.2.2.1,c.2.2.2.1,0,0):FS) λ_ d=>f1 a b d.2.1 d.2.2.1 d.2.2.2.1 d.2.2.2.2.1 d.2.2.2.2.2 c.2.2.2.2
 match r.1 with
 |some q=>pure (SE (some q,r.2.1,r.2.2.1,r.2.2.2.1,c.2.2.2.2))
 |none=>do
  liftM (rule "list.sort.gallop")
  let e <-forIn [0:a.size+b.size] ((none,r.2.1,r.2.2.1,r.2.2.2.1,c.2.2.2.2+1,r.2.2.2.2.1,r.2.2.2.2.2):GS) λ_ d=>
   if d.2.2.2.2.1 > 1 then g1 a b d.2.1 d.2.2.1 d.2.2.2.1 (d.2.2.2.2.1-1) d.2.2.2.2.2.1 d.2.2.2.2.2.2 else g1 a b d.2.1 d.2.2.1 d.2.2.2.1 d.2.2.2.2.1 d.2.2.2.2.2.1 d.2.2.2.2.2.2
  match e.1 with
  |some q=>pure (SE (some q,e.2.1,e.2.2.1,e.2.2.2.1,e.2.2.2.2.1))
  |none=>do
   setG (e.2.2.2.2.1+1)
   pure (SS (none,e.2.1,e.2.2.1,e.2.2.2.1,e.2.2.2.2.1+1))
set_option maxHeartbeats 2000000 in
theorem Fi(a b:Array Su):mLo a b=(do
  liftM (rule "list.sort.merge-lo")
  let y <-Tn b 0
  if(1 == b.size)=true then pure (dn a b #[y] 0 1)
  else if(0+1 == a.size)=true then pure (md a b #[y] 0 1)
  else do
   let st <-get
   let r <-forIn [0:a.size+b.size] ((none,#[y],0,1,V1 st):OS) λ_ c=>oLo a b c
   match r.1 with
   |some q=>pure q
   |none=>liftM (unsupported "internal:list.sort.merge-bound":Sem (Array Su))):=by
 rw[Io];unfold oLo;refine congrArg (bind _) (funext λ_=>?_);refine congrArg (bind _) (funext λy=>?_);refine ite_congr rfl (λ_=>rfl) (λ_=>?_);refine ite_congr rfl (λ_=>rfl) (λ_=>?_);refine congrArg (bind _) (funext λst=>?_);refine congr (congrArg bind (congrArg (forIn _ _) (funext λ_=>funext λc=>?_))) ?_
 ·refine congr (congrArg bind (congrArg (forIn _ _) (funext λ_=>funext λd=>?_))) ?_
  ·unfold f1
   rfl
  funext r;obtain⟨r1,r2⟩:=r;cases r1 with
  |some q=>rfl
  |none=>
   refine congrArg (bind _) (funext λ_=>?_);refine congr (congrArg bind (congrArg (forIn _ _) (funext λ_=>funext λd=>?_))) ?_
   ·
    unfold g1;refine ite_congr rfl (λ_=>?_) (λ_=>?_)
    all_goals
     refine congrArg (bind _) (funext λ_=>?_);refine congrArg (bind _) (funext λy=>?_);refine congrArg (bind _) (funext λr=>?_);cases r with
     |none=>rfl
     |some k=>
      refine ite_congr rfl (λ_=>?_) (λ_=>?_)
      ·refine ite_congr rfl (λ_=>rfl) (λ_=>?_);refine ite_congr rfl (λ_=>rfl) (λ_=>?_);unfold g2
       rfl
      unfold g2
      rfl
   funext e;obtain⟨e1,e2⟩:=e;cases e1 <;> rfl
 funext e;obtain⟨e1,e2⟩:=e;cases e1 <;> rfl
noncomputable def hG(M:UC)(A:SW)(E:Sl->So->Prop)(s:So)(kd:TQ)(rk:Su->Nat)(S:Su->Prop):Prop:=
 ∀(x y:Su) (st:Sz) (Q:Option Bool->Sz->Prop),S x->S y->kindOf st=kd->Q (some (decide (rk x<rk y))) st->wpS M A E s (lt' x y) Q st
structure Keep (st am:Sz):Prop where
 k:kindOf am=kindOf st
 a:Sv am=Sv st
 p:SM am=SM st
 f:Tc am=Tc st
theorem Keep.gQ :Keep st st:=⟨rfl,rfl,rfl,rfl⟩
theorem Keep.g {st am:Sz}(h:Keep st am)(g:Nat):Keep st (T6 (kindOf am) (Sv am) (SM am) g (Tc am)):=⟨h.k,h.a,h.p,h.f⟩
variable {a b:List Su}{i j:Nat}{y:Su}
section
variable{rk:Su->Nat}
abbrev Srt(rk:Su->Nat)(l:List Su):Prop:=l.Pairwise λx y=>rk x<=rk y
structure MS (rk:Su->Nat) (a b out:List Su) (i j:Nat):Prop where
 perm:out.Perm (a.take i++b.take j)
 srt:Srt rk out
 le:∀x∈out,(∀y∈a.drop i,rk x<=rk y)/\∀y∈b.drop j,rk x<=rk y
noncomputable def Res(rk:Su->Nat)(a b r:List Su):Prop:=r.Perm (a++b)/\Srt rk r
theorem MS.uS {out:List Su}{k:Nat}(h:MS rk a b out i j)(sa:Srt rk a)(hc:∀y∈(a.drop i).take k,∀z∈b.drop j,rk y<=rk z):MS rk a b (out++(a.drop i).take k) (i+k) j:=by
 have sd:Srt rk (a.drop i):=Nr (OF _ _) sa;have split:a.drop i=(a.drop i).take k++a.drop (i+k):=by rw[<-O'];exact(J_ k (a.drop i)).symm
 refine⟨?_,?_,λx hx=>?_⟩
 ·rw[Qn];refine(h.perm.append_right _).trans ?_;rw[g_,g_];exact Ng _ Nh
 ·refine J'.mpr ⟨h.srt,Nr (OE _ _) sd,λx hx y hy=>(h.le x hx).1 y (Nk hy)⟩
 rcases C_.mp hx with hx|hx
 ·refine⟨λy hy=>(h.le x hx).1 y ?_,(h.le x hx).2⟩;rw[split];exact q_ _ hy
 refine⟨λy hy=>?_,hc x hx⟩;rw[split]at sd;exact(J'.mp sd).2.2 x hx y hy
theorem MS.vH {out:List Su}{k:Nat}(h:MS rk a b out i j)(sb:Srt rk b)(hc:∀y∈(b.drop j).take k,∀z∈a.drop i,rk y<=rk z):MS rk a b (out++(b.drop j).take k) i (j+k):=by
 have sd:Srt rk (b.drop j):=Nr (OF _ _) sb;have split:b.drop j=(b.drop j).take k++b.drop (j+k):=by rw[<-O'];exact(J_ k (b.drop j)).symm
 refine⟨?_,?_,λx hx=>?_⟩
 ·rw[Qn,<-g_];exact h.perm.append_right _
 ·refine J'.mpr ⟨h.srt,Nr (OE _ _) sd,λx hx y hy=>(h.le x hx).2 y (Nk hy)⟩
 rcases C_.mp hx with hx|hx
 ·refine⟨(h.le x hx).1,λy hy=>(h.le x hx).2 y ?_⟩;rw[split];exact q_ _ hy
 refine⟨hc x hx,λy hy=>?_⟩;rw[split]at sd;exact(J'.mp sd).2.2 x hx y hy
theorem MS.all {out:List Su}(h:MS rk a b out i j)(h1:a.length<=i)(h2:b.length<=j):Res rk a b out:=by have:=h.perm;rw[Nw h1,Nw h2]at this;exact⟨this,h.srt⟩
theorem nJ{l:List Su}(i:Nat):(l.drop i).take l.length=l.drop i:=Nw (by rw[o_];lia)
theorem MS.done {out:List Su}(h:MS rk a b out i j)(sa:Srt rk a)(sb:Srt rk b)(e:a.length<=i\/b.length<=j):Res rk a b (out++a.drop i++b.drop j):=by
 have h1:=h.uS (k:=a.length) sa λy hy z hz=>by
  rcases e with e|e
  ·rw[NP e]at hy;simp at hy
  rw[NP e]at hz;simp at hz
 have h2:=h1.vH (k:=b.length) sb λy hy z hz=>by rw[NP (by lia)]at hz;simp at hz
 rw[nJ,nJ]at h2;exact h2.all (by lia) (by lia)
theorem MS.last {out:List Su}(h:MS rk a b out i j)(sa:Srt rk a)(sb:Srt rk b)(e:∀y∈b.drop j,∀z∈a.drop i,rk y<=rk z):Res rk a b (out++b.drop j++a.drop i):=by
 have h1:=h.vH (k:=b.length) sb λy hy z hz=>e y (Nk hy) z hz;have h2:=h1.uS (k:=a.length) sa λy hy z hz=>by rw[NP (by lia)]at hz;simp at hz
 rw[nJ,nJ]at h2;exact h2.all (by lia) (by lia)
theorem qe(a:Array Su)(i:Nat):(a.extract i a.size).toList=a.toList.drop i:=by rw[OM,Oj];exact Nw (by rw[o_,l_];exact e_ _)
theorem nq(a:Array Su)(i k:Nat):(a.extract i (i+k)).toList=(a.toList.drop i).take k:=by rw[OM,Oj,N7]
theorem drop_one{l:List Su}(h:l[i]?=some y):(l.drop i).take 1=[y]:=by obtain⟨hl,e⟩:=gV.mp h;rw[Ol hl,List.take_succ_cons,Q1,e]
theorem wg{l:List Su}(h:l[i]?=some y)(s:Srt rk l):∀z∈l.drop i,rk y<=rk z:=by
 obtain⟨hl,e⟩:=gV.mp h;intro z hz;have sd:Srt rk (l.drop i):=Nr (OF _ _) s;rw[Ol hl,e]at sd hz;rcases n_.mp hz with rfl|hz
 ·exact e_ _
 exact(M_.mp sd).1 z hz
theorem rm{l:List Su}(s:Srt rk l){x:Su}(jp:i<=j)(hx:l[i]?=some x)(hy:l[j]?=some y):rk x<=rk y:=by refine wg hx s y ?_;rw[Od];exact⟨j-i,by rw[Nd,show i+(j-i)=j by lia];exact hy⟩
theorem iD{l:List Su}{k:Nat}(h:y∈(l.drop i).take k):∃j,j<k/\l[i+j]?=some y:=by
 obtain⟨j,hj⟩:=Od.mp h;rw[Oz]at hj;split at hj
 ·next kw=>exact⟨j,kw,by rw[Nd]at hj;exact hj⟩
 cases hj
theorem lG{l:List Su}(h:y∈l.drop i):∃j,l[i+j]?=some y:=by obtain⟨j,hj⟩:=Od.mp h;exact⟨j,by rw[Nd]at hj;exact hj⟩
end
variable {p:Su}
section
variable{M:UC}{A:SW}{E:Sl->So->Prop}{s:So}{kd:TQ}{rk:Su->Nat}{S:Su->Prop}
theorem bY{Q:Su->Sz->Prop}(h:ar[i]?=some p)(q:Q p st):wpS M A E s (Tn ar i) Q st:=by rw[elem'_eq,h];exact SH q
theorem J9{Q:Option Bool->Sz->Prop}(L:hG M A E s kd rk S)(hk:kindOf st=kd)(hp:ar[b0+i]?=some p)(Sp:S p)(Sk:S ky)
  (q:Q (some (if lf=true then decide (rk p<rk ky)else !decide (rk ky<rk p))) st):wpS M A E s (bey lf ky ar b0 i) Q st:=by
 unfold bey;refine Sy (bY hp ?_);cases lf with
 |true=>exact L p ky st _ Sp Sk hk q
 |false=>exact Sy (L ky p st _ Sk Sp hk (SH q))
theorem lR{h0:Nat}(L:hG M A E s kd rk S)(hk:kindOf st=kd)(hh:h0<n)(hsz:b0+n<=ar.size)(Sa:∀(i:Nat) p,ar[i]?=some p->S p)(Sk:S ky)
  (srt:∀(i j:Nat) p q,i<=j->j<n->ar[b0+i]?=some p->ar[b0+j]?=some q->rk p<=rk q)
  (h:∀k,k<=n->(∀(i:Nat) p,i<k->ar[b0+i]?=some p->if lf=true then rk p<rk ky else rk p<=rk ky)->(∀(i:Nat) p,k<=i->i<n->ar[b0+i]?=some p->if lf=true then rk ky<=rk p else rk ky<rk p)->Q (some k) st) :
  wpS M A E s (gal lf ky ar b0 n h0) Q st:=by
 have get:∀i,i<n->ar[b0+i]?=some (ar.getD (b0+i) (Tq,Tq)):=λi hi=>by
  rw[Array.getD_eq_getD_getElem?,y_ (by lia)]
  rfl
 refine IA (bd:=λi=>if lf=true then decide (rk (ar.getD (b0+i) (Tq,Tq))<rk ky)else !decide (rk ky<rk (ar.getD (b0+i) (Tq,Tq)))) hh (λi R hi r=>J9 L hk (get i hi) (Sa _ _ (get i hi)) Sk r) ?_ ?_
 ·intro i j jp hj hb;have:=srt i j _ _ jp hj (get i (by lia)) (get j hj);cases lf with
  |true=>
   simp only[if_true,decide_eq_true_eq]at hb ⊢;lia
  |false=>
   simp only[MZ,if_false,Qr,decide_eq_false_iff_not]at hb ⊢;lia
 intro k hk' h1 h2;refine h k hk' (λi p hi hp=>?_) (λi p h3 h4 hp=>?_)
 ·have e:=get i (by lia);rw[hp]at e;cases e;have:=h1 i hi;cases lf with
  |true=>simpa using this
  |false=>simpa using this
 have e:=get i h4;rw[hp]at e;cases e;have:=h2 i h3 h4;cases lf with
 |true=>simpa using this
 |false=>simpa using this
theorem qd{g:Nat}{Q:Unit->Sz->Prop}(q:Q () (T6 (kindOf st) (Sv st) (SM st) g (Tc st))):wpS M A E s (setG g) Q st:=U4 q
end
variable {ca cb lo mg:Nat}{out:Array Su}{am:Sz}
section
variable{M:UC}{A:SW}{E:Sl->So->Prop}{s:So}{kd:TQ}{rk:Su->Nat}{S:Su->Prop}{a b:Array Su}
structure LoOk (rk:Su->Nat) (S:Su->Prop) (a b:Array Su):Prop where
 sa:Srt rk a.toList
 sb:Srt rk b.toList
 Sa:∀(i:Nat) p,a[i]?=some p->S p
 Sb:∀(i:Nat) p,b[i]?=some p->S p
 pa:0<a.size
 pb:0<b.size
 first:∀p,b[0]?=some p->∀z∈a.toList,rk p<=rk z
 last:∀p,a[a.size-1]?=some p->∀z∈b.toList,rk z<=rk p
theorem LoOk.qB (h:LoOk rk S a b)(m:MS rk a.toList b.toList out.toList i j)(e:i+1=a.size):Res rk a.toList b.toList (md a b out i j).toList:=by
 unfold md;rw[M',M',qe,qe];refine m.last h.sa h.sb λy hy z hz=>?_;obtain⟨k,hk⟩:=lG hz;have hk':i+k<a.toList.length:=(gV.mp hk).1;rw[l_]at hk';have k0:k=0:=by lia
 subst k0;refine h.last z ?_ y (Nt hy);rw[<-k_,show a.size-1=i+0 by lia];exact hk
theorem LoOk.nr (h:LoOk rk S a b)(m:MS rk a.toList b.toList out.toList i j)(e:a.size<=i\/b.size<=j):Res rk a.toList b.toList (dn a b out i j).toList:=by unfold dn;rw[M',M',qe,qe];exact m.done h.sa h.sb (by rw[l_,l_];exact e)
structure LI (rk:Su->Nat) (a b out:Array Su) (i j:Nat):Prop where
 m:MS rk a.toList b.toList out.toList i j
 i:i+1<a.size
 j:j<b.size
theorem MS.pz (m:MS rk a.toList b.toList out.toList i j)(H:LoOk rk S a b)(hy:b[j]?=some y)(hc:∀z∈a.toList.drop i,rk y<=rk z):MS rk a.toList b.toList (out.push y).toList i (j+1):=by
 have hy':b.toList[j]?=some y:=by rw[k_];exact hy
 have:=m.vH (k:=1) H.sb (by rw[drop_one hy'];intro w hw;rw[x_.mp hw];exact hc);rw[drop_one hy']at this;rw[OG];exact this
theorem MS.oM (m:MS rk a.toList b.toList out.toList i j)(H:LoOk rk S a b)(hy:a[i]?=some y)(hc:∀z∈b.toList.drop j,rk y<=rk z):MS rk a.toList b.toList (out.push y).toList (i+1) j:=by
 have hy':a.toList[i]?=some y:=by rw[k_];exact hy
 have:=m.uS (k:=1) H.sa (by rw[drop_one hy'];intro w hw;rw[x_.mp hw];exact hc);rw[drop_one hy']at this;rw[OG];exact this
theorem nZ{l:Array Su}(srt:Srt rk l.toList)(hy:l[i]?=some y):∀z∈l.toList.drop i,rk y<=rk z:=wg (by rw[k_];exact hy) srt
def kl(rk:Su->Nat)(a b:Array Su)(lo:Nat)(st:Sz)(r:Option (Array Su))(out:Array Su)(i j:Nat)(am:Sz):Prop:=
 Keep st am/\match r with
 |some q=>Res rk a.toList b.toList q.toList
 |none=>LI rk a b out i j/\lo<i+j
theorem KG{Q:ForInStep FS->Sz->Prop}(L:hG M A E s kd rk S)(H:LoOk rk S a b)(hk:kindOf st=kd)(K:Keep st am)(I:LI rk a b out i j)
  (h:∀(d:Bool) (c:FS),kl rk a b (i+j) st c.1 c.2.1 c.2.2.1 c.2.2.2.1 am->(d=false->c.1=none)->Q (if d=true then SE c else SS c) am):wpS M A E s (f1 a b out i j ca cb mg) Q am:=by
 have hi:i<a.size:=by have:=I.i;lia
 obtain⟨y,hy⟩:∃y,b[j]?=some y:=⟨_,y_ I.j⟩;obtain⟨z,hz⟩:∃z,a[i]?=some z:=⟨_,y_ hi⟩;unfold f1;refine Sy (bY hy (Sy (bY hz (Sy (L y z am _ (H.Sb _ _ hy) (H.Sa _ _ hz) (K.k.trans hk) ?_)))));dsimp only;by_cases w:rk y<rk z
 ·rw[decide_eq_true w,if_pos rfl];have m:=I.m.pz H hy λu hu=>r_ (K' w) (nZ H.sa hz u hu);refine Sy (bY hy ?_);by_cases e:j+1=b.size
  ·rw[if_pos (by rw[e];exact beq_self_eq_true _)];exact SH (h true _ ⟨K,H.nr m (.inr (by lia))⟩ (λz=>nomatch z))
  rw[if_neg (by simpa using e)];have I2:LI rk a b (out.push y) i (j+1):=⟨m,I.i,by have:=I.j;lia⟩;split
  ·exact SH (h true _ ⟨K,I2,by dsimp only;lia⟩ (λz=>nomatch z))
  exact SH (h false _ ⟨K,I2,by dsimp only;lia⟩ (λ_=>rfl))
 rw[decide_eq_false w,if_neg (by simp)];have m:=I.m.oM H hz λu hu=>r_ (by lia) (nZ H.sb hy u hu)
 refine Sy (bY hz ?_);by_cases e:i+1+1=a.size
 ·rw[if_pos (by rw[e];exact beq_self_eq_true _)];exact SH (h true _ ⟨K,H.qB m e⟩ (λz=>nomatch z))
 rw[if_neg (by simpa using e)];have I2:LI rk a b (out.push z) (i+1) j:=⟨m,by have:=I.i;lia,I.j⟩;split
 ·exact SH (h true _ ⟨K,I2,by dsimp only;lia⟩ (λz=>nomatch z))
 exact SH (h false _ ⟨K,I2,by dsimp only;lia⟩ (λ_=>rfl))
theorem Gz{Q:ForInStep GS->Sz->Prop}(H:LoOk rk S a b)(K:Keep st am)(I:LI rk a b out i j)(hc:∀z,a[i]?=some z->∀u∈b.toList.drop j,rk z<=rk u)(hl:lo<=i+j)
  (h:∀(d:Bool) (c:GS),kl rk a b lo st c.1 c.2.1 c.2.2.1 c.2.2.2.1 am->(d=false->c.1=none)->Q (if d=true then SE c else SS c) am):wpS M A E s (g3 a b out i j mg ca cb) Q am:=by
 have hi:i<a.size:=by have:=I.i;lia
 obtain⟨z,hz⟩:∃z,a[i]?=some z:=⟨_,y_ hi⟩;unfold g3;have m:=I.m.oM H hz (hc z hz);refine Sy (bY hz ?_);by_cases e:i+1+1=a.size
 ·rw[if_pos (by rw[e];exact beq_self_eq_true _)];exact SH (h true _ ⟨K,H.qB m e⟩ (λz=>nomatch z))
 rw[if_neg (by simpa using e)];have I2:LI rk a b (out.push z) (i+1) j:=⟨m,by have:=I.i;lia,I.j⟩;split
 ·exact SH (h true _ ⟨K,I2,by dsimp only;lia⟩ (λz=>nomatch z))
 exact SH (h false _ ⟨K,I2,by dsimp only;lia⟩ (λ_=>rfl))
theorem GJ{Q:ForInStep GS->Sz->Prop}(L:hG M A E s kd rk S)(H:LoOk rk S a b)(hk:kindOf st=kd)(K:Keep st am)(I:LI rk a b out i j)(hc:∀y,b[j]?=some y->∀u∈a.toList.drop i,rk y<=rk u)(hl:lo<=i+j)
  (h:∀(d:Bool) (c:GS),kl rk a b lo st c.1 c.2.1 c.2.2.1 c.2.2.2.1 am->(d=false->c.1=none)->Q (if d=true then SE c else SS c) am):wpS M A E s (g2 a b out i j mg ca cb) Q am:=by
 have hi:i<a.size:=by have:=I.i;lia
 obtain⟨y,hy⟩:∃y,b[j]?=some y:=⟨_,y_ I.j⟩;obtain⟨z,hz⟩:∃z,a[i]?=some z:=⟨_,y_ hi⟩;unfold g2;have m:=I.m.pz H hy (hc y hy);refine Sy (bY hy ?_);by_cases e:j+1=b.size
 ·rw[if_pos (by rw[e];exact beq_self_eq_true _)];exact SH (h true _ ⟨K,H.nr m (.inr (by lia))⟩ (λz=>nomatch z))
 rw[if_neg (by simpa using e)];have hj:j+1<b.size:=by have:=I.j;lia
 refine Sy (bY hz (Sy (lR L (K.k.trans hk) (by lia) (by lia) H.Sb (H.Sa _ _ hz) (λp q x w h1 h2 h3 h4=>rm H.sb (i:=j+1+p) (j:=j+1+q) (by(clear h4 h3 h2 hj e m hz hy hi h hl hc I K hk H L;lia)) (by rw[k_];exact h3) (by rw[k_];exact h4)) λk k1 k2 k3=>?_)));dsimp only;have after:∀u∈b.toList.drop (j+1+k),rk z<=rk u:=λu hu=>by obtain⟨p,hp⟩:=lG hu;rw[k_]at hp;have kw:j+1+k+p<b.size:=(Qo.mp hp).1;have:=k3 (k+p) u (by lia) (by(clear hp hu k3 k2 k1 hj e m hz hy hi h hl hc I K hk H L;lia)) (by rw[show j+1+(k+p)=j+1+k+p by(clear kw hp hu k3 k2 k1 hj e m hz hy hi h hl hc I K hk H L;lia)];exact hp);simpa using this
 by_cases pk:k > 0
 ·rw[if_pos pk];have m2:MS rk a.toList b.toList (out.push y++b.extract (j+1) (j+1+k)).toList i (j+1+k):=by rw[M',nq];refine m.vH H.sb λu hu w hw=>?_;obtain⟨p,hp1,hp⟩:=iD hu;rw[k_]at hp;have:=k2 p u hp1 hp;simp only[if_true]at this;exact r_ (K' this) (nZ H.sa hz w hw)
  by_cases e2:j+1+k=b.size
  ·rw[if_pos (by rw[e2];exact beq_self_eq_true _)];exact SH (h true _ ⟨K,H.nr m2 (.inr (by(clear m2 pk after k3 k2 k1 hj e m hz hy hi h hl hc I K hk H L;lia)))⟩ (λz=>nomatch z))
  rw[if_neg (by simpa using e2)];refine Gz H K ⟨m2,I.i,by(clear m2 after k3 k2 hj e m hz hy hi h hl hc I K hk H L;lia)⟩ (λz' hz'=>?_) (by(clear e2 m2 pk after k3 k2 k1 hj e m hz hy hi h hc I K hk H L;lia)) h;rw[hz]at hz';cases hz';exact after
 rw[if_neg pk];have k0:k=0:=by lia
 subst k0;refine Gz H K ⟨m,I.i,by(clear pk after k3 k2 k1 e m hz hy hi h hl hc I K hk H L;omega)⟩ (λz' hz'=>?_) (by lia) h;rw[hz]at hz';cases hz';exact after
theorem LX{Q:ForInStep GS->Sz->Prop}(L:hG M A E s kd rk S)(H:LoOk rk S a b)(hk:kindOf st=kd)(K:Keep st am)(I:LI rk a b out i j)
  (h:∀(d:Bool) (c:GS) (ii:Sz),kl rk a b (i+j) st c.1 c.2.1 c.2.2.1 c.2.2.2.1 ii->(d=false->c.1=none)->Q (if d=true then SE c else SS c) ii):wpS M A E s (g1 a b out i j mg ca cb) Q am:=by
 have hi:i<a.size:=by have:=I.i;lia
 obtain⟨y,hy⟩:∃y,b[j]?=some y:=⟨_,y_ I.j⟩;unfold g1;refine Sy (qd (Sy (bY hy ?_)));have K2:=K.g mg;revert K2;generalize T6 (kindOf am) (Sv am) (SM am) mg (Tc am)=ii;intro K2;refine Sy (lR L (K2.k.trans hk) (by lia) (by lia) H.Sa (H.Sb _ _ hy) (λp q x w h1 h2 h3 h4=>rm H.sa (i:=i+p) (j:=i+q) (by lia) (by rw[k_];exact h3) (by rw[k_];exact h4)) λk k1 k2 k3=>?_);dsimp only;have after:∀u∈a.toList.drop (i+k),rk y<=rk u:=λu hu=>by obtain⟨p,hp⟩:=lG hu;rw[k_]at hp;have kw:i+k+p<a.size:=(Qo.mp hp).1;have:=k3 (k+p) u (by lia) (by lia) (by rw[show i+(k+p)=i+k+p by lia];exact hp);simp at this;lia
 by_cases pk:k > 0
 ·rw[if_pos pk];have m2:MS rk a.toList b.toList (out++a.extract i (i+k)).toList (i+k) j:=by rw[M',nq];refine I.m.uS H.sa λu hu w hw=>?_;obtain⟨p,hp1,hp⟩:=iD hu;rw[k_]at hp;have:=k2 p u hp1 hp;simp at this;exact r_ this (nZ H.sb hy w hw)
  by_cases e1:i+k+1=a.size
  ·rw[if_pos (by rw[e1];exact beq_self_eq_true _)];exact SH (h true _ _ ⟨K2,H.qB m2 e1⟩ (λz=>nomatch z))
  rw[if_neg (by simpa using e1)];by_cases e2:i+k=a.size
  ·rw[if_pos (by rw[e2];exact beq_self_eq_true _)];exact SH (h true _ _ ⟨K2,H.nr m2 (.inl (by lia))⟩ (λz=>nomatch z))
  rw[if_neg (by simpa using e2)];refine GJ L H hk K2 ⟨m2,by(clear m2 after k3 k2 K2 hy hi h I K hk H L;lia),I.j⟩ (λy' hy'=>?_) (by lia) λd c x1 x2=>h d c _ x1 x2
  rw[hy]at hy';cases hy';exact after
 rw[if_neg pk];have k0:k=0:=by lia
 subst k0;refine GJ L H hk K2 I (λy' hy'=>?_) (e_ _) λd c x1 x2=>h d c _ x1 x2;rw[hy]at hy';cases hy';exact after
theorem HK{Q:Array Su->Sz->Prop}(L:hG M A E s kd rk S)(H:LoOk rk S a b)(hk:kindOf st=kd)(h:∀r am,Keep st am->Res rk a.toList b.toList r.toList->Q r am)(hr:∀x,Sw M A (rule x) (λ_ s'=>s'=s) E s):wpS M A E s (mLo a b) Q st:=by
 rw[Fi];obtain⟨y,hy⟩:∃y,b[0]?=some y:=⟨_,y_ H.pb⟩;have rl:∀{x:String}{R:Unit->Sz->Prop}{am:Sz},R () am->wpS M A E s (liftM (rule x):StateT Sz Sem Unit) R am:=λ{x R am} q=>WA (Tb (hr x) (λ_ _ z=>⟨z,q⟩) λ_ _ z=>z);refine Sy (rl (Sy (bY hy ?_)));have m0:MS rk a.toList b.toList (#[]:Array Su).toList 0 0:=⟨by simp,NH,λx hx=>by simp at hx⟩;have m1:MS rk a.toList b.toList (#[y]:Array Su).toList 0 1:=m0.pz H hy λz hz=>H.first y hy z (by simpa using hz)
 by_cases e1:1=b.size
 ·rw[if_pos (by rw[<-e1];rfl)];exact SH (h _ _ .gQ (H.nr m1 (.inr (by lia))))
 rw[if_neg (by simpa using e1)];by_cases e2:0+1=a.size
 ·rw[if_pos (by rw[<-e2];rfl)];exact SH (h _ _ .gQ (H.qB m1 e2))
 rw[if_neg (by simpa using e2)];refine Sy (UB ?_);have pa:=H.pa;have pb:=H.pb;refine Sy (TB (Te (I:=λx (c:OS) am=>c.1=none/\Keep st am/\LI rk a b c.2.1 c.2.2.1 c.2.2.2.1/\x<c.2.2.1+c.2.2.2.1) (Q:=λ(c:OS) am=>∃q,c.1=some q/\Keep st am/\Res rk a.toList b.toList q.toList) ?_ ?_ ⟨rfl,.gQ,⟨m1,by dsimp only;lia,by dsimp only;lia⟩,by show 0<0+1;lia⟩) ?_)
 ·rintro x ⟨c1,out,i,j,mg⟩ gl _ hx ⟨rfl,K1,I1,px⟩;unfold oLo;dsimp only at I1 px ⊢;refine Sy (TB (Te (I:=λx (c:FS) am=>c.1=none/\Keep st am/\LI rk a b c.2.1 c.2.2.1 c.2.2.2.1/\i+j+x<=c.2.2.1+c.2.2.2.1) (Q:=λ(c:FS) am=>kl rk a b (i+j) st c.1 c.2.1 c.2.2.1 c.2.2.2.1 am) ?_ ?_ ⟨rfl,K1,I1,e_ _⟩) ?_)
  ·rintro x2 ⟨d1,out2,i2,j2,ca,cb⟩ ii _ hx2 ⟨rfl,K2,I2,p2⟩;dsimp only at I2 p2 ⊢;refine KG L H hk K2 I2 λd c hs hn=>?_;cases d with
   |true=>
    show kl _ _ _ _ _ _ _ _ _ _;refine⟨hs.1,?_⟩;have h2:=hs.2;cases e:c.1 with
    |some q=>rw[e]at h2;exact h2
    |none=>rw[e]at h2;exact⟨h2.1,by have:=h2.2;(clear e h2 hn hs I2 K2 hx2 px I1 K1 hx pb pa e2 e1 m1 m0 rl hy hr h hk H L;lia)⟩
   |false=>
    have h2:=hs.2;rw[hn rfl]at h2;exact⟨hn rfl,hs.1,h2.1,by have:=h2.2;(clear h2 hn hs I2 K2 hx2 px I1 K1 hx pb pa e2 e1 m1 m0 rl hy hr h hk H L;lia)⟩
  ·rintro⟨c1,out2,i2,j2,ca,cb⟩ ii ⟨rfl,K2,I2,p2⟩;dsimp only at I2 p2 ⊢;have:=I2.i;have:=I2.j
   (clear I2 K2 px I1 K1 hx pb pa e2 e1 m1 m0 rl hy hr h hk H L;lia)
  rintro⟨c1,out2,i2,j2,ca,cb⟩ ii ⟨K2,h2⟩;cases c1 with
  |some q=>exact SH ⟨q,rfl,K2,h2⟩
  |none=>
   obtain⟨I2,p2⟩:=h2;dsimp only at I2 p2 ⊢;refine Sy (rl ?_);refine Sy (TB (Te (I:=λ_ (c:GS) am=>c.1=none/\Keep st am/\LI rk a b c.2.1 c.2.2.1 c.2.2.2.1/\i+j<c.2.2.1+c.2.2.2.1) (Q:=λ(c:GS) am=>kl rk a b (i+j) st c.1 c.2.1 c.2.2.1 c.2.2.2.1 am) ?_ ?_ ⟨rfl,K2,I2,p2⟩) ?_)
   ·rintro x3 ⟨d1,out3,i3,j3,mg3,ca3,cb3⟩ im _ hx3 ⟨rfl,K3,I3,p3⟩;dsimp only at I3 p3 ⊢;have go:∀mg',wpS M A E s (g1 a b out3 i3 j3 mg' ca3 cb3) (λr am=>match r with | .done c'=>kl rk a b (i+j) st c'.1 c'.2.1 c'.2.2.1 c'.2.2.2.1 am | .yield c'=>c'.1=none/\Keep st am/\LI rk a b c'.2.1 c'.2.2.1 c'.2.2.2.1/\i+j<c'.2.2.1+c'.2.2.2.1) im:=λmg'=>by
     refine LX L H hk K3 I3 λd c st4 hs hn=>?_;cases d with
     |true=>
      show kl _ _ _ _ _ _ _ _ _ _;refine⟨hs.1,?_⟩;have h2:=hs.2;cases e:c.1 with
      |some q=>rw[e]at h2;exact h2
      |none=>rw[e]at h2;exact⟨h2.1,by have:=h2.2;(clear e h2 hn hs I3 K3 hx3 p2 I2 K2 px I1 K1 hx pb pa e2 e1 m1 m0 rl hy hr h hk H L;lia)⟩
     |false=>
      have h2:=hs.2;rw[hn rfl]at h2;exact⟨hn rfl,hs.1,h2.1,by have:=h2.2;(clear h2 hn hs I3 K3 hx3 p2 I2 K2 px I1 K1 hx pb pa e2 e1 m1 m0 rl hy hr h hk H L;lia)⟩
    split
    ·exact TB (go _) λr am h=>by cases r <;> exact h
    exact TB (go _) λr am h=>by cases r <;> exact h
   ·rintro⟨c1,out3,i3,j3,mg3,ca3,cb3⟩ im ⟨rfl,K3,I3,p3⟩;exact⟨K3,I3,p3⟩
   rintro⟨c1,out3,i3,j3,mg3,ca3,cb3⟩ im ⟨K3,h3⟩;cases c1 with
   |some q=>exact SH ⟨q,rfl,K3,h3⟩
   |none=>
    obtain⟨I3,p3⟩:=h3;refine Sy (qd (SH ⟨rfl,K3.g _,I3,?_⟩));dsimp only at p3 ⊢;lia
 ·rintro⟨c1,out,i,j,mg⟩ gl ⟨rfl,K1,I1,px⟩;have h1:=I1.i;have h2:=I1.j;dsimp only at h1 h2 px
  (clear I1 K1 pb pa e2 e1 m1 m0 rl hy hr h hk H L;lia)
 rintro⟨c1,out,i,j,mg⟩ gl ⟨q,e,K1,r⟩;dsimp only at e;subst e;exact SH (h q gl K1 r)
end
noncomputable def dnH(a b out:Array Su)(i j:Nat):Array Su:=a.extract 0 i++b.extract 0 j++out.reverse
noncomputable def jk(a b out:Array Su)(i j:Nat):Array Su:=b.extract 0 j++a.extract 0 i++out.reverse
theorem IE(a b:Array Su):mHi a b=(do
 rule "list.sort.merge-hi"
 let mut i:=a.size-1
 let mut j:=b.size
 let mut out:Array Su:=#[<-Tn a i]
 if i == 0 then return dnH a b out i j
 if j == 1 then return jk a b out i j
 let mut mg:=V1 (<-get)
 for _ in [0:a.size+b.size]do
  let mut ca:=0
  let mut cb:=0
  for _ in [0:a.size+b.size]do
   let some aw <-lt' (<-Tn b (j-1)) (<-Tn a (i-1)) | return dnH a b out i j
   if aw then
    i:=i-1;out:=out.push (<-Tn a i);ca:=ca+1;cb:=0
    if i == 0 then return dnH a b out i j
    if ca>=mg then break
   else
    j:=j-1;out:=out.push (<-Tn b j);cb:=cb+1;ca:=0
    if j == 1 then return jk a b out i j
    if cb>=mg then break
  rule "list.sort.gallop"
  mg:=mg+1
  for _ in [0:a.size+b.size]do
   if mg > 1 then mg:=mg-1
   setG mg
   let some at' <-gal false (<-Tn b (j-1)) a 0 i (i-1) | return dnH a b out i j
   let k:=i-at'
   ca:=k
   if k > 0 then
    out:=out++(a.extract at' i).reverse;i:=at'
    if i == 0 then return dnH a b out i j
   j:=j-1;out:=out.push (<-Tn b j)
   if j == 1 then return jk a b out i j
   let some at' <-gal true (<-Tn a (i-1)) b 0 j (j-1) | return dnH a b out i j
   let k:=j-at'
   cb:=k
   if k > 0 then
    out:=out++(b.extract at' j).reverse;j:=at'
    if j == 1 then return jk a b out i j
    if j == 0 then return dnH a b out i j
   i:=i-1;out:=out.push (<-Tn a i)
   if i == 0 then return dnH a b out i j
   if ca<7&&cb<7 then break
  mg:=mg+1
  setG mg
 unsupported "internal:list.sort.merge-bound"):=rfl
abbrev GT:=Option (Array Su)×Nat×Nat×Array Su×Nat×Nat×Nat
abbrev FT:=Option (Array Su)×Nat×Nat×Array Su×Nat×Nat
abbrev OT:=Option (Array Su)×Nat×Nat×Array Su×Nat
def k3(a b out:Array Su)(i j mg ca cb:Nat):StateT Sz Sem (ForInStep GT):=do
 let y <-Tn a (i-1)
 if(i-1 == 0)=true then pure (SE (some (dnH a b (out.push y) (i-1) j),i-1,j,out.push y,mg,ca,cb))
 else if(decide (ca<7)&&decide (cb<7))=true then pure (SE (none,i-1,j,out.push y,mg,ca,cb))
 else pure (SS (none,i-1,j,out.push y,mg,ca,cb))
def k2(a b out:Array Su)(i j mg ca cb:Nat):StateT Sz Sem (ForInStep GT):=do
 let y <-Tn b (j-1)
 if(j-1 == 1)=true then pure (SE (some (jk a b (out.push y) i (j-1)),i,j-1,out.push y,mg,ca,cb))
 else do
  let z <-Tn a (i-1)
  let some at' <-gal true z b 0 (j-1) (j-1-1) | pure (SE (some (dnH a b (out.push y) i (j-1)),i,j-1,out.push y,mg,ca,cb))
  if j-1-at' > 0 then
    if(at' == 1)=true then pure (SE (some (jk a b (out.push y++(b.extract at' (j-1)).reverse) i at'),i,at',out.push y++(b.extract at' (j-1)).reverse,mg,ca,j-1-at'))
    else if(at' == 0)=true then pure (SE (some (dnH a b (out.push y++(b.extract at' (j-1)).reverse) i at'),i,at',out.push y++(b.extract at' (j-1)).reverse,mg,ca,j-1-at'))
    else k3 a b (out.push y++(b.extract at' (j-1)).reverse) i at' mg ca (j-1-at')
  else k3 a b (out.push y) i (j-1) mg ca (j-1-at')
def k1(a b out:Array Su)(i j mg ca cb:Nat):StateT Sz Sem (ForInStep GT):=do
 setG mg
 let y <-Tn b (j-1)
 let some at' <-gal false y a 0 i (i-1) | pure (SE (some (dnH a b out i j),i,j,out,mg,ca,cb))
 if i-at' > 0 then
   if(at' == 0)=true then pure (SE (some (dnH a b (out++(a.extract at' i).reverse) at' j),at',j,out++(a.extract at' i).reverse,mg,i-at',cb))
   else k2 a b (out++(a.extract at' i).reverse) at' j mg (i-at') cb
 else k2 a b out i j mg (i-at') cb
def e1(a b out:Array Su)(i j ca cb mg:Nat):StateT Sz Sem (ForInStep FT):=do
 let y <-Tn b (j-1)
 let z <-Tn a (i-1)
 let some aw <-lt' y z | pure (SE (some (dnH a b out i j),i,j,out,ca,cb))
 if aw=true then do
   let z <-Tn a (i-1)
   if(i-1 == 0)=true then pure (SE (some (dnH a b (out.push z) (i-1) j),i-1,j,out.push z,ca+1,0))
   else if ca+1>=mg then pure (SE (none,i-1,j,out.push z,ca+1,0))else pure (SS (none,i-1,j,out.push z,ca+1,0))
 else do
   let y <-Tn b (j-1)
   if(j-1 == 1)=true then pure (SE (some (jk a b (out.push y) i (j-1)),i,j-1,out.push y,0,cb+1))
   else if cb+1>=mg then pure (SE (none,i,j-1,out.push y,0,cb+1))else pure (SS (none,i,j-1,out.push y,0,cb+1))
def oHi(a b:Array Su)(c:OT):StateT Sz Sem (ForInStep OT):=do
 let r <-forIn [0:a.size+b.size] ((none,c.2.1,c.2.2.1,c.2.2.2.1,0,0):FT) λ_ d=>e1 a b d.2.2.2.1 d.2.1 d.2.2.1 d.2.2.2.2.1 d.2.2.2.2.2 c.2.2.2.2
 match r.1 with
 |some q=>pure (SE (some q,r.2.1,r.2.2.1,r.2.2.2.1,c.2.2.2.2))
 |none=>do
  liftM (rule "list.sort.gallop")
  let e <-forIn [0:a.size+b.size] ((none,r.2.1,r.2.2.1,r.2.2.2.1,c.2.2.2.2+1,r.2.2.2.2.1,r.2.2.2.2.2):GT) λ_ d=>
   if d.2.2.2.2.1 > 1 then k1 a b d.2.2.2.1 d.2.1 d.2.2.1 (d.2.2.2.2.1-1) d.2.2.2.2.2.1 d.2.2.2.2.2.2 else k1 a b d.2.2.2.1 d.2.1 d.2.2.1 d.2.2.2.2.1 d.2.2.2.2.2.1 d.2.2.2.2.2.2
  match e.1 with
  |some q=>pure (SE (some q,e.2.1,e.2.2.1,e.2.2.2.1,e.2.2.2.2.1))
  |none=>do
   setG (e.2.2.2.2.1+1)
   pure (SS (none,e.2.1,e.2.2.1,e.2.2.2.1,e.2.2.2.2.1+1))
set_option maxHeartbeats 2000000 in
theorem Gg(a b:Array Su):mHi a b=(do
  liftM (rule "list.sort.merge-hi")
  let y <-Tn a (a.size-1)
  if(a.size-1 == 0)=true then pure (dnH a b #[y] (a.size-1) b.size)
  else if(b.size == 1)=true then pure (jk a b #[y] (a.size-1) b.size)
  else do
   let st <-get
   let r <-forIn [0:a.size+b.size] ((none,a.size-1,b.size,#[y],V1 st):OT) λ_ c=>oHi a b c
   match r.1 with
   |some q=>pure q
   |none=>liftM (unsupported "internal:list.sort.merge-bound":Sem (Array Su))):=by
 rw[IE];unfold oHi;refine congrArg (bind _) (funext λ_=>?_);refine congrArg (bind _) (funext λy=>?_);refine ite_congr rfl (λ_=>rfl) (λ_=>?_);refine ite_congr rfl (λ_=>rfl) (λ_=>?_);refine congrArg (bind _) (funext λst=>?_);refine congr (congrArg bind (congrArg (forIn _ _) (funext λ_=>funext λc=>?_))) ?_
 ·refine congr (congrArg bind (congrArg (forIn _ _) (funext λ_=>funext λd=>?_))) ?_
  ·unfold e1
   rfl
  funext r;obtain⟨r1,r2⟩:=r;cases r1 with
  |some q=>rfl
  |none=>
   refine congrArg (bind _) (funext λ_=>?_);refine congr (congrArg bind (congrArg (forIn _ _) (funext λ_=>funext λd=>?_))) ?_
   ·unfold k1;refine ite_congr rfl (λ_=>?_) (λ_=>?_)
    all_goals
     refine congrArg (bind _) (funext λ_=>?_);refine congrArg (bind _) (funext λy=>?_);refine congrArg (bind _) (funext λr=>?_);cases r with
     |none=>rfl
     |some k=>
      refine ite_congr rfl (λ_=>?_) (λ_=>?_)
      ·refine ite_congr rfl (λ_=>rfl) (λ_=>?_);unfold k2
       rfl
      unfold k2
      rfl
   funext e;obtain⟨e1,e2⟩:=e;cases e1 <;> rfl
 funext e;obtain⟨e1,e2⟩:=e;cases e1 <;> rfl
variable {o:List Su}{t:Nat}
section
variable{rk:Su->Nat}
structure MH (rk:Su->Nat) (a b o:List Su) (i j:Nat):Prop where
 perm:o.Perm (a.drop i++b.drop j)
 srt:Srt rk o
 le:∀x∈o,(∀y∈a.take i,rk y<=rk x)/\∀y∈b.take j,rk y<=rk x
theorem wz{l:List Su}(h:t<=i):l.drop t=(l.take i).drop t++l.drop i:=by
 by_cases hi:i<=l.length
 ·have e:=J_ i l;have h2:(l.take i++l.drop i).drop t=(l.take i).drop t++l.drop i:=P7 (by rw[p_];lia);rw[e]at h2;exact h2
 rw[Nw (by lia),NP (by lia:l.length<=i),Nb]
theorem nu{l:List Su}(h:t<=i):l.take i=l.take t++(l.take i).drop t:=by have:=J_ t (l.take i);rw[List.take_take,Oc h]at this;exact this.symm
theorem MH.uS (h:MH rk a b o i j)(sa:Srt rk a)(ht:t<=i)(hc:∀y∈(a.take i).drop t,∀z∈b.take j,rk z<=rk y):MH rk a b ((a.take i).drop t++o) t j:=by
 have st:Srt rk (a.take i):=Nr (OE _ _) sa;refine⟨?_,?_,λx hx=>?_⟩
 ·rw[wz (l:=a) ht,g_];exact Ng _ h.perm
 ·exact J'.mpr ⟨Nr (OF _ _) st,h.srt,λx hx y hy=>(h.le y hy).1 x (Nt hx)⟩
 rcases C_.mp hx with hx|hx
 ·refine⟨λy hy=>?_,hc x hx⟩;rw[nu ht]at st;exact(J'.mp st).2.2 y hy x hx
 refine⟨λy hy=>(h.le x hx).1 y ?_,(h.le x hx).2⟩;rw[nu ht];exact MV _ hy
theorem MH.vH (h:MH rk a b o i j)(sb:Srt rk b)(ht:t<=j)(hc:∀y∈(b.take j).drop t,∀z∈a.take i,rk z<=rk y):MH rk a b ((b.take j).drop t++o) i t:=by
 have st:Srt rk (b.take j):=Nr (OE _ _) sb;refine⟨?_,?_,λx hx=>?_⟩
 ·rw[wz (l:=b) ht];refine(Ng _ h.perm).trans ?_;rw[<-g_,<-g_];exact Pm _ Nh
 ·exact J'.mpr ⟨Nr (OF _ _) st,h.srt,λx hx y hy=>(h.le y hy).2 x (Nt hx)⟩
 rcases C_.mp hx with hx|hx
 ·refine⟨hc x hx,λy hy=>?_⟩;rw[nu ht]at st;exact(J'.mp st).2.2 y hy x hx
 refine⟨(h.le x hx).1,λy hy=>(h.le x hx).2 y ?_⟩;rw[nu ht];exact MV _ hy
theorem MH.done (h:MH rk a b o i j)(sa:Srt rk a)(sb:Srt rk b)(e:i=0\/j=0):Res rk a b (a.take i++b.take j++o):=by
 have h1:=h.vH (t:=0) sb (MU _) λy hy z hz=>by
  rcases e with e|e
  ·rw[e]at hz;simp at hz
  rw[e]at hy;simp at hy
 have h2:=h1.uS (t:=0) sa (MU _) λy hy z hz=>by simp at hz
 have p:=h2.perm;have q:=h2.srt;simp only[Pa]at p q;rw[g_];exact⟨p,q⟩
theorem MH.first (h:MH rk a b o i j)(sa:Srt rk a)(sb:Srt rk b)(e:∀y∈a.take i,∀z∈b.take j,rk z<=rk y):Res rk a b (b.take j++a.take i++o):=by
 have h1:=h.uS (t:=0) sa (MU _) λy hy z hz=>e y (by rw[Pa]at hy;exact hy) z hz
 have h2:=h1.vH (t:=0) sb (MU _) λy hy z hz=>by simp at hz
 have p:=h2.perm;have q:=h2.srt;simp only[Pa]at p q;rw[g_];exact⟨p,q⟩
theorem qk(a:Array Su)(i:Nat):(a.extract 0 i).toList=a.toList.take i:=by rw[OM,Oj,Pa,QD]
theorem zi(a:Array Su)(t i:Nat):(a.extract t i).toList=(a.toList.take i).drop t:=by rw[OM,Oj,RQ]
theorem take_one{l:List Su}(h0:0<i)(h:l[i-1]?=some y):(l.take i).drop (i-1)=[y]:=by
 obtain⟨hl,e⟩:=gV.mp h;have:l.take i=l.take (i-1)++[y]:=by
  conv=>lhs;rw[show i=i-1+1 by lia,NN,h]
  rfl
 rw[this,P7 (by rw[p_];omega),NP (by rw[p_];omega)]
 rfl
theorem lS{l:List Su}(h:y∈l.take i):∃j,j<i/\l[j]?=some y:=by
 obtain⟨j,hj⟩:=Od.mp h;rw[Oz]at hj;split at hj
 ·next kw=>exact⟨j,kw,hj⟩
 cases hj
theorem xi{l:List Su}(h:y∈(l.take i).drop t):∃j,t<=j/\j<i/\l[j]?=some y:=by
 obtain⟨j,hj⟩:=lG h;rw[Oz]at hj;split at hj
 ·next kw=>exact⟨t+j,by lia,kw,hj⟩
 cases hj
end
section
variable{M:UC}{A:SW}{E:Sl->So->Prop}{s:So}{kd:TQ}{rk:Su->Nat}{S:Su->Prop}{a b:Array Su}
abbrev MHo(rk:Su->Nat)(a b out:Array Su)(i j:Nat):Prop:=MH rk a.toList b.toList out.toList.reverse i j
theorem LoOk.xb (h:LoOk rk S a b)(m:MHo rk a b out i j)(e:i=0\/j=0):Res rk a.toList b.toList (dnH a b out i j).toList:=by unfold dnH;rw[M',M',qk,qk,ON];exact m.done h.sa h.sb e
theorem LoOk.uQ (h:LoOk rk S a b)(m:MHo rk a b out i j)(e:j=1):Res rk a.toList b.toList (jk a b out i j).toList:=by
 unfold jk;rw[M',M',qk,qk,ON];refine m.first h.sa h.sb λy hy z hz=>?_;subst e;obtain⟨k,hk,hz'⟩:=lS hz;have k0:k=0:=by lia
 subst k0;exact h.first z (by rw[<-k_];exact hz') y (Nk hy)
structure HI (rk:Su->Nat) (a b out:Array Su) (i j:Nat):Prop where
 m:MHo rk a b out i j
 i0:0<i
 j1:1<j
 ia:i<=a.size
 jb:j<=b.size
theorem MH.oM (m:MHo rk a b out i j)(H:LoOk rk S a b)(h0:0<i)(hy:a[i-1]?=some y)(hc:∀z∈b.toList.take j,rk z<=rk y):MHo rk a b (out.push y) (i-1) j:=by
 have hy':a.toList[i-1]?=some y:=by rw[k_];exact hy
 have:=m.uS (t:=i-1) H.sa (by lia) (by rw[take_one h0 hy'];intro w hw;rw[x_.mp hw];exact hc);rw[take_one h0 hy']at this;show MH _ _ _ (out.push y).toList.reverse _ _;rw[OG,OV];exact this
theorem MH.pz (m:MHo rk a b out i j)(H:LoOk rk S a b)(h0:0<j)(hy:b[j-1]?=some y)(hc:∀z∈a.toList.take i,rk z<=rk y):MHo rk a b (out.push y) i (j-1):=by
 have hy':b.toList[j-1]?=some y:=by rw[k_];exact hy
 have:=m.vH (t:=j-1) H.sb (by lia) (by rw[take_one h0 hy'];intro w hw;rw[x_.mp hw];exact hc);rw[take_one h0 hy']at this;show MH _ _ _ (out.push y).toList.reverse _ _;rw[OG,OV];exact this
theorem nV{l:Array Su}(srt:Srt rk l.toList)(hy:l[i-1]?=some y):∀z∈l.toList.take i,rk z<=rk y:=λz hz=>by obtain⟨k,hk,hz'⟩:=lS hz;exact rm srt (i:=k) (j:=i-1) (by lia) hz' (by rw[k_];exact hy)
def nY(rk:Su->Nat)(a b:Array Su)(lo:Nat)(st:Sz)(r:Option (Array Su))(out:Array Su)(i j:Nat)(am:Sz):Prop:=
 Keep st am/\match r with
 |some q=>Res rk a.toList b.toList q.toList
 |none=>HI rk a b out i j/\i+j<lo
theorem HI.get (I:HI rk a b out i j):(∃y,b[j-1]?=some y)/\∃z,a[i-1]?=some z:=
 ⟨⟨_,y_ (v_ (Qu (Qz OB I.j1) OB) I.jb)⟩,⟨_,y_ (v_ (Qu I.i0 OB) I.ia)⟩⟩
theorem Kc{Q:ForInStep FT->Sz->Prop}(L:hG M A E s kd rk S)(H:LoOk rk S a b)(hk:kindOf st=kd)(K:Keep st am)(I:HI rk a b out i j)
  (h:∀(d:Bool) (c:FT),nY rk a b (i+j) st c.1 c.2.2.2.1 c.2.1 c.2.2.1 am->(d=false->c.1=none)->Q (if d=true then SE c else SS c) am):wpS M A E s (e1 a b out i j ca cb mg) Q am:=by
 obtain⟨⟨y,hy⟩,⟨z,hz⟩⟩:=I.get;have i0:=I.i0;have j1:=I.j1;have ia:=I.ia;have jb:=I.jb;unfold e1;refine Sy (bY hy (Sy (bY hz (Sy (L y z am _ (H.Sb _ _ hy) (H.Sa _ _ hz) (K.k.trans hk) ?_)))));dsimp only;by_cases w:rk y<rk z
 ·rw[decide_eq_true w,if_pos rfl];have m:=I.m.oM H i0 hz λu hu=>r_ (nV H.sb hy u hu) (K' w);refine Sy (bY hz ?_);by_cases e:i-1=0
  ·rw[if_pos (by rw[e];rfl)];exact SH (h true _ ⟨K,H.xb m (.inl e)⟩ (λz=>nomatch z))
  rw[if_neg (by simpa using e)];have I2:HI rk a b (out.push z) (i-1) j:=⟨m,Nm e,j1,r_ (NS ..) ia,jb⟩;split
  ·exact SH (h true _ ⟨K,I2,by dsimp only;lia⟩ (λz=>nomatch z))
  exact SH (h false _ ⟨K,I2,by dsimp only;lia⟩ (λ_=>rfl))
 rw[decide_eq_false w,if_neg (by simp)];have m:=I.m.pz H (by lia) hy λu hu=>r_ (nV H.sa hz u hu) (by lia)
 refine Sy (bY hy ?_);by_cases e:j-1=1
 ·rw[if_pos (by rw[e];rfl)];exact SH (h true _ ⟨K,H.uQ m e⟩ (λz=>nomatch z))
 rw[if_neg (by simpa using e)];have I2:HI rk a b (out.push y) i (j-1):=⟨m,i0,by lia,ia,r_ (NS ..) jb⟩;split
 ·exact SH (h true _ ⟨K,I2,by dsimp only;lia⟩ (λz=>nomatch z))
 exact SH (h false _ ⟨K,I2,by dsimp only;lia⟩ (λ_=>rfl))
theorem Hj{Q:ForInStep GT->Sz->Prop}(H:LoOk rk S a b)(K:Keep st am)(I:HI rk a b out i j)(hc:∀z,a[i-1]?=some z->∀u∈b.toList.take j,rk u<=rk z)(hl:i+j<=lo)
  (h:∀(d:Bool) (c:GT),nY rk a b lo st c.1 c.2.2.2.1 c.2.1 c.2.2.1 am->(d=false->c.1=none)->Q (if d=true then SE c else SS c) am):wpS M A E s (k3 a b out i j mg ca cb) Q am:=by
 obtain⟨⟨y,hy⟩,⟨z,hz⟩⟩:=I.get;have i0:=I.i0;have j1:=I.j1;have ia:=I.ia;have jb:=I.jb;unfold k3;have m:=I.m.oM H i0 hz (hc z hz);refine Sy (bY hz ?_);by_cases e:i-1=0
 ·rw[if_pos (by rw[e];rfl)];exact SH (h true _ ⟨K,H.xb m (.inl e)⟩ (λz=>nomatch z))
 rw[if_neg (by simpa using e)];have I2:HI rk a b (out.push z) (i-1) j:=⟨m,Nm e,j1,r_ (NS ..) ia,jb⟩;split
 ·exact SH (h true _ ⟨K,I2,by dsimp only;lia⟩ (λz=>nomatch z))
 exact SH (h false _ ⟨K,I2,by dsimp only;lia⟩ (λ_=>rfl))
theorem MHo.block (m:MHo rk a b out i j)(H:LoOk rk S a b)(ht:t<=j)(hc:∀y∈(b.toList.take j).drop t,∀z∈a.toList.take i,rk z<=rk y):MHo rk a b (out++(b.extract t j).reverse) i t:=by have:=m.vH H.sb ht hc;show MH _ _ _ (out++(b.extract t j).reverse).toList.reverse _ _;rw[M',OV,ON,Q9,zi];exact this
theorem MHo.IY (m:MHo rk a b out i j)(H:LoOk rk S a b)(ht:t<=i)(hc:∀y∈(a.toList.take i).drop t,∀z∈b.toList.take j,rk z<=rk y):MHo rk a b (out++(a.extract t i).reverse) t j:=by have:=m.uS H.sa ht hc;show MH _ _ _ (out++(a.extract t i).reverse).toList.reverse _ _;rw[M',OV,ON,Q9,zi];exact this
theorem GF{Q:ForInStep GT->Sz->Prop}(L:hG M A E s kd rk S)(H:LoOk rk S a b)(hk:kindOf st=kd)(K:Keep st am)(I:HI rk a b out i j)(hc:∀y,b[j-1]?=some y->∀u∈a.toList.take i,rk u<=rk y)(hl:i+j<=lo)
  (h:∀(d:Bool) (c:GT),nY rk a b lo st c.1 c.2.2.2.1 c.2.1 c.2.2.1 am->(d=false->c.1=none)->Q (if d=true then SE c else SS c) am):wpS M A E s (k2 a b out i j mg ca cb) Q am:=by
 obtain⟨⟨y,hy⟩,⟨z,hz⟩⟩:=I.get;have i0:=I.i0;have j1:=I.j1;have ia:=I.ia;have jb:=I.jb;unfold k2;have m:=I.m.pz H (by lia) hy (hc y hy);refine Sy (bY hy ?_);by_cases e:j-1=1
 ·rw[if_pos (by rw[e];rfl)];exact SH (h true _ ⟨K,H.uQ m e⟩ (λz=>nomatch z))
 rw[if_neg (by simpa using e)];refine Sy (bY hz (Sy (lR L (K.k.trans hk) (by lia) (by lia) H.Sb (H.Sa _ _ hz) (λp q x w h1 h2 h3 h4=>rm H.sb (i:=0+p) (j:=0+q) (by lia) (by rw[k_];exact h3) (by rw[k_];exact h4)) λt t1 t2 t3=>?_)));dsimp only;have before:∀u∈b.toList.take t,rk u<=rk z:=λu hu=>by obtain⟨p,hp1,hp⟩:=lS hu;rw[k_]at hp;have:=t2 p u hp1 (by rw[N2];exact hp);simp at this;lia
 by_cases pk:j-1-t > 0
 ·rw[if_pos pk];have m2:MHo rk a b (out.push y++(b.extract t (j-1)).reverse) i t:=by
   refine MHo.block m H (by omega) λu hu w hw=>?_
   obtain⟨p,hp0,hp1,hp⟩:=xi hu;rw[k_]at hp;have:=t3 p u hp0 hp1 (by rw[N2];exact hp);simp at this;exact r_ (nV H.sa hz w hw) this
  by_cases e1:t=1
  ·rw[if_pos (by rw[e1];rfl)];exact SH (h true _ ⟨K,H.uQ m2 e1⟩ (λz=>nomatch z))
  rw[if_neg (by simpa using e1)];by_cases e2:t=0
  ·rw[if_pos (by rw[e2];rfl)];exact SH (h true _ ⟨K,H.xb m2 (.inr e2)⟩ (λz=>nomatch z))
  rw[if_neg (by simpa using e2)];refine Hj H K ⟨m2,i0,O3 (Nm e2) (TR e1),ia,r_ t1 (r_ (NS ..) jb)⟩ (λz' hz'=>?_) (by lia) h;rw[hz]at hz';cases hz';exact before
 rw[if_neg pk];have k0:t=j-1:=by lia
 refine Hj H K ⟨m,i0,by lia,ia,r_ (NS ..) jb⟩ (λz' hz'=>?_) (by lia) h;rw[hz]at hz';cases hz';rw[k0]at before;exact before
theorem L3{Q:ForInStep GT->Sz->Prop}(L:hG M A E s kd rk S)(H:LoOk rk S a b)(hk:kindOf st=kd)(K:Keep st am)(I:HI rk a b out i j)
  (h:∀(d:Bool) (c:GT) (ii:Sz),nY rk a b (i+j) st c.1 c.2.2.2.1 c.2.1 c.2.2.1 ii->(d=false->c.1=none)->Q (if d=true then SE c else SS c) ii):wpS M A E s (k1 a b out i j mg ca cb) Q am:=by
 obtain⟨⟨y,hy⟩,⟨z,hz⟩⟩:=I.get;have i0:=I.i0;have j1:=I.j1;have ia:=I.ia;have jb:=I.jb;unfold k1;refine Sy (qd (Sy (bY hy ?_)));have K2:=K.g mg;revert K2;generalize T6 (kindOf am) (Sv am) (SM am) mg (Tc am)=ii;intro K2;refine Sy (lR L (K2.k.trans hk) (by lia) (by lia) H.Sa (H.Sb _ _ hy) (λp q x w h1 h2 h3 h4=>rm H.sa (i:=0+p) (j:=0+q) (by lia) (by rw[k_];exact h3) (by rw[k_];exact h4)) λt t1 t2 t3=>?_);dsimp only;have before:∀u∈a.toList.take t,rk u<=rk y:=λu hu=>by obtain⟨p,hp1,hp⟩:=lS hu;rw[k_]at hp;have:=t2 p u hp1 (by rw[N2];exact hp);simpa using this
 by_cases pk:i-t > 0
 ·rw[if_pos pk];have m2:MHo rk a b (out++(a.extract t i).reverse) t j:=by
   refine MHo.IY I.m H (by omega) λu hu w hw=>?_
   obtain⟨p,hp0,hp1,hp⟩:=xi hu;rw[k_]at hp;have:=t3 p u hp0 hp1 (by rw[N2];exact hp);simp at this;exact r_ (nV H.sb hy w hw) (K' this)
  by_cases e2:t=0
  ·rw[if_pos (by rw[e2];rfl)];exact SH (h true _ _ ⟨K2,H.xb m2 (.inl e2)⟩ (λz=>nomatch z))
  rw[if_neg (by simpa using e2)];refine GF L H hk K2 ⟨m2,by lia,j1,by lia,jb⟩ (λy' hy'=>?_) (by lia) λd c x1 x2=>h d c _ x1 x2
  rw[hy]at hy';cases hy';exact before
 rw[if_neg pk];have k0:t=i:=by lia
 rw[k0]at before;refine GF L H hk K2 I (λy' hy'=>?_) (e_ _) λd c x1 x2=>h d c _ x1 x2;rw[hy]at hy';cases hy';exact before
theorem J0{Q:Array Su->Sz->Prop}(L:hG M A E s kd rk S)(H:LoOk rk S a b)(hk:kindOf st=kd)(h:∀r am,Keep st am->Res rk a.toList b.toList r.toList->Q r am)(hr:∀x,Sw M A (rule x) (λ_ s'=>s'=s) E s):wpS M A E s (mHi a b) Q st:=by
 rw[Gg];have pa:=H.pa;have pb:=H.pb;obtain⟨y,hy⟩:∃y,a[a.size-1]?=some y:=⟨_,y_ (by lia)⟩;have rl:∀{x:String}{R:Unit->Sz->Prop}{am:Sz},R () am->wpS M A E s (liftM (rule x):StateT Sz Sem Unit) R am:=λ{x R am} q=>WA (Tb (hr x) (λ_ _ z=>⟨z,q⟩) λ_ _ z=>z);refine Sy (rl (Sy (bY hy ?_)));have m0:MHo rk a b #[] a.size b.size:=⟨by simp,NH,λx hx=>by simp at hx⟩;have m1:MHo rk a b #[y] (a.size-1) b.size:=m0.oM H pa hy λz hz=>H.last y hy z (Nk hz);by_cases e1:a.size-1=0
 ·rw[if_pos (by rw[e1];rfl)];exact SH (h _ _ .gQ (H.xb m1 (.inl e1)))
 rw[if_neg (by simpa using e1)];by_cases e2:b.size=1
 ·rw[if_pos (by rw[e2];rfl)];exact SH (h _ _ .gQ (H.uQ m1 e2))
 rw[if_neg (by simpa using e2)];refine Sy (UB ?_);refine Sy (TB (Te (I:=λx (c:OT) am=>c.1=none/\Keep st am/\HI rk a b c.2.2.2.1 c.2.1 c.2.2.1/\c.2.1+c.2.2.1+x<a.size+b.size) (Q:=λ(c:OT) am=>∃q,c.1=some q/\Keep st am/\Res rk a.toList b.toList q.toList) ?_ ?_ ⟨rfl,.gQ,⟨m1,by dsimp only;lia,by dsimp only;lia,by dsimp only;lia,by dsimp only;lia⟩,by dsimp only;lia⟩) ?_)
 ·rintro x ⟨c1,i,j,out,mg⟩ gl _ hx ⟨rfl,K1,I1,px⟩;unfold oHi;dsimp only at I1 px ⊢;refine Sy (TB (Te (I:=λx (c:FT) am=>c.1=none/\Keep st am/\HI rk a b c.2.2.2.1 c.2.1 c.2.2.1/\c.2.1+c.2.2.1+x<=i+j) (Q:=λ(c:FT) am=>nY rk a b (i+j) st c.1 c.2.2.2.1 c.2.1 c.2.2.1 am) ?_ ?_ ⟨rfl,K1,I1,e_ _⟩) ?_)
  ·rintro x2 ⟨d1,i2,j2,out2,ca,cb⟩ ii _ hx2 ⟨rfl,K2,I2,p2⟩;dsimp only at I2 p2 ⊢;refine Kc L H hk K2 I2 λd c hs hn=>?_;cases d with
   |true=>
    show nY _ _ _ _ _ _ _ _ _ _;refine⟨hs.1,?_⟩;have h2:=hs.2;cases e:c.1 with
    |some q=>rw[e]at h2;exact h2
    |none=>rw[e]at h2;exact⟨h2.1,by have:=h2.2;lia⟩
   |false=>
    have h2:=hs.2;rw[hn rfl]at h2;exact⟨hn rfl,hs.1,h2.1,by have:=h2.2;lia⟩
  ·rintro⟨c1,i2,j2,out2,ca,cb⟩ ii ⟨rfl,K2,I2,p2⟩;dsimp only at I2 p2 ⊢;have:=I2.i0;have:=I2.j1;lia
  rintro⟨c1,i2,j2,out2,ca,cb⟩ ii ⟨K2,h2⟩;cases c1 with
  |some q=>exact SH ⟨q,rfl,K2,h2⟩
  |none=>
   obtain⟨I2,p2⟩:=h2;dsimp only at I2 p2 ⊢;refine Sy (rl ?_);refine Sy (TB (Te (I:=λ_ (c:GT) am=>c.1=none/\Keep st am/\HI rk a b c.2.2.2.1 c.2.1 c.2.2.1/\c.2.1+c.2.2.1<i+j) (Q:=λ(c:GT) am=>nY rk a b (i+j) st c.1 c.2.2.2.1 c.2.1 c.2.2.1 am) ?_ ?_ ⟨rfl,K2,I2,p2⟩) ?_)
   ·rintro x3 ⟨d1,i3,j3,out3,mg3,ca3,cb3⟩ im _ hx3 ⟨rfl,K3,I3,p3⟩;dsimp only at I3 p3 ⊢;have go:∀mg',wpS M A E s (k1 a b out3 i3 j3 mg' ca3 cb3) (λr am=>match r with | .done c'=>nY rk a b (i+j) st c'.1 c'.2.2.2.1 c'.2.1 c'.2.2.1 am | .yield c'=>c'.1=none/\Keep st am/\HI rk a b c'.2.2.2.1 c'.2.1 c'.2.2.1/\c'.2.1+c'.2.2.1<i+j) im:=λmg'=>by
     refine L3 L H hk K3 I3 λd c st4 hs hn=>?_;cases d with
     |true=>
      show nY _ _ _ _ _ _ _ _ _ _;refine⟨hs.1,?_⟩;have h2:=hs.2;cases e:c.1 with
      |some q=>rw[e]at h2;exact h2
      |none=>rw[e]at h2;exact⟨h2.1,by have:=h2.2;lia⟩
     |false=>
      have h2:=hs.2;rw[hn rfl]at h2;exact⟨hn rfl,hs.1,h2.1,by have:=h2.2;lia⟩
    split
    ·exact TB (go _) λr am h=>by cases r <;> exact h
    exact TB (go _) λr am h=>by cases r <;> exact h
   ·rintro⟨c1,i3,j3,out3,mg3,ca3,cb3⟩ im ⟨rfl,K3,I3,p3⟩;exact⟨K3,I3,p3⟩
   rintro⟨c1,i3,j3,out3,mg3,ca3,cb3⟩ im ⟨K3,h3⟩;cases c1 with
   |some q=>exact SH ⟨q,rfl,K3,h3⟩
   |none=>
    obtain⟨I3,p3⟩:=h3;refine Sy (qd (SH ⟨rfl,K3.g _,I3,?_⟩));dsimp only at p3 ⊢;lia
 ·rintro⟨c1,i,j,out,mg⟩ gl ⟨rfl,K1,I1,px⟩;dsimp only at px;lia
 rintro⟨c1,i,j,out,mg⟩ gl ⟨q,e,K1,r⟩;dsimp only at e;subst e;exact SH (h q gl K1 r)
end
noncomputable def R(rk:Su->Nat)(xs:Array Su)(i:Nat):Nat:=match xs[i]? with
 |some p=>rk p
 |none=>0
structure Kp2 (st am:Sz):Prop where
 k:kindOf am=kindOf st
 p:SM am=SM st
 f:Tc am=Tc st
 a:(Sv am).Perm (Sv st)
theorem Kp2.gQ :Kp2 st st:=⟨rfl,rfl,rfl,QN _⟩
theorem Kp2.trans {s1 s2 s3:Sz}(h:Kp2 s1 s2)(g:Kp2 s2 s3):Kp2 s1 s3:=⟨g.k.trans h.k,g.p.trans h.p,g.f.trans h.f,g.a.trans h.a⟩
theorem Kp2.size (h:Kp2 st am):(Sv am).size=(Sv st).size:=h.a.size_eq
variable {xs ys:Array Su}
section
variable{rk:Su->Nat}
theorem iN(h:xs[i]?=ys[j]?):R rk xs i=R rk ys j:=by unfold R;rw[h]
theorem Cs(hj:j<=xs.size)(k:Nat):R rk (mirror xs i j ((j-i)/2)) k=if i<=k/\k<j then R rk xs (i+j-1-k)else R rk xs k:=by
 have:=WJ (i:=i) hj k;split at this <;> rename_i h
 ·rw[if_pos h];exact iN this
 rw[if_neg h];exact iN this
theorem CD{src d:Nat}(hs:src<xs.size)(hd:d<=src)(k:Nat):R rk (Xs xs src d) k=if k=src-d then R rk xs src else if src-d<k/\k<=src then R rk xs (k-1)else R rk xs k:=by
 have:=Xt hs d hd k;split at this
 ·rename_i h;rw[if_pos h];exact iN this
 rename_i h;rw[if_neg h];split at this
 ·rename_i h2;rw[if_pos h2];exact iN this
 rename_i h2;rw[if_neg h2];exact iN this
def gG(rk:Su->Nat)(xs:Array Su)(lo n:Nat):Prop:=∀i j,i<=j->j<n->R rk xs (lo+i)<=R rk xs (lo+j)
def wJ(rk:Su->Nat)(xs:Array Su)(lo n:Nat):Prop:=∀i j,i<=j->j<n->R rk xs (lo+j)<=R rk xs (lo+i)
end
structure Within (st am:Sz) (lo n:Nat):Prop where
 kp:Kp2 st am
 out:∀k,(k<lo\/lo+n<=k)->(Sv am)[k]?=(Sv st)[k]?
theorem Within.gQ :Within st st lo n:=⟨.gQ,λ_ _=>rfl⟩
theorem Within.trans {s1 s2 s3:Sz}(h:Within s1 s2 lo n)(g:Within s2 s3 lo n):Within s1 s3 lo n:=⟨h.kp.trans g.kp,λk hk=>(g.out k hk).trans (h.out k hk)⟩
section
variable{M:UC}{A:SW}{E:Sl->So->Prop}{s:So}{kd:TQ}{rk:Su->Nat}{S:Su->Prop}
noncomputable def mY(S:Su->Prop)(st:Sz):Prop:=∀p∈(Sv st).toList,S p
theorem mY.at {st:Sz}(h:mY S st){i:Nat}{p:Su}(e:(Sv st)[i]?=some p):S p:=h p (by rw[<-k_]at e;exact D_ e)
theorem mY.kp (h:mY S st)(k:Kp2 st am):mY S am:=λp hp=>h p ((Oe.mp k.a).mem_iff.mp hp)
theorem jW{Q:Option Bool->Sz->Prop}(L:hG M A E s kd rk S)(hk:kindOf st=kd)(hS:mY S st)(hi:i<(Sv st).size)(hj:j<(Sv st).size)(q:Q (some (decide (R rk (Sv st) i<R rk (Sv st) j))) st):wpS M A E s (Xu i j) Q st:=by rw[ltAt'_eq];refine Sy (UB ?_);have e1:(Sv st)[i]?=some (Sv st)[i]:=y_ hi;have e2:(Sv st)[j]?=some (Sv st)[j]:=y_ hj;refine Sy (bY e1 (Sy (bY e2 (L _ _ st _ (hS.at e1) (hS.at e2) hk ?_))));unfold R at q;rw[e1,e2]at q;exact q
theorem CO{Q:Unit->Sz->Prop}(hl:lo<=i)(hj:j<=lo+n)(hsz:j<=(Sv st).size)(h:∀am,Within st am lo n->(∀k,R rk (Sv am) k=if i<=k/\k<j then R rk (Sv st) (i+j-1-k)else R rk (Sv st) k)->Q () am):wpS M A E s (UL i j) Q st:=by rw[reverseSlice'_eq];refine U4 (h _ ⟨⟨rfl,rfl,rfl,mirror_perm _ _ _ _⟩,λk hk=>?_⟩ λk=>Cs hsz k);show(mirror (Sv st) i j ((j-i)/2))[k]?=_;rw[WJ hsz,if_neg (by lia)]
theorem EA{ok:Nat}{Q:Bool->Sz->Prop}(L:hG M A E s kd rk S)(hk:kindOf st=kd)(hS:mY S st)(hn:lo+n<=(Sv st).size)(hok:ok<=n)(hs:gG rk (Sv st) lo ok)
  (h:∀am,Within st am lo n->gG rk (Sv am) lo n->Q true am):wpS M A E s (Yq lo n ok) Q st:=by
 rw[binarySort'_eq];refine Sy (TB (Te (I:=λk c am=>c=(none,())/\Within st am lo n/\gG rk (Sv am) lo k) (Q:=λc am=>c=(none,())/\Within st am lo n/\gG rk (Sv am) lo (max (max ok 1) n)) ?_ (λc am z=>z) ⟨rfl,.gQ,λi j h1 h2=>?_⟩) ?_)
 ·rintro k c gl hk1 hk2 ⟨rfl,W,s1⟩;have sz1:=W.kp.size;have hS1:=hS.kp W.kp;refine Sy (TB (Te (I:=λx c am=>am=gl/\∃l r,c=(none,l,r)/\l<=r/\r<=k/\r-l<=k-x/\(∀i,i<l->R rk (Sv gl) (lo+i)<=R rk (Sv gl) (lo+k))/\(∀i,r<=i->i<k->R rk (Sv gl) (lo+k)<R rk (Sv gl) (lo+i)))
   (Q:=λc am=>am=gl/\∃l,c=(none,l,l)/\l<=k/\(∀i,i<l->R rk (Sv gl) (lo+i)<=R rk (Sv gl) (lo+k))/\(∀i,l<=i->i<k->R rk (Sv gl) (lo+k)<R rk (Sv gl) (lo+i))) ?_ ?_ ⟨rfl,0,k,rfl,MU _,e_ _,by lia,λi hi=>by lia,λi h1 h2=>by lia⟩) ?_)
  ·rintro x c ii _ hx ⟨rfl,l,r,rfl,g1,g2,g3,g4,g5⟩;dsimp only;by_cases z:l>=r
   ·rw[if_pos z];have e:l=r:=by lia
    subst e;exact SH ⟨rfl,l,rfl,g2,g4,g5⟩
   rw[if_neg z];have m1:l<=(l+r)/2:=by omega
   have m2:(l+r)/2<r:=by omega
   generalize (l+r)/2=m at m1 m2 ⊢;have m3:=v_ m2 g2;have sz:∀{y},y<=k->lo+y<(Sv ii).size:=λh=>by lia
   refine Sy (jW L (W.kp.k.trans hk) hS1 (sz (e_ _)) (sz (K' m3)) ?_);dsimp only;by_cases w:R rk (Sv ii) (lo+k)<R rk (Sv ii) (lo+m)
   ·rw[decide_eq_true w,if_pos rfl];exact SH ⟨rfl,l,m,rfl,m1,K' m3,by lia,g4,λi h1 h2=>v_ w (s1 m i h1 h2)⟩
   rw[decide_eq_false w,if_neg (by simp)];exact SH ⟨rfl,m+1,r,rfl,m2,g2,by lia,λi hi=>r_ (s1 i m (Pf hi) m3) (Nq w),g5⟩
  ·rintro c ii ⟨rfl,l,r,rfl,g1,g2,g3,g4,g5⟩;have e:l=r:=by lia
   subst e;exact⟨rfl,l,rfl,g2,g4,g5⟩
  rintro c ii ⟨rfl,l,rfl,g2,g4,g5⟩;dsimp only;rw[moveDown'_eq];have hk1:lo+k<(Sv ii).size:=by lia
  have e0:lo+k-(lo+k-(lo+l))=lo+l:=Nat.sub_sub_self (OU g2 lo);have hb:∀j,R rk (Xs (Sv ii) (lo+k) (lo+k-(lo+l))) (lo+j)=if j=l then R rk (Sv ii) (lo+k)else if l<j/\j<=k then R rk (Sv ii) (lo+(j-1))else R rk (Sv ii) (lo+j):=λj=>by
   rw[CD hk1 (NS ..),e0];by_cases c1:j=l
   ·rw[if_pos c1,if_pos (congrArg (lo+·) c1)]
   rw[if_neg c1,if_neg (λz=>c1 (Nat.add_left_cancel z))];by_cases c2:l<j/\j<=k
   ·rw[if_pos c2,if_pos ⟨P9 c2.1 lo,OU c2.2 lo⟩,RA (Nat.one_le_of_lt c2.1)]
   rw[if_neg c2,if_neg (λz=>c2 ⟨Nat.lt_of_add_lt_add_left z.1,Nat.le_of_add_le_add_left z.2⟩)]
  refine Sy (U4 (SH ⟨rfl,W.trans ⟨⟨rfl,rfl,rfl,bubble_perm _ _ _⟩,λj hj=>?_⟩,λi j jp hj=>?_⟩))
  ·show(Xs (Sv ii) (lo+k) (lo+k-(lo+l)))[j]?=_;rw[Xt hk1 _ (NS ..),e0,if_neg (by lia),if_neg (by lia)]
  show R rk (Xs (Sv ii) (lo+k) (lo+k-(lo+l))) (lo+i)<=R rk (Xs (Sv ii) (lo+k) (lo+k-(lo+l))) (lo+j);rw[hb,hb];have ss:∀p q,p<=q->q<k->R rk (Sv ii) (lo+p)<=R rk (Sv ii) (lo+q):=s1;have hj:j<=k:=Pf hj;have dn:∀{x},l<x->x<=k->x-1<k:=λa b=>v_ (Nat.sub_one_lt_of_lt a) b;by_cases i1:i<l
  ·rw[if_neg (j_ i1),if_neg (λz=>Nat.lt_asymm z.1 i1)];by_cases j2:j=l
   ·rw[if_pos j2];exact g4 i i1
   rw[if_neg j2];by_cases j1:l<j
   ·rw[if_pos ⟨j1,hj⟩];exact ss i (j-1) (PY (Qz i1 j1)) (dn j1 hj)
   rw[if_neg (λz=>j1 z.1)];exact ss i j jp (v_ (O3 (Nq j1) j2) g2)
  by_cases i2:i=l
  ·rw[if_pos i2];by_cases j2:j=l
   ·rw[if_pos j2];exact e_ _
   have j1:l<j:=O3 (i2▸jp) (λz=>j2 z.symm);rw[if_neg j2,if_pos ⟨j1,hj⟩];exact K' (g5 (j-1) (PY j1) (dn j1 hj))
  have i3:l<i:=O3 (Nq i1) (λz=>i2 z.symm);have j1:=v_ i3 jp;rw[if_neg i2,if_pos ⟨i3,r_ jp hj⟩,if_neg (λz=>NR _ (z▸j1)),if_pos ⟨j1,hj⟩];exact ss (i-1) (j-1) (Q_ jp 1) (dn j1 hj)
 ·by_cases z:1<=ok
  ·rw[Nat.max_eq_left z]at h2;exact hs i j h1 h2
  have:i=j:=by lia
  subst this;exact e_ _
 rintro c gl ⟨rfl,W,s1⟩;exact SH (h gl W λi j h1 h2=>s1 i j h1 (by lia))
end
theorem yg{l x:Nat}(h:1<=x):l+(x-1)=l+x-1:=(RA h l).symm
theorem Jn{l k:Nat}(h:l<=k):l+(k-l)=k:=Ow h
theorem KN{l a:Nat}(h:i<a):l+(l+a)-1-(l+i)=l+(a-1-i):=by lia
theorem J4{l x k:Nat}(h0:l<=k)(h:k<l+x):k-l<x:=OY h0 h
noncomputable def Bz(l0 a0 q0:Nat):StateT Sz Sem (Option Nat):=do
 let mut n:=a0
 for _ in [a0:q0]do
  let some sm <-Xu (l0+n) (l0+n-1) | return none
  if sm then break
  n:=n+1
 return some n
def vt(l0 a0 q0:Nat):StateT Sz Sem (Option Nat):=do
 UL l0 (l0+a0)
 Bz l0 a0 q0
def vK(l0 a0 q0:Nat):StateT Sz Sem (Option Nat):=do
 rule "list.sort.descending-run"
 let mut n:=a0+1
 let mut eq:=0
 for _ in [n:q0]do
  let some sm <-Xu (l0+n) (l0+n-1) | return none
  if sm then
   if eq > 0 then UL (l0+n-(eq+1)) (l0+n)
   eq:=0
  else
   let some la <-Xu (l0+n-1) (l0+n) | return none
   if la then break
   eq:=eq+1
  n:=n+1
 if eq > 0 then
  UL (l0+n-(eq+1)) (l0+n)
  vt l0 n q0
 else vt l0 n q0
theorem Hs(l0 q0:Nat):WW l0 q0=(do
 let mut n:=1
 for _ in [1:q0]do
  let some sm <-Xu (l0+n) (l0+n-1) | return none
  if sm then break
  n:=n+1
 if n == q0 then return some n
 if n > 1 then
  let some ro <-Xu l0 (l0+n-1) | return none
  if ro then return some n
  UL l0 (l0+n)
  vK l0 n q0
 else vK l0 n q0):=rfl
variable {a0 l0 q0:Nat}
section
variable{M:UC}{A:SW}{E:Sl->So->Prop}{s:So}{kd:TQ}{rk:Su->Nat}{S:Su->Prop}
theorem gG.snoc (h:gG rk xs lo n)(h1:1<=n)(k:R rk xs (lo+n-1)<=R rk xs (lo+n)):gG rk xs lo (n+1):=λi j jp hj=>by
 by_cases z:j<n
 ·exact h i j jp z
 have e:j=n:=by lia
 subst e;by_cases w:i=j
 ·subst w;exact e_ _
 have:=h i (j-1) (by lia) (by lia);rw[yg h1]at this;exact r_ this k
theorem Dh(L:hG M A E s kd rk S)(hk:kindOf st=kd)(hS:mY S st)(hsz:l0+q0<=(Sv st).size)(h1:1<=a0)(h2:a0<=q0)(hs:gG rk (Sv st) l0 a0)
  (h:∀n,a0<=n->n<=q0->gG rk (Sv st) l0 n->Q (some n) st):wpS M A E s (Bz l0 a0 q0) Q st:=by
 unfold Bz;dsimp only;refine Sy (TB (Te (I:=λx c am=>am=st/\c=(none,x)/\gG rk (Sv st) l0 x) (Q:=λc am=>am=st/\∃n,c=(none,n)/\a0<=n/\n<=q0/\gG rk (Sv st) l0 n) ?_ ?_ ⟨rfl,rfl,hs⟩) ?_)
 ·rintro x c gl hx1 hx2 ⟨rfl,rfl,s1⟩;dsimp only;refine Sy (jW L hk hS (by lia) (by lia) ?_);dsimp only;by_cases w:R rk (Sv gl) (l0+x)<R rk (Sv gl) (l0+x-1)
  ·rw[decide_eq_true w,if_pos rfl];exact SH ⟨rfl,x,rfl,hx1,by lia,s1⟩
  rw[decide_eq_false w,if_neg (by simp)];exact SH ⟨rfl,rfl,s1.snoc (by lia) (by lia)⟩
 ·rintro c gl ⟨rfl,rfl,s1⟩;rw[PD h2]at s1 ⊢;exact⟨rfl,q0,rfl,h2,e_ _,s1⟩
 rintro c gl ⟨rfl,n,rfl,g1,g2,g3⟩;exact SH (h n g1 g2 g3)
theorem uB(L:hG M A E s kd rk S)(hk:kindOf st=kd)(hS:mY S st)(hsz:l0+q0<=(Sv st).size)(h1:1<=a0)(h2:a0<=q0)(hs:wJ rk (Sv st) l0 a0)
  (h:∀n am,a0<=n->n<=q0->Within st am l0 q0->gG rk (Sv am) l0 n->Q (some n) am):wpS M A E s (vt l0 a0 q0) Q st:=by
 unfold vt;refine Sy (CO (rk:=rk) (lo:=l0) (n:=q0) (e_ _) (by lia) (by lia) λgl W1 r1=>?_);refine Dh L (W1.kp.k.trans hk) (hS.kp W1.kp) (by rw[W1.kp.size];exact hsz) h1 h2 (λi j jp hj=>?_) λn g1 g2 g3=>h n gl g1 g2 W1 g3
 have hi:=NB jp hj;rw[r1,r1,if_pos ⟨OL ..,P9 hi l0⟩,if_pos ⟨OL ..,P9 hj l0⟩,KN hi,KN hj];exact hs (a0-1-j) (a0-1-i) (Nat.sub_le_sub_left jp _) (NB (NS _ _) (Qu h1 OB))
theorem rR{Q:Unit->Sz->Prop}(hl:lo<=i)(hj:j<=lo+n)(hsz:j<=(Sv st).size)(heq:∀k,i<=k->k<j->R rk (Sv st) k=R rk (Sv st) (j-1))(h:∀am,Within st am lo n->(∀k,R rk (Sv am) k=R rk (Sv st) k)->Q () am):wpS M A E s (UL i j) Q st:=by
 refine CO (rk:=rk) hl hj hsz λgl W r1=>h gl W λk=>?_;rw[r1];split
 ·rename_i z;rw[heq k z.1 z.2,heq (i+j-1-k) (by(clear r1 W h heq hsz hj hl;lia)) (by(clear r1 W h heq hsz hj hl;lia))]
 rfl
theorem wJ.snoc (h:wJ rk xs lo n)(h1:1<=n)(k:R rk xs (lo+n)<=R rk xs (lo+n-1)):wJ rk xs lo (n+1):=λi j jp hj=>by
 by_cases z:j<n
 ·exact h i j jp z
 have e:j=n:=by lia
 subst e;by_cases w:i=j
 ·subst w;exact e_ _
 have:=h i (j-1) (by lia) (by lia);rw[show lo+(j-1)=lo+j-1 by lia]at this;exact r_ k this
theorem tS(L:hG M A E s kd rk S)(hk:kindOf st=kd)(hS:mY S st)(hsz:l0+q0<=(Sv st).size)(h2:a0+1<=q0)(hs:wJ rk (Sv st) l0 (a0+1))(hr:∀x,Sw M A (rule x) (λ_ s'=>s'=s) E s)
  (h:∀n am,1<=n->n<=q0->Within st am l0 q0->gG rk (Sv am) l0 n->Q (some n) am):wpS M A E s (vK l0 a0 q0) Q st:=by
 unfold vK;refine Sy (WA (Tb (hr _) (λ_ _ z=>⟨z,?_⟩) λ_ _ z=>z));dsimp only;refine Sy (TB (Te (I:=λx c am=>∃eq,c=(none,x,eq)/\Within st am l0 q0/\wJ rk (Sv am) l0 x/\eq+1<=x/\∀k,x-1-eq<=k->k<x->R rk (Sv am) (l0+k)=R rk (Sv am) (l0+(x-1)))
  (Q:=λc am=>∃n eq,c=(none,n,eq)/\a0+1<=n/\n<=q0/\Within st am l0 q0/\wJ rk (Sv am) l0 n/\eq+1<=n/\∀k,n-1-eq<=k->k<n->R rk (Sv am) (l0+k)=R rk (Sv am) (l0+(n-1))) ?_ ?_ ⟨0,rfl,.gQ,hs,by lia,λk h1 h2=>by rw[show k=a0+1-1 by lia]⟩) ?_)
 ·rintro x c gl hx1 hx2 ⟨eq,rfl,W,d1,e1,ev⟩;dsimp only;have hk1:=W.kp.k.trans hk;have hS1:=hS.kp W.kp;have sz1:=W.kp.size;have x1:1<=x:=r_ (RI 1 eq) e1;have b1:l0+x<(Sv gl).size:=by lia
  have b2:l0+x-1<(Sv gl).size:=NB (NS ..) b1;refine Sy (jW L hk1 hS1 b1 b2 ?_);dsimp only;by_cases w:R rk (Sv gl) (l0+x)<R rk (Sv gl) (l0+x-1)
  ·rw[decide_eq_true w,if_pos rfl];have fin:∀ii,Within st ii l0 q0->(∀k,R rk (Sv ii) k=R rk (Sv gl) k)->∃eq',((none,x+1,0):Option (Option Nat)×Nat×Nat)=(none,x+1,eq')/\Within st ii l0 q0/\wJ rk (Sv ii) l0 (x+1)/\eq'+1<=x+1/\∀k,x+1-1-eq'<=k->k<x+1->R rk (Sv ii) (l0+k)=R rk (Sv ii) (l0+(x+1-1)):=λii W2 r2=>by refine⟨0,rfl,W2,λi j jp hj=>?_,by lia,λk h1 h2=>by rw[show k=x+1-1 by lia]⟩;rw[r2,r2];exact d1.snoc x1 (K' w) i j jp hj
   by_cases z:eq > 0
   ·rw[if_pos z];refine Sy (rR (rk:=rk) (lo:=l0) (n:=q0) (by lia) (by lia) (by lia) (λk h1 h2=>?_) λii W2 r2=>SH (fin ii (W.trans W2) r2));have k0:l0<=k:=by lia
    have:=ev (k-l0) (by lia) (J4 k0 h2);rw[Jn k0,yg x1]at this;exact this
   rw[if_neg z];exact SH (fin gl W λ_=>rfl)
  rw[decide_eq_false w,if_neg (by simp)];refine Sy (jW L hk1 hS1 b2 b1 ?_);dsimp only;by_cases v:R rk (Sv gl) (l0+x-1)<R rk (Sv gl) (l0+x)
  ·rw[decide_eq_true v,if_pos rfl];exact SH ⟨x,eq,rfl,hx1,by lia,W,d1,e1,ev⟩
  rw[decide_eq_false v,if_neg (by simp)];have ee:R rk (Sv gl) (l0+x)=R rk (Sv gl) (l0+x-1):=RJ (Nq v) (Nq w);refine SH ⟨eq+1,rfl,W,d1.snoc x1 (PV ee),by lia,λk h1 h2=>?_⟩;rw[show l0+(x+1-1)=l0+x by lia];by_cases y:k=x
  ·rw[y]
  have:=ev k (by lia) (by lia);rw[yg x1]at this;exact this.trans ee.symm
 ·rintro c gl ⟨eq,rfl,W,d1,e1,ev⟩;rw[PD h2]at d1 e1 ev ⊢;exact⟨q0,eq,rfl,h2,e_ _,W,d1,e1,ev⟩
 rintro c gl ⟨n,eq,rfl,g1,g2,W,d1,e1,ev⟩;have sz1:=W.kp.size;dsimp only;by_cases z:eq > 0
 ·rw[if_pos z];refine Sy (rR (rk:=rk) (lo:=l0) (n:=q0) (by lia) (by lia) (by lia) (λk h1 h2=>?_) λii W2 r2=>?_)
  ·have k0:l0<=k:=by lia
   have:=ev (k-l0) (by lia) (J4 k0 h2);rw[Jn k0,yg (r_ (RI 1 eq) e1)]at this;exact this
  refine uB L ((W.trans W2).kp.k.trans hk) (hS.kp (W.trans W2).kp) (by rw[(W.trans W2).kp.size];exact hsz) (by lia) g2 (λi j jp hj=>by rw[r2,r2];exact d1 i j jp hj) λm im k1 k2 W3 s3=>h m im (by lia) k2 ((W.trans W2).trans W3) s3
 rw[if_neg z];exact uB L (W.kp.k.trans hk) (hS.kp W.kp) (by rw[sz1];exact hsz) (by lia) g2 d1 λm im k1 k2 W3 s3=>h m im (by lia) k2 (W.trans W3) s3
theorem xt(L:hG M A E s kd rk S)(hk:kindOf st=kd)(hS:mY S st)(hsz:l0+q0<=(Sv st).size)(h1:1<=q0)(hr:∀x,Sw M A (rule x) (λ_ s'=>s'=s) E s)
  (h:∀n am,1<=n->n<=q0->Within st am l0 q0->gG rk (Sv am) l0 n->Q (some n) am):wpS M A E s (WW l0 q0) Q st:=by
 rw[Hs];dsimp only;refine Sy (TB (Te (I:=λx c am=>am=st/\c=(none,x)/\gG rk (Sv st) l0 x) (Q:=λc am=>am=st/\∃n,c=(none,n)/\1<=n/\n<=q0/\gG rk (Sv st) l0 n/\(n=q0\/R rk (Sv st) (l0+n)<R rk (Sv st) (l0+n-1))) ?_ ?_ ⟨rfl,rfl,λi j h1 h2=>by rw[show i=j by lia];exact e_ _⟩) ?_)
 ·rintro x c gl hx1 hx2 ⟨rfl,rfl,s1⟩;dsimp only;refine Sy (jW L hk hS (by lia) (by lia) ?_);dsimp only;by_cases w:R rk (Sv gl) (l0+x)<R rk (Sv gl) (l0+x-1)
  ·rw[decide_eq_true w,if_pos rfl];exact SH ⟨rfl,x,rfl,hx1,by lia,s1,.inr w⟩
  rw[decide_eq_false w,if_neg (by simp)];exact SH ⟨rfl,rfl,s1.snoc (by(clear w s1 h hsz hS hk hx2 hr h1 L;omega)) (by lia)⟩
 ·rintro c gl ⟨rfl,rfl,s1⟩;rw[PD h1]at s1 ⊢;exact⟨rfl,q0,rfl,h1,e_ _,s1,.inl rfl⟩
 rintro c gl ⟨rfl,n,rfl,g1,g2,g3,g4⟩;dsimp only;by_cases e:n=q0
 ·rw[if_pos (by rw[e];exact beq_self_eq_true _)];exact SH (h n gl g1 g2 .gQ g3)
 rw[if_neg (by simpa using e)];have lt:=g4.resolve_left e;by_cases z:n > 1
 ·rw[if_pos z];refine Sy (jW L hk hS (by lia) (by(clear lt e g4 g3 g1 h hS hk hr h1 L;lia)) ?_);dsimp only;by_cases w:R rk (Sv gl) l0<R rk (Sv gl) (l0+n-1)
  ·rw[decide_eq_true w,if_pos rfl];exact SH (h n gl g1 g2 .gQ g3)
  rw[decide_eq_false w,if_neg (by simp)];have all:∀k,l0<=k->k<l0+n->R rk (Sv gl) k=R rk (Sv gl) (l0+n-1):=λk h1 h2=>by have kn:=J4 h1 h2;have a:=g3 0 (k-l0) (MU _) kn;have b:=g3 (k-l0) (n-1) (PY kn) (Qu g1 OB);rw[Jn h1]at a b;rw[yg g1]at b;rw[QE]at a;exact RJ b (r_ (Nq w) a)
  refine Sy (rR (rk:=rk) (lo:=l0) (n:=q0) (e_ _) (by(clear all w z lt e g4 g3 g1 h hsz hS hk hr h1 L;lia)) (by(clear all w z lt e g4 g3 g1 h hS hk hr h1 L;lia)) all λii W2 r2=>?_);refine tS L (W2.kp.k.trans hk) (hS.kp W2.kp) (by rw[W2.kp.size];exact hsz) (by lia) (λi j jp hj=>?_) hr λm im k1 k2 W3 s3=>h m im k1 k2 (W2.trans W3) s3
  rw[r2,r2];by_cases y:j<n
  ·rw[all (l0+i) (by lia) (by lia),all (l0+j) (by lia) (by(clear hj jp r2 W2 all w z lt e g4 g3 g2 g1 h hsz hS hk hr h1 L;lia))];exact e_ _
  rw[show j=n by lia];by_cases y2:i<n
  ·rw[all (l0+i) (by lia) (by(clear y hj jp r2 W2 all w z lt e g4 g3 g2 g1 h hsz hS hk hr h1 L;lia))];exact K' lt
  rw[show i=n by(clear y r2 W2 all w z lt e g4 g3 g2 g1 h hsz hS hk hr h1 L;lia)];exact e_ _
 rw[if_neg z];have n1:n=1:=by lia
 subst n1;refine tS L hk hS hsz (by lia) (λi j jp hj=>?_) hr λm im k1 k2 W3 s3=>h m im k1 k2 W3 s3
 by_cases y:i=j
 ·rw[y];exact e_ _
 rw[show i=0 by lia,show j=1 by lia];exact K' lt
end
noncomputable def wrote(xs:Array Su)(q:Nat)(ys:Array Su):Array Su:=ys.toList.zipIdx.foldl (λu (p,j)=>u.setIfInBounds (q+j) p) xs
theorem Iu(i:Nat):WB i=(do
 let st <-get
 let (some (s1,n1,pw),some (s2,n2,_)):=((SM st)[i]?,(SM st)[i+1]?) | unsupported "internal:list.sort.pending"
 set (T6 (kindOf st) (Sv st) (((SM st).setIfInBounds i (s1,n1+n2,pw)).eraseIdxIfInBounds (i+1)) (V1 st) (Tc st))
 let some k <-gal false (<-Tn (Sv st) s2) (Sv st) s1 n1 0 | return false
 let (s1,n1):=(s1+k,n1-k)
 if n1 == 0 then return true
 let some n2 <-gal true (<-Tn (Sv st) (s1+n1-1)) (Sv st) s2 n2 (n2-1) | return false
 if n2 == 0 then return true
 let x:=(Sv st).extract s1 s2
 let y:=(Sv st).extract s2 (s2+n2)
 let mm <-if n1<=n2 then mLo x y else mHi x y
 modify λz=>setArr z (wrote (Sv z) s1 mm)
 return (Tc (<-get)).isNone):=rfl
theorem ue(q:Nat):∀(l:List Su) (n:Nat) (xs:Array Su),q+n+l.length<=xs.size->((l.zipIdx n).foldl (λu (p,j)=>u.setIfInBounds (q+j) p) xs).toList=xs.toList.take (q+n)++(l++xs.toList.drop (q+n+l.length))
 | [],n,xs,_=>by simp
 |p::t,n,xs,h=>by
  rw[i']at h;rw[QA,List.foldl_cons,ue q t (n+1) _ (by rw[QF];lia),Qp];have hl:q+n<xs.toList.length:=by rw[l_];lia
  rw[show q+(n+1)=q+n+1 by lia,NN,List.take_set_of_le (e_ _),Pl hl,List.drop_set_of_lt (by lia),i',show q+n+1+t.length=q+n+(t.length+1) by lia];simp
theorem yw{q:Nat}(h:q+ys.size<=xs.size):(wrote xs q ys).toList=xs.toList.take q++(ys.toList++xs.toList.drop (q+ys.size)):=by have:=ue q ys.toList 0 xs (by rw[l_];exact h);rw[l_]at this;exact this
theorem Dd{c:List Su}(h:a.length=b.length)(hi:a.length<=i):(a++c)[i]?=(b++c)[i]?:=by rw[MY hi,MY (by lia),h]
section
variable{rk:Su->Nat}
theorem A3(h:xs.toList[i]?=some p):R rk xs i=rk p:=by unfold R;rw[<-k_,h]
theorem kP(h:gG rk xs lo n):Srt rk ((xs.toList.drop lo).take n):=by
 refine NY.mpr λi j hi hj jp=>?_;have hj':j<n:=by rw[p_]at hj;lia
 have ei:=f_ hi;have ej:=f_ hj;rw[Oz,if_pos (by lia),Nd]at ei ej;have:=h i j (by lia) hj';rw[A3 ei,A3 ej]at this;exact this
theorem vF{l k:Nat}(h:k<=n):l+k+(n-k)=l+n:=by rw[OQ,Ow h]
theorem Bw(hn:lo+n<=xs.size)(h:Srt rk ((xs.toList.drop lo).take n)):gG rk xs lo n:=by
 intro i j jp hj;by_cases e:i=j
 ·rw[e];exact e_ _
 have len:((xs.toList.drop lo).take n).length=n:=by rw[p_,o_,l_];lia
 have hi':i<((xs.toList.drop lo).take n).length:=by lia
 have hj':j<((xs.toList.drop lo).take n).length:=by lia
 have:=NY.mp h i j hi' hj' (by lia);have ei:=f_ hi';have ej:=f_ hj';rw[Oz,if_pos (by lia),Nd]at ei ej;rw[A3 ei,A3 ej];exact this
theorem x6{m:Nat}(h1:gG rk xs lo n)(h2:gG rk xs (lo+n) m)(h:∀i j,i<n->j<m->R rk xs (lo+i)<=R rk xs (lo+n+j)):gG rk xs lo (n+m):=by
 intro i j jp hj;by_cases z:j<n
 ·exact h1 i j jp z
 by_cases w:i<n
 ·have:=h i (j-n) w (OY (Nq z) hj);rw[vF (Nq z)]at this;exact this
 have:=h2 (i-n) (j-n) (Q_ jp n) (OY (Nq z) hj);rw[vF (Nq z),vF (Nq w)]at this;exact this
theorem nI{T:List Su}{k:Nat}(h:k<=n):(T.drop lo).take n=(T.drop lo).take k++(T.drop (lo+k)).take (n-k):=by
 conv=>lhs;rw[show n=k+(n-k)from(Ow h).symm,Qn,O']
theorem Jr{r:Array Su}{k m c:Nat}(hk:k<=n)(hc:c<=m)(hsz:lo+n+m<=xs.size)(o1:gG rk xs lo n)(o2:gG rk xs (lo+n) m)
  (a1:∀p∈(xs.toList.drop lo).take k,∀q∈(xs.toList.drop (lo+n)).take m,rk p<=rk q) (a2:∀p∈(xs.toList.drop lo).take n,∀q∈(xs.toList.drop (lo+n+c)).take (m-c),rk p<=rk q)
  (hr:Res rk ((xs.toList.drop (lo+k)).take (n-k)) ((xs.toList.drop (lo+n)).take c) r.toList) :
  (wrote xs (lo+k) r).Perm xs/\(∀i,(i<lo\/lo+n+m<=i)->(wrote xs (lo+k) r)[i]?=xs[i]?)/\gG rk (wrote xs (lo+k) r) lo (n+m):=by
 have lr:r.size=n-k+c:=by have:=hr.1.length_eq;rw[c_,p_,p_,o_,o_,l_,l_]at this;lia
 have wl:(wrote xs (lo+k) r).toList=xs.toList.take lo++((xs.toList.drop lo).take k++(r.toList++((xs.toList.drop (lo+n+c)).take (m-c)++xs.toList.drop (lo+n+m)))):=by rw[yw (by lia),Qn,g_,lr,<-OQ,vF hk];congr 3;have:=(J_ (m-c) (xs.toList.drop (lo+n+c))).symm;rw[O',vF hc]at this;exact this
 have xl:xs.toList=xs.toList.take lo++((xs.toList.drop lo).take k++((xs.toList.drop (lo+k)).take (n-k)++(xs.toList.drop (lo+n)).take c++((xs.toList.drop (lo+n+c)).take (m-c)++xs.toList.drop (lo+n+m)))):=by have e1:=(J_ lo xs.toList).symm;have e2:=(J_ k (xs.toList.drop lo)).symm;have e3:=(J_ (n-k) (xs.toList.drop (lo+k))).symm;have e4:=(J_ c (xs.toList.drop (lo+n))).symm;have e5:=(J_ (m-c) (xs.toList.drop (lo+n+c))).symm;rw[O']at e2 e3 e4 e5;rw[vF hk]at e3;rw[vF hc]at e5;rw[g_,<-e5,<-e4,<-e3,<-e2,<-e1]
 have sz:(wrote xs (lo+k) r).size=xs.size:=by have:=congrArg Qe wl;have h2:=congrArg Qe xl;have h3:=hr.1.length_eq;simp only[c_]at this h2 h3;have e1:=@l_ _ (wrote xs (lo+k) r);have e2:=@l_ _ xs;lia
 have X:(xs.toList.drop lo).take n=(xs.toList.drop lo).take k++(xs.toList.drop (lo+k)).take (n-k):=nI hk;have Y:(xs.toList.drop (lo+n)).take m=(xs.toList.drop (lo+n)).take c++(xs.toList.drop (lo+n+c)).take (m-c):=nI hc;have sX:=kP o1;have sY:=kP o2;rw[X]at sX;rw[Y]at sY;obtain⟨sx1,sx2,sx⟩:=J'.mp sX;obtain⟨sy1,sy2,sy⟩:=J'.mp sY;refine⟨Oe.mpr ?_,λi hi=>?_,Bw (by lia) ?_⟩
 ·rw[wl]
  conv=>rhs;rw[xl]
  exact Ng _ (Ng _ (Pm _ hr.1))
 ·rw[<-k_,<-k_,wl]
  conv=>rhs;rw[xl]
  have hl1:(xs.toList.take lo).length=lo:=by rw[p_,l_];lia
  rcases hi with hi|hi
  ·rw[Ny (by lia),Ny (by lia)]
  have hl2:((xs.toList.drop lo).take k).length=k:=by rw[p_,o_,l_];lia
  have hl3:r.toList.length=n-k+c:=by rw[l_];exact lr
  have hl4:=hr.1.length_eq;rw[<-g_,<-g_]
  conv=>rhs;rw[<-g_,<-g_]
  refine Dd ?_ ?_
  ·rw[c_,c_,c_,c_,hl4]
  rw[c_,c_,hl1,hl2,hl3];lia
 have hl1:(xs.toList.take lo).length=lo:=by rw[p_,l_];lia
 have e:((wrote xs (lo+k) r).toList.drop lo).take (n+m)=(xs.toList.drop lo).take k++(r.toList++(xs.toList.drop (lo+n+c)).take (m-c)):=by rw[wl,List.drop_left' hl1,<-g_,<-g_,List.take_left',g_];rw[c_,c_,p_,p_,o_,o_,l_,l_];lia
 rw[e];have mr:∀q∈r.toList,q∈(xs.toList.drop (lo+k)).take (n-k)\/q∈(xs.toList.drop (lo+n)).take c:=λq hq=>C_.mp (hr.1.mem_iff.mp hq);refine J'.mpr ⟨sx1,J'.mpr ⟨hr.2,sy2,λp hp q hq=>?_⟩,λp hp q hq=>?_⟩
 ·rcases mr p hp with hp|hp
  ·exact a2 p (by rw[X];exact q_ _ hp) q hq
  exact sy p hp q hq
 rcases C_.mp hq with hq|hq
 ·rcases mr q hq with hq|hq
  ·exact sx p hp q hq
  exact a1 p hp q (by rw[Y];exact MV _ hq)
 exact a1 p hp q (by rw[Y];exact q_ _ hq)
end
theorem ES{α:Type}{ps:Array α}{pre post:List α}{x y:α}(h:ps.toList=pre++x::y::post):ps[pre.length]?=some x/\ps[pre.length+1]?=some y:=by
 rw[<-k_,<-k_,h];constructor
 ·rw[MY (e_ _),O2];rfl
 rw[MY (by lia),N7];rfl
theorem Bc{α:Type}{ps:Array α}{pre post:List α}{x y z:α}(h:ps.toList=pre++x::y::post):((ps.setIfInBounds pre.length z).eraseIdxIfInBounds (pre.length+1)).toList=pre++z::post:=by
 have hs:ps.size=pre.length+(post.length+2):=by rw[<-l_,h,c_];rfl
 have hb:pre.length+1<(ps.setIfInBounds pre.length z).size:=by rw[QF];lia
 unfold Array.eraseIdxIfInBounds;rw[dif_pos hb,Array.toList_eraseIdx,Qp,h];rw[List.set_append_right _ _ (e_ _),O2,Rq,List.eraseIdx_append_of_length_le (by lia),N7]
 rfl
section
variable{M:UC}{A:SW}{E:Sl->So->Prop}{s:So}{kd:TQ}{rk:Su->Nat}{S:Su->Prop}
theorem J6{σ:Type}{v st:σ}{Q:PUnit->σ->Prop}(q:Q ⟨⟩ v):wpS M A E s (set v:StateT σ Sem PUnit) Q st:=by unfold wpS;rw[StateT.run_set];exact Ss ⟨rfl,q⟩
structure Mgd (rk:Su->Nat) (st am:Sz) (lo n:Nat) (ps:List (Nat×Nat×Nat)):Prop where
 k:kindOf am=kindOf st
 f:Tc am=none
 p:(SM am).toList=ps
 a:(Sv am).Perm (Sv st)
 out:∀i,(i<lo\/lo+n<=i)->(Sv am)[i]?=(Sv st)[i]?
 srt:gG rk (Sv am) lo n
theorem Jp{pre post:List (Nat×Nat×Nat)}{s1 n1 pw n2 p2:Nat}{Q:Bool->Sz->Prop}(L:hG M A E s kd rk S)(hk:kindOf st=kd)(hS:mY S st)(hf:Tc st=none)(hr:∀x,Sw M A (rule x) (λ_ s'=>s'=s) E s)
  (hp:(SM st).toList=pre++(s1,n1,pw)::(s1+n1,n2,p2)::post) (h1:1<=n1) (h2:1<=n2) (hsz:s1+n1+n2<=(Sv st).size) (o1:gG rk (Sv st) s1 n1) (o2:gG rk (Sv st) (s1+n1) n2)
  (h:∀am,Mgd rk st am s1 (n1+n2) (pre++(s1,n1+n2,pw)::post)->Q true am):wpS M A E s (WB pre.length) Q st:=by
 rw[Iu];refine Sy (UB ?_);dsimp only;obtain⟨e1,e2⟩:=ES hp;rw[e1,e2];dsimp only;refine Sy (J6 ?_);generalize hst1:T6 (kindOf st) (Sv st) (((SM st).setIfInBounds pre.length (s1,n1+n2,pw)).eraseIdxIfInBounds (pre.length+1)) (V1 st) (Tc st)=gl;have k1:kindOf gl=kd:=by rw[<-hst1];exact hk
 have a1:Sv gl=Sv st:=by rw[<-hst1]
 have f1:Tc gl=none:=by rw[<-hst1];exact hf
 have p1:(SM gl).toList=pre++(s1,n1+n2,pw)::post:=by rw[<-hst1];exact Bc hp
 have SA:∀(i:Nat) p,(Sv st)[i]?=some p->S p:=λi p e=>hS.at e;have gt:∀i,i<(Sv st).size->∃p,(Sv st)[i]?=some p:=λi hi=>⟨_,y_ hi⟩;have RR:∀{i:Nat}{p:Su},(Sv st)[i]?=some p->R rk (Sv st) i=rk p:=λ{i p} e=>by unfold R;rw[e]
 obtain⟨ky,hky⟩:=gt (s1+n1) (by lia);have mO:gG rk (Sv st) s1 (n1+n2)->Q true gl:=λz=>h gl ⟨k1.trans hk.symm,f1,p1,by rw[a1],λi _=>by rw[a1],by rw[a1];exact z⟩
 refine Sy (bY hky (Sy (lR L k1 (by lia) (by lia) SA (SA _ _ hky) (λi j p q jp hj hp hq=>?_) λk hk1 g1 g2=>?_)))
 ·have:=o1 i j jp hj;rw[RR hp,RR hq]at this;exact this
 dsimp only;have below:∀i,i<k->∀j,j<n2->R rk (Sv st) (s1+i)<=R rk (Sv st) (s1+n1+j):=λi hi j hj=>by obtain⟨p,hp⟩:=gt (s1+i) (by lia);have a:=g1 i p hi hp;rw[if_neg (by simp)]at a;have b:=o2 0 j (MU _) hj;rw[QE,RR hky]at b;rw[RR hp];exact r_ a b
 by_cases z:n1-k=0
 ·rw[if_pos (by rw[z];rfl)];exact SH (mO (x6 o1 o2 λi j hi hj=>below i (by lia) j hj))
 rw[if_neg (by simpa using z)];obtain⟨la,hla⟩:=gt (s1+n1-1) (by lia);rw[vF hk1];refine Sy (bY hla (Sy (lR L k1 (by lia) (by omega) SA (SA _ _ hla) (λi j p q jp hj hp hq=>?_) λc hc1 d1 d2=>?_)))
 ·have:=o2 i j jp hj;rw[RR hp,RR hq]at this;exact this
 dsimp only;have above:∀i,i<n1->∀j,c<=j->j<n2->R rk (Sv st) (s1+i)<=R rk (Sv st) (s1+n1+j):=λi hi j hj hj2=>by
  obtain⟨p,hp⟩:=gt (s1+n1+j) (by lia);have a:=d2 j p hj hj2 hp;rw[if_pos rfl]at a;have hn1:1<=n1:=by lia
  have b:=o1 i (n1-1) (by lia) (Qu hn1 OB);rw[yg hn1,RR hla]at b;rw[RR hp];exact r_ b a
 by_cases w:c=0
 ·rw[if_pos (by rw[w];rfl)];exact SH (mO (x6 o1 o2 λi j hi hj=>above i hi j (by lia) hj))
 rw[if_neg (by simpa using w)];have ex:((Sv st).extract (s1+k) (s1+n1)).toList=((Sv st).toList.drop (s1+k)).take (n1-k):=by have:=nq (Sv st) (s1+k) (n1-k);rw[vF hk1]at this;exact this
 have ey:=nq (Sv st) (s1+n1) c;have zx:((Sv st).extract (s1+k) (s1+n1)).size=n1-k:=by rw[Rr];lia
 have zy:((Sv st).extract (s1+n1) (s1+n1+c)).size=c:=by rw[Rr];lia
 have T2:∀{i:Nat}{p:Su},(Sv st).toList[i]?=some p->(Sv st)[i]?=some p:=λ{i p} e=>by rw[k_]at e;exact e
 have sX:=kP o1;have sY:=kP o2;rw[nI hk1]at sX;rw[nI hc1]at sY;have H:LoOk rk S ((Sv st).extract (s1+k) (s1+n1)) ((Sv st).extract (s1+n1) (s1+n1+c)):=by
  refine⟨by rw[ex];exact(J'.mp sX).2.1,by rw[ey];exact(J'.mp sY).1,λi p e=>?_,λi p e=>?_,by lia,by lia,λp e u hu=>?_,λp e u hu=>?_⟩
  ·rw[OC]at e;split at e
   ·exact SA _ _ e
   cases e
  ·rw[OC]at e;split at e
   ·exact SA _ _ e
   cases e
  ·rw[OC,if_pos (by lia),QE,hky]at e;cases e;rw[ex]at hu;obtain⟨j,hj,ej⟩:=iD hu;have:=g2 (k+j) u (by lia) (by lia) (by rw[<-OQ];exact T2 ej);rw[if_neg (by simp)]at this;exact K' this
  rw[zx,OC,if_pos (by lia),show s1+k+(n1-k-1)=s1+n1-1 by lia,hla]at e;cases e;rw[ey]at hu;obtain⟨j,hj,ej⟩:=iD hu;have:=d1 j u hj (T2 ej);rw[if_pos rfl]at this;exact K' this
 have fin:∀r ii,Keep gl ii->Res rk ((Sv st).extract (s1+k) (s1+n1)).toList ((Sv st).extract (s1+n1) (s1+n1+c)).toList r.toList->wpS M A E s (do
   modify λz=>setArr z (wrote (Sv z) (s1+k) r)
   let g <-get
   pure (Tc g).isNone:StateT Sz Sem Bool) Q ii:=λr ii K hres=>by
  rw[ex,ey]at hres;refine Sy (U4 (Sy (UB (SH ?_))));have hf2:Tc ii=none:=K.f.trans f1;have aa:Sv ii=Sv st:=K.a.trans a1;have q1:∀p∈((Sv st).toList.drop s1).take k,∀q∈((Sv st).toList.drop (s1+n1)).take n2,rk p<=rk q:=λp hp q hq=>by obtain⟨i,hi,ei⟩:=iD hp;obtain⟨j,hj,ej⟩:=iD hq;have:=below i hi j hj;rw[RR (T2 ei),RR (T2 ej)]at this;exact this
  have q2:∀p∈((Sv st).toList.drop s1).take n1,∀q∈((Sv st).toList.drop (s1+n1+c)).take (n2-c),rk p<=rk q:=λp hp q hq=>by obtain⟨i,hi,ei⟩:=iD hp;obtain⟨j,hj,ej⟩:=iD hq;have:=above i hi (c+j) (by lia) (by lia);rw[<-OQ,RR (T2 ei),RR (T2 ej)]at this;exact this
  obtain⟨m1,m2,m3⟩:=Jr (rk:=rk) (xs:=Sv st) (r:=r) (lo:=s1) (k:=k) (n:=n1) (m:=n2) (c:=c) hk1 hc1 (by omega) o1 o2 q1 q2 hres;rw[show(Tc (setArr ii (wrote (Sv ii) (s1+k) r))).isNone=true by show(Tc ii).isNone=true;rw[hf2];rfl];refine h _ ⟨K.k.trans (k1.trans hk.symm),hf2,?_,?_,λi hi=>?_,?_⟩
  ·show(SM ii).toList=_;rw[K.p];exact p1
  ·show(wrote (Sv ii) (s1+k) r).Perm _;rw[aa];exact m1
  ·show(wrote (Sv ii) (s1+k) r)[i]?=_;rw[aa];exact m2 i (by lia)
  show gG rk (wrote (Sv ii) (s1+k) r) _ _;rw[aa];exact m3
 by_cases v:n1-k<=c
 ·rw[if_pos v];exact Sy (HK L H k1 fin hr)
 rw[if_neg v];exact Sy (J0 L H k1 fin hr)
end
abbrev CS:=Option Unit×Unit
abbrev LS:=Option Unit×Nat
noncomputable def qj(w0:Nat):StateT Sz Sem (ForInStep CS):=do
 let g <-get
 match(if(SM g).size > 1 then(SM g)[(SM g).size-2]? else none)with
 |some (_,_,old)=>
  if old<=w0 then pure (SE (none,()))
  else do
   let b <-WB ((SM g).size-2)
   if(!b)=true then pure (SE (some (),()))else pure (SS (none,()))
 | _=>pure (SE (none,()))
noncomputable def oh(q0 n:Nat):StateT Sz Sem (ForInStep LS):=do
 modify λz=>setPending z ((SM z).push (q0,n,0))
 pure (SS (none,q0+n))
def tl(sz q0 n:Nat):StateT Sz Sem (ForInStep LS):=do
 let g <-get
 match(SM g).back? with
 |some (s1,n1,_)=>do
  let c <-forIn [0:sz] ((none,()):CS) λ_ _=>qj (power' sz (2*s1+n1) (2*s1+n1+n1+n) sz)
  match c.1 with
  |some r=>pure (SE (some r,q0))
  |none=>do
   modify λz=>setPending z ((SM z).modify ((SM z).size-1) λx=>(x.1,x.2.1,power' sz (2*s1+n1) (2*s1+n1+n1+n) sz))
   oh q0 n
 | _=>oh q0 n
def jD(sz q0:Nat):StateT Sz Sem (ForInStep LS):=
 if q0>=sz then pure (SE (none,q0))else do
  let f <-WW q0 (sz-q0)
  match f with
  |some n=>
   if n<VT sz sz 0 then do
    rule "list.sort.binary-insertion"
    let b <-Yq q0 (min (sz-q0) (VT sz sz 0)) n
    if(!b)=true then pure (SE (some (),q0))else tl sz q0 (min (sz-q0) (VT sz sz 0))
   else tl sz q0 n
  | _=>pure (SE (some (),q0))
noncomputable def pick(ps:Array (Nat×Nat×Nat)):Nat:=
 if Se (λx=>decide (x<ps[ps.size-2+1]?.elim 0 λy=>y.2.1)) (if ps.size-2 > 0 then RK (λy=>y.2.1) ps[ps.size-2-1]? else none)=true then ps.size-2-1 else ps.size-2
def vD:StateT Sz Sem (ForInStep CS):=do
 let g <-get
 if(SM g).size<=1 then pure (SE (none,()))
 else do
  let b <-WB (pick (SM g))
  if(!b)=true then pure (SE (some (),()))else pure (SS (none,()))
theorem Ht:XT=(do
 let g <-get
 let c <-forIn [0:(Sv g).size] ((none,0):LS) λ_ c=>jD (Sv g).size c.2
 match c.1 with
 |some r=>pure r
 |none=>do
  let d <-forIn [0:(Sv g).size] ((none,()):CS) λ_ _=>vD
  match d.1 with
  |some r=>pure r
  |none=>pure ()):=by
 rw[sortRuns'_eq];dsimp only;refine congrArg (bind get) (funext λg=>?_);refine congr (congrArg bind ?_) (funext λc=>?_)
 ·refine congrArg (forIn _ _) (funext λ_=>funext λc=>?_);unfold jD;refine ite_congr rfl (λ_=>rfl) (λ_=>?_);refine congrArg (bind _) (funext λf=>?_);cases f with
  |none=>rfl
  |some n=>
   dsimp only;refine ite_congr rfl (λ_=>congrArg (bind _) (funext λ_=>congrArg (bind _) (funext λb=>ite_congr rfl (λ_=>rfl) (λ_=>?_)))) (λ_=>?_)
   all_goals
    unfold tl;refine congrArg (bind _) (funext λg=>?_);generalize (SM g).back?=bk;rcases bk with _|⟨s1,n1,z⟩
    ·rfl
    dsimp only;refine congr (congrArg bind ?_) (funext λc=>?_)
    ·refine congrArg (forIn _ _) (funext λ_=>funext λc=>?_);unfold qj;refine congrArg (bind _) (funext λg=>?_);generalize (if(SM g).size > 1 then(SM g)[(SM g).size-2]? else none)=o;rcases o with _|⟨_,_,_⟩ <;> rfl
    rcases c with⟨_ | _,_⟩ <;> rfl
 rcases c with⟨_ | _,_⟩
 ·dsimp only;refine congr (congrArg bind ?_) (funext λc=>?_)
  ·rfl
  rcases c with⟨_ | _,_⟩ <;> rfl
 rfl
def Pd(rk:Su->Nat)(xs:Array Su):List (Nat×Nat×Nat)->Nat->Nat->Prop
 | [],a,b=>a=b
 | (c,n,_)::t,a,b=>c=a/\1<=n/\gG rk xs c n/\Pd rk xs t (a+n) b
section
variable{rk:Su->Nat}
theorem Pd.le :∀{l:List (Nat×Nat×Nat)}{a b:Nat},Pd rk xs l a b->a+l.length<=b
 | [],_,_,h=>PV h
 | (c,n,_)::t,a,b,h=>by have:=h.2.2.2.le;have:=h.2.1;rw[i'];lia
theorem Pd.congr :∀{l:List (Nat×Nat×Nat)}{a b:Nat},Pd rk xs l a b->(∀i,a<=i->i<b->R rk ys i=R rk xs i)->Pd rk ys l a b
 | [],_,_,h,_=>h
 | (c,n,_)::t,a,b,h,e=>by have le:=h.2.2.2.le;have ca:=h.1;refine⟨h.1,h.2.1,λi j jp hj=>?_,h.2.2.2.congr λi h1 h2=>e i (by lia) h2⟩;rw[e _ (by lia) (by lia),e _ (by lia) (by lia)];exact h.2.2.1 i j jp hj
theorem ju{xs:Array Su}:∀{l m:List (Nat×Nat×Nat)}{a b:Nat},Pd rk xs (l++m) a b↔∃c,Pd rk xs l a c/\Pd rk xs m c b
 | [],m,a,b=>⟨λh=>⟨a,rfl,h⟩,λ⟨c,e,h⟩=>by cases (show a=c from e);exact h⟩
 | (c,n,_)::t,m,a,b=>⟨λh=>by obtain⟨d,h1,h2⟩:=ju.mp h.2.2.2;exact⟨d,⟨h.1,h.2.1,h.2.2.1,h1⟩,h2⟩,λ⟨d,h,h2⟩=>⟨h.1,h.2.1,h.2.2.1,ju.mpr ⟨d,h.2.2.2,h2⟩⟩⟩
theorem Pd.modify {w0:Nat}:∀{l:List (Nat×Nat×Nat)}{i a b:Nat},Pd rk xs l a b->Pd rk xs (l.modify i λx=>(x.1,x.2.1,w0)) a b
 | [],i,_,_,h=>by cases i <;> exact h
 | (c,n,_)::t,0,a,b,h=>⟨h.1,h.2.1,h.2.2.1,h.2.2.2⟩
 | (c,n,_)::t,i+1,a,b,h=>⟨h.1,h.2.1,h.2.2.1,h.2.2.2.modify⟩
theorem vN{α:Type}:∀{l:List α}{i:Nat},i+1<l.length->∃pre x y post,l=pre++x::y::post/\pre.length=i
 |x::y::t,0,_=>⟨[],x,y,t,rfl,rfl⟩
 | [_],0,h=>absurd h (by simp)
 |x::t,i+1,h=>by obtain⟨p,a,b,q,e,f⟩:=vN (l:=t) (i:=i) (by rw[i']at h;lia);exact⟨x::p,a,b,q,by rw[e];rfl,by rw[i',f]⟩
 | [],_,h=>absurd h (by simp)
end
section
variable{M:UC}{A:SW}{E:Sl->So->Prop}{s:So}{kd:TQ}{rk:Su->Nat}{S:Su->Prop}{a0:Array Su}
structure Iv (kd:TQ) (rk:Su->Nat) (a0:Array Su) (q0:Nat) (st:Sz):Prop where
 k:kindOf st=kd
 f:Tc st=none
 a:(Sv st).Perm a0
 pd:Pd rk (Sv st) (SM st).toList 0 q0
theorem Iv.all (h:Iv kd rk a0 q0 st)(hS:∀p∈a0.toList,S p):mY S st:=λp hp=>hS p ((Oe.mp h.a).mem_iff.mp hp)
theorem wq{Q:Bool->Sz->Prop}(L:hG M A E s kd rk S)(hS:∀p∈a0.toList,S p)(hr:∀x,Sw M A (rule x) (λ_ s'=>s'=s) E s)(I:Iv kd rk a0 q0 st)(hq:q0<=a0.size)(hi:i+1<(SM st).size)
  (h:∀am,Iv kd rk a0 q0 am->(SM am).size+1=(SM st).size->(∀j,q0<=j->(Sv am)[j]?=(Sv st)[j]?)->Q true am):wpS M A E s (WB i) Q st:=by
 obtain⟨pre,⟨s1,n1,pw⟩,⟨s2,n2,p2⟩,post,e,el⟩:=vN (l:=(SM st).toList) (i:=i) (by rw[l_];exact hi);subst el;have P:=I.pd;rw[e]at P;obtain⟨c,P1,e1,k1,o1,e2,k2,o2,P3⟩:=ju.mp P;subst e1;subst e2;have le:=P3.le;have sz:=I.a.size_eq;refine Jp L I.k (I.all hS) I.f hr e k1 k2 (by lia) o1 o2 λam m=>?_
 have same:∀j,(j<s1\/s1+n1+n2<=j)->R rk (Sv am) j=R rk (Sv st) j:=λj hj=>iN (m.out j (by lia))
 refine h am ⟨m.k.trans I.k,m.f,m.a.trans I.a,?_⟩ ?_ λj hj=>m.out j (by lia)
 ·rw[m.p];refine ju.mpr ⟨s1,P1.congr λj _ hj=>same j (by lia),rfl,by lia,m.srt,?_⟩;rw[<-OQ];exact P3.congr λj hj _=>same j (by lia)
 rw[<-l_,<-l_,m.p,e];simp only[c_,i'];lia
theorem yj{w0:Nat}{Q:ForInStep CS->Sz->Prop}(L:hG M A E s kd rk S)(hS:∀p∈a0.toList,S p)(hr:∀x,Sw M A (rule x) (λ_ s'=>s'=s) E s)(I:Iv kd rk a0 q0 st)(hq:q0<=a0.size)
  (h:∀am (d:Bool),Iv kd rk a0 q0 am->(∀j,q0<=j->(Sv am)[j]?=(Sv st)[j]?)->Q (if d=true then SE (none,())else SS (none,())) am):wpS M A E s (qj w0) Q st:=by
 unfold qj;refine Sy (UB ?_);generalize ho:(if(SM st).size > 1 then(SM st)[(SM st).size-2]? else none)=o;rcases o with _|⟨x,y,old⟩
 ·exact SH (h st true I λ_ _=>rfl)
 dsimp only;have h1:(SM st).size > 1:=by
  by_cases z:(SM st).size > 1
  ·exact z
  rw[if_neg z]at ho;cases ho
 by_cases w:old<=w0
 ·rw[if_pos w];exact SH (h st true I λ_ _=>rfl)
 rw[if_neg w];refine Sy (wq L hS hr I hq (by lia) λam I' _ e=>?_);rw[if_neg (by simp)];exact SH (h am false I' e)
theorem ug{Q:ForInStep LS->Sz->Prop}(I:Iv kd rk a0 q0 st)(hn:1<=n)(o:gG rk (Sv st) q0 n)(h:∀am,Iv kd rk a0 (q0+n) am->Q (SS (none,q0+n)) am):wpS M A E s (oh q0 n) Q st:=by unfold oh;refine Sy (U4 (SH (h _ ⟨I.k,I.f,I.a,?_⟩)));show Pd rk (Sv st) ((SM st).push (q0,n,0)).toList 0 (q0+n);rw[OG];exact ju.mpr ⟨q0,I.pd,rfl,hn,o,rfl⟩
theorem Gv{Q:ForInStep LS->Sz->Prop}(L:hG M A E s kd rk S)(hS:∀p∈a0.toList,S p)(hr:∀x,Sw M A (rule x) (λ_ s'=>s'=s) E s)(I:Iv kd rk a0 q0 st)(hq:q0<=a0.size)(hn:1<=n)(o:gG rk (Sv st) q0 n)
  (h:∀am,Iv kd rk a0 (q0+n) am->Q (SS (none,q0+n)) am):wpS M A E s (tl a0.size q0 n) Q st:=by
 unfold tl;refine Sy (UB ?_);generalize (SM st).back?=bk;rcases bk with _|⟨s1,n1,z⟩
 ·exact ug I hn o h
 dsimp only;generalize power' a0.size (2*s1+n1) (2*s1+n1+n1+n) a0.size=w0;refine Sy (TB (Te (I:=λ_ c am=>c=(none,())/\Iv kd rk a0 q0 am/\∀j,q0<=j->(Sv am)[j]?=(Sv st)[j]?) (Q:=λc am=>c=(none,())/\Iv kd rk a0 q0 am/\∀j,q0<=j->(Sv am)[j]?=(Sv st)[j]?) ?_ (λ_ _ z=>z) ⟨rfl,I,λ_ _=>rfl⟩) ?_)
 ·rintro x c gl _ _ ⟨rfl,I1,e1⟩;refine yj L hS hr I1 hq λii d I2 e2=>?_;cases d
  ·exact⟨rfl,I2,λj hj=>(e2 j hj).trans (e1 j hj)⟩
  exact⟨rfl,I2,λj hj=>(e2 j hj).trans (e1 j hj)⟩
 rintro c gl ⟨rfl,I1,e1⟩;dsimp only;refine Sy (U4 ?_);refine ug ⟨I1.k,I1.f,I1.a,?_⟩ hn (λi j jp hj=>?_) h
 ·show Pd rk (Sv gl) ((SM gl).modify ((SM gl).size-1) λx=>(x.1,x.2.1,w0)).toList 0 q0;rw[Array.toList_modify];exact I1.pd.modify
 show R rk (Sv gl) (q0+i)<=R rk (Sv gl) (q0+j);rw[iN (rk:=rk) (e1 (q0+i) (by lia)),iN (rk:=rk) (e1 (q0+j) (by lia))];exact o i j jp hj
theorem Iv.within (I:Iv kd rk a0 q0 st)(W:Within st am q0 n):Iv kd rk a0 q0 am:=⟨W.kp.k.trans I.k,W.kp.f.trans I.f,W.kp.a.trans I.a,by rw[W.kp.p];exact I.pd.congr λi _ hi=>iN (W.out i (.inl hi))⟩
theorem xB{Q:ForInStep LS->Sz->Prop}(L:hG M A E s kd rk S)(hS:∀p∈a0.toList,S p)(hr:∀x,Sw M A (rule x) (λ_ s'=>s'=s) E s)(I:Iv kd rk a0 q0 st)(hq:q0<=a0.size)
  (h1:q0=a0.size->Q (SE (none,q0)) st) (h2:∀n am,1<=n->q0+n<=a0.size->Iv kd rk a0 (q0+n) am->Q (SS (none,q0+n)) am):wpS M A E s (jD a0.size q0) Q st:=by
 unfold jD;by_cases z:q0>=a0.size
 ·rw[if_pos z];exact SH (h1 (by lia))
 rw[if_neg z];have qz:=K' (RD z);have sz:=I.a.size_eq;refine Sy (xt L I.k (I.all hS) (by lia) (by lia) hr λn gl g1 g2 W1 o1=>?_);dsimp only;have I1:=I.within W1;by_cases w:n<VT a0.size a0.size 0
 ·rw[if_pos w];generalize VT a0.size a0.size 0=mr at w ⊢;refine Sy (WA (Tb (hr _) (λ_ _ z=>⟨z,?_⟩) λ_ _ z=>z));have sz1:=I1.a.size_eq;have f1:n<=min (a0.size-q0) mr:=Nat.le_min.mpr ⟨g2,K' w⟩;have f4:q0+min (a0.size-q0) mr<=a0.size:=r_ (OU (Nat.min_le_left ..) q0) (PV (Ow qz));have f5:=r_ g1 f1;generalize min (a0.size-q0) mr=fr at f1 f4 f5 ⊢;refine Sy (EA L I1.k (I1.all hS) (by rw[sz1];exact f4) f1 o1 λii W2 o2=>?_);rw[if_neg (by simp)];exact Gv L hS hr (I1.within W2) hq f5 o2 λim I3=>h2 _ im f5 f4 I3
 rw[if_neg w];exact Gv L hS hr I1 hq g1 o1 λim I3=>h2 _ im g1 (by lia) I3
theorem EJ{ps:Array (Nat×Nat×Nat)}(h:1<ps.size):pick ps+1<ps.size:=by
 unfold pick;generalize Se (λx=>decide (x<ps[ps.size-2+1]?.elim 0 λy=>y.2.1)) (if ps.size-2 > 0 then RK (λy=>y.2.1) ps[ps.size-2-1]? else none)=b;cases b
 ·rw[if_neg (by simp)];lia
 rw[if_pos rfl];lia
theorem x4{Q:Unit->Sz->Prop}(L:hG M A E s kd rk S)(hS:∀p∈(Sv st).toList,S p)(hr:∀x,Sw M A (rule x) (λ_ s'=>s'=s) E s)(hk:kindOf st=kd)(hf:Tc st=none)(hp:SM st=#[])
  (h:∀am,(Sv am).Perm (Sv st)->Tc am=none->Srt rk (Sv am).toList->Q () am):wpS M A E s XT Q st:=by
 rw[Ht];refine Sy (UB ?_);have I0:Iv kd rk (Sv st) 0 st:=⟨hk,hf,QN _,by rw[hp];exact rfl⟩;revert I0 hS h;generalize Sv st=a0;intro hS h I0;refine Sy (TB (Te (I:=λx c am=>∃q0,c=(none,q0)/\x<=q0/\q0<=a0.size/\Iv kd rk a0 q0 am) (Q:=λc am=>c=(none,a0.size)/\Iv kd rk a0 a0.size am) ?_ ?_ ⟨0,rfl,e_ _,MU _,I0⟩) ?_)
 ·rintro x c gl _ _ ⟨q0,rfl,g1,g2,I⟩;exact xB L hS hr I g2 (λe=>by subst e;exact⟨rfl,I⟩) λn ii k1 k2 I2=>⟨q0+n,rfl,by lia,k2,I2⟩
 ·rintro c gl ⟨q0,rfl,g1,g2,I⟩;have e:q0=a0.size:=by lia
  subst e;exact⟨rfl,I⟩
 rintro c gl ⟨rfl,I1⟩;dsimp only;refine Sy (TB (Te (I:=λx c am=>c=(none,())/\Iv kd rk a0 a0.size am/\((SM am).size<=1\/(SM am).size+x<=a0.size)) (Q:=λc am=>c=(none,())/\Iv kd rk a0 a0.size am/\(SM am).size<=1) ?_ ?_ ⟨rfl,I1,.inr ?_⟩) ?_)
 ·rintro x c ii _ _ ⟨rfl,I2,g⟩;unfold vD;refine Sy (UB ?_);by_cases z:(SM ii).size<=1
  ·rw[if_pos z];exact SH ⟨rfl,I2,z⟩
  rw[if_neg z];refine Sy (wq L hS hr I2 (e_ _) (EJ (by lia)) λim I3 e _=>?_);rw[if_neg (by simp)];exact SH ⟨rfl,I3,.inr (by lia)⟩
 ·rintro c ii ⟨rfl,I2,g⟩;exact⟨rfl,I2,by lia⟩
 ·have:=I1.pd.le;rw[l_]at this;lia
 rintro c ii ⟨rfl,I2,g⟩;refine SH (h ii I2.a I2.f ?_);have P:=I2.pd;have sz:=I2.a.size_eq;have lp:(SM ii).toList.length<=1:=by rw[l_];exact g
 have o:gG rk (Sv ii) 0 a0.size:=by
  generalize (SM ii).toList=l at P lp
  match l,P,lp with
  | [],P,_=>
   have e:0=a0.size:=P;intro i j _ hj;lia
  | [(c,n,_)],P,_=>
   obtain⟨e1,_,o,e2⟩:=P;have e2:0+n=a0.size:=e2;subst e1;rw[<-e2,N2];exact o
  | _::_::_,_,lp=>simp at lp
 have:=kP o;rw[Pa,Nw (by rw[l_];lia)]at this;exact this
end
section
variable{κ:Type}{lt:κ->κ->Bool}
noncomputable def rnk(lt:κ->κ->Bool)(ks:List κ)(k:κ):Nat:=ks.countP λy=>lt y k
theorem count_le{p q:κ->Bool}:∀{l:List κ},(∀x∈l,p x=true->q x=true)->l.countP p<=l.countP q
 | [],_=>e_ _
 |x::t,h=>by
  have ih:=count_le (l:=t) λy hy=>h y (.tail _ hy);have hx:=h x (.head _);rw[PH,PH];cases e:p x
  ·rw[if_neg (by simp)];lia
  rw[hx e,if_pos rfl];lia
theorem x9{p q:κ->Bool}:∀{l:List κ}{z:κ},(∀x∈l,p x=true->q x=true)->z∈l->p z=false->q z=true->l.countP p<l.countP q
 |x::t,z,h,hz,h1,h2=>by
  have ih:=count_le (l:=t) λy hy=>h y (.tail _ hy);have hx:=h x (.head _);rw[PH,PH];rcases n_.mp hz with e|e
  ·subst e;rw[h1,h2,if_neg (by simp),if_pos rfl];lia
  have:=x9 (l:=t) (λy hy=>h y (.tail _ hy)) e h1 h2;cases e:p x
  ·rw[if_neg (by simp)];lia
  rw[hx e,if_pos rfl];lia
structure Tot (lt:κ->κ->Bool):Prop where
 irr:∀a,lt a a=false
 tr:∀a b c,lt a b=true->lt b c=true->lt a c=true
 tot:∀a b,lt a b=false->lt b a=false->a=b
theorem Cj(T:Tot lt){ks:List κ}{a b:κ}(h:lt b a=false):rnk lt ks a<=rnk lt ks b:=by
 refine count_le λy _ hy=>?_;cases e:lt a b
 ·rw[<-T.tot a b e h];exact hy
 exact T.tr _ _ _ hy e
theorem BW(T:Tot lt){ks:List κ}{a b:κ}(ha:a∈ks)(h:lt a b=true):rnk lt ks a<rnk lt ks b:=x9 (λy _ hy=>T.tr _ _ _ hy h) ha (T.irr a) h
theorem EM(T:Tot lt){ks:List κ}{a b:κ}(ha:a∈ks):decide (rnk lt ks a<rnk lt ks b)=lt a b:=by
 cases e:lt a b
 ·exact decide_eq_false (Ra.mpr (Cj T e))
 exact decide_eq_true (BW T ha e)
end
noncomputable def ltL:List Int->List Int->Bool
 | _,[]=>false
 | [],_::_=>true
 |a::x,b::y=>if a=b then ltL x y else decide (a<b)
theorem zF:∀x,ltL x x=false
 | []=>rfl
 |a::x=>by rw[ltL,if_pos rfl];exact zF x
theorem D6:∀a b c,ltL a b=true->ltL b c=true->ltL a c=true
 | _,[],_,h,_=>by simp[ltL]at h
 | _,_::_,[],_,h=>by simp[ltL]at h
 | [],_::_,_::_,_,_=>rfl
 |a::x,b::y,c::z,h,g=>by
  rw[ltL]at h g ⊢;by_cases e1:a=b
  ·subst e1;rw[if_pos rfl]at h;by_cases e2:a=c
   ·subst e2;rw[if_pos rfl]at g ⊢;exact D6 x y z h g
   rw[if_neg e2]at g ⊢;exact g
  rw[if_neg e1]at h;have h:=of_decide_eq_true h;by_cases e2:b=c
  ·subst e2;rw[if_neg e1];exact decide_eq_true h
  rw[if_neg e2]at g;have g:=of_decide_eq_true g;rw[if_neg (by lia)];exact decide_eq_true (by lia)
theorem zM:∀a b,ltL a b=false->ltL b a=false->a=b
 | [],[],_,_=>rfl
 | [],_::_,h,_=>by simp[ltL]at h
 | _::_,[],_,h=>by simp[ltL]at h
 |a::x,b::y,h,g=>by
  rw[ltL]at h g;by_cases e:a=b
  ·subst e;rw[if_pos rfl]at h g;rw[zM x y h g]
  rw[if_neg e]at h;rw[if_neg (λz=>e z.symm)]at g;have h:=of_decide_eq_false h;have g:=of_decide_eq_false g;lia
theorem BY:Tot ltL:=⟨zF,D6,zM⟩
noncomputable def sI:Sl->Int
 | .int i _=>i
 | _=>0
def oq(h:SJ):Sl->List Int
 | .ref a=>match h.get? a with
  |some o=>match o.data with
   | .seq xs _=>xs.toList.map sI
   | _=>[]
  |none=>[]
 | _=>[]
noncomputable def AllInt(l:List Sl):Prop:=∀v∈l,∃i t,v=.int i t
def Em(h:SJ)(v:Sl):Prop:=∃a o xs n,v=.ref a/\h.get? a=some o/\o.cls=.type "tuple"/\o.data=.seq xs n/\AllInt xs.toList/\0<xs.size
theorem uO{h:SJ}{a:Sn}{o:Obj}{xs:Array Sl}(e:h.get? a=some o)(d:o.data=.seq xs n):oq h (.ref a)=xs.toList.map sI:=by unfold oq;dsimp only;rw[e];dsimp only;rw[d]
variable {P:YL->So->Prop}{S:Su->Prop}{rk:Su->Nat}{vs:List Sl}
section
variable{prog:SD}{w:SI}{A:SW}{E:Sl->So->Prop}{s:So}
theorem zt{Q:Bool->So->Prop}{fin:Bool}:∀(xs ys:List Sl) (i:Nat),AllInt xs->AllInt ys->fin=decide (xs.length<ys.length)->Q (ltL (xs.map sI) (ys.map sI)) s->PySem.W.KatLex prog w A true fin Q (xs.zip ys) i s
 | [],[],i,_,_,e,q=>by subst e;exact Wc q
 | [],b::y,i,_,_,e,q=>by subst e;exact Wc q
 |a::x,[],i,_,_,e,q=>by subst e;exact Wc q
 |a::x,b::y,i,ha,hb,e,q=>by
  obtain⟨n,t,rfl⟩:=ha a (.head _);obtain⟨m,u,rfl⟩:=hb b (.head _);rw[f',f',ltL]at q;refine PySem.W.kat_cons (VU ?_);by_cases z:n=m
  ·have q:Q (ltL (x.map sI) (y.map sI)) s:=by rw[if_pos (show sI (.int n t)=sI (.int m u)from z)]at q;exact q
   rw[show(n == m)=true by simpa using z];refine PySem.W.kat_yes (zt x y (i+1) (λv hv=>ha v (.tail _ hv)) (λv hv=>hb v (.tail _ hv)) ?_ q);rw[e,i',i'];exact decide_eq_decide.mpr (by lia)
  have q:Q (decide (n<m)) s:=by rw[if_neg (show ¬sI (.int n t)=sI (.int m u)from z)]at q;exact q
  rw[show(n == m)=false by simpa using z];refine PySem.W.kat_no ?_;cases (true&&i == 0)
  ·exact PySem.W.kat_one _ _ (lt_int q)
  exact oneLt_int q
theorem xE{h0:SJ}{ks:List (List Int)}(hS:∀x,S x->Em h0 x.1/\oq h0 x.1∈ks)(hk:∀b o,h0.get? b=some o->(∃x n,o.cls=.type "tuple"/\o.data=.seq x n)->s.heap.get? b=some o) :
  hG (SG prog w) A E s (XN true) (λx=>rnk ltL ks (oq h0 x.1)) S:=by
 intro x y st Q sx sy kd q;obtain⟨⟨a,oa,xs,na,ea,ga,ca,da,ia,_⟩,ma⟩:=hS x sx;obtain⟨⟨b,ob,ys,nb,eb,gb,cb,db,ib,_⟩,mb⟩:=hS y sy;rw[lt'_eq];refine Sy (UB ?_);rw[kd,ea,eb];refine Sy (WA (UA (PySem.W.kat_lt (hk _ _ ga ⟨_,_,ca,da⟩) da (hk _ _ gb ⟨_,_,cb,db⟩) db (zt _ _ 0 ia ib (by rw[l_,l_]) ⟨rfl,?_⟩))));refine SH ?_;dsimp only at q;rw[EM BY ma,ea,eb,uO ga da,uO gb db]at q;exact q
theorem xv{M:UC}{h0:SJ}{Q:TQ->So->Prop}(hv:∀v∈vs,Em h0 v)(hk:∀b o,h0.get? b=some o->(∃x n,o.cls=.type "tuple"/\o.data=.seq x n)->s.heap.get? b=some o)(io:vs≠[])(q:Q (XN true) s):Sw M A (WC vs.toArray) Q E s:=by
 have mk:∀(l:List Sl),(∀v∈l,Em h0 v)->∃fs,PySem.W.KatTups s.heap l fs/\AllInt fs/\fs.length=l.length:=by
  intro l;induction l with
  |nil=>exact λ_=>⟨[],YE,λv hv=>(nomatch hv),rfl⟩
  |cons v r ih=>
   intro hl;obtain⟨fs,k1,k2,k3⟩:=ih λv hv=>hl v (.tail _ hv);obtain⟨a,o,xs,n,rfl,g,c,d,i,z⟩:=hl v (.head _);obtain⟨f,hf⟩:∃f,xs[0]?=some f:=⟨_,y_ z⟩;refine⟨f::fs,Yw (hk _ _ g ⟨_,_,c,d⟩) c d hf k1,λv hv=>?_,by rw[i',i',k3]⟩;rcases n_.mp hv with e|e
   ·subst e;rw[<-k_]at hf;exact i _ (D_ hf)
   exact k2 v e
 obtain⟨fs,k1,k2,k3⟩:=mk vs hv;refine PySem.W.kat_kind (T:=.type "int") k1 ?_ (λv hv=>?_) rfl q
 ·rw[k3];exact Rh.mpr io
 obtain⟨i,t,rfl⟩:=k2 v hv;exact .now
theorem iY(vs:List Sl):(vs.toArray.zip vs.toArray).toList=vs.map λv=>(v,v):=by
 rw[Array.toList_zip];induction vs with
 |nil=>rfl
 |cons v r ih=>exact congrArg ((v,v)::·) ih
theorem AH{a:Sn}{kd:TQ}(ho:s.heap.get? a=some (S9 "list" vs.toArray n))(hz:vs.length<=sizeLine)(hS:∀v∈vs,S (v,v))
  (kind:∀h',(∀b o,b≠a->s.heap.get? b=some o->h'.get? b=some o)->∀{Q:TQ->So->Prop},vs≠[]->Q kd {s with heap:=h'}->Sw (SG prog w) A (WC vs.toArray) Q E {s with heap:=h'})
  (lt:∀h',(∀b o,b≠a->s.heap.get? b=some o->h'.get? b=some o)->hG (SG prog w) A E {s with heap:=h'} kd rk S)
  (h:∀(o:List Sl) c h',o.Perm vs->o.Pairwise (λx y=>rk (x,x)<=rk (y,y))->(∀b u,b≠a->s.heap.get? b=some u->h'.get? b=some u)->h'.get? a=some (S9 "list" o.toArray c)->P (.done (.ret .none)) {s with heap:=h'}) :
  Sw (SG prog w) A (Uo.«list.sort» ⟨[.ref a],[]⟩) P E s:=by
 rw[Xv];have ha:a<s.heap.objs.size:=Sx ho;refine Sj (Yc ho rfl ?_);refine Sj (VM ho rfl ?_ (by rw[j'];exact hz) (MU _));obtain⟨e1,ho1⟩:∃e1,(s.heap.update a (SN λ_=>(#[]:Array Sl))).get? a=some (S9 "list" #[] e1):=⟨_,Vo ho λ_=>#[]⟩;refine Sj (Wj ho1 rfl ?_);refine Sj (Vt ?_ hz);refine Sj (UK ?_ (MU _));refine SY ?_;have k2:∀b u,(s.heap.update a (SN λ_=>(#[]:Array Sl))).get? b=some u->(((s.heap.update a (SN λ_=>(#[]:Array Sl))).push (S9 "tuple" vs.toArray 0)).push (S9 "list" #[] 0)).get? b=some u:=λb u e=>Sr _ (Sr _ e);have k3:∀b u,b≠a->s.heap.get? b=some u->(((s.heap.update a (SN λ_=>(#[]:Array Sl))).push (S9 "tuple" vs.toArray 0)).push (S9 "list" #[] 0)).get? b=some u:=λb u hb e=>k2 b u (by rw[Tw _ _ _ _ hb];exact e)
 have ho6:=k2 _ _ ho1;show Sw (SG prog w) A _ P E {s with heap:=((s.heap.update a (SN λ_=>(#[]:Array Sl))).push (S9 "tuple" vs.toArray 0)).push (S9 "list" #[] 0) };generalize ((s.heap.update a (SN λ_=>(#[]:Array Sl))).push (S9 "tuple" vs.toArray 0)).push (S9 "list" #[] 0)=h1 at k3 ho6 ⊢;dsimp only;have fin:∀am:Sz,(Sv am).Perm (vs.toArray.zip vs.toArray)->Srt rk (Sv am).toList->Tc am=none->Sw (SG prog w) A (do
   let touched:=(<-seqEpoch a) != e1
   V4 (.ref a) λ_=>(Sv am).map (·.2)
   if let some e:=Tc am then rule "list.sort.comparison-raised";throw e
   if touched then rule "list.sort.modified";raiseError "ValueError" "list modified during sort"
   ret .none) P E {s with heap:=h1}:=λam hp hs hf=>by
  have lp:(Sv am).toList.Perm (vs.map λv=>(v,v)):=by have:=Oe.mp hp;rw[iY]at this;exact this
  have op:((Sv am).toList.map (·.2)).Perm vs:=by have:=lp.map (·.2);rw[H_,show((λx:Su=>x.2) ∘ λv:Sl=>(v,v))=id from rfl,Qf]at this;exact this
  have tw:∀p∈(Sv am).toList,p=(p.2,p.2):=λp hp=>by obtain⟨v,_,e⟩:=s_.mp (lp.mem_iff.mp hp);rw[<-e]
  have osr:((Sv am).toList.map (·.2)).Pairwise (λx y=>rk (x,x)<=rk (y,y)):=by rw[Nz];refine QG (λ{p q} hp hq hr=>?_) hs;rw[<-tw p hp,<-tw q hq];exact hr
  have os:((Sv am).map (·.2)).size<=sizeLine+1:=by rw[<-l_,QH,op.length_eq];lia
  refine Sj (Wj ho6 rfl ?_);refine Sj (VM ho6 rfl ?_ (MU _) os);rw[hf];simp only[bne_self_eq_false,MZ,if_false];obtain⟨c,hc⟩:∃c,(h1.update a (SN λ_=>(Sv am).map (·.2))).get? a=some (S9 "list" ((Sv am).toList.map (·.2)).toArray c):=by have:=Vo ho6 λ_=>(Sv am).map (·.2);rw[show((Sv am).toList.map (·.2)).toArray=(Sv am).map (·.2) by rw[<-QH]];exact⟨_,this⟩
  refine Ss (h _ c _ op osr (λb u hb e=>?_) hc);rw[Tw _ _ _ _ hb];exact k3 b u hb e
 by_cases h2:vs.toArray.size<2
 ·rw[if_pos h2,if_pos h2];refine Sj (Ss ?_);rw[Xw];refine Sj (Ss ?_);refine fin (T6 general' (vs.toArray.zip vs.toArray) #[] 7 none) (QN _) ?_ rfl;show Srt rk (vs.toArray.zip vs.toArray).toList;rw[iY];have h3:vs.length<2:=h2;clear fin h lt kind hS ho
  match vs,h3 with
  | [],_=>exact .nil
  | [v],_=>exact QM _ _
  | _::_::_,h3=>exact absurd h3 (by rw[i',i'];lia)
 rw[if_neg h2,if_neg h2];refine Sj (kind h1 k3 (λz=>by rw[z]at h2;simp at h2) ?_);refine Sj (Tb (x4 (st:=T6 kd (vs.toArray.zip vs.toArray) #[] 7 none) (Q:=λ_ am=>(Sv am).Perm (vs.toArray.zip vs.toArray)/\Tc am=none/\Srt rk (Sv am).toList) (lt h1 k3) (λp hp=>?_) (λx=>UD rfl) rfl rfl rfl λam a1 a2 a3=>⟨a1,a2,a3⟩) ?_ λ_ _ e=>e)
 ·rw[show(Sv (T6 kd (vs.toArray.zip vs.toArray) #[] 7 none))=vs.toArray.zip vs.toArray from rfl,iY]at hp;obtain⟨v,hv,e⟩:=s_.mp hp;rw[<-e];exact hS v hv
 rintro⟨⟨⟩,am⟩ s' ⟨rfl,hp,hf,hs⟩;exact fin am hp hs hf
theorem yD{l:Sn}{kd:TQ}{Q:Sl->So->Prop}(hl:s.heap.IsList l vs.toArray)(hz:vs.length<=sizeLine)(hS:∀v∈vs,S (v,v))
  (kind:∀h',(∀b o,s.heap.get? b=some o->h'.get? b=some o)->∀{Q:TQ->So->Prop}{E:Sl->So->Prop},vs≠[]->Q kd {s with heap:=h'}->Sw (SG prog w) A.in1.in1 (WC vs.toArray) Q E {s with heap:=h'})
  (lt:∀h' E,(∀b o,s.heap.get? b=some o->h'.get? b=some o)->hG (SG prog w) A.in1.in1 E {s with heap:=h'} kd rk S)
  (h:∀(o:List Sl) a c h',o.Perm vs->o.Pairwise (λx y=>rk (x,x)<=rk (y,y))->s.heap.objs.size<=a->(∀b u,s.heap.get? b=some u->h'.get? b=some u)->h'.get? a=some (S9 "list" o.toArray c)->Q (.ref a) {s with heap:=h'}) :
  Sw (SG prog w) A (call (.builtin "sorted") [.ref l]) Q E s:=by
 refine UR Yr Yd Ye (Yf _) ?_;unfold Uo.«sorted»;refine Sj (m:=checkCount "sorted" 1 1 _) (Ss ?_);refine Sj (Yg hl ?_ hz);refine Sj (UK ?_ hz);have hsz:((s.heap.push (S9 "list" #[] 0)).update s.heap.objs.size (SN (·++vs.toArray))).objs.size=s.heap.objs.size+1:=by rw[Ut,size_push']
 have hoL:(((s.heap.push (S9 "list" #[] 0)).update s.heap.objs.size (SN (·++vs.toArray))).push (S9 "list" vs.toArray 0)).get? (s.heap.objs.size+1)=some (S9 "list" vs.toArray 0):=by rw[<-hsz];exact SF _ rfl
 have keep:∀b o,s.heap.get? b=some o->(((s.heap.push (S9 "list" #[] 0)).update s.heap.objs.size (SN (·++vs.toArray))).push (S9 "list" vs.toArray 0)).get? b=some o:=λb o q=>by have kw:b<s.heap.objs.size:=Sx q;rw[U7 _ _ _ (by rw[hsz];exact j_ (Pg kw)),Tw _ _ _ _ (j_ kw),U7 _ _ _ (j_ kw)];exact q
 show Sw _ _ _ _ _ {s with heap:=((s.heap.push (S9 "list" #[] 0)).update s.heap.objs.size (SN (·++vs.toArray))).push (S9 "list" vs.toArray 0) };rw[hsz];generalize ((s.heap.push (S9 "list" #[] 0)).update s.heap.objs.size (SN (·++vs.toArray))).push (S9 "list" vs.toArray 0)=h1 at hoL keep ⊢;have ne:∀b o,s.heap.get? b=some o->b≠s.heap.objs.size+1:=λb o e=>j_ (Pg (Sx e));refine Sj (SY (Tp XO ⟨_,hoL,rfl⟩ Xx ?body (XQ _)))
 case body=>
  refine AH (s:={s with heap:=h1}) (kd:=kd) (rk:=rk) (S:=S) hoL hz hS (λh' k {Q} io q=>kind h' (λb o e=>k b o (ne b o e) (keep b o e)) io q) (λh' k=>lt h' _ λb o e=>k b o (ne b o e) (keep b o e)) λo c h' g1 g2 g3 g4=>?_;exact⟨_,rfl,Ss ⟨_,rfl,h o _ c h' g1 g2 (QT _) (λb u e=>g3 b u (ne b u e) (keep b u e)) g4⟩⟩
end
theorem A1:∀(f n r:Nat),VT f n r<=n+r
 |0,n,r=>e_ _
 |f+1,n,r=>by
  rw[minRun'_succ];split
  ·exact e_ _
  have:=A1 f (n/2) (max r (n%2));lia
section
variable{M:UC}{A:SW}{E:Sl->So->Prop}{s:So}{kd:TQ}{rk:Su->Nat}{S:Su->Prop}
theorem uN(L:hG M A E s kd rk S)(hk:kindOf st=kd)(hS:mY S st)(hsz:l0+q0<=(Sv st).size)(h1:1<=q0)(o:gG rk (Sv st) l0 q0)(h:Q (some q0) st):wpS M A E s (WW l0 q0) Q st:=by
 rw[Hs];dsimp only;refine Sy (TB (Te (I:=λx c am=>am=st/\c=(none,x)) (Q:=λc am=>am=st/\c=(none,q0)) ?_ ?_ ⟨rfl,rfl⟩) ?_)
 ·rintro x c gl hx1 hx2 ⟨rfl,rfl⟩;dsimp only;refine Sy (jW L hk hS (by lia) (by lia) ?_);dsimp only;have:=o (x-1) x (NS ..) hx2;rw[yg hx1]at this;rw[decide_eq_false (Ra.mpr this),if_neg (by simp)];exact SH ⟨rfl,rfl⟩
 ·rintro c gl ⟨rfl,rfl⟩;rw[PD h1];exact⟨rfl,rfl⟩
 rintro c gl ⟨rfl,rfl⟩;dsimp only;rw[if_pos (beq_self_eq_true _)];exact SH h
theorem vP{Q:Unit->Sz->Prop}(L:hG M A E s kd rk S)(hS:mY S st)(hk:kindOf st=kd)(hf:Tc st=none)(hp:SM st=#[])(o:gG rk (Sv st) 0 (Sv st).size)
  (h:∀am,Sv am=Sv st->Tc am=none->Q () am):wpS M A E s XT Q st:=by
 rw[Ht];refine Sy (UB ?_);refine Sy (TB (Te (I:=λx c am=>(x=0/\c=(none,0)/\am=st)\/(c=(none,(Sv st).size)/\Sv am=Sv st/\Tc am=none/\(SM am).size<=1)) (Q:=λc am=>c.1=none/\Sv am=Sv st/\Tc am=none/\(SM am).size<=1) ?_ ?_ (.inl ⟨rfl,rfl,rfl⟩)) ?_)
 ·rintro x c gl _ hx (⟨rfl,rfl,rfl⟩|⟨rfl,g1,g2,g3⟩)
  ·unfold jD;rw[if_neg (Nat.not_le.mpr hx)];refine Sy (uN L hk hS (by rw[N2,QD];exact e_ _) hx (by rw[QD];exact o) ?_);dsimp only;have mr:¬(Sv gl).size<VT (Sv gl).size (Sv gl).size 0:=Ra.mpr (A1 _ _ 0);rw[QD,if_neg mr];unfold tl;refine Sy (UB ?_);rw[hp];show wpS M A E s (oh 0 (Sv gl).size) _ gl;unfold oh;refine Sy (U4 (SH (.inr ⟨by rw[N2],rfl,hf,?_⟩)));show((SM gl).push _).size<=1;rw[hp];exact e_ _
  unfold jD;rw[if_pos (e_ _)];exact SH ⟨rfl,g1,g2,g3⟩
 ·rintro c gl (⟨_,rfl,rfl⟩|⟨rfl,g1,g2,g3⟩)
  ·exact⟨rfl,rfl,hf,by rw[hp];exact MU _⟩
  exact⟨rfl,g1,g2,g3⟩
 rintro⟨c,n⟩ gl ⟨rfl,g1,g2,g3⟩;dsimp only;refine Sy (TB (Te (I:=λx c am=>c=(none,())/\am=gl) (Q:=λc am=>c=(none,())/\am=gl) ?_ (λ_ _ z=>z) ⟨rfl,rfl⟩) ?_)
 ·rintro x c ii _ _ ⟨rfl,rfl⟩;unfold vD;refine Sy (UB ?_);rw[if_pos g3];exact SH ⟨rfl,rfl⟩
 rintro c ii ⟨rfl,rfl⟩;exact SH (h ii g1 g2)
end
section
variable{prog:SD}{w:SI}{A:SW}{E:Sl->So->Prop}{s:So}
theorem Gj{a:Sn}{kd:TQ}(ho:s.heap.get? a=some (S9 "list" vs.toArray n))(hz:vs.length<=sizeLine)(hS:∀v∈vs,S (v,v))(os:vs.Pairwise λx y=>rk (x,x)<=rk (y,y))
  (kind:∀h',(∀b o,b≠a->s.heap.get? b=some o->h'.get? b=some o)->∀{Q:TQ->So->Prop},vs≠[]->Q kd {s with heap:=h'}->Sw (SG prog w) A (WC vs.toArray) Q E {s with heap:=h'})
  (lt:∀h',(∀b o,b≠a->s.heap.get? b=some o->h'.get? b=some o)->hG (SG prog w) A E {s with heap:=h'} kd rk S)
  (h:∀c h',(∀b u,b≠a->s.heap.get? b=some u->h'.get? b=some u)->h'.get? a=some (S9 "list" vs.toArray c)->P (.done (.ret .none)) {s with heap:=h'}) :
  Sw (SG prog w) A (Uo.«list.sort» ⟨[.ref a],[]⟩) P E s:=by
 rw[Xv];have ha:a<s.heap.objs.size:=Sx ho;refine Sj (Yc ho rfl ?_);refine Sj (VM ho rfl ?_ (by rw[j'];exact hz) (MU _));obtain⟨e1,ho1⟩:∃e1,(s.heap.update a (SN λ_=>(#[]:Array Sl))).get? a=some (S9 "list" #[] e1):=⟨_,Vo ho λ_=>#[]⟩;refine Sj (Wj ho1 rfl ?_);refine Sj (Vt ?_ hz);refine Sj (UK ?_ (MU _));refine SY ?_;have k2:∀b u,(s.heap.update a (SN λ_=>(#[]:Array Sl))).get? b=some u->(((s.heap.update a (SN λ_=>(#[]:Array Sl))).push (S9 "tuple" vs.toArray 0)).push (S9 "list" #[] 0)).get? b=some u:=λb u e=>Sr _ (Sr _ e);have k3:∀b u,b≠a->s.heap.get? b=some u->(((s.heap.update a (SN λ_=>(#[]:Array Sl))).push (S9 "tuple" vs.toArray 0)).push (S9 "list" #[] 0)).get? b=some u:=λb u hb e=>k2 b u (by rw[Tw _ _ _ _ hb];exact e)
 have ho6:=k2 _ _ ho1;show Sw (SG prog w) A _ P E {s with heap:=((s.heap.update a (SN λ_=>(#[]:Array Sl))).push (S9 "tuple" vs.toArray 0)).push (S9 "list" #[] 0) };generalize ((s.heap.update a (SN λ_=>(#[]:Array Sl))).push (S9 "tuple" vs.toArray 0)).push (S9 "list" #[] 0)=h1 at k3 ho6 ⊢;dsimp only;have zm:(vs.toArray.zip vs.toArray).map (·.2)=vs.toArray:=by refine Array.ext' ?_;rw[QH,iY,H_];exact Qf _
 have fin:∀am:Sz,Sv am=vs.toArray.zip vs.toArray->Tc am=none->Sw (SG prog w) A (do
   let touched:=(<-seqEpoch a) != e1
   V4 (.ref a) λ_=>(Sv am).map (·.2)
   if let some e:=Tc am then rule "list.sort.comparison-raised";throw e
   if touched then rule "list.sort.modified";raiseError "ValueError" "list modified during sort"
   ret .none) P E {s with heap:=h1}:=λam hp hf=>by
  rw[hp,zm];refine Sj (Wj ho6 rfl ?_);refine Sj (VM ho6 rfl ?_ (MU _) (by rw[j'];exact Pe hz));rw[hf];simp only[bne_self_eq_false,MZ,if_false];refine Ss (h _ _ (λb u hb e=>?_) (Vo ho6 λ_=>vs.toArray));rw[Tw _ _ _ _ hb];exact k3 b u hb e
 by_cases h2:vs.toArray.size<2
 ·rw[if_pos h2,if_pos h2];refine Sj (Ss ?_);rw[Xw];refine Sj (Ss ?_);exact fin (T6 general' (vs.toArray.zip vs.toArray) #[] 7 none) rfl rfl
 rw[if_neg h2,if_neg h2];refine Sj (kind h1 k3 (λz=>by rw[z]at h2;simp at h2) ?_);have ea:Sv (T6 kd (vs.toArray.zip vs.toArray) #[] 7 none)=vs.toArray.zip vs.toArray:=rfl;have at':∀i,(vs.toArray.zip vs.toArray)[i]?=vs[i]?.map λv=>(v,v):=λi=>by rw[<-k_,iY,u_]
 refine Sj (Tb (vP (st:=T6 kd (vs.toArray.zip vs.toArray) #[] 7 none) (Q:=λ_ am=>Sv am=vs.toArray.zip vs.toArray/\Tc am=none) (lt h1 k3) (λp hp=>?_) rfl rfl rfl (λi j jp hj=>?_) λam a1 a2=>⟨a1,a2⟩) ?_ λ_ _ e=>e)
 ·rw[ea,iY]at hp;obtain⟨v,hv,e⟩:=s_.mp hp;rw[<-e];exact hS v hv
 ·have hl:(vs.toArray.zip vs.toArray).size=vs.length:=by rw[<-l_,iY,a_]
  rw[ea,hl]at hj;rw[ea];unfold R;rw[at',at',N2,N2,f_ hj,f_ (NB jp hj)];rcases Nat.eq_or_lt_of_le jp with rfl|lt
  ·exact e_ _
  exact NY.mp os i j _ hj lt
 rintro⟨⟨⟩,am⟩ s' ⟨rfl,hp,hf⟩;exact fin am hp hf
theorem De{l:Sn}{kd:TQ}{Q:Sl->So->Prop}(hl:s.heap.IsList l vs.toArray)(hz:vs.length<=sizeLine)(hS:∀v∈vs,S (v,v))(os:vs.Pairwise λx y=>rk (x,x)<=rk (y,y))
  (kind:∀h',(∀b o,s.heap.get? b=some o->h'.get? b=some o)->∀{Q:TQ->So->Prop}{E:Sl->So->Prop},vs≠[]->Q kd {s with heap:=h'}->Sw (SG prog w) A.in1.in1 (WC vs.toArray) Q E {s with heap:=h'})
  (lt:∀h' E,(∀b o,s.heap.get? b=some o->h'.get? b=some o)->hG (SG prog w) A.in1.in1 E {s with heap:=h'} kd rk S)
  (h:∀a c h',s.heap.objs.size<=a->(∀b u,s.heap.get? b=some u->h'.get? b=some u)->h'.get? a=some (S9 "list" vs.toArray c)->Q (.ref a) {s with heap:=h'}) :
  Sw (SG prog w) A (call (.builtin "sorted") [.ref l]) Q E s:=by
 refine UR Yr Yd Ye (Yf _) ?_;unfold Uo.«sorted»;refine Sj (m:=checkCount "sorted" 1 1 _) (Ss ?_);refine Sj (Yg hl ?_ hz);refine Sj (UK ?_ hz);have hsz:((s.heap.push (S9 "list" #[] 0)).update s.heap.objs.size (SN (·++vs.toArray))).objs.size=s.heap.objs.size+1:=by rw[Ut,size_push']
 have hoL:(((s.heap.push (S9 "list" #[] 0)).update s.heap.objs.size (SN (·++vs.toArray))).push (S9 "list" vs.toArray 0)).get? (s.heap.objs.size+1)=some (S9 "list" vs.toArray 0):=by rw[<-hsz];exact SF _ rfl
 have keep:∀b o,s.heap.get? b=some o->(((s.heap.push (S9 "list" #[] 0)).update s.heap.objs.size (SN (·++vs.toArray))).push (S9 "list" vs.toArray 0)).get? b=some o:=λb o q=>by have kw:b<s.heap.objs.size:=Sx q;rw[U7 _ _ _ (by rw[hsz];exact j_ (Pg kw)),Tw _ _ _ _ (j_ kw),U7 _ _ _ (j_ kw)];exact q
 show Sw _ _ _ _ _ {s with heap:=((s.heap.push (S9 "list" #[] 0)).update s.heap.objs.size (SN (·++vs.toArray))).push (S9 "list" vs.toArray 0) };rw[hsz];generalize ((s.heap.push (S9 "list" #[] 0)).update s.heap.objs.size (SN (·++vs.toArray))).push (S9 "list" vs.toArray 0)=h1 at hoL keep ⊢;have ne:∀b o,s.heap.get? b=some o->b≠s.heap.objs.size+1:=λb o e=>j_ (Pg (Sx e));refine Sj (SY (Tp XO ⟨_,hoL,rfl⟩ Xx ?body (XQ _)))
 case body=>
  refine Gj (s:={s with heap:=h1}) (kd:=kd) (rk:=rk) (S:=S) hoL hz hS os (λh' k {Q} io q=>kind h' (λb o e=>k b o (ne b o e) (keep b o e)) io q) (λh' k=>lt h' _ λb o e=>k b o (ne b o e) (keep b o e)) λc h' g3 g4=>?_;exact⟨_,rfl,Ss ⟨_,rfl,h _ c h' (QT _) (λb u e=>g3 b u (ne b u e) (keep b u e)) g4⟩⟩
end
end ZS
namespace PL
open PySem L2
inductive T where
 |any|hole (w:V)|bare|kp (G:Hp)
 |non|bl (b:Bool)|int (i:Int)|str (x:Str)|ty (n:String)
 |tup (ts:List T)|cst (ts:List T)
 |lst (o:Bool) (ts:List T)
 |dK (o:Bool) (al:List (Key×T))
 |dT (o:Bool) (al:List (List Key×T))
mutual
noncomputable def er:T->T
 | .tup ts=>.tup (erL ts)
 | .cst ts=>.cst (erL ts)
 | .lst _ ts=>.lst false (erL ts)
 | .dK _ al=>.dK false (erK al)
 | .dT _ al=>.dT false (erT al)
 | .bare=>.any
 |t=>t
noncomputable def erL:List T->List T
 | []=>[]
 |t::r=>er t::erL r
noncomputable def erK:List (Key×T)->List (Key×T)
 | []=>[]
 | (k,t)::r=>(k,er t)::erK r
noncomputable def erT:List (List Key×T)->List (List Key×T)
 | []=>[]
 | (k,t)::r=>(k,er t)::erT r
end
mutual
noncomputable def aW:T->Bool
 | .tup ts=>aZ ts
 | .cst ts=>aZ ts
 | .lst o ts=>!o&&aZ ts
 | .dK o al=>!o&&uP al
 | .dT o al=>!o&&vJ al
 | .bare=>false
 | _=>true
noncomputable def aZ:List T->Bool
 | []=>true
 |t::r=>aW t&&aZ r
noncomputable def uP:List (Key×T)->Bool
 | []=>true
 | (_,t)::r=>aW t&&uP r
noncomputable def vJ:List (List Key×T)->Bool
 | []=>true
 | (_,t)::r=>aW t&&vJ r
end
mutual
noncomputable def eY:T->Bool
 | .tup ts=>d0 ts
 | .cst ts=>d0 ts
 | .lst o ts=>o&&d0 ts
 | .dK o al=>o&&rN al
 | .dT o al=>o&&u7 al
 | .kp _=>false
 | _=>true
noncomputable def d0:List T->Bool
 | []=>true
 |t::r=>eY t&&d0 r
noncomputable def rN:List (Key×T)->Bool
 | []=>true
 | (_,t)::r=>eY t&&rN r
noncomputable def u7:List (List Key×T)->Bool
 | []=>true
 | (_,t)::r=>eY t&&u7 r
end
theorem bX{α:Type}(g:α->T):∀l:List α,erL (l.map g)=l.map λx=>er (g x)
 | []=>rfl
 |x::r=>by rw[f',erL,bX g r,f']
theorem mS:∀l:List T,erL l=l.map er
 | []=>rfl
 |x::r=>by rw[erL,mS r,f']
theorem iL(l:List T):(erL l).length=l.length:=by rw[mS,a_]
theorem eD(l m:List T):erL (l++m)=erL l++erL m:=by rw[mS,mS,mS,m_]
theorem iS:∀l:List T,aZ l=l.all aW
 | []=>rfl
 |x::r=>by rw[aZ,iS r,Rf]
theorem jw:∀l:List T,d0 l=l.all eY
 | []=>rfl
 |x::r=>by rw[d0,jw r,Rf]
mutual
theorem aN:∀t:T,aW (er t)=true
 | .tup ts=>by rw[er,aW,lM ts]
 | .cst ts=>by rw[er,aW,lM ts]
 | .lst _ ts=>by rw[er,aW,lM ts];rfl
 | .dK _ ts=>by rw[er,aW,lI ts];rfl
 | .dT _ ts=>by rw[er,aW,tJ ts];rfl
 | .bare=>rfl
 | .any=>rfl
 | .hole _=>rfl
 | .kp _=>rfl
 | .non=>rfl
 | .bl _=>rfl
 | .int _=>rfl
 | .str _=>rfl
 | .ty _=>rfl
theorem lM:∀t:List T,aZ (erL t)=true
 | []=>rfl
 |t::r=>by rw[erL,aZ,aN t,lM r];rfl
theorem lI:∀t:List (Key×T),uP (erK t)=true
 | []=>rfl
 | (_,t)::r=>by rw[erK,uP,aN t,lI r];rfl
theorem tJ:∀t:List (List Key×T),vJ (erT t)=true
 | []=>rfl
 | (_,t)::r=>by rw[erT,vJ,aN t,tJ r];rfl
end
def Gr(G H:Hp):Prop:=∀b u,Rd G b u->Rd H b u
variable {H:Hp}
theorem Gr.gQ :Gr H H:=λ_ _ h=>h
variable {G:Hp}
theorem Gr.trans {J:Hp}(a:Gr G H)(b:Gr H J):Gr G J:=λc u h=>b c u (a c u h)
theorem Gr.of (h:d4 G H):Gr G H:=λb u r=>by
 rcases r with r|⟨o,r⟩
 ·exact .inl (h _ _ r)
 exact .inr ⟨o,h _ _ r⟩
theorem Rd.some {H:Hp}{a:Sn}{u:HO}(h:Rd H a u):∃w,H a=some w:=by
 rcases h with h|⟨o,h⟩
 ·exact⟨_,h⟩
 exact⟨_,h⟩
theorem Gr.none {G H:Hp}(h:Gr G H){a:Sn}(e:H a=none):G a=none:=by
 cases q:G a with
 |none=>rfl
 |some u=>
  obtain⟨w,z⟩:=Rd.some (h a u (.inl q));rw[e]at z;cases z
noncomputable def TK(H H':Hp):Prop:=∀b xs,H b=some (.tup xs)->H' b=some (.tup xs)
theorem d4.tk (h:d4 G H):TK G H:=λb xs r=>h _ _ r
variable {H':Hp}{a:Sn}
theorem Put.tk {o:HO}(p:Put H a o H')(ht:∀xs,H a≠some (.tup xs)):TK H H':=λb xs r=>by have hb:b≠a:=λz=>ht xs (z▸r);rw[p.else_ b hb];exact r
section
variable(K:Sm)(Hz H:Hp)
mutual
inductive RepT:T->V->List Sn->Prop
 |any {v:V}:RepT .any v []
 |hole {w:V}:RepT (.hole w) w []
 |bare {a:Sn}{u:HO} (h:H a=some u) (ht:∀xs,H a≠some (.tup xs)):RepT .bare (.ref a) [a]
 |kp {G:Hp}{v:V} (h:Gr G Hz):RepT (.kp G) v []
 |non:RepT .non .non []
 |bl {b:Bool}:RepT (.bl b) (.bl b) []
 |int {i:Int}:RepT (.int i) (.int i) []
 |str {x:Str}:RepT (.str x) (.str x) []
 |ty {n:String}:RepT (.ty n) (.ty n) []
 |tup {a:Sn}{ts:List T}{vs:List V}{L:List Sn} (h:H a=some (.tup vs)) (c:RepTs ts vs L):RepT (.tup ts) (.ref a) L
 |cst {a:Sn}{ts:List T}{vs:List V} (h:SqT K (λ_=>none) a vs) (c:RepTs ts vs []):RepT (.cst ts) (.ref a) []
 |lstO {a:Sn}{ts:List T}{vs:List V}{L:List Sn} (h:H a=some (.lst vs)) (c:RepTs ts vs L):RepT (.lst true ts) (.ref a) (a::L)
 |lstZ {a:Sn}{ts:List T}{vs:List V} (h:Rd Hz a (.lst vs)) (c:RepTs ts vs []):RepT (.lst false ts) (.ref a) []
 |dKO {a:Sn}{ts:List (Key×T)}{vs:List (Key×V)}{L:List Sn} (h:H a=some (.dK vs)) (c:RepKs ts vs L):RepT (.dK true ts) (.ref a) (a::L)
 |dKZ {a:Sn}{ts:List (Key×T)}{vs:List (Key×V)} (h:Rd Hz a (.dK vs)) (c:RepKs ts vs []):RepT (.dK false ts) (.ref a) []
 |dTO {a:Sn}{ts:List (List Key×T)}{vs:List (List Key×V)}{L:List Sn} (h:H a=some (.dT vs)) (c:RepXs ts vs L):RepT (.dT true ts) (.ref a) (a::L)
 |dTZ {a:Sn}{ts:List (List Key×T)}{vs:List (List Key×V)} (h:Rd Hz a (.dT vs)) (c:RepXs ts vs []):RepT (.dT false ts) (.ref a) []
inductive RepTs:List T->List V->List Sn->Prop
 |nil:RepTs [] [] []
 |cons {t:T}{v:V}{L M N:List Sn}{ts:List T}{vs:List V} (e:N=L++M) (h:RepT t v L) (c:RepTs ts vs M):RepTs (t::ts) (v::vs) N
inductive RepKs:List (Key×T)->List (Key×V)->List Sn->Prop
 |nil:RepKs [] [] []
 |cons {k:Key}{t:T}{v:V}{L M N:List Sn}{ts:List (Key×T)}{vs:List (Key×V)} (e:N=L++M) (h:RepT t v L) (c:RepKs ts vs M):RepKs ((k,t)::ts) ((k,v)::vs) N
inductive RepXs:List (List Key×T)->List (List Key×V)->List Sn->Prop
 |nil:RepXs [] [] []
 |cons {k:List Key}{t:T}{v:V}{L M N:List Sn}{ts:List (List Key×T)}{vs:List (List Key×V)} (e:N=L++M) (h:RepT t v L) (c:RepXs ts vs M):RepXs ((k,t)::ts) ((k,v)::vs) N
end
end
variable {Hz Hz' Z:Hp}{L M:List Sn}{p:Sn}{t:T}{ts:List T}{v:V}{vs xs:List V}{x:Option V}{α:Type}
section
variable{K:Sm}
theorem nH{P:T->V->List Sn->Prop}{Ps:List T->List V->List Sn->Prop}{Pk:List (Key×T)->List (Key×V)->List Sn->Prop}{Px:List (List Key×T)->List (List Key×V)->List Sn->Prop}
  (c1:∀{v},P .any v []) (c2:∀{w},P (.hole w) w []) (c3:∀{a u},H a=some u->(∀xs,H a≠some (.tup xs))->P .bare (.ref a) [a]) (c4:∀{G v},Gr G Hz->P (.kp G) v [])
  (c5:P .non .non []) (c6:∀{b},P (.bl b) (.bl b) []) (c7:∀{i},P (.int i) (.int i) []) (c8:∀{x},P (.str x) (.str x) []) (c9:∀{n},P (.ty n) (.ty n) [])
  (c10:∀{a ts vs L},H a=some (.tup vs)->Ps ts vs L->P (.tup ts) (.ref a) L) (c11:∀{a ts vs},SqT K (λ_=>none) a vs->Ps ts vs []->P (.cst ts) (.ref a) [])
  (c12:∀{a ts vs L},H a=some (.lst vs)->Ps ts vs L->P (.lst true ts) (.ref a) (a::L)) (c13:∀{a ts vs},Rd Hz a (.lst vs)->Ps ts vs []->P (.lst false ts) (.ref a) [])
  (c14:∀{a ts vs L},H a=some (.dK vs)->Pk ts vs L->P (.dK true ts) (.ref a) (a::L)) (c15:∀{a ts vs},Rd Hz a (.dK vs)->Pk ts vs []->P (.dK false ts) (.ref a) [])
  (c16:∀{a ts vs L},H a=some (.dT vs)->Px ts vs L->P (.dT true ts) (.ref a) (a::L)) (c17:∀{a ts vs},Rd Hz a (.dT vs)->Px ts vs []->P (.dT false ts) (.ref a) [])
  (s0:Ps [] [] []) (s1:∀{t v L M ts vs},P t v L->Ps ts vs M->Ps (t::ts) (v::vs) (L++M))
  (k0:Pk [] [] []) (k1:∀{k t v L M ts vs},P t v L->Pk ts vs M->Pk ((k,t)::ts) ((k,v)::vs) (L++M))
  (x0:Px [] [] []) (x1:∀{k t v L M ts vs},P t v L->Px ts vs M->Px ((k,t)::ts) ((k,v)::vs) (L++M)) :
  (∀{t v L},RepT K Hz H t v L->P t v L)/\(∀{t v L},RepTs K Hz H t v L->Ps t v L)/\(∀{t v L},RepKs K Hz H t v L->Pk t v L)/\(∀{t v L},RepXs K Hz H t v L->Px t v L):=by
 have m1:∀{t v L},RepT K Hz H t v L->P t v L:=λh=>RepT.rec (motive_1:=λt v L _=>P t v L) (motive_2:=λt v L _=>Ps t v L) (motive_3:=λt v L _=>Pk t v L) (motive_4:=λt v L _=>Px t v L)
  c1 c2 c3 c4 c5 c6 c7 c8 c9 (λh _ i=>c10 h i) (λh _ i=>c11 h i) (λh _ i=>c12 h i) (λh _ i=>c13 h i) (λh _ i=>c14 h i) (λh _ i=>c15 h i) (λh _ i=>c16 h i) (λh _ i=>c17 h i)
  s0 (λe _ _ i j=>e▸s1 i j) k0 (λe _ _ i j=>e▸k1 i j) x0 (λe _ _ i j=>e▸x1 i j) h
 refine⟨m1,λh=>?_,λh=>?_,λh=>?_⟩
 ·exact RepTs.rec (motive_1:=λt v L _=>True) (motive_2:=λt v L _=>Ps t v L) (motive_3:=λt v L _=>True) (motive_4:=λt v L _=>True)
   trivial trivial (λ_ _=>trivial) (λ_=>trivial) trivial trivial trivial trivial trivial (λ_ _ _=>trivial) (λ_ _ _=>trivial) (λ_ _ _=>trivial) (λ_ _ _=>trivial) (λ_ _ _=>trivial) (λ_ _ _=>trivial) (λ_ _ _=>trivial) (λ_ _ _=>trivial)
   s0 (λe h _ _ j=>e▸s1 (m1 h) j) trivial (λ_ _ _ _ _=>trivial) trivial (λ_ _ _ _ _=>trivial) h
 ·exact RepKs.rec (motive_1:=λt v L _=>True) (motive_2:=λt v L _=>True) (motive_3:=λt v L _=>Pk t v L) (motive_4:=λt v L _=>True)
   trivial trivial (λ_ _=>trivial) (λ_=>trivial) trivial trivial trivial trivial trivial (λ_ _ _=>trivial) (λ_ _ _=>trivial) (λ_ _ _=>trivial) (λ_ _ _=>trivial) (λ_ _ _=>trivial) (λ_ _ _=>trivial) (λ_ _ _=>trivial) (λ_ _ _=>trivial)
   trivial (λ_ _ _ _ _=>trivial) k0 (λe h _ _ j=>e▸k1 (m1 h) j) trivial (λ_ _ _ _ _=>trivial) h
 exact RepXs.rec (motive_1:=λt v L _=>True) (motive_2:=λt v L _=>True) (motive_3:=λt v L _=>True) (motive_4:=λt v L _=>Px t v L)
  trivial trivial (λ_ _=>trivial) (λ_=>trivial) trivial trivial trivial trivial trivial (λ_ _ _=>trivial) (λ_ _ _=>trivial) (λ_ _ _=>trivial) (λ_ _ _=>trivial) (λ_ _ _=>trivial) (λ_ _ _=>trivial) (λ_ _ _=>trivial) (λ_ _ _=>trivial)
  trivial (λ_ _ _ _ _=>trivial) trivial (λ_ _ _ _ _=>trivial) x0 (λe h _ _ j=>e▸x1 (m1 h) j) h
noncomputable def Kps(H H':Hp)(L:List Sn):Prop:=∀a∈L,∀u,H a=some u->H' a=some u/\((∀xs,H a≠some (.tup xs))->∀xs,H' a≠some (.tup xs))
theorem Kps.hd (h:Kps H H' (a::L)){u:HO}(e:H a=some u):H' a=some u/\((∀xs,H a≠some (.tup xs))->∀xs,H' a≠some (.tup xs)):=h _ lm _ e
theorem Kps.tl (h:Kps H H' (a::L)):Kps H H' L:=λa m=>h a (t_ _ m)
theorem Kps.l (h:Kps H H' (L++M)):Kps H H' L:=λa m=>h a (MV _ m)
theorem Kps.r (h:Kps H H' (L++M)):Kps H H' M:=λa m=>h a (q_ _ m)
theorem CM(ht:TK H H')(hz:Gr Hz Hz'):(∀{t v L},RepT K Hz H t v L->Kps H H' L->RepT K Hz' H' t v L)/\(∀{t v L},RepTs K Hz H t v L->Kps H H' L->RepTs K Hz' H' t v L)/\(∀{t v L},RepKs K Hz H t v L->Kps H H' L->RepKs K Hz' H' t v L)/\(∀{t v L},RepXs K Hz H t v L->Kps H H' L->RepXs K Hz' H' t v L):=
 nH (P:=λt v L=>Kps H H' L->RepT K Hz' H' t v L) (Ps:=λt v L=>Kps H H' L->RepTs K Hz' H' t v L) (Pk:=λt v L=>Kps H H' L->RepKs K Hz' H' t v L) (Px:=λt v L=>Kps H H' L->RepXs K Hz' H' t v L)
  (λ_=>.any) (λ_=>.hole) (λh t o=>.bare (o.hd h).1 ((o.hd h).2 t)) (λh _=>.kp (h.trans hz)) (λ_=>.non) (λ_=>.bl) (λ_=>.int) (λ_=>.str) (λ_=>.ty)
  (λh c o=>.tup (ht _ _ h) (c o)) (λh c o=>.cst h (c o)) (λh c o=>.lstO (o.hd h).1 (c o.tl)) (λh c o=>.lstZ (hz _ _ h) (c o)) (λh c o=>.dKO (o.hd h).1 (c o.tl)) (λh c o=>.dKZ (hz _ _ h) (c o)) (λh c o=>.dTO (o.hd h).1 (c o.tl)) (λh c o=>.dTZ (hz _ _ h) (c o))
  (λ_=>.nil) (λi j o=>.cons rfl (i o.l) (j o.r)) (λ_=>.nil) (λi j o=>.cons rfl (i o.l) (j o.r)) (λ_=>.nil) (λi j o=>.cons rfl (i o.l) (j o.r))
theorem RepT.move (ht:TK H H')(hz:Gr Hz Hz')(o:Kps H H' L)(h:RepT K Hz H t v L):RepT K Hz' H' t v L:=(CM ht hz).1 h o
noncomputable def Thr(H:Hp)(L:List Sn):Prop:=∀a∈L,(∃u,H a=some u)/\∀xs,H a≠some (.tup xs)
theorem Thr.nil :Thr H []:=λa m=>nomatch m
theorem Thr.cons {H:Hp}{a:Sn}{u:HO}{L:List Sn}(h:H a=some u)(t:∀xs,H a≠some (.tup xs))(c:Thr H L):Thr H (a::L):=λb m=>by
 rcases n_.mp m with rfl|m
 ·exact⟨⟨_,h⟩,t⟩
 exact c b m
theorem Thr.app (c:Thr H L)(d:Thr H M):Thr H (L++M):=λb m=>(C_.mp m).elim (c b) (d b)
theorem Bd:(∀{t v L},RepT K Hz H t v L->Thr H L)/\(∀{t v L},RepTs K Hz H t v L->Thr H L)/\(∀{t v L},RepKs K Hz H t v L->Thr H L)/\(∀{t v L},RepXs K Hz H t v L->Thr H L):=
 nH (P:=λt v L=>Thr H L) (Ps:=λt v L=>Thr H L) (Pk:=λt v L=>Thr H L) (Px:=λt v L=>Thr H L)
  .nil .nil (λh t=>.cons h t .nil) (λ_=>.nil) .nil .nil .nil .nil .nil (λ_ c=>c) (λ_ c=>c) (λh c=>.cons h (λxs r=>by rw[h]at r;cases r) c) (λ_ c=>c) (λh c=>.cons h (λxs r=>by rw[h]at r;cases r) c) (λ_ c=>c) (λh c=>.cons h (λxs r=>by rw[h]at r;cases r) c) (λ_ c=>c)
  .nil (λc d=>c.app d) .nil (λc d=>c.app d) .nil (λc d=>c.app d)
theorem RepT.there (h:RepT K Hz H t v L):Thr H L:=Bd.1 h
noncomputable def Fzn(H Z:Hp)(L:List Sn):Prop:=∀a∈L,Z a=H a
theorem Fzn.hd (h:Fzn H Z (a::L)){u:HO}(e:H a=some u):Rd Z a u:=.inl (by rw[h _ lm];exact e)
theorem Fzn.tl (h:Fzn H Z (a::L)):Fzn H Z L:=λa m=>h a (t_ _ m)
theorem Fzn.l (h:Fzn H Z (L++M)):Fzn H Z L:=λa m=>h a (MV _ m)
theorem Fzn.r (h:Fzn H Z (L++M)):Fzn H Z M:=λa m=>h a (q_ _ m)
theorem G0(hz:Gr Hz Z):(∀{t v L},RepT K Hz H t v L->Fzn H Z L->RepT K Z H (er t) v [])/\(∀{t v L},RepTs K Hz H t v L->Fzn H Z L->RepTs K Z H (erL t) v [])/\(∀{t v L},RepKs K Hz H t v L->Fzn H Z L->RepKs K Z H (erK t) v [])/\(∀{t v L},RepXs K Hz H t v L->Fzn H Z L->RepXs K Z H (erT t) v []):=
 nH (P:=λt v L=>Fzn H Z L->RepT K Z H (er t) v []) (Ps:=λt v L=>Fzn H Z L->RepTs K Z H (erL t) v []) (Pk:=λt v L=>Fzn H Z L->RepKs K Z H (erK t) v []) (Px:=λt v L=>Fzn H Z L->RepXs K Z H (erT t) v [])
  (λ_=>.any) (λ_=>.hole) (λ_ _ _=>.any) (λh _=>.kp (h.trans hz)) (λ_=>.non) (λ_=>.bl) (λ_=>.int) (λ_=>.str) (λ_=>.ty)
  (λh c o=>.tup h (c o)) (λh c o=>.cst h (c o)) (λh c o=>.lstZ (o.hd h) (c o.tl)) (λh c o=>.lstZ (hz _ _ h) (c o)) (λh c o=>.dKZ (o.hd h) (c o.tl)) (λh c o=>.dKZ (hz _ _ h) (c o)) (λh c o=>.dTZ (o.hd h) (c o.tl)) (λh c o=>.dTZ (hz _ _ h) (c o))
  (λ_=>.nil) (λi j o=>.cons rfl (i o.l) (j o.r)) (λ_=>.nil) (λi j o=>.cons rfl (i o.l) (j o.r)) (λ_=>.nil) (λi j o=>.cons rfl (i o.l) (j o.r))
theorem RepT.frz (hz:Gr Hz Z)(o:Fzn H Z L)(h:RepT K Hz H t v L):RepT K Z H (er t) v []:=(G0 hz).1 h o
theorem Ff:(∀{t v L},RepT K Hz H t v L->aW t=true->L=[])/\(∀{t v L},RepTs K Hz H t v L->aZ t=true->L=[])/\(∀{t v L},RepKs K Hz H t v L->True)/\(∀{t v L},RepXs K Hz H t v L->True):=
 nH (P:=λt v L=>aW t=true->L=[]) (Ps:=λt v L=>aZ t=true->L=[]) (Pk:=λt v L=>True) (Px:=λt v L=>True)
  (λ_=>rfl) (λ_=>rfl) (λ_ _ n=>nomatch n) (λ_ _=>rfl) (λ_=>rfl) (λ_=>rfl) (λ_=>rfl) (λ_=>rfl) (λ_=>rfl)
  (λ_ c n=>c (by rw[aW]at n;exact n)) (λ_ _ _=>rfl) (λ_ _ n=>nomatch n) (λ_ _ _=>rfl) (λ_ _ n=>nomatch n) (λ_ _ _=>rfl) (λ_ _ n=>nomatch n) (λ_ _ _=>rfl)
  (λ_=>rfl) (λi j n=>by
   rw[aZ,L_]at n;rw[i n.1,j n.2]
   rfl) trivial (λ_ _=>trivial) trivial (λ_ _=>trivial)
theorem RepT.nil_of (n:aW t=true)(h:RepT K Hz H t v L):L=[]:=Ff.1 h n
theorem D8(ht:TK H H'):(∀{t v L},RepT K Hz H t v L->eY t=true->Kps H H' L->RepT K Z H' t v L)/\(∀{t v L},RepTs K Hz H t v L->d0 t=true->Kps H H' L->RepTs K Z H' t v L)/\(∀{t v L},RepKs K Hz H t v L->rN t=true->Kps H H' L->RepKs K Z H' t v L)/\(∀{t v L},RepXs K Hz H t v L->u7 t=true->Kps H H' L->RepXs K Z H' t v L):=
 nH (P:=λt v L=>eY t=true->Kps H H' L->RepT K Z H' t v L) (Ps:=λt v L=>d0 t=true->Kps H H' L->RepTs K Z H' t v L) (Pk:=λt v L=>rN t=true->Kps H H' L->RepKs K Z H' t v L) (Px:=λt v L=>u7 t=true->Kps H H' L->RepXs K Z H' t v L)
  (λ_ _=>.any) (λ_ _=>.hole) (λh t _ o=>.bare (o.hd h).1 ((o.hd h).2 t)) (λ_ n=>nomatch n) (λ_ _=>.non) (λ_ _=>.bl) (λ_ _=>.int) (λ_ _=>.str) (λ_ _=>.ty)
  (λh c n o=>.tup (ht _ _ h) (c (by rw[eY]at n;exact n) o)) (λh c n o=>.cst h (c (by rw[eY]at n;exact n) o)) (λh c n o=>.lstO (o.hd h).1 (c (by rw[eY,Np]at n;exact n) o.tl)) (λ_ _ n=>nomatch n) (λh c n o=>.dKO (o.hd h).1 (c (by rw[eY,Np]at n;exact n) o.tl)) (λ_ _ n=>nomatch n) (λh c n o=>.dTO (o.hd h).1 (c (by rw[eY,Np]at n;exact n) o.tl)) (λ_ _ n=>nomatch n)
  (λ_ _=>.nil) (λi j n o=>.cons rfl (i (by rw[d0,L_]at n;exact n.1) o.l) (j (by rw[d0,L_]at n;exact n.2) o.r)) (λ_ _=>.nil) (λi j n o=>.cons rfl (i (by rw[rN,L_]at n;exact n.1) o.l) (j (by rw[rN,L_]at n;exact n.2) o.r)) (λ_ _=>.nil) (λi j n o=>.cons rfl (i (by rw[u7,L_]at n;exact n.1) o.l) (j (by rw[u7,L_]at n;exact n.2) o.r))
theorem RepT.MC (ht:TK H H')(n:eY t=true)(o:Kps H H' L)(h:RepT K Hz H t v L):RepT K Z H' t v L:=(D8 ht).1 h n o
abbrev Ev:=List T
abbrev Fm:=List (T×Option V)
noncomputable def tf(K:Sm)(Hz H:Hp)(t:T)(x:Option V)(L:List Sn):Prop:=(t=.any/\L=[])\/∃v,x=some v/\RepT K Hz H t v L
inductive RepL (K:Sm) (Hz H:Hp):Fm->List Sn->Prop
 |nil:RepL K Hz H [] []
 |cons {t:T}{x:Option V}{L M N:List Sn}{r:Fm} (e:N=L++M) (h:tf K Hz H t x L) (c:RepL K Hz H r M):RepL K Hz H ((t,x)::r) N
def Rp(K:Sm)(H:Hp)(Γ:Fm):Prop:=∃Hz L,RepL K Hz H Γ L/\L.Nodup/\Gr Hz H/\∀b∈L,Hz b=none
theorem tf.move (ht:TK H H')(hz:Gr Hz Hz')(ho:∀a∈L,∀u,H a=some u->H' a=some u/\((∀xs,H a≠some (.tup xs))->∀xs,H' a≠some (.tup xs)))(h:tf K Hz H t x L):tf K Hz' H' t x L:=by
 rcases h with⟨rfl,rfl⟩|⟨v,rfl,h⟩
 ·exact .inl ⟨rfl,rfl⟩
 exact .inr ⟨v,rfl,h.move ht hz ho⟩
theorem tf.there (h:tf K Hz H t x L):∀a∈L,(∃u,H a=some u)/\∀xs,H a≠some (.tup xs):=by
 rcases h with⟨rfl,rfl⟩|⟨v,rfl,h⟩
 ·intro a m;cases m
 exact h.there
theorem RepL.move (ht:TK H H')(hz:Gr Hz Hz'):∀{Γ:Fm}{L:List Sn},(∀a∈L,∀u,H a=some u->H' a=some u/\((∀xs,H a≠some (.tup xs))->∀xs,H' a≠some (.tup xs)))->RepL K Hz H Γ L->RepL K Hz' H' Γ L:=by
 intro Γ L ho x;induction x with
 |nil=>exact .nil
 |cons e h c ih=>exact .cons e (h.move ht hz λa m=>ho a (by rw[e];exact MV _ m)) (ih λa m=>ho a (by rw[e];exact q_ _ m))
theorem RepL.there :∀{Γ:Fm}{L:List Sn},RepL K Hz H Γ L->∀a∈L,(∃u,H a=some u)/\∀xs,H a≠some (.tup xs):=by
 intro Γ L x;induction x with
 |nil=>intro a m;cases m
 |cons e h c ih=>
  intro a m;rw[e]at m;rcases C_.mp m with m|m
  ·exact h.there a m
  exact ih a m
theorem RepL.app :∀{Γ Δ:Fm}{L M:List Sn},RepL K Hz H Γ L->RepL K Hz H Δ M->RepL K Hz H (Γ++Δ) (L++M):=by
 intro Γ Δ L M x d;induction x with
 |nil=>exact d
 |cons e h c ih=>exact .cons (by rw[e,g_]) h ih
theorem RepL.split :∀{Γ Δ:Fm}{N:List Sn},RepL K Hz H (Γ++Δ) N->∃L M,N=L++M/\RepL K Hz H Γ L/\RepL K Hz H Δ M
 | [],_,N,h=>⟨[],N,rfl,.nil,h⟩
 | (t,x)::r,_,N,.cons e h c=>by obtain⟨L,M,rfl,h1,h2⟩:=c.split;exact⟨_,M,by rw[e,g_],.cons rfl h h1,h2⟩
theorem RepL.perm {Γ Δ:Fm}(p:Γ.Perm Δ):∀{L:List Sn},RepL K Hz H Γ L->∃M,L.Perm M/\RepL K Hz H Δ M:=by
 induction p with
 |nil=>intro L h;exact⟨L,.refl _,h⟩
 |cons x q ih=>
  intro L h;cases h with
  |cons e h c=>
   obtain⟨M,p1,h1⟩:=ih c;exact⟨_,by rw[e];exact p1.append_left _,.cons rfl h h1⟩
 |swap x y l=>
  intro L h;cases h with
  |cons e h c=>
   cases c with
   |cons e' h' c'=>
    refine⟨_,?_,.cons rfl h' (.cons rfl h c')⟩;rw[e,e',<-g_,<-g_];exact Nh.append_right _
 |trans p q ih1 ih2=>
  intro L h;obtain⟨M,p1,h1⟩:=ih1 h;obtain⟨N,p2,h2⟩:=ih2 h1;exact⟨N,p1.trans p2,h2⟩
theorem Rp.perm {Γ Δ:Fm}(h:Rp K H Γ)(p:Γ.Perm Δ):Rp K H Δ:=by obtain⟨Hz,L,h,nd,g,d⟩:=h;obtain⟨M,q,h'⟩:=h.perm p;exact⟨Hz,M,h',q.nodup_iff.mp nd,g,λb m=>d b (q.mem_iff.mpr m)⟩
theorem Rp.part {Γ Δ:Fm}(h:Rp K H (Γ++Δ)):Rp K H Δ:=by obtain⟨Hz,L,h,nd,g,d⟩:=h;obtain⟨L1,L2,rfl,_,h2⟩:=h.split;exact⟨Hz,L2,h2,(Oi.mp nd).2.1,g,λb m=>d b (q_ _ m)⟩
theorem Rp.tail {x:T×Option V}{Γ:Fm}(h:Rp K H (x::Γ)):Rp K H Γ:=Rp.part (Γ:=[x]) h
theorem lV(s:d4 H H')(a:Sn)(u:HO)(e:H a=some u):H' a=some u/\((∀xs,H a≠some (.tup xs))->∀xs,H' a≠some (.tup xs)):=
 ⟨s _ _ e,λn xs r=>n xs (by rw[s _ _ e]at r;exact e.trans r)⟩
theorem Rp.same {Γ:Fm}(h:Rp K H Γ)(s:d4 H H'):Rp K H' Γ:=by obtain⟨Hz,L,h,nd,g,d⟩:=h;exact⟨Hz,L,h.move (d4.tk s) .gQ (λa m u e=>lV s a u e),nd,g.trans (.of s),d⟩
theorem xF{o:HO}(s:Put H p o H')(a:Sn)(n:a≠p)(u:HO)(e:H a=some u):H' a=some u/\((∀xs,H a≠some (.tup xs))->∀xs,H' a≠some (.tup xs)):=
 ⟨by rw[s.else_ a n];exact e,λm xs r=>m xs (by rw[s.else_ a n]at r;exact r)⟩
theorem RepTs.len :∀{ts:List T}{vs:List V}{L:List Sn},RepTs K Hz H ts vs L->ts.length=vs.length:=λ{ts}=>by
 induction ts with
 |nil=>intro vs L h;cases h;rfl
 |cons t ts ih=>
  intro vs L h;cases h with
  |cons _ _ c=>rw[i',i',ih c]
abbrev zz(ts:List T)(vs:List V):Fm:=ts.zip (vs.map some)
theorem RepTs.toL :∀{ts:List T}{vs:List V}{L:List Sn},RepTs K Hz H ts vs L->RepL K Hz H (zz ts vs) L:=λ{ts}=>by
 induction ts with
 |nil=>intro vs L h;cases h;exact .nil
 |cons t ts ih=>
  intro vs L h;cases h with
  |cons e h c=>exact .cons e (.inr ⟨_,rfl,h⟩) (ih c)
theorem RepL.Ba :∀{ts:List T}{vs:List V}{L:List Sn},ts.length=vs.length->RepL K Hz H (zz ts vs) L->RepTs K Hz H ts vs L
 | [],[],_,_,.nil=>.nil
 | [],v::vs,_,l,_=>by simp at l
 |t::ts,[],_,l,_=>by simp at l
 |t::ts,v::vs,L,l,h=>by
  have h:RepL K Hz H ((t,some v)::zz ts vs) L:=h;cases h with
  |cons e h c=>
   refine .cons e ?_ (c.Ba (by simpa using l));rcases h with⟨rfl,rfl⟩|⟨w,e2,h⟩
   ·exact .any
   cases e2;exact h
theorem RepKs.toL :∀{ts:List (Key×T)}{vs:List (Key×V)}{L:List Sn},RepKs K Hz H ts vs L->ts.map (·.1)=vs.map (·.1)/\RepTs K Hz H (ts.map (·.2)) (vs.map (·.2)) L:=λ{ts}=>by
 induction ts with
 |nil=>intro vs L h;cases h;exact⟨rfl,.nil⟩
 |cons t ts ih=>
  intro vs L h;cases h with
  |cons e h c=>exact⟨by rw[f',f',(ih c).1],.cons e h (ih c).2⟩
theorem RepKs.ofL :∀{ts:List (Key×T)}{vs:List (Key×V)}{L:List Sn},ts.map (·.1)=vs.map (·.1)->RepTs K Hz H (ts.map (·.2)) (vs.map (·.2)) L->RepKs K Hz H ts vs L:=λ{ts}=>by
 induction ts with
 |nil=>
  intro vs L e h;cases vs with
  |nil=>cases h;exact .nil
  |cons v vs=>cases e
 |cons t ts ih=>
  intro vs L e h;cases vs with
  |nil=>cases e
  |cons v vs=>
   obtain⟨k,t⟩:=t;obtain⟨k',v⟩:=v;cases h with
   |cons e2 h c=>
    rw[f',f',Nu]at e;have e0:k=k':=e.1;subst e0;exact .cons e2 h (ih e.2 c)
theorem RepXs.toL :∀{ts:List (List Key×T)}{vs:List (List Key×V)}{L:List Sn},RepXs K Hz H ts vs L->ts.map (·.1)=vs.map (·.1)/\RepTs K Hz H (ts.map (·.2)) (vs.map (·.2)) L:=λ{ts}=>by
 induction ts with
 |nil=>intro vs L h;cases h;exact⟨rfl,.nil⟩
 |cons t ts ih=>
  intro vs L h;cases h with
  |cons e h c=>exact⟨by rw[f',f',(ih c).1],.cons e h (ih c).2⟩
theorem RepXs.ofL :∀{ts:List (List Key×T)}{vs:List (List Key×V)}{L:List Sn},ts.map (·.1)=vs.map (·.1)->RepTs K Hz H (ts.map (·.2)) (vs.map (·.2)) L->RepXs K Hz H ts vs L:=λ{ts}=>by
 induction ts with
 |nil=>
  intro vs L e h;cases vs with
  |nil=>cases h;exact .nil
  |cons v vs=>cases e
 |cons t ts ih=>
  intro vs L e h;cases vs with
  |nil=>cases e
  |cons v vs=>
   obtain⟨k,t⟩:=t;obtain⟨k',v⟩:=v;cases h with
   |cons e2 h c=>
    rw[f',f',Nu]at e;have e0:k=k':=e.1;subst e0;exact .cons e2 h (ih e.2 c)
theorem Cu{o:HO}{Γ Δ:Fm}(h:Rp K H (Γ++Δ))(hp:H p=none)(s:d4 H H')(hn:H' p=some o)
  (mk:∀Hz L,RepL K Hz H' Γ L->RepT K Hz H' t (.ref p) (p::L)):Rp K H' ((t,some (.ref p))::Δ):=by
 obtain⟨Hz,N,h,nd,g,d⟩:=h;obtain⟨L,M,rfl,h1,h2⟩:=h.split;have mv:∀a∈L++M,∀u,H a=some u->H' a=some u/\((∀xs,H a≠some (.tup xs))->∀xs,H' a≠some (.tup xs)):=λa _ u e=>lV s a u e;have h1':=h1.move (d4.tk s) .gQ λa m=>mv a (MV _ m);have h2':=h2.move (d4.tk s) .gQ λa m=>mv a (q_ _ m);refine⟨Hz,(p::L)++M,.cons rfl (.inr ⟨_,rfl,mk Hz L h1'⟩) h2',?_,g.trans (.of s),?_⟩
 ·rw[G',MW];refine⟨λm=>?_,nd⟩;obtain⟨⟨u,e⟩,_⟩:=h.there p m;rw[hp]at e;cases e
 intro b m;rcases n_.mp m with rfl|m
 ·exact g.none hp
 exact d b m
theorem l4{Δ:Fm}(h:Rp K H (zz ts vs++Δ))(l:ts.length=vs.length)(hp:H p=none)(s:d4 H H')(hn:H' p=some (.lst vs)):Rp K H' ((.lst true ts,some (.ref p))::Δ):=
 Cu h hp s hn λ_ _ q=>.lstO hn (q.Ba l)
theorem jj{Δ:Fm}(h:Rp K H (zz ts vs++Δ))(l:ts.length=vs.length)(s:d4 H H')(hn:H' p=some (.tup vs)):Rp K H' ((.tup ts,some (.ref p))::Δ):=by obtain⟨Hz,N,h,nd,g,d⟩:=h.same s;obtain⟨L,M,rfl,h1,h2⟩:=h.split;exact⟨Hz,L++M,.cons rfl (.inr ⟨_,rfl,.tup hn (h1.Ba l)⟩) h2,nd,g,d⟩
theorem kq{Γ:Fm}(h:Rp K H ((.lst true ts,x)::Γ)):∃a vs,x=some (.ref a)/\H a=some (.lst vs)/\ts.length=vs.length/\Rp K H ((.bare,some (.ref a))::(zz ts vs++Γ)):=by
 obtain⟨Hz,N,h,nd,g,d⟩:=h;cases h with
 |cons e h c=>
  rcases h with⟨h,_⟩|⟨v,rfl,h⟩
  ·cases h
  cases h with
  |lstO h1 c1=>
   refine⟨_,_,rfl,h1,c1.len,Hz,N,.cons (L:=[_]) (M:=_++_) (by rw[e];rfl) (.inr ⟨_,rfl,.bare h1 λxs r=>?_⟩) (c1.toL.app c),nd,g,d⟩;rw[h1]at r;cases r
theorem uW{o:HO}{Γ Δ:Fm}(h:Rp K H ((.bare,some (.ref a))::(Γ++Δ)))(p:Put H a o H')
  (mk:∀Hz L,RepL K Hz H' Γ L->RepT K Hz H' t (.ref a) (a::L)):Rp K H' ((t,some (.ref a))::Δ):=by
 obtain⟨Hz,N,h,nd,g,d⟩:=h;cases h with
 |cons e h c=>
  rcases h with⟨h,_⟩|⟨v,ev,h⟩
  ·cases h
  cases ev;cases h with
  |bare h1 nt=>
   obtain⟨L,M,e2,h2,h3⟩:=c.split;subst e;subst e2;rw[Q2,MW]at nd;have tk:TK H H':=Put.tk p nt;have ne:∀b∈L++M,b≠a:=λb m z=>nd.1 (z▸m);have g':Gr Hz H':=λb u r=>by
    have hb:b≠a:=λz=>by obtain⟨w,q⟩:=Rd.some r;rw[z,d a (by rw[Q2];exact lm)]at q;cases q
    rcases g b u r with r|⟨o,r⟩
    ·exact .inl (by rw[p.else_ b hb];exact r)
    exact .inr ⟨o,by rw[p.else_ b hb];exact r⟩
   refine⟨Hz,(a::L)++M,.cons rfl (.inr ⟨_,rfl,mk Hz L ?_⟩) ?_,?_,g',?_⟩
   ·exact h2.move tk .gQ λb m=>xF p b (ne b (MV _ m))
   ·exact h3.move tk .gQ λb m=>xF p b (ne b (q_ _ m))
   ·rw[G',MW];exact nd
   exact d
theorem jB{Γ:Fm}(h:Rp K H ((.bare,some (.ref a))::(zz ts vs++Γ)))(l:ts.length=vs.length)(p:Put H a (.lst vs) H'):Rp K H' ((.lst true ts,some (.ref a))::Γ):=
 uW h p λ_ _ q=>.lstO p.at_ (q.Ba l)
theorem qX{ts:List (Key×T)}{Γ:Fm}(h:Rp K H ((.dK true ts,x)::Γ)):∃a vs,x=some (.ref a)/\H a=some (.dK vs)/\ts.map (·.1)=vs.map (·.1)/\Rp K H ((.bare,some (.ref a))::(zz (ts.map (·.2)) (vs.map (·.2))++Γ)):=by
 obtain⟨Hz,N,h,nd,g,d⟩:=h;cases h with
 |cons e h c=>
  rcases h with⟨h,_⟩|⟨v,rfl,h⟩
  ·cases h
  cases h with
  |dKO h1 c1=>
   obtain⟨e1,c2⟩:=c1.toL;refine⟨_,_,rfl,h1,e1,Hz,N,.cons (L:=[_]) (M:=_++_) (by rw[e];rfl) (.inr ⟨_,rfl,.bare h1 λxs r=>?_⟩) (c2.toL.app c),nd,g,d⟩;rw[h1]at r;cases r
theorem Ee{ts:List (List Key×T)}{Γ:Fm}(h:Rp K H ((.dT true ts,x)::Γ)):∃a vs,x=some (.ref a)/\H a=some (.dT vs)/\ts.map (·.1)=vs.map (·.1)/\Rp K H ((.bare,some (.ref a))::(zz (ts.map (·.2)) (vs.map (·.2))++Γ)):=by
 obtain⟨Hz,N,h,nd,g,d⟩:=h;cases h with
 |cons e h c=>
  rcases h with⟨h,_⟩|⟨v,rfl,h⟩
  ·cases h
  cases h with
  |dTO h1 c1=>
   obtain⟨e1,c2⟩:=c1.toL;refine⟨_,_,rfl,h1,e1,Hz,N,.cons (L:=[_]) (M:=_++_) (by rw[e];rfl) (.inr ⟨_,rfl,.bare h1 λxs r=>?_⟩) (c2.toL.app c),nd,g,d⟩;rw[h1]at r;cases r
theorem gD{κ β:Type}{ts:List (κ×α)}{vs:List (κ×β)}(e:ts.map (·.1)=vs.map (·.1)):ts.length=vs.length:=by have:=congrArg Qe e;rwa[a_,a_]at this
theorem tW{ts:List (Key×T)}{vs:List (Key×V)}{Γ:Fm}(h:Rp K H ((.bare,some (.ref a))::(zz (ts.map (·.2)) (vs.map (·.2))++Γ)))(l:ts.map (·.1)=vs.map (·.1))(p:Put H a (.dK vs) H'):Rp K H' ((.dK true ts,some (.ref a))::Γ):=
 uW h p λ_ _ q=>.dKO p.at_ (RepKs.ofL l (q.Ba (by rw[a_,a_];exact gD l)))
theorem Br{ts:List (List Key×T)}{vs:List (List Key×V)}{Γ:Fm}(h:Rp K H ((.bare,some (.ref a))::(zz (ts.map (·.2)) (vs.map (·.2))++Γ)))(l:ts.map (·.1)=vs.map (·.1))(p:Put H a (.dT vs) H'):Rp K H' ((.dT true ts,some (.ref a))::Γ):=
 uW h p λ_ _ q=>.dTO p.at_ (RepXs.ofL l (q.Ba (by rw[a_,a_];exact gD l)))
theorem Gq{Δ:Fm}(h:Rp K H Δ)(hp:H p=none)(s:d4 H H')(hn:H' p=some (.dK [])):Rp K H' ((.dK true [],some (.ref p))::Δ):=
 Cu (Γ:=[]) h hp s hn λ_ _ q=>by cases q;exact .dKO hn .nil
theorem mM{Γ:Fm}(h:Rp K H ((t,x)::Γ)):Rp K H ((er t,x)::Γ):=by
 obtain⟨Hz,N,h,nd,g,d⟩:=h;cases h with
 | @cons _ _ L M _ _ e h c=>
  rcases h with⟨rfl,rfl⟩|⟨v,rfl,h⟩
  ·exact⟨Hz,N,.cons e (.inl ⟨rfl,rfl⟩) c,nd,g,d⟩
  subst e;have dz:∀b∈L,Hz b=none:=λb m=>d b (MV _ m)
  let Z:Hp:=λb=>if b∈L then H b else Hz b
  have hz:Gr Hz Z:=λb u r=>by
   have nb:b ∉ L:=λm=>by obtain⟨w,q⟩:=Rd.some r;rw[dz b m]at q;cases q
   rcases r with r|⟨o,r⟩
   ·exact .inl (by show(if b∈L then H b else Hz b)=_;rw[if_neg nb];exact r)
   exact .inr ⟨o,by show(if b∈L then H b else Hz b)=_;rw[if_neg nb];exact r⟩
  have zh:Gr Z H:=λb u r=>by
   by_cases nb:b∈L
   ·rcases r with r|⟨o,r⟩
    ·exact .inl (by have r:(if b∈L then H b else Hz b)=_:=r;rw[if_pos nb]at r;exact r)
    exact .inr ⟨o,by have r:(if b∈L then H b else Hz b)=_:=r;rw[if_pos nb]at r;exact r⟩
   refine g b u ?_;rcases r with r|⟨o,r⟩
   ·exact .inl (by have r:(if b∈L then H b else Hz b)=_:=r;rw[if_neg nb]at r;exact r)
   exact .inr ⟨o,by have r:(if b∈L then H b else Hz b)=_:=r;rw[if_neg nb]at r;exact r⟩
  have nd2:=Oi.mp nd;refine⟨Z,[]++M,.cons rfl (.inr ⟨v,rfl,h.frz hz λb m=>?_⟩) (c.move (λ_ _ r=>r) hz λb m u e=>⟨e,λn=>n⟩),nd2.2.1,zh,λb m=>?_⟩
  ·show(if b∈L then H b else Hz b)=_;rw[if_pos m]
  show(if b∈L then H b else Hz b)=_;rw[if_neg (λz=>nd2.2.2 b z b m rfl)];exact d b (q_ _ m)
theorem mP{Γ:Fm}(h:Rp K H ((t,x)::Γ))(n:aW t=true):Rp K H ((t,x)::(t,x)::Γ):=by
 obtain⟨Hz,N,h,nd,g,d⟩:=h;cases h with
 | @cons _ _ L M _ _ e h c=>
  have hL:L=[]:=by
   rcases h with⟨_,rfl⟩|⟨v,_,h⟩
   ·rfl
   exact h.nil_of n
  subst hL;exact⟨Hz,N,.cons (L:=[]) (M:=N) rfl h (.cons e h c),nd,g,d⟩
theorem tf.view (g:Gr Hz H)(h:tf K Hz H t x L):tf K H H (er t) x []:=by
 rcases h with⟨rfl,rfl⟩|⟨v,rfl,h⟩
 ·exact .inl ⟨rfl,rfl⟩
 exact .inr ⟨v,rfl,h.frz g λ_ _=>rfl⟩
theorem RepL.view (g:Gr Hz H):∀{Γ:Fm}{L:List Sn},RepL K Hz H Γ L->RepL K H H (Γ.map λp=>(er p.1,p.2)) []:=by
 intro Γ L x;induction x with
 |nil=>exact .nil
 |cons e h c ih=>exact .cons rfl (h.view g) ih
theorem v9{Γ:Fm}(h:Rp K H Γ):Rp K H ((Γ.map λp=>(er p.1,p.2))++[(.kp H,some .non)]):=by obtain⟨Hz,N,h,nd,g,d⟩:=h;refine⟨H,[]++[],(h.view g).app (.cons rfl (.inr ⟨_,rfl,.kp .gQ⟩) .nil),Q3,.gQ,λb m=>by cases m⟩
noncomputable def over(H H':Hp):Hp:=λb=>match H b with
 |some u=>some u
 |none=>H' b
theorem jE{b:Sn}{u:HO}(e:H b=some u):over H H' b=some u:=by unfold over;rw[e]
theorem oA{b:Sn}(e:H b=none):over H H' b=H' b:=by unfold over;rw[e]
theorem AG(H H':Hp):d4 H (over H H'):=λb u e=>jE e
theorem vq(g:Gr H H'){b:Sn}:over H H' b=H' b\/∃o u,H' b=some (.frz o u)/\over H H' b=some u:=by
 cases q:H b with
 |none=>exact .inl (oA q)
 |some u=>
  rw[jE q];rcases g b u (.inl q)with r|⟨o,r⟩
  ·exact .inl r.symm
  exact .inr ⟨o,u,r,rfl⟩
theorem wD(g:Gr H H'){b:Sn}(r:H' b=some (.tup xs)):over H H' b=some (.tup xs):=by
 rcases vq g (b:=b)with e|⟨o,u,e,_⟩
 ·rw[e];exact r
 rw[r]at e;cases e
theorem vT{Γ Δ:Fm}(h:Rp K H Γ)(q:Rp K H' ((t,x)::(Δ++[(.kp H,some .non)])))(n:eY t=true):Gr H H'/\Rp K (over H H') ((t,x)::Γ):=by
 obtain⟨Hy,N',q,nd',g',d'⟩:=q;cases q with
 | @cons _ _ L M _ _ e h1 c=>
  have hkp:Gr H Hy:=by
   obtain⟨_,_,_,_,c2⟩:=c.split;cases c2 with
   |cons _ h2 _=>
    rcases h2 with⟨z,_⟩|⟨_,_,h2⟩
    ·cases z
    cases h2 with
    |kp z=>exact z
  have gr:=hkp.trans g';refine⟨gr,?_⟩;subst e;have nd2:=Oi.mp nd';have hL:∀b∈L,H b=none:=λb m=>hkp.none (d' b (MV _ m));obtain⟨Hz,N,h,nd,g,d⟩:=h;have so:=AG H H';have tk:TK H' (over H H'):=λb xs r=>wD gr r;have h1':tf K Hz (over H H') t x L:=by
   rcases h1 with⟨rfl,rfl⟩|⟨v,rfl,h1⟩
   ·exact .inl ⟨rfl,rfl⟩
   refine .inr ⟨v,rfl,h1.MC tk n λb m u e=>?_⟩;have eo:=oA (H':=H') (hL b m);exact⟨eo.trans e,λnt xs r=>nt xs (by rw[<-eo];exact r)⟩
  refine⟨Hz,L++N,.cons rfl h1' (h.move (d4.tk so) .gQ λb m u e=>lV so b u e),?_,g.trans (.of so),?_⟩
  ·rw[Oi];refine⟨nd2.1,nd,λb m b' m' z=>?_⟩;subst z;obtain⟨⟨u,e⟩,_⟩:=h.there b m';rw[hL b m]at e;cases e
  intro b m;rcases C_.mp m with m|m
  ·exact g.none (hL b m)
  exact d b m
theorem qY:∀{ts:List T}{vs:List V}{i:Nat}{t:T},ts.length=vs.length->ts[i]?=some t->∃w,vs[i]?=some w
 |ts,vs,i,t,l,e=>by have h:i<ts.length:=(gV.mp e).1;exact⟨vs[i]'(by omega),f_ (by omega)⟩
theorem rM{α:Type}:∀{l:List α}{i:Nat}{x y:α},l[i]?=some y->(l.set i x).set i y=l
 | [],i,x,y,e=>by simp at e
 |a::l,0,x,y,e=>by simp at e;subst e;rfl
 |a::l,i+1,x,y,e=>by simp only[C']at e;rw[Qg,Qg,rM e]
end
theorem qA{α β:Type}:∀{l:List α}{m:List β}{i:Nat}{a:α}{b:β} (t:α) (y:β),l[i]?=some a->m[i]?=some b->((a,b)::(l.set i t).zip (m.set i y)).Perm ((t,y)::l.zip m)
 | [],m,i,a,b,t,y,h,_=>by simp at h
 |x::l,[],i,a,b,t,y,_,h=>by simp at h
 |x::l,z::m,0,a,b,t,y,h,g=>by simp only[F',Qs]at h g;subst h;subst g;exact .swap _ _ _
 |x::l,z::m,i+1,a,b,t,y,h,g=>by simp only[C']at h g;have p:=qA t y h g;show RX ((a,b)::(x,z)::(l.set i t).zip (m.set i y)) ((t,y)::(x,z)::l.zip m);exact(Oq _ _ _).trans ((p.cons _).trans (.swap _ _ _))
variable {i:Nat}
theorem set_same{l:List α}{x:α}(h:l[i]?=some x):l.set i x=l:=by have:=rM (x:=x) h;rw[QI]at this;exact this
variable {Fr Γ:Fm}{env:Ev}{σ:St}
section
variable{K:Sm}
def Rs(K:Sm)(H:Hp)(env:Ev)(σ:St)(Fr:Fm):Prop:=env.length=σ.length/\Rp K H (env.zip σ++Fr)
theorem l8(h:Rp K H Γ):Rp K H ((.any,x)::Γ):=by obtain⟨Hz,N,h,nd,g,d⟩:=h;exact⟨Hz,N,.cons (L:=[]) rfl (.inl ⟨rfl,rfl⟩) h,nd,g,d⟩
theorem Rs.perm {Gr:Fm}(h:Rs K H env σ Fr)(p:Fr.Perm Gr):Rs K H env σ Gr:=⟨h.1,h.2.perm (p.append_left _)⟩
theorem Rs.drop {x:T×Option V}(h:Rs K H env σ (x::Fr)):Rs K H env σ Fr:=⟨h.1,(h.2.perm h_).tail⟩
theorem Rs.head {x:T×Option V}(h:Rs K H env σ (x::Fr)):Rp K H (x::(env.zip σ++Fr)):=h.2.perm h_
theorem Rs.of {x:T×Option V}(l:env.length=σ.length)(h:Rp K H (x::(env.zip σ++Fr))):Rs K H env σ (x::Fr):=⟨l,h.perm h_.symm⟩
theorem Rs.chg {Δ Δ':Fm}(h:Rs K H env σ (Δ++Fr))(f:∀ Γ,Rp K H (Δ++Γ)->Rp K H' (Δ'++Γ)):Rs K H' env σ (Δ'++Fr):=by
 refine⟨h.1,?_⟩;have p:∀A:Fm,(A++(env.zip σ++Fr)).Perm (env.zip σ++(A++Fr)):=λA=>by rw[<-g_,<-g_];exact Nh.append_right _
 exact(f _ (h.2.perm (p Δ).symm)).perm (p Δ')
theorem Rs.slot (h:Rs K H env σ Fr)(e:env[i]?=some t):∃x,σ[i]?=some x/\Rs K H (env.set i .any) σ ((t,x)::Fr):=by
 have hi:i<env.length:=(gV.mp e).1;have hs:i<σ.length:=by rw[<-h.1];exact hi
 have ex:σ[i]?=some σ[i]:=f_ hs;refine⟨σ[i],ex,by rw[Nf];exact h.1,?_⟩;have p:=qA (T.any) σ[i] e ex;rw[set_same ex]at p;refine(l8 (x:=σ[i]) h.2).perm ?_;refine E_ ?_ h_.symm;exact(p.symm.append_right Fr)
theorem Rs.sg (h:Rs K H env σ ((t,x)::Fr))(hi:i<env.length)(ex:σ[i]?=some x):Rs K H (env.set i t) σ Fr:=by have e:env[i]?=some env[i]:=f_ hi;refine⟨by rw[Nf];exact h.1,?_⟩;have p:=qA t x e ex;rw[set_same ex]at p;refine Rp.tail (x:=(env[i],x)) (h.2.perm ?_);refine h_.trans ?_;exact(p.symm.append_right Fr)
theorem Rs.store (h:Rs K H env σ ((t,some v)::Fr))(hi:i<env.length):Rs K H (env.set i t) (σ.set i (some v)) Fr:=by
 have e:env[i]?=some env[i]:=f_ hi;have hs:i<σ.length:=by rw[<-h.1];exact hi
 have ex:σ[i]?=some σ[i]:=f_ hs;refine⟨by rw[Nf,Nf];exact h.1,?_⟩;have p:=qA t (some v) e ex;refine Rp.tail (x:=(env[i],σ[i])) (h.2.perm ?_);refine h_.trans ?_;exact(p.symm.append_right Fr)
end
variable {X:Cx}{ac:List (Sn×Obj)}{s:So}
theorem rQ{cl:St}{s':So}(I:Inv X ac σ H s)(J:Inv X ac cl H' s')(g:Gr H H'):Inv X ac cl (over H H') s':=by
 have nn:∀b,H' b=none->over H H' b=none:=λb e=>by rw[oA (g.none e)];exact e
 refine⟨J.ok,J.os,J.bare,⟨J.base.keep,J.base.slot,?_,J.base.there,?_,?_,?_⟩,J.loc,J.cell,nn _ J.free,λx c e=>nn _ (J.freeC x c e),λp hp=>?_,?_,J.len⟩
 ·exact λb o e1 e2 e3=>nn _ (J.base.free b o e1 e2 e3)
 ·exact λb xs e=>jE (I.base.tups b xs e)
 ·exact λb o u e=>jE (I.base.frzs b o u e)
 ·exact λb ps e=>by obtain⟨m,em⟩:=I.base.tbls b ps e;exact⟨m,jE em⟩
 ·obtain⟨h1,h2,h3⟩:=J.pin p hp;exact⟨h1,nn _ h2,h3⟩
 intro b u e;have ho:∀c y,H' c=some (.own y)->over H H' c=some (.own y):=λc y q=>by
  rcases vq g (b:=c)with z|⟨o,w,z,_⟩
  ·rw[z];exact q
  rw[q]at z;cases z
 have ht:∀c xs,H' c=some (.tup xs)->over H H' c=some (.tup xs):=λc xs q=>wD g q;have key:f7 X.prog X.w H' s'.heap b u:=by
  rcases vq g (b:=b)with z|⟨o,w,z,zw⟩
  ·rw[z]at e;exact J.hok b u e
  rw[zw]at e;cases e;exact(J.hok b _ z).2
 exact key.mO (λc v _ q=>q) (λc=>ho c b) ht
variable {e:SK}
theorem F1{t:TE}(h:PE X e t):PE X e (λσ H Q=>t σ H λv H'=>Gr H H'/\Q v (over H H')):=λac s σ H Q I q=>
 thn (h ac s σ H _ I q) λu s' ⟨v,H',I',r,g,q'⟩=>⟨v,over H H',rQ I I' g,r,q'⟩
theorem Ep{t:TT}(h:PT X e t):PT X e (λσ H Q=>t σ H λb H'=>Gr H H'/\Q b (over H H')):=λac s σ H Q I q=>
 thn (h ac s σ H _ I q) λb s' ⟨H',I',g,q'⟩=>⟨over H H',rQ I I' g,q'⟩
abbrev PF:=Ev->(T->Ev->Prop)->Prop
abbrev PB:=Ev->(Bool->Ev->Prop)->Prop
abbrev PFs:=Ev->(List T->Ev->Prop)->Prop
def wE(K:Sm)(f:PF):TE:=λσ H Q=>∃env Fr k,Rs K H env σ Fr/\f env k/\∀t be v H',k t be->Rs K H' be σ ((t,some v)::Fr)->Q v H'
def wB(K:Sm)(f:PB):TT:=λσ H Q=>∃env Fr k,Rs K H env σ Fr/\f env k/\∀b be H',k b be->Rs K H' be σ Fr->Q b H'
def wA(K:Sm)(f:PFs):TA:=λσ H Q=>∃env Fr k,Rs K H env σ Fr/\f env k/\∀ts be vs H',k ts be->ts.length=vs.length->Rs K H' be σ (zz ts vs++Fr)->Q vs H'
def GE(X:Cx)(e:SK)(f:PF):Prop:=PE X e (wE X.K f)
def GT(X:Cx)(e:SK)(f:PB):Prop:=PT X e (wB X.K f)
def GW(X:Cx)(e:SK)(f:PB):Prop:=PW X e (wB X.K f)
def GA(X:Cx)(es:List SK)(f:PFs):Prop:=PA X es (wA X.K f)
theorem PE.imp {t t':TE}(h:PE X e t)(k:∀ σ H Q,t' σ H Q->t σ H Q):PE X e t':=λac s σ H Q I q=>h ac s σ H Q I (k _ _ _ q)
theorem PT.imp {t t':TT}(h:PT X e t)(k:∀ σ H Q,t' σ H Q->t σ H Q):PT X e t':=λac s σ H Q I q=>h ac s σ H Q I (k _ _ _ q)
theorem PW.imp {t t':TT}(h:PW X e t)(k:∀ σ H Q,t' σ H Q->t σ H Q):PW X e t':=λwh ac s σ H Q I q=>h wh ac s σ H Q I (k _ _ _ q)
variable {es:List SK}
theorem PA.imp {t t':TA}(h:PA X es t)(k:∀ σ H Q,t' σ H Q->t σ H Q):PA X es t':=λpos ac s σ H Q I q=>h pos ac s σ H Q I (k _ _ _ q)
def fQ(f:PF):PF:=λenv k=>f (erL env) λt _=>eY t=true/\k t env
def fQT(f:PB):PB:=λenv k=>f (erL env) λb _=>k b env
theorem qi:∀(env:Ev) (σ:St),(env.zip σ).map (λp=>(er p.1,p.2))=(erL env).zip σ
 | [],σ=>by simp[erL]
 |t::env,[]=>by simp
 |t::env,x::σ=>by rw[erL,NC,f',NC,qi env σ]
theorem aI{X:Cx}{e:SK}{f:PF}(h:GE X e f):GE X e (fQ f):=by
 refine PE.imp (F1 h) ?_;rintro σ H Q ⟨env,Fr,k,rs,q,c⟩;have rv:Rs X.K H (erL env) σ ((Fr.map λp=>(er p.1,p.2))++[(.kp H,some .non)]):=by refine⟨by rw[iL];exact rs.1,?_⟩;have:=v9 rs.2;rw[m_,qi,g_]at this;exact this
 refine⟨erL env,_,_,rv,q,?_⟩;rintro t be v H' ⟨n,kt⟩ rs';obtain⟨g,r2⟩:=vT rs.2 (Δ:=be.zip σ++(Fr.map λp=>(er p.1,p.2))) (by rw[g_];exact rs'.head) n;exact⟨g,c t env v _ kt (.of rs.1 r2)⟩
variable {K:Sm}
theorem CP{Δ:Fm}(h:Rp K H Γ)(q:Rp K H' (Δ++[(.kp H,some .non)])):Gr H H'/\Rp K (over H H') Γ:=by obtain⟨g,r⟩:=vT (t:=.any) (x:=none) h (l8 q) rfl;exact⟨g,r.tail⟩
theorem gY{X:Cx}{e:SK}{f:PB}(h:GT X e f):GT X e (fQT f):=by
 refine PT.imp (Ep h) ?_;rintro σ H Q ⟨env,Fr,k,rs,q,c⟩;have rv:Rs X.K H (erL env) σ ((Fr.map λp=>(er p.1,p.2))++[(.kp H,some .non)]):=by refine⟨by rw[iL];exact rs.1,?_⟩;have:=v9 rs.2;rw[m_,qi,g_]at this;exact this
 refine⟨erL env,_,_,rv,q,?_⟩;rintro b be H' kt rs';obtain⟨g,r2⟩:=CP rs.2 (Δ:=be.zip σ++(Fr.map λp=>(er p.1,p.2))) (by rw[g_];exact rs'.2);exact⟨g,c b env _ kt ⟨rs.1,r2⟩⟩
noncomputable def fK(t:T):PF:=λenv k=>k t env
section
variable{X:Cx}{pos:Pos}
theorem jP(h:Rs K H env σ Fr)(r:∀Hz,RepT K Hz H t v []):Rs K H env σ ((t,some v)::Fr):=by refine .of h.1 ?_;obtain⟨Hz,N,q,nd,g,d⟩:=h.2;exact⟨Hz,N,.cons (L:=[]) rfl (.inr ⟨v,rfl,r Hz⟩) q,nd,g,d⟩
theorem ge_int{i:Int}{j:Nat}:GE X (.Constant (.int i) j pos) (fK (.int i)):=PE.imp gH (by rintro σ H Q ⟨env,Fr,k,rs,q,c⟩;exact c _ _ _ _ q (jP rs λ_=>.int))
theorem iV{b:Bool}{j:Nat}:GE X (.Constant (.bool b) j pos) (fK (.bl b)):=PE.imp Mf (by rintro σ H Q ⟨env,Fr,k,rs,q,c⟩;exact c _ _ _ _ q (jP rs λ_=>.bl))
theorem vY{j:Nat}:GE X (.Constant .none j pos) (fK .non):=PE.imp Im (by rintro σ H Q ⟨env,Fr,k,rs,q,c⟩;exact c _ _ _ _ q (jP rs λ_=>.non))
theorem G9{x:Str}{u:Sl}(hg:Gl X x)(hm:X.mg x=some u)(r:RelV v u)(ht:∀Hz H,RepT X.K Hz H t v [])(hd:(x ==("__debug__":Str))=false:=by decide):GE X (.Name x pos) (fK t):=
 PE.imp (ET hg hm r hd) λσ H Q ⟨env,Fr,k,rs,q,c⟩=>c _ _ _ _ q (jP rs λHz=>ht Hz H)
noncomputable def isAny:T->Bool
 | .any=>true
 | _=>false
def FL(i:Nat):PF:=λenv k=>match env[i]? with
 |some t=>isAny t=false/\aW t=true/\k t env
 |none=>False
def fFz(i:Nat):PF:=λenv k=>match env[i]? with
 |some t=>isAny t=false/\k (er t) (env.set i (er t))
 |none=>False
def fMv(i:Nat):PF:=λenv k=>match env[i]? with
 |some t=>isAny t=false/\k t (env.set i .any)
 |none=>False
theorem jA(h:Rs K H env σ ((t,x)::Fr))(n:isAny t=false):∃v,x=some v:=by
 obtain⟨Hz,N,q,_⟩:=h.head;cases q with
 |cons e h c=>
  rcases h with⟨rfl,_⟩|⟨v,e,_⟩
  ·cases n
  exact⟨v,e⟩
theorem ae(i:Nat){x:Str}(hN:X.N[i]?=some x:=by rfl)(hv:Vis X.env.scope x:=by first|exact b_ rfl|exact d_ (b_ rfl)|exact d_ (d_ rfl))(hd:(x ==("__debug__":Str))=false:=by decide)(hcd:(x ==("__classdict__":Str))=false:=by decide):GE X (.Name x pos) (FL i):=by
 refine PE.imp (kO hN hv hd hcd) ?_;rintro σ H Q ⟨env,Fr,k,rs,q,c⟩;unfold FL at q;split at q
 ·rename_i t e;obtain⟨na,no,q⟩:=q;obtain⟨y,ey,rs2⟩:=rs.slot e;obtain⟨v,rfl⟩:=jA rs2 na;refine⟨v,ey,c _ _ _ _ q ?_⟩;have hi:i<env.length:=(gV.mp e).1;have r3:Rs X.K H (env.set i .any) σ ((t,some v)::(t,some v)::Fr):=.of rs2.1 ((mP rs2.head no).perm (by refine RS _ ?_;exact h_.symm))
  have r4:=Rs.sg (i:=i) r3 (by rw[Nf];exact hi) ey;rw[rM e]at r4;exact r4
 exact q.elim
theorem gR(i:Nat){x:Str}(hN:X.N[i]?=some x:=by rfl)(hv:Vis X.env.scope x:=by first|exact b_ rfl|exact d_ (b_ rfl)|exact d_ (d_ rfl))(hd:(x ==("__debug__":Str))=false:=by decide)(hcd:(x ==("__classdict__":Str))=false:=by decide):GE X (.Name x pos) (fFz i):=by
 refine PE.imp (kO hN hv hd hcd) ?_;rintro σ H Q ⟨env,Fr,k,rs,q,c⟩;unfold fFz at q;split at q
 ·rename_i t e;obtain⟨na,q⟩:=q;obtain⟨y,ey,rs2⟩:=rs.slot e;obtain⟨v,rfl⟩:=jA rs2 na;refine⟨v,ey,c _ _ _ _ q ?_⟩;have hi:i<env.length:=(gV.mp e).1;have no:aW (er t)=true:=aN t;have r3:Rs X.K H (env.set i .any) σ ((er t,some v)::(er t,some v)::Fr):=.of rs2.1 ((mP (mM rs2.head) no).perm (by refine RS _ ?_;exact h_.symm))
  have r4:=Rs.sg (i:=i) r3 (by rw[Nf];exact hi) ey;rw[QI]at r4;exact r4
 exact q.elim
theorem qL(i:Nat){x:Str}(hN:X.N[i]?=some x:=by rfl)(hv:Vis X.env.scope x:=by first|exact b_ rfl|exact d_ (b_ rfl)|exact d_ (d_ rfl))(hd:(x ==("__debug__":Str))=false:=by decide)(hcd:(x ==("__classdict__":Str))=false:=by decide):GE X (.Name x pos) (fMv i):=by
 refine PE.imp (kO hN hv hd hcd) ?_;rintro σ H Q ⟨env,Fr,k,rs,q,c⟩;unfold fMv at q;split at q
 ·rename_i t e;obtain⟨na,q⟩:=q;obtain⟨y,ey,rs2⟩:=rs.slot e;obtain⟨v,rfl⟩:=jA rs2 na;exact⟨v,ey,c _ _ _ _ q rs2⟩
 exact q.elim
end
variable {y:V}
section
variable{K:Sm}{H:Hp}{Γ:Fm}
theorem jJ(h:Rp K H ((t,some y)::Γ))(n:isAny t=false):∃Hz L,RepT K Hz H t y L/\Gr Hz H:=by
 obtain⟨Hz,N,h,nd,g,d⟩:=h;cases h with
 |cons e h c=>
  rcases h with⟨rfl,_⟩|⟨v,e2,h⟩
  ·cases n
  cases e2;exact⟨Hz,_,h,g⟩
theorem b7{i:Int}(h:Rp K H ((.int i,some y)::Γ)):y=.int i:=by obtain⟨_,_,r,_⟩:=jJ h rfl;cases r;rfl
theorem kD{i:Bool}(h:Rp K H ((.bl i,some y)::Γ)):y=.bl i:=by obtain⟨_,_,r,_⟩:=jJ h rfl;cases r;rfl
theorem jR{i:Str}(h:Rp K H ((.str i,some y)::Γ)):y=.str i:=by obtain⟨_,_,r,_⟩:=jJ h rfl;cases r;rfl
theorem sG(h:Rp K H ((.non,some y)::Γ)):y=.non:=by obtain⟨_,_,r,_⟩:=jJ h rfl;cases r;rfl
theorem fk(h:Rp K H Γ)(r:∀Hz,RepT K Hz H t v []):Rp K H ((t,some v)::Γ):=by obtain⟨Hz,N,q,nd,g,d⟩:=h;exact⟨Hz,N,.cons (L:=[]) rfl (.inr ⟨v,rfl,r Hz⟩) q,nd,g,d⟩
noncomputable def items:T->Option (List T)
 | .tup ts=>some ts
 | .cst ts=>some ts
 | .lst _ ts=>some ts
 | _=>none
noncomputable def jQ:T->Bool
 | .tup _=>true
 | .cst _=>true
 | _=>false
theorem FR(h:SqT K (λ_=>none) a vs)(H:Hp):SqT K H a vs:=by
 rcases h with (h|⟨_,h⟩)|h
 ·cases h
 ·cases h
 exact .inr h
theorem aE(e:items t=some ts)(h:Rp K H ((t,some y)::Γ)):∃a vs,y=.ref a/\SqG (jQ t) K H a vs/\ts.length=vs.length/\Rp K H (zz ts vs++Γ):=by
 obtain⟨Hz,N,h,nd,g,d⟩:=h;cases h with
 |cons e1 h c=>
  rcases h with⟨rfl,_⟩|⟨v,e2,h⟩
  ·cases e
  cases e2;cases h <;> cases e
  ·rename_i a vs h c1;exact⟨a,vs,rfl,SqT.of h,c1.len,Hz,_,c1.toL.app c,by rw[<-e1];exact nd,g,λb m=>d b (by rw[e1];exact m)⟩
  ·rename_i a vs h c1;exact⟨a,vs,rfl,FR h H,c1.len,Hz,_,c1.toL.app c,by rw[<-e1];exact nd,g,λb m=>d b (by rw[e1];exact m)⟩
  ·rename_i a vs L h c1;rw[e1,G',MW]at nd;exact⟨a,vs,rfl,SqL.of h,c1.len,Hz,_,c1.toL.app c,nd.2,g,λb m=>d b (by rw[e1,G'];exact t_ _ m)⟩
  rename_i a vs h c1;exact⟨a,vs,rfl,.inl (g _ _ h),c1.len,Hz,_,c1.toL.app c,by rw[<-e1];exact nd,g,λb m=>d b (by rw[e1];exact m)⟩
theorem qx:∀{ts:List T}{vs:List V}{i:Nat}{t:T}{w:V},ts[i]?=some t->vs[i]?=some w->∃r,(zz ts vs).Perm ((t,some w)::r)
 | [],vs,i,t,w,e,f=>by simp at e
 |t::ts,[],i,_,w,e,f=>by simp at f
 |t::ts,v::vs,0,u,w,e,f=>by simp only[F',Qs]at e f;subst e;subst f;exact⟨_,.refl _⟩
 |t::ts,v::vs,i+1,u,w,e,f=>by simp only[C']at e f;obtain⟨r,h⟩:=qx (ts:=ts) (vs:=vs) e f;exact⟨(t,some v)::r,(h.cons _).trans (.swap _ _ _)⟩
theorem jY{w:V}(h:Rp K H (zz ts vs++Γ))(e:ts[i]?=some t)(f:vs[i]?=some w):Rp K H ((t,some w)::Γ):=by obtain⟨r,p⟩:=qx e f;refine Rp.part (Γ:=r) (h.perm ?_);refine(p.append_right Γ).trans ?_;exact h_.symm
theorem BV{i:Int}(l:ts.length=vs.length)(e:atI ts i=some t)(h:Rp K H (zz ts vs++Γ)):∃w,atI vs i=some w/\Rp K H ((t,some w)::Γ):=by
 unfold atI at e ⊢;rw[l]at e;cases q:ixN vs.length i with
 |none=>rw[q]at e;cases e
 |some j=>
  rw[q]at e;have e:ts[j]?=some t:=e;obtain⟨w,f⟩:=qY l e;exact⟨w,f,jY h e f⟩
end
noncomputable def got(o:Option α)(k:α->Prop):Prop:=match o with
 |some u=>k u
 |none=>False
theorem HB{o:Option α}{u:α}{k:α->Prop}(e:o=some u)(h:k u):got o k:=by rw[e];exact h
theorem aJ{o:Option α}{k:α->Prop}(h:got o k):∃u,o=some u/\k u:=by
 cases o with
 |none=>exact h.elim
 |some u=>exact⟨u,rfl,h⟩
noncomputable def cnd(b:Bool)(A B:Prop):Prop:=(b=true->A)/\(b=false->B)
theorem Gy{A B:Prop}(h:A):cnd true A B:=⟨λ_=>h,λe=>by cases e⟩
theorem GB{A B:Prop}(h:B):cnd false A B:=⟨λe=>(by cases e),λ_=>h⟩
variable {b:Bool}
theorem k9{A B:Prop}(h:cnd b A B):if b=true then A else B:=by
 cases b with
 |true=>rw[if_pos rfl];exact h.1 rfl
 |false=>rw[if_neg (by decide)];exact h.2 rfl
abbrev P2:=T->T->(T->Prop)->Prop
def w2(K:Sm)(g:P2):R2:=λx y H Q=>∃tx ty Γ k,Rp K H ((ty,some y)::(tx,some x)::Γ)/\g tx ty k/\∀t v H',k t->Rp K H' ((t,some v)::Γ)->Q v H'
def OpP(X:Cx)(f:Sl->Sl->Sem Sl)(g:P2):Prop:=OpR X f (w2 X.K g)
variable {f:Sl->Sl->Sem Sl}
theorem OpP.of {g:P2}{r:R2}(h:OpR X f r)(k:∀tx ty x y H Γ (k:T->Prop) (Q:VK),Rp X.K H ((ty,some y)::(tx,some x)::Γ)->g tx ty k->(∀t v H',k t->Rp X.K H' ((t,some v)::Γ)->Q v H')->r x y H Q):OpP X f g:=
 λac s σ H x y v u Q I rx ry ⟨tx,ty,Γ,kk,rp,g,c⟩=>h ac s σ H x y v u Q I rx ry (k tx ty x y H Γ kk Q rp g c)
noncomputable def Bk(g:P2)(a b:PF):PF:=λenv k=>a env λx ad=>b ad λy bi=>g x y λt=>k t bi
variable {fa:PF}
theorem zu{g:P2}{fb:PF}:∀ σ H Q,wE X.K (Bk g fa fb) σ H Q->tOp (w2 X.K g) (wE X.K fa) (wE X.K fb) σ H Q:=by rintro σ H Q ⟨env,Fr,k,rs,q,c⟩;refine⟨env,Fr,_,rs,q,λtx ad x H1 q1 f8=>⟨ad,_,_,f8,q1,λty bi y H2 q2 rs2=>?_⟩⟩;refine⟨tx,ty,bi.zip σ++Fr,_,?_,q2,λt v H' kt rp=>c _ _ _ _ kt (.of rs2.1 rp)⟩;exact rs2.head.perm (.cons _ h_)
variable {g':P2}
section
variable{X:Cx}{a b c d:SK}{fa fb fc fd:PF}{pos:Pos}
theorem ai{op:Operator}{g:P2}(ho:OpP X (TU op) g)(ha:GE X a fa)(hb:GE X b fb):GE X (.BinOp a op b pos) (Bk g fa fb):=PE.imp (hX ho ha hb) zu
theorem jh{op:V_}{g:P2}(ho:OpP X (S8 op) g)(ha:GE X a fa)(hb:GE X b fb)(hm:UJ op b=false):GE X (.Compare a [op] [b] pos) (Bk g fa fb):=PE.imp (EW ho ha hb hm) zu
noncomputable def F4(f:PF):PB:=λenv k=>f env λt be=>match t with
 | .bl b=>k b be
 | _=>False
theorem Ec{f:PF}:∀ σ H Q,wB K (F4 f) σ H Q->Ef (wE K f) σ H Q:=by
 rintro σ H Q ⟨env,Fr,k,rs,q,c⟩;refine⟨env,Fr,_,rs,q,λt be v H' q1 f8=>?_⟩;cases t <;> first|exact q1.elim|skip
 rename_i b;exact⟨b,kD f8.head,c _ _ _ q1 f8.drop⟩
theorem cX{op:V_}{g:P2}(ho:OpP X (S8 op) g)(ha:GE X a fa)(hb:GE X b fb)(hm:UJ op b=false):GT X (.Compare a [op] [b] pos) (F4 (Bk g fa fb)):=by refine PT.imp (uK ho ha hb hm) λσ H Q h=>?_;obtain⟨env,Fr,k,rs,q,c⟩:=Ec σ H Q h;exact zu σ H _ ⟨env,Fr,k,rs,q,c⟩
def vZ(g g':P2)(fa fb fc:PF):PF:=λenv k=>fa env λx ad=>fb ad λy bi=>aW y=true/\g x y λz=>match z with
 | .bl b=>cnd b (fc bi λu bn=>g' y u λt=>k t bn) (k (.bl false) bi)
 | _=>False
theorem xu{X:Cx}{g:P2}{fa fb fc:PF}:∀ σ H Q,wE X.K (vZ g g' fa fb fc) σ H Q->ym (w2 X.K g) (w2 X.K g') (wE X.K fa) (wE X.K fb) (wE X.K fc) σ H Q:=by
 rintro σ H Q ⟨env,Fr,k,rs,q,c⟩;refine⟨env,Fr,_,rs,q,λtx ad x H1 q1 f8=>⟨ad,_,_,f8,q1,λty bi y H2 ⟨no,q2⟩ rs2=>?_⟩⟩;have rd:=mP rs2.head no;refine⟨tx,ty,(ty,some y)::(bi.zip σ++Fr),_,?_,q2,λt v H' kt rp=>?_⟩
 ·refine rd.perm (.cons _ ?_);refine E_ (.cons _ h_) (.swap _ _ _)
 cases t <;> first|exact kt.elim|skip
 rename_i bb;refine⟨bb,kD rp,k9 ⟨λhb=>?_,λhb=>?_⟩⟩
 ·refine⟨bi,(ty,some y)::Fr,_,.of rs2.1 rp.tail,kt.1 hb,λtu bn u H3 q3 rs3=>?_⟩;refine⟨ty,tu,bn.zip σ++Fr,_,?_,q3,λt v H' kt rp=>c _ _ _ _ kt (.of rs3.1 rp)⟩;exact rs3.head.perm (.cons _ h_)
 exact c _ _ _ _ (kt.2 hb) (jP ⟨rs2.1,rp.tail.tail⟩ λ_=>.bl)
theorem BC{op op':V_}{g g':P2}(ho:OpP X (S8 op) g)(ho':OpP X (S8 op') g')(ha:GE X a fa)(hb:GE X b fb)(hc:GE X c fc)(hm:WN [op,op'] [b,c]=false:=by with_unfolding_all rfl) :
  GE X (.Compare a [op,op'] [b,c] pos) (vZ g g' fa fb fc):=PE.imp (Cf ho ho' ha hb hc hm) xu
theorem Cm{op op':V_}{g:P2}(ho:OpP X (S8 op) g)(ho':OpP X (S8 op') g')(ha:GE X a fa)(hb:GE X b fb)(hc:GE X c fc)(hm:WN [op,op'] [b,c]=false:=by with_unfolding_all rfl) :
  GT X (.Compare a [op,op'] [b,c] pos) (F4 (vZ g g' fa fb fc)):=by
 refine PT.imp (C2 ho ho' ha hb hc hm) λσ H Q h=>?_;obtain⟨env,Fr,k,rs,q,c⟩:=Ec σ H Q h;exact xu σ H _ ⟨env,Fr,k,rs,q,c⟩
noncomputable def J2:T->(Bool->Prop)->Prop
 | .non,k=>k false
 | .bl b,k=>k b
 | .int i,k=>k (i != 0)
 | .str x,k=>x.length<=sizeLine/\k ((x.length:Int) != 0)
 | .tup ts,k=>k (!ts.isEmpty)
 | .cst ts,k=>k (!ts.isEmpty)
 | .lst _ ts,k=>k (!ts.isEmpty)
 | _,_=>False
def KS(f:PF):PB:=λenv k=>f env λt be=>J2 t λb=>k b be
theorem xI{β:Type}{l:List α}{m:List β}(h:l.length=m.length):l.isEmpty=m.isEmpty:=by cases l <;> cases m <;> first|rfl|simp at h
theorem fy(ha:GE X a fa)(he:∀whole,WL a X.env whole=(do let v <-whole;Xz a.pos;U2 [v] (truthy v)):=by intro _;rfl):GT X a (KS fa):=by
 refine PT.imp (BX ha he) ?_;rintro σ H Q ⟨env,Fr,k,rs,q,c⟩;refine⟨env,Fr,_,rs,q,λt be v H' q1 f8=>?_⟩;have fin:∀b,k b be->Q b H':=λb kb=>c _ _ _ kb f8.drop;have sq:∀ts b,items t=some ts->b=(!ts.isEmpty)->k b be->∃b,HG X.K v H' b/\Q b H':=λts b e eb kb=>by
  obtain⟨a,vs,rfl,hq,l,_⟩:=aE e f8.head;refine⟨b,?_,fin b kb⟩;rw[xI l]at eb;revert hq;cases jQ t with
  |true=>exact λhq=>.inr (.inl ⟨vs,hq,eb⟩)
  |false=>exact λhq=>.inl ⟨vs,hq,eb⟩
 cases t with
 |non=>rw[sG f8.head];exact⟨_,rfl,fin _ q1⟩
 |bl b=>rw[kD f8.head];exact⟨_,rfl,fin _ q1⟩
 |int i=>rw[b7 f8.head];exact⟨_,rfl,fin _ q1⟩
 |str x=>rw[jR f8.head];exact⟨_,⟨q1.1,rfl⟩,fin _ q1.2⟩
 |tup ts=>exact sq _ _ rfl rfl q1
 |cst ts=>exact sq _ _ rfl rfl q1
 |lst o ts=>exact sq _ _ rfl rfl q1
 | _=>exact q1.elim
def Hf(ta tb:PB):PB:=λenv k=>ta env λb ad=>cnd b (tb ad k) (k false ad)
def KJ(ta tb:PB):PB:=λenv k=>ta env λb ad=>cnd b (k true ad) (tb ad k)
noncomputable def GP(ta:PB):PB:=λenv k=>ta env λb ad=>k (!b) ad
variable{ta tb:PB}{rest:List SK}
theorem Fu(ha:GT X a ta):GW X (.BoolOp .And [a] pos) ta:=Ez ha
theorem qD(ha:GT X a ta):GW X (.BoolOp .Or [a] pos) ta:=HQ ha
theorem C1(ha:GT X a ta)(hb:GW X (.BoolOp .And (b::rest) pos) tb):GW X (.BoolOp .And (a::b::rest) pos) (Hf ta tb):=by
 refine PW.imp (JR ha hb) ?_;rintro σ H Q ⟨env,Fr,k,rs,q,c⟩;refine⟨env,Fr,_,rs,q,λb be H' q1 f8=>k9 ⟨λe=>?_,λe=>?_⟩⟩
 ·exact⟨be,Fr,k,f8,q1.1 e,c⟩
 exact c _ _ _ (q1.2 e) f8
theorem ui(ha:GT X a ta)(hb:GW X (.BoolOp .Or (b::rest) pos) tb):GW X (.BoolOp .Or (a::b::rest) pos) (KJ ta tb):=by
 refine PW.imp (Kz ha hb) ?_;rintro σ H Q ⟨env,Fr,k,rs,q,c⟩;refine⟨env,Fr,_,rs,q,λb be H' q1 f8=>k9 ⟨λe=>?_,λe=>?_⟩⟩
 ·exact c _ _ _ (q1.1 e) f8
 exact⟨be,Fr,k,f8,q1.2 e,c⟩
theorem AW{f:PB}(h:GW X a f):GT X a f:=PW.pt h
theorem iI(ha:GT X a ta):GT X (.UnaryOp .Not a pos) (GP ta):=by refine PT.imp (J3 ha) ?_;rintro σ H Q ⟨env,Fr,k,rs,q,c⟩;exact⟨env,Fr,_,rs,q,λb be H' q1 f8=>c _ _ _ q1 f8⟩
def K8(fa fb:PF):PF:=λenv k=>fa env λt ad=>match t with
 | .bl b=>cnd b (fb ad k) (k (.bl false) ad)
 | _=>False
noncomputable def Kn(fa:PF):PF:=λenv k=>fa env λt ad=>match t with
 | .bl b=>k (.bl (!b)) ad
 | _=>False
def fIf(tc:PB)(fa fb:PF):PF:=λenv k=>tc env λb ad=>cnd b (fa ad k) (fb ad k)
theorem kR{op}(h:GE X a fa):GE X (.BoolOp op [a] pos) fa:=HC h
theorem gZ(ha:GE X a fa)(hb:GE X (.BoolOp .And (b::rest) pos) fb):GE X (.BoolOp .And (a::b::rest) pos) (K8 fa fb):=by
 refine PE.imp (JL ha hb) ?_;rintro σ H Q ⟨env,Fr,k,rs,q,c⟩;refine⟨env,Fr,_,rs,q,λt be v H' q1 f8=>?_⟩;cases t <;> first|exact q1.elim|skip
 rename_i bb;refine⟨bb,kD f8.head,k9 ⟨λe=>?_,λe=>?_⟩⟩
 ·exact⟨be,Fr,k,f8.drop,q1.1 e,c⟩
 exact c _ _ _ _ (q1.2 e) (jP f8.drop λ_=>.bl)
theorem oN(ha:GE X a fa):GE X (.UnaryOp .Not a pos) (Kn fa):=by
 refine PE.imp (Jh ha) ?_;rintro σ H Q ⟨env,Fr,k,rs,q,c⟩;refine⟨env,Fr,_,rs,q,λt be v H' q1 f8=>?_⟩;cases t <;> first|exact q1.elim|skip
 rename_i bb;exact⟨bb,kD f8.head,c _ _ _ _ q1 (jP f8.drop λ_=>.bl)⟩
theorem ge_if(hc:GT X c ta)(ha:GE X a fa)(hb:GE X b fb):GE X (.IfExp c a b pos) (fIf ta fa fb):=by
 refine PE.imp (D7 hc ha hb) ?_;rintro σ H Q ⟨env,Fr,k,rs,q,c⟩;refine⟨env,Fr,_,rs,q,λb be H' q1 f8=>k9 ⟨λe=>?_,λe=>?_⟩⟩
 ·exact⟨be,Fr,k,f8,q1.1 e,c⟩
 exact⟨be,Fr,k,f8,q1.2 e,c⟩
noncomputable def IP:PFs:=λenv k=>k [] env
noncomputable def Ho(f:PF)(r:PFs):PFs:=λenv k=>f env λt ad=>r ad λts bi=>k (t::ts) bi
variable{es:List SK}{fr:PFs}
theorem af:GA X [] IP:=PA.imp mJ (by rintro σ H Q ⟨env,Fr,k,rs,q,c⟩;exact c [] env [] H q rfl rs)
theorem ab(ha:GE X a fa)(hr:GA X es fr)(hs:SO (a::es) X.env=(false,Ta a X.env)::SO es X.env:=by rfl):GA X (a::es) (Ho fa fr):=by refine PA.imp (jg ha hr hs) ?_;rintro σ H Q ⟨env,Fr,k,rs,q,c⟩;refine⟨env,Fr,_,rs,q,λt ad v H1 q1 f8=>⟨ad,_,_,f8,q1,λts bi vs H2 q2 l rs2=>c _ _ _ _ q2 (by rw[i',i',l]) ?_⟩⟩;exact rs2.perm h_
noncomputable def K9(fr:PFs):PF:=λenv k=>fr env λts ad=>ts.length<=sizeLine/\k (.tup ts) ad
noncomputable def Ko(fr:PFs):PF:=λenv k=>fr env λts ad=>ts.length<=sizeLine/\k (.lst true ts) ad
theorem aA{x1}(h:GA X es fr):GE X (.Tuple es x1 pos) (K9 fr):=by refine PE.imp (Fl h) ?_;rintro σ H Q ⟨env,Fr,k,rs,q,c⟩;refine⟨env,Fr,_,rs,q,λts ad vs H1 ⟨z,q1⟩ l f8=>⟨by rw[<-l];exact z,λp H2 hp g e=>c _ _ _ _ q1 ?_⟩⟩;exact Rs.chg (Δ:=zz ts vs) (Δ':=[(.tup ts,some (.ref p))]) f8 λΓ r=>jj r l g e
theorem cW(h:GA X es fr):GE X (.List es pos) (Ko fr):=by refine PE.imp (Fv h) ?_;rintro σ H Q ⟨env,Fr,k,rs,q,c⟩;refine⟨env,Fr,_,rs,q,λts ad vs H1 ⟨z,q1⟩ l f8=>⟨by rw[<-l];exact z,λp H2 hp g e=>c _ _ _ _ q1 ?_⟩⟩;exact Rs.chg (Δ:=zz ts vs) (Δ':=[(.lst true ts,some (.ref p))]) f8 λΓ r=>l4 r l hp g e
end
open PySem PySem.Spec PyProof.Rows L2
noncomputable def Jq:P2
 | .int i,.int j,k=>k (.int (i+j))
 | .str x,.str y,k=>x.length+y.length<=sizeLine/\k (.str (x++y))
 | .lst _ ts,.lst _ us,k=>ts.length+us.length<=sizeLine/\k (.lst true (ts++us))
 | .tup ts,.tup us,k=>ts.length+us.length<=sizeLine/\k (.tup (ts++us))
 | _,_,_=>False
noncomputable def Ll:P2
 | .int i,.int j,k=>k (.int (i-j))
 | _,_,_=>False
def M7:P2
 | .int i,.int j,k=>yb i j/\k (.int (i*j))
 | _,_,_=>False
def Ly:P2
 | .int i,.int j,k=>EL i j/\k (.int (i/j))
 | _,_,_=>False
noncomputable def K4:P2
 | .int i,.int j,k=>0<j/\k (.int (i%j))
 | _,_,_=>False
noncomputable def JY(p:Int->Int->Bool):P2
 | .int i,.int j,k=>k (.bl (p i j))
 | _,_,_=>False
def ltT:P2:=JY λi j=>decide (i<j)
def leT:P2:=JY λi j=>decide (i<=j)
def gtT:P2:=JY λi j=>decide (j<i)
noncomputable def isV:T->Bool
 | .any=>false
 | .hole _=>false
 | .bare=>false
 | .kp _=>false
 | _=>true
noncomputable def nL:T->Bool
 | .non=>true
 | _=>false
def L6:P2
 |t,.non,k=>isV t=true/\k (.bl (nL t))
 | _,_,_=>False
def Hi:P2
 |t,.non,k=>isV t=true/\k (.bl (!nL t))
 | _,_,_=>False
variable {o:Bool}{r':Int->Int->V}
section
variable{X:Cx}
theorem uV{C:Int->Int->Prop}{r:Int->Int->T}(h:OpR X f (rI C r'))(hr:∀i j K Hz H,RepT K Hz H (r i j) (r' i j) []):OpP X f (λt u k=>match t,u with | .int i,.int j=>C i j/\k (r i j) | _,_=>False):=by
 refine .of h ?_;intro tx ty x y H Γ k Q rp g c;cases tx <;> cases ty <;> first|exact g.elim|skip
 rename_i i j;rw[b7 rp,b7 rp.tail];exact⟨i,j,rfl,rfl,g.1,c _ _ _ g.2 (fk rp.tail.tail λHz=>hr i j _ _ _)⟩
theorem nO{r:Int->Int->T}(h:OpR X f (rI0 r'))(hr:∀i j K Hz H,RepT K Hz H (r i j) (r' i j) []):OpP X f (λt u k=>match t,u with | .int i,.int j=>k (r i j) | _,_=>False):=by
 refine .of h ?_;intro tx ty x y H Γ k Q rp g c;cases tx <;> cases ty <;> first|exact g.elim|skip
 rename_i i j;rw[b7 rp,b7 rp.tail];exact⟨i,j,rfl,rfl,c _ _ _ g (fk rp.tail.tail λHz=>hr i j _ _ _)⟩
theorem OpP.imp {g:P2}(h:OpP X f g)(k:∀tx ty k,g' tx ty k->g tx ty k):OpP X f g':=OpR.imp h (by rintro x y H Q ⟨tx,ty,Γ,kk,rp,gg,c⟩;exact⟨tx,ty,Γ,kk,rp,k _ _ _ gg,c⟩)
theorem Inv.Lq {σ:L2.St}{l:Sn}(I:Inv X ac σ H s)(hH:Rd H l (.lst xs)):xs.length<=sizeLine/\∃(ap:List Sl) (n:Nat),Vals xs ap/\xs.length=ap.length/\s.heap.get? l=some { cls:=.type "list",data:=.seq ap.toArray n}:=by obtain⟨z,ap,n,r,e⟩:=hH.ok I.hok;exact⟨z,ap,n,r,r.length,e⟩
theorem Ew:OpR X (TU .Add) (λx y H Q=>∃l b xs zs,x=.ref l/\y=.ref b/\Rd H l (.lst xs)/\Rd H b (.lst zs)/\xs.length+zs.length<=sizeLine/\New (.lst (xs++zs)) H Q):=by
 intro ac s σ H x y v u Q I rx ry h;obtain⟨l,b,xs,zs,rfl,rfl,hH,hB,hz,q⟩:=h;cases rx;cases ry;obtain⟨z,ap,n,r,hl,e⟩:=Inv.Lq I hH;obtain⟨z2,its2,n2,r2,hl2,e2⟩:=Inv.Lq I hB;refine PySem.P.add_list e e2 ?_ (by rw[j',j'];lia);have ea:ap.toArray++its2.toArray=(ap++its2).toArray:=by simp
 rw[ea];exact⟨.ref _,_,I.MO (t':=s.toks) (r.append r2) (by rw[c_];omega),rfl,q.at I.fresh⟩
theorem lK(h:Rp K H ((.lst o ts,some y)::Γ)):∃a vs,y=.ref a/\Rd H a (.lst vs)/\ts.length=vs.length/\Rp K H (zz ts vs++Γ):=by
 obtain⟨Hz,N,h,nd,g,d⟩:=h;cases h with
 |cons e1 h c=>
  rcases h with⟨z,_⟩|⟨v,e2,h⟩
  ·cases z
  cases e2;cases h
  ·rename_i a vs L h c1;rw[e1,G',MW]at nd;exact⟨a,vs,rfl,.inl h,c1.len,Hz,_,c1.toL.app c,nd.2,g,λb m=>d b (by rw[e1,G'];exact t_ _ m)⟩
  rename_i a vs h c1;exact⟨a,vs,rfl,g _ _ h,c1.len,Hz,_,c1.toL.app c,by rw[<-e1];exact nd,g,λb m=>d b (by rw[e1];exact m)⟩
theorem qp(h:Rp K H ((.tup ts,some y)::Γ)):∃a vs,y=.ref a/\H a=some (.tup vs)/\ts.length=vs.length/\Rp K H (zz ts vs++Γ):=by
 obtain⟨Hz,N,h,nd,g,d⟩:=h;cases h with
 |cons e1 h c=>
  rcases h with⟨z,_⟩|⟨v,e2,h⟩
  ·cases z
  cases e2;cases h with
  |tup h c1=>exact⟨_,_,rfl,h,c1.len,Hz,_,c1.toL.app c,by rw[<-e1];exact nd,g,λb m=>d b (by rw[e1];exact m)⟩
theorem mH{us:List T}{ws:List V}(l:ts.length=vs.length):zz (ts++us) (vs++ws)=zz ts vs++zz us ws:=by show(ts++us).zip ((vs++ws).map some)=_;rw[m_,RL (by rw[a_];exact l)]
theorem F3:OpR X (TU .Add) (λx y H Q=>∃a b ys,x=.ref a/\y=.ref b/\SqT X.K H a []/\SqT X.K H b ys/\Q (.ref b) H):=by
 intro ac s σ H x y v u Q I rx ry h;obtain⟨a,b,ys,rfl,rfl,ha,hb,q⟩:=h;cases rx;cases ry;obtain⟨ap,r1,p1,_⟩:=I.tuple ha;obtain⟨its2,r2,p2,_⟩:=I.tuple hb;cases r1;obtain⟨⟨cls,dd,data,sl⟩,ho,hc,n,hd⟩:=id p1;obtain⟨⟨cls2,dd2,data2,sl2⟩,ho2,hc2,n2,hd2⟩:=id p2;simp only at hc hd hc2 hd2;subst hc hd hc2 hd2;exact WQ ⟨_,ho,rfl⟩ ⟨_,ho2,rfl⟩ VX WD U8 U5 (UX _ _)
  (tuple_addW0 a b _ its2.toArray n n2 dd dd2 sl sl2 (by simp)) ⟨ho,ho2,⟨.ref b,H,I,rfl,q⟩⟩
theorem aB:OpP X (TU .Add) Jq:=by
 rintro ac s σ H x y v u Q I rx ry ⟨tx,ty,Γ,k,rp,g,c⟩;cases tx <;> cases ty <;> first|exact SQ g|skip
 ·rename_i i j;rw[b7 rp]at ry;rw[b7 rp.tail]at rx;exact r6 ac s σ H _ _ v u Q I rx ry ⟨i,j,rfl,rfl,c _ _ _ g (fk rp.tail.tail λ_=>.int)⟩
 ·rename_i i j;rw[jR rp]at ry;rw[jR rp.tail]at rx;exact yu ac s σ H _ _ v u Q I rx ry ⟨i,j,rfl,rfl,g.1,c _ _ _ g.2 (fk rp.tail.tail λ_=>.str)⟩
 ·rename_i ts us;obtain⟨b,ws,rfl,hb,lb,cr⟩:=qp rp;obtain⟨a,vs,rfl,ha,la,dL⟩:=qp (cr.perm h_);have lz:vs.length+ws.length<=sizeLine:=by rw[<-la,<-lb];exact g.1
  have rp4:Rp X.K H (zz (ts++us) (vs++ws)++Γ):=by rw[mH la,g_];exact dL
  by_cases hx:vs=[]
  ·subst hx;refine F3 ac s σ H _ _ v u Q I rx ry ⟨a,b,ws,rfl,rfl,SqT.of ha,SqT.of hb,?_⟩;refine c _ _ _ g.2 (jj rp4 (by rw[c_,c_,la,lb]) .gQ ?_);rw[NJ];exact hb
  refine Gf ac s σ H _ _ v u Q I rx ry ⟨a,b,vs,ws,rfl,rfl,SqT.of ha,SqT.of hb,hx,lz,λe=>?_,λ_ p hp=>c _ _ _ g.2 (jj rp4 (by rw[c_,c_,la,lb]) (eX hp _) aX)⟩;refine c _ _ _ g.2 (jj rp4 (by rw[c_,c_,la,lb]) .gQ ?_);rw[e,Nb];exact ha
 rename_i o ts o' us;obtain⟨b,ws,rfl,hb,lb,cr⟩:=lK rp;obtain⟨a,vs,rfl,ha,la,dL⟩:=lK (cr.perm h_);have lz:vs.length+ws.length<=sizeLine:=by rw[<-la,<-lb];exact g.1
 have rp4:Rp X.K H (zz (ts++us) (vs++ws)++Γ):=by rw[mH la,g_];exact dL
 exact Ew ac s σ H _ _ v u Q I rx ry ⟨a,b,vs,ws,rfl,rfl,ha,hb,lz,λp H' hp g' e=>c _ _ _ g.2 (l4 rp4 (by rw[c_,c_,la,lb]) hp g' e)⟩
theorem aK:OpP X (TU .Sub) Ll:=(nO (r:=λi j=>.int (i-j)) JX λ_ _ _ _ _=>.int).imp λtx ty k g=>by cases tx <;> cases ty <;> exact g
theorem eW:OpP X (TU .Mult) M7:=(uV (r:=λi j=>.int (i*j)) mW λ_ _ _ _ _=>.int).imp λtx ty k g=>by cases tx <;> cases ty <;> exact g
theorem jf:OpP X (TU .FloorDiv) Ly:=(uV (r:=λi j=>.int (i/j)) Ap λ_ _ _ _ _=>.int).imp λtx ty k g=>by cases tx <;> cases ty <;> exact g
theorem qa:OpP X (TU .Mod) K4:=(uV (r:=λi j=>.int (i%j)) mQ λ_ _ _ _ _=>.int).imp λtx ty k g=>by cases tx <;> cases ty <;> exact g
theorem ph:OpP X (S8 .Lt) ltT:=(nO (r:=λi j=>.bl (decide (i<j))) Ld λ_ _ _ _ _=>.bl).imp λtx ty k g=>by cases tx <;> cases ty <;> exact g
theorem qP:OpP X (S8 .LtE) leT:=(nO (r:=λi j=>.bl (decide (i<=j))) Lo λ_ _ _ _ _=>.bl).imp λtx ty k g=>by cases tx <;> cases ty <;> exact g
theorem BU:OpP X (S8 .Gt) gtT:=(nO (r:=λi j=>.bl (decide (j<i))) Kr λ_ _ _ _ _=>.bl).imp λtx ty k g=>by cases tx <;> cases ty <;> exact g
theorem Gx{k:Nat}{A:SW}(r:Room k A){n:Nat}(h:n<190):A.units+n<cLine:=by have:=r.un;lia
theorem As{x:V}(rp:Rp K H ((t,some x)::Γ))(n:isV t=true):decide (x=.non)=nL t:=by obtain⟨Hz,L,r,g⟩:=jJ rp (by cases t <;> first|rfl|cases n);cases r <;> first|rfl|cases n
theorem Fq:OpP X (S8 .Is) L6:=.of JT λtx ty x y H Γ k Q rp g c=>by
 cases ty <;> first|exact SQ g|skip
 refine⟨sG rp,?_⟩;rw[As rp.tail g.1];exact c _ _ _ g.2 (fk rp.tail.tail λ_=>.bl)
theorem CV:OpP X (S8 .IsNot) Hi:=.of Ge λtx ty x y H Γ k Q rp g c=>by
 cases ty <;> first|exact SQ g|skip
 refine⟨sG rp,?_⟩;rw[As rp.tail g.1];exact c _ _ _ g.2 (fk rp.tail.tail λ_=>.bl)
end
open PySem PySem.Spec PyProof.Rows L2
noncomputable def vn:T->Option Key
 | .int i=>some (.inl i)
 | .str x=>some (.inr x)
 | .non=>some (.inr none)
 | _=>none
def AY:List T->Option (List Key)
 | []=>some []
 |t::r=>match vn t,AY r with
  |some k,some ks=>some (k::ks)
  | _,_=>none
section
variable{κ:Type}[DecidableEq κ]
noncomputable def pW(al:List (κ×T))(k:κ):Option T:=(al.find? λkv=>decide (kv.1=k)).map (·.2)
noncomputable def oz(al:List (κ×T))(k:κ)(v:T):List (κ×T):=
 if(al.any λkv=>decide (kv.1=k))=true then al.map (λkv=>if kv.1=k then(kv.1,v)else kv)else al++[(k,v)]
theorem oF:∀{ts:List (κ×T)}{vs:List (κ×V)}{q:κ}{u:T},ts.map (·.1)=vs.map (·.1)->pW ts q=some u->∃(w:V) (i:Nat),iG vs q=some w/\(ts.map (·.2))[i]?=some u/\(vs.map (·.2))[i]?=some w
 | [],vs,q,u,e,h=>by cases h
 | (k,t)::ts,[],q,u,e,h=>by cases e
 | (k,t)::ts,(k',v)::vs,q,u,e,h=>by
  rw[f',f',Nu]at e;have e0:k=k':=e.1;subst e0;unfold pW at h;rw[Nn]at h;unfold iG;rw[Nn];by_cases hk:k=q
  ·have hk':decide (k=q)=true:=decide_eq_true hk;rw[show decide ((k,t).1=q)=true from hk']at h;rw[show decide ((k,v).1=q)=true from hk'];cases h;exact⟨v,0,rfl,rfl,rfl⟩
  have hk':decide (k=q)=false:=decide_eq_false hk;rw[show decide ((k,t).1=q)=false from hk']at h;rw[show decide ((k,v).1=q)=false from hk'];obtain⟨w,i,h1,h2,h3⟩:=oF (ts:=ts) (vs:=vs) e.2 h;exact⟨w,i+1,h1,by simpa using h2,by simpa using h3⟩
theorem tU:∀{ts:List (κ×T)}{vs:List (κ×V)} (q:κ),ts.map (·.1)=vs.map (·.1)->(pW ts q).isSome=(iG vs q).isSome
 | [],[],q,e=>rfl
 | [],_::_,q,e=>by cases e
 | (k,t)::ts,[],q,e=>by cases e
 | (k,t)::ts,(k',v)::vs,q,e=>by
  rw[f',f',Nu]at e;have e0:k=k':=e.1;subst e0;have ih:=tU (ts:=ts) (vs:=vs) q e.2;unfold pW iG at ih ⊢;rw[Nn,Nn];by_cases hk:k=q
  ·have hk':decide (k=q)=true:=decide_eq_true hk;rw[show decide ((k,t).1=q)=true from hk']
   rfl
  have hk':decide (k=q)=false:=decide_eq_false hk;rw[show decide ((k,t).1=q)=false from hk'];exact ih
end
section
variable{K:Sm}{H:Hp}{Γ:Fm}
theorem yl{ts:List (Key×T)}(h:Rp K H ((.dK o ts,some y)::Γ)):∃a vs,y=.ref a/\Rd H a (.dK vs)/\ts.map (·.1)=vs.map (·.1)/\Rp K H (zz (ts.map (·.2)) (vs.map (·.2))++Γ):=by
 obtain⟨Hz,N,h,nd,g,d⟩:=h;cases h with
 |cons e1 h c=>
  rcases h with⟨z,_⟩|⟨v,e2,h⟩
  ·cases z
  cases e2;cases h
  ·rename_i a vs L h c1;obtain⟨ek,c2⟩:=c1.toL;rw[e1,G',MW]at nd;exact⟨a,vs,rfl,.inl h,ek,Hz,_,c2.toL.app c,nd.2,g,λb m=>d b (by rw[e1,G'];exact t_ _ m)⟩
  rename_i a vs h c1;obtain⟨ek,c2⟩:=c1.toL;exact⟨a,vs,rfl,g _ _ h,ek,Hz,_,c2.toL.app c,by rw[<-e1];exact nd,g,λb m=>d b (by rw[e1];exact m)⟩
theorem Dx{ts:List (List Key×T)}(h:Rp K H ((.dT o ts,some y)::Γ)):∃a vs,y=.ref a/\Rd H a (.dT vs)/\ts.map (·.1)=vs.map (·.1)/\Rp K H (zz (ts.map (·.2)) (vs.map (·.2))++Γ):=by
 obtain⟨Hz,N,h,nd,g,d⟩:=h;cases h with
 |cons e1 h c=>
  rcases h with⟨z,_⟩|⟨v,e2,h⟩
  ·cases z
  cases e2;cases h
  ·rename_i a vs L h c1;obtain⟨ek,c2⟩:=c1.toL;rw[e1,G',MW]at nd;exact⟨a,vs,rfl,.inl h,ek,Hz,_,c2.toL.app c,nd.2,g,λb m=>d b (by rw[e1,G'];exact t_ _ m)⟩
  rename_i a vs h c1;obtain⟨ek,c2⟩:=c1.toL;exact⟨a,vs,rfl,g _ _ h,ek,Hz,_,c2.toL.app c,by rw[<-e1];exact nd,g,λb m=>d b (by rw[e1];exact m)⟩
theorem v7{k:Key}(e:vn t=some k)(h:Rp K H ((t,some y)::Γ)):y=kV k:=by
 cases t <;> cases e
 ·rw[sG h];rfl
 ·rw[b7 h];rfl
 rw[jR h];rfl
theorem CZ{k:Key}(e:vn t=some k)(h:RepT K Hz H t v L):v=kV k:=by
 cases t <;> cases e
 ·cases h;rfl
 ·cases h;rfl
 cases h;rfl
theorem tR{Hz:Hp}:∀{ts:List T}{ks:List Key}{vs:List V}{L:List Sn},AY ts=some ks->RepTs K Hz H ts vs L->vs=ks.map kV
 | [],ks,_,_,e,r=>by cases r;cases e;rfl
 |t::ts,ks,_,_,e,r=>by
  cases r with
  |cons _ h c=>
   rw[AY]at e;split at e
   ·rename_i k r e1 e2;cases e;rw[CZ e1 h,tR e2 c]
    rfl
   cases e
theorem Ad{ks:List Key}(e:AY ts=some ks)(h:Rp K H ((.tup ts,some y)::Γ)):∃b,y=.ref b/\H b=some (.tup (ks.map kV)):=by
 obtain⟨Hz,L,r,g⟩:=jJ h rfl;cases r with
 |tup h1 c1=>exact⟨_,rfl,by rw[h1,tR e c1]⟩
end
def ixT:P2
 | .tup ts,.int i,k=>got (atI ts i) k
 | .cst ts,.int i,k=>got (atI ts i) k
 | .lst _ ts,.int i,k=>got (atI ts i) k
 | .str x,.int i,k=>x.length<=sizeLine/\got (atI x.cps.toList i) λc=>k (.str ⟨#[c]⟩)
 | .dK _ al,y,k=>got (vn y) λq=>got (pW al q) k
 | .dT _ al,.tup ts,k=>got (AY ts) λq=>got (pW al q) k
 | _,_,_=>False
variable {kr:Nat}{pos:Pos}
section
variable{X:Cx}
theorem Ae(hu:X.A.units+1<cLine):IxR X (λx y H Q=>∃a v,x=.ref a/\pA H a y (some v)/\Q v H):=by
 intro value slice ac s σ H x y v u Q I rx ry h hs;obtain⟨a,z,rfl,g,q⟩:=h;cases rx;have hT:=pI I g;unfold Vc;refine Sj ?_;rw[Wm hT.not_modules];refine Sj (UE hT VQ.lookup ?_);have fin:Sw (SG X.prog X.w) X.A (Vu slice false (.ref a) u) (λr s₃=>Sw (SG X.prog X.w) X.A (XF value (.ref a) r >>= λ_=>pure r) (EP X ac σ Q) X.xe s₃) X.xe s:=by rw[hs];refine Xn (um hu I g ry λw' s' I' r'=>Sj (Wx (Ss ⟨z,H,I',r',q⟩)))
 first
  |exact Ss (Sj fin)
  |exact Sj (Ss (Sj fin))
  |exact Sj fin
theorem Mr(hr:Room kr X.A):IxR X (w2 X.K ixT):=by
 rintro value slice ac s σ H x y v u Q I rx ry ⟨tx,ty,Γ,k,rp,g,c⟩ hs;have sq:∀ts i,items tx=some ts->ty=.int i->got (atI ts i) k->Sw (SG X.prog X.w) X.A (Vc value slice v u) (EP X ac σ Q) X.xe s:=λts i e1 e2 g=>by obtain⟨t,et,kt⟩:=aJ g;subst e2;rw[b7 rp]at ry;obtain⟨a,vs,rfl,hq,l,cr⟩:=aE e1 rp.tail;obtain⟨w,ew,dL⟩:=BV l et cr;exact MB value slice ac s σ H _ _ v u Q I rx ry ⟨_,a,vs,i,w,rfl,rfl,hq,ew,c _ _ _ kt dL⟩ hs
 cases tx with
 |tup ts=>cases ty <;> first|exact SQ g|exact sq _ _ rfl rfl g
 |cst ts=>cases ty <;> first|exact SQ g|exact sq _ _ rfl rfl g
 |lst o ts=>cases ty <;> first|exact SQ g|exact sq _ _ rfl rfl g
 |str z=>
  cases ty <;> first|exact SQ g|skip
  rename_i i;obtain⟨hz,g⟩:=g;obtain⟨t,et,kt⟩:=aJ g;rw[b7 rp]at ry;rw[jR rp.tail]at rx;exact CN value slice ac s σ H _ _ v u Q I rx ry ⟨z,i,t,rfl,rfl,hz,et,c _ _ _ kt (fk rp.tail.tail λ_=>.str)⟩ hs
 |dK o al=>
  have g:got (vn ty) λq=>got (pW al q) k:=by cases ty <;> exact g
  obtain⟨q,eq,g⟩:=aJ g;obtain⟨t,et,kt⟩:=aJ g;rw[v7 eq rp]at ry;obtain⟨a,vs,rfl,hq,ek,cr⟩:=yl rp.tail;obtain⟨w,i,ew,e1,e2⟩:=oF ek et;exact Ae (rV hr) value slice ac s σ H _ _ v u Q I rx ry ⟨a,w,rfl,.inl ⟨vs,q,hq,rfl,ew.symm⟩,c _ _ _ kt (jY cr e1 e2)⟩ hs
 |dT o al=>
  cases ty <;> first|exact SQ g|skip
  rename_i ts;obtain⟨q,eq,g⟩:=aJ g;obtain⟨t,et,kt⟩:=aJ g;obtain⟨b,rfl,hb⟩:=Ad eq rp;obtain⟨a,vs,rfl,hq,ek,cr⟩:=Dx rp.tail;obtain⟨w,i,ew,e1,e2⟩:=oF ek et;exact Ae (rV hr) value slice ac s σ H _ _ v u Q I rx ry ⟨a,w,rfl,.inr ⟨vs,q,b,hq,rfl,hb,ew.symm⟩,c _ _ _ kt (jY cr e1 e2)⟩ hs
 | _=>cases ty <;> exact SQ g
theorem aD{a b:SK}{fb:PF}(hr:Room kr X.A)(ha:GE X a fa)(hb:GE X b fb)(hs:zX b:=by intro _ _;rfl):GE X (.Subscript a b pos) (Bk ixT fa fb):=PE.imp (Hm (Mr hr) ha hb hs) zu
noncomputable def fUn(g:T->(T->Prop)->Prop)(fa:PF):PF:=λenv k=>fa env λt ad=>g t λu=>k u ad
noncomputable def LD:T->(T->Prop)->Prop
 | .int i,k=>k (.int (-i))
 | _,_=>False
theorem mT{a:SK}(ha:GE X a fa):GE X (.UnaryOp .USub a pos) (fUn LD fa):=by
 refine PE.imp (L8 JF ha) ?_;rintro σ H Q ⟨env,Fr,k,rs,q,c⟩;refine⟨env,Fr,_,rs,q,λt ad v H1 q1 f8=>?_⟩;cases t <;> first|exact SQ q1|skip
 rename_i i;exact⟨i,b7 f8.head,c _ _ _ _ q1 (jP f8.drop λ_=>.int)⟩
end
open PySem PySem.Spec PyProof.Rows L2
abbrev P1s:=List T->(T->Prop)->Prop
def w1s(K:Sm)(g:P1s):List V->Hp->VK->Prop:=λxs H Q=>∃ts Γ k,ts.length=xs.length/\Rp K H (zz ts xs++Γ)/\g ts k/\∀t v H',k t->Rp K H' ((t,some v)::Γ)->Q v H'
def j4(X:Cx)(f:Sl)(g:P1s):Prop:=d3 X f (w1s X.K g)
noncomputable def fCl(g:P1s)(fr:PFs):PF:=λenv k=>fr env λts ad=>g ts λt=>k t ad
section
variable{X:Cx}{e:SK}{es:List SK}{fr:PFs}{pos p:Pos}{x:Str}{g:P1s}
theorem GL:∀ σ H Q,wE X.K (fCl g fr) σ H Q->tCB (w1s X.K g) (wA X.K fr) σ H Q:=by rintro σ H Q ⟨env,Fr,k,rs,q,c⟩;refine⟨env,Fr,_,rs,q,λts ad vs H1 q1 l f8=>?_⟩;refine⟨ts,ad.zip σ++Fr,_,l,?_,q1,λt v H' kt rp=>c _ _ _ _ kt (.of f8.1 rp)⟩;refine f8.2.perm ?_;rw[<-g_,<-g_];exact Nh.append_right _
theorem av{id:String}(hc:j4 X (.builtin id) g)(hg:Gl X x)(hm:X.mg x=none)(hv:Uc x=some (.builtin id))(ha:GA X (e::es) fr)(hn:x≠"__name__":=by decide)(hdb:(x ==("__debug__":Str))=false:=by decide)
  (he:SO (e::es) X.env=(false,Ta e X.env)::SO es X.env:=by rfl) (hpl:(UH pos (SO es X.env)).any (·.1)=false:=by rfl):GE X (.Call (.Name x p) (e::es) [] pos) (fCl g fr):=PE.imp (sj hc hg hm hv ha hn hdb he hpl) GL
theorem oV{id:String}(hc:j4 X (.type id) g)(hg:Gl X x)(hm:X.mg x=none)(hv:Uc x=some (.type id))(ha:GA X (e::es) fr)(hn:x≠"__name__":=by decide)(hdb:(x ==("__debug__":Str))=false:=by decide)
  (he:SO (e::es) X.env=(false,Ta e X.env)::SO es X.env:=by rfl) (hpl:(UH pos (SO es X.env)).any (·.1)=false:=by rfl):GE X (.Call (.Name x p) (e::es) [] pos) (fCl g fr):=PE.imp (ur hc hg hm hv ha hn hdb he hpl) GL
end
variable {E Q:Sl->So->Prop}{u:T}{w:SI}
section
variable{X:Cx}
theorem zz1(l:ts.length=xs.length)(e:ts=[t]):∃x,xs=[x]:=by
 subst e;rcases xs with _|⟨x,_|⟨y,xs⟩⟩
 ·cases l
 ·exact⟨x,rfl⟩
 cases l
theorem zz2(l:ts.length=xs.length)(e:ts=[t,u]):∃x y,xs=[x,y]:=by
 subst e;rcases xs with _|⟨x,xs⟩
 ·cases l
 obtain⟨y,rfl⟩:=zz1 (ts:=[u]) (NQ l) rfl;exact⟨x,y,rfl⟩
theorem zz3{w:T}(l:ts.length=xs.length)(e:ts=[t,u,w]):∃x y z,xs=[x,y,z]:=by
 subst e;rcases xs with _|⟨x,xs⟩
 ·cases l
 obtain⟨y,z,rfl⟩:=zz2 (ts:=[u,w]) (NQ l) rfl;exact⟨x,y,z,rfl⟩
theorem yE{prog:SD}(d:Sn)(nd:(d == T9)=false) :
  MeetsIn prog w (Uo.«dict.__len__» ⟨[.ref d],[]⟩) (λ_ R s=>∃o es ep,s.heap.get? d=some o/\o.data=.dict es ep/\R (.ok (.ret (.int es.size s.toks))) {s with toks:=s.toks+1}):=
 .of_wp λA R s ⟨o,es,ep,ho,hdat,q⟩=>by show Sw _ _ (dictSize d >>= _) _ _ s;unfold dictSize;refine Sj (Sj (wpAny_dictEntries ho hdat (Ss ?_)));show Sw _ _ (X8 d >>= _) _ _ s;exact Sj (wpAny_pendingCount_other nd (wpAny_ret_mkInt (by rw[QE];exact q)))
theorem F8{prog:SD}{A:SW}{d:Sn}{o:Obj}{es:Array XS}{ep:Nat}(nd:(d == T9)=false)(ho:s.heap.get? d=some o)(hc:o.ExactDict)(hdat:o.data=.dict es ep)
  (fit:(es.size:Int)<2 ^ 63) (q:∀t tk,Q (.int es.size t) {s with toks:=tk}):Sw (SG prog w) A (call (.builtin "len") [.ref d]) Q E s:=by
 have ty:s.TypeIs (.ref d) "dict":=⟨_,ho,hc.1⟩;refine UR kind_len plain_len entry_len (args_len1 _) ?_;unfold Uo.«len»;refine Sj (m:=oneArg "len" _) (Ss ?_);refine Sj (m:=callSpecial? (.ref d) (Ue "__len__")) (Tu (name:=Ue "__len__") ty Ws
  (call_meetsIn Ws ty PySem.F.entry_dict_len (PySem.F.args_dict_len_1 _) (yE d nd) ⟨o,es,ep,ho,hdat,?_⟩))
 show Sw _ _ _ _ _ {s with toks:=s.toks+1};refine Sj (SY (Ss (Sj (TJ ?_))));show Sw _ _ (if((es.size:Nat):Int)<0 then _ else _) _ _ _;rw[if_neg (by lia)];show Sw _ _ (if((es.size:Nat):Int)>=2 ^ 63 then _ else _) _ _ _;rw[if_neg (by lia)];exact Sj (Yk (Ss ⟨_,rfl,q _ _⟩))
theorem HY{σ:L2.St}{al:List (List Key×V)}(I:Inv X ac σ H s)(e:Rd H a (.dT al))(q:∀t s',Inv X ac σ H s'->Q (.int al.length t) s'):Sw (SG X.prog X.w) X.A (call (.builtin "len") [.ref a]) Q E s:=by
 obtain⟨z,hd,xs,rel,o,es,ep,h1,h2,h3,h4,_⟩:=xo I.hok e;have hs:es.size=al.length:=by have:=congrArg Qe h4;rw[a_]at this;rw[<-l_,this];exact(Vb rel).symm
 refine F8 hd h1 h2 h3 (by rw[SX]at z;lia) λt tk=>?_
 rw[hs];exact q _ _ (I.tok _)
def CB:P1s
 | [t],k=>match t with
  | .str x=>x.length<=sizeLine/\k (.int x.length)
  | .dK _ al=>k (.int al.length)
  | .dT _ al=>k (.int al.length)
  |t=>got (items t) λts=>k (.int ts.length)
 | _,_=>False
theorem eV:j4 X (.builtin "len") CB:=by
 rintro ac s σ H xs us Q I r ⟨ts,Γ,k,l,rp,g,c⟩
 match ts,l,g with
 | [t],l,g=>
  obtain⟨x,rfl⟩:=zz1 l rfl;have rp:Rp X.K H ((t,some x)::Γ):=rp;have sq:(got (items t) λts=>k (.int ts.length))->Sw (SG X.prog X.w) X.A (call (.builtin "len") us) (EP X ac σ Q) X.xe s:=λg=>by obtain⟨us',e,kt⟩:=aJ g;obtain⟨a,vs,rfl,hq,l2,cr⟩:=aE e rp;rw[l2]at kt;exact Bo ac s σ H _ us Q I r ⟨_,a,vs,rfl,hq,c _ _ _ kt (fk rp.tail λ_=>.int)⟩
  cases t with
  |str z=>
   rw[jR rp]at r;exact uR ac s σ H _ us Q I r ⟨z,rfl,g.1,c _ _ _ g.2 (fk rp.tail λ_=>.int)⟩
  |dK o al=>
   obtain⟨a,vs,rfl,hq,ek,cr⟩:=yl rp;obtain⟨u,rfl,ru⟩:=vals1 r;cases ru;have g:k (.int al.length):=g;rw[gD ek]at g;exact Ky I hq λt s' I'=>⟨.int vs.length,H,I',⟨t,rfl⟩,c _ _ _ g (fk rp.tail λ_=>.int)⟩
  |dT o al=>
   obtain⟨a,vs,rfl,hq,ek,cr⟩:=Dx rp;obtain⟨u,rfl,ru⟩:=vals1 r;cases ru;have g:k (.int al.length):=g;rw[gD ek]at g;exact HY I hq λt s' I'=>⟨.int vs.length,H,I',⟨t,rfl⟩,c _ _ _ g (fk rp.tail λ_=>.int)⟩
  | _=>exact sq g
 | [],_,g=>exact SQ g
 | _::_::_,_,g=>exact SQ g
noncomputable def Lb:P1s
 | [.int i],k=>k (.int i.natAbs)
 | _,_=>False
theorem jx:j4 X (.builtin "abs") Lb:=by
 rintro ac s σ H xs us Q I r ⟨ts,Γ,k,l,rp,g,c⟩;rcases ts with _|⟨t,_|⟨u,ts⟩⟩
 ·exact g.elim
 rotate_left
 ·cases t <;> exact g.elim
 cases t <;> try exact g.elim
 rename_i i;obtain⟨x,rfl⟩:=zz1 l rfl;have rp:Rp X.K H ((.int i,some x)::Γ):=rp;rw[b7 rp]at r;refine Cq ac s σ H _ us Q I r ⟨i,rfl,?_⟩;have e:(if i<0 then -i else i)=(i.natAbs:Int):=by split <;> lia
 rw[e];exact c _ _ _ g (fk rp.tail λ_=>.int)
noncomputable def intsOf:List T->Option (List Int)
 | []=>some []
 | .int i::r=>match intsOf r with
  |some ns=>some (i::ns)
  |none=>none
 | _::_=>none
theorem yR(ns:List Int):intsOf (ns.map T.int)=some ns:=by
 induction ns with
 |nil=>rfl
 |cons n r ih=>rw[f',intsOf,ih]
theorem gW:∀{ts:List T}{ns:List Int},intsOf ts=some ns->ts=ns.map T.int
 | [],ns,e=>by cases e;rfl
 |t::ts,ns,e=>by
  cases t <;> first|cases e|skip
  rename_i i;rw[intsOf]at e;split at e
  ·rename_i ms em;cases e;rw[f',gW em]
  cases e
theorem iB{K:Sm}{H:Hp}{Γ:Fm}:∀{ns:List Int}{vs:List V},(ns.map T.int).length=vs.length->Rp K H (zz (ns.map T.int) vs++Γ)->vs=ns.map V.int
 | [],[],_,_=>rfl
 | [],_::_,l,_=>by simp at l
 | _::_,[],l,_=>by simp at l
 |n::ns,v::vs,l,h=>by
  have h:Rp K H ((.int n,some v)::(zz (ns.map T.int) vs++Γ)):=h;rw[b7 h,iB (by simpa using l) h.tail]
  rfl
def FW:P1s
 | [.int i,.int j],k=>k (.int (max i j))
 | [.int i,.int j,.int l],k=>k (.int (max (max i j) l))
 | [t],k=>got (items t) λts=>got (intsOf ts) λns=>ns≠[]/\∀r,uj ns r->k (.int r)
 | _,_=>False
def G3:P1s
 | [.int i,.int j],k=>k (.int (min i j))
 | [.int i,.int j,.int l],k=>k (.int (min (min i j) l))
 | [t],k=>got (items t) λts=>got (intsOf ts) λns=>ns≠[]/\∀r,tI ns r->k (.int r)
 | _,_=>False
theorem iy(hc:X.calm=true):j4 X (.builtin "max") FW:=by
 rintro ac s σ H xs us Q I r ⟨ts,Γ,k,l,rp,g,c⟩;unfold FW at g;split at g
 ·rename_i k i j;obtain⟨x,y,rfl⟩:=zz2 l rfl;have rp:Rp X.K H ((.int i,some x)::(.int j,some y)::Γ):=rp;rw[b7 rp,b7 rp.tail]at r;refine Ay hc ac s σ H _ us Q I r ⟨i,j,rfl,?_⟩;have e:(if j > i then j else i)=max i j:=by split <;> lia
  rw[e];exact c _ _ _ g (fk rp.tail.tail λ_=>.int)
 ·rename_i k i j m;obtain⟨x,y,z,rfl⟩:=zz3 l rfl;have rp:Rp X.K H ((.int i,some x)::(.int j,some y)::(.int m,some z)::Γ):=rp;rw[b7 rp,b7 rp.tail,b7 rp.tail.tail]at r;refine AB hc ac s σ H _ us Q I r ⟨i,j,m,rfl,λw h1 h2 h3 h4=>?_⟩;have e:w=max (max i j) m:=by lia
  rw[e];exact c _ _ _ g (fk rp.tail.tail.tail λ_=>.int)
 ·rename_i k t;obtain⟨x,rfl⟩:=zz1 l rfl;have rp:Rp X.K H ((t,some x)::Γ):=rp;obtain⟨us',e,g⟩:=aJ g;obtain⟨ns,en,ne,kt⟩:=aJ g;have:=gW en;subst this;obtain⟨a,vs,rfl,hq,l2,cr⟩:=aE e rp;have:=iB l2 cr;subst this;revert hq;cases jQ t with
  |true=>exact λhq=>AD hc ac s σ H _ us Q I r ⟨a,ns,rfl,hq,ne,λw hw=>c _ _ _ (kt w hw) (fk rp.tail λ_=>.int)⟩
  |false=>exact λhq=>Bv hc ac s σ H _ us Q I r ⟨a,ns,rfl,hq,ne,λw hw=>c _ _ _ (kt w hw) (fk rp.tail λ_=>.int)⟩
 exact SQ g
theorem gX(hc:X.calm=true):j4 X (.builtin "min") G3:=by
 rintro ac s σ H xs us Q I r ⟨ts,Γ,k,l,rp,g,c⟩;unfold G3 at g;split at g
 ·rename_i k i j;obtain⟨x,y,rfl⟩:=zz2 l rfl;have rp:Rp X.K H ((.int i,some x)::(.int j,some y)::Γ):=rp;rw[b7 rp,b7 rp.tail]at r;refine AU hc ac s σ H _ us Q I r ⟨i,j,rfl,?_⟩;have e:(if j<i then j else i)=min i j:=by split <;> lia
  rw[e];exact c _ _ _ g (fk rp.tail.tail λ_=>.int)
 ·rename_i k i j m;obtain⟨x,y,z,rfl⟩:=zz3 l rfl;have rp:Rp X.K H ((.int i,some x)::(.int j,some y)::(.int m,some z)::Γ):=rp;rw[b7 rp,b7 rp.tail,b7 rp.tail.tail]at r;refine AZ hc ac s σ H _ us Q I r ⟨i,j,m,rfl,λw h1 h2 h3 h4=>?_⟩;have e:w=min (min i j) m:=by lia
  rw[e];exact c _ _ _ g (fk rp.tail.tail.tail λ_=>.int)
 ·rename_i k t;obtain⟨x,rfl⟩:=zz1 l rfl;have rp:Rp X.K H ((t,some x)::Γ):=rp;obtain⟨us',e,g⟩:=aJ g;obtain⟨ns,en,ne,kt⟩:=aJ g;have:=gW en;subst this;obtain⟨a,vs,rfl,hq,l2,cr⟩:=aE e rp;have:=iB l2 cr;subst this;revert hq;cases jQ t with
  |true=>exact λhq=>Bg hc ac s σ H _ us Q I r ⟨a,ns,rfl,hq,ne,λw hw=>c _ _ _ (kt w hw) (fk rp.tail λ_=>.int)⟩
  |false=>exact λhq=>AL hc ac s σ H _ us Q I r ⟨a,ns,rfl,hq,ne,λw hw=>c _ _ _ (kt w hw) (fk rp.tail λ_=>.int)⟩
 exact SQ g
noncomputable def rG:P1s
 | [.tup ts],k=>k (.tup ts)
 | [.cst ts],k=>k (.cst ts)
 | [.lst _ ts],k=>k (.tup ts)
 | _,_=>False
theorem kT:j4 X (.type "tuple") rG:=by
 rintro ac s σ H xs us Q I r ⟨ts,Γ,k,l,rp,g,c⟩;unfold rG at g;split at g
 ·rename_i k ts;obtain⟨x,rfl⟩:=zz1 l rfl;have rp:Rp X.K H ((.tup ts,some x)::Γ):=rp;obtain⟨a,vs,rfl,hq,l2,cr⟩:=aE rfl rp;exact pS ac s σ H _ us Q I r ⟨a,vs,rfl,hq,c _ _ _ g rp⟩
 ·rename_i k ts;obtain⟨x,rfl⟩:=zz1 l rfl;have rp:Rp X.K H ((.cst ts,some x)::Γ):=rp;obtain⟨a,vs,rfl,hq,l2,cr⟩:=aE rfl rp;exact pS ac s σ H _ us Q I r ⟨a,vs,rfl,hq,c _ _ _ g rp⟩
 ·rename_i k o ts;obtain⟨x,rfl⟩:=zz1 l rfl;have rp:Rp X.K H ((.lst o ts,some x)::Γ):=rp;obtain⟨a,vs,rfl,hq,l2,cr⟩:=aE rfl rp;exact xg ac s σ H _ us Q I r ⟨a,vs,rfl,hq,λp H' hp g' e'=>c _ _ _ g (jj cr l2 g' e')⟩
 exact SQ g
noncomputable def boolsOf:List T->Option (List Bool)
 | []=>some []
 | .bl i::r=>match boolsOf r with
  |some ns=>some (i::ns)
  |none=>none
 | _::_=>none
theorem aL(ns:List Bool):boolsOf (ns.map T.bl)=some ns:=by
 induction ns with
 |nil=>rfl
 |cons n r ih=>rw[f',boolsOf,ih]
theorem mU:∀{ts:List T}{ns:List Bool},boolsOf ts=some ns->ts=ns.map T.bl
 | [],ns,e=>by cases e;rfl
 |t::ts,ns,e=>by
  cases t <;> first|cases e|skip
  rename_i i;rw[boolsOf]at e;split at e
  ·rename_i ms em;cases e;rw[f',mU em]
  cases e
theorem sP{K:Sm}{H:Hp}{Γ:Fm}:∀{ns:List Bool}{vs:List V},(ns.map T.bl).length=vs.length->Rp K H (zz (ns.map T.bl) vs++Γ)->vs=bools ns
 | [],[],_,_=>rfl
 | [],_::_,l,_=>by simp at l
 | _::_,[],l,_=>by simp at l
 |n::ns,v::vs,l,h=>by
  have h:Rp K H ((.bl n,some v)::(zz (ns.map T.bl) vs++Γ)):=h;rw[kD h,sP (by simpa using l) h.tail]
  rfl
def IW:P1s
 | [.lst _ ts],k=>got (boolsOf ts) λbs=>k (.bl (bs.all id))
 | _,_=>False
def Je:P1s
 | [.lst _ ts],k=>got (boolsOf ts) λbs=>k (.bl (bs.any id))
 | _,_=>False
theorem lL(hc:X.calm=true):j4 X (.builtin "all") IW:=by
 rintro ac s σ H xs us Q I r ⟨ts,Γ,k,l,rp,g,c⟩;unfold IW at g;split at g
 ·rename_i k o ts;obtain⟨x,rfl⟩:=zz1 l rfl;have rp:Rp X.K H ((.lst o ts,some x)::Γ):=rp;obtain⟨bs,e,kt⟩:=aJ g;have:=mU e;subst this;obtain⟨a,vs,rfl,hq,l2,cr⟩:=aE rfl rp;have:=sP l2 cr;subst this;exact DI hc ac s σ H _ us Q I r ⟨a,bs,rfl,hq,c _ _ _ kt (fk rp.tail λ_=>.bl)⟩
 exact SQ g
theorem oH(hc:X.calm=true):j4 X (.builtin "any") Je:=by
 rintro ac s σ H xs us Q I r ⟨ts,Γ,k,l,rp,g,c⟩;unfold Je at g;split at g
 ·rename_i k o ts;obtain⟨x,rfl⟩:=zz1 l rfl;have rp:Rp X.K H ((.lst o ts,some x)::Γ):=rp;obtain⟨bs,e,kt⟩:=aJ g;have:=mU e;subst this;obtain⟨a,vs,rfl,hq,l2,cr⟩:=aE rfl rp;have:=sP l2 cr;subst this;exact DE hc ac s σ H _ us Q I r ⟨a,bs,rfl,hq,c _ _ _ kt (fk rp.tail λ_=>.bl)⟩
 exact SQ g
abbrev PO':=Ev->(Option Int->Ev->Prop)->Prop
def wO(K:Sm)(f:PO'):TO:=λσ H Q=>∃env Fr k,Rs K H env σ Fr/\f env k/\∀o be H',k o be->Rs K H' be σ Fr->Q o H'
def GO(X:Cx)(e:Option SK)(f:PO'):Prop:=PO X e (wO X.K f)
noncomputable def Lf:PO':=λenv k=>k none env
noncomputable def M1(f:PF):PO':=λenv k=>f env λt ad=>match t with
 | .int i=>k (some i) ad
 | _=>False
theorem jS:GO X none Lf:=by rintro ac s σ H Q I ⟨env,Fr,k,rs,q,c⟩;exact zP ac s σ H Q I (c _ _ _ q rs)
theorem iO{f:PF}(h:GE X e f):GO X (some e) (M1 f):=by
 rintro ac s σ H Q I ⟨env,Fr,k,rs,q,c⟩;refine zr h ac s σ H Q I ⟨env,Fr,_,rs,q,λt ad v H1 q1 f8=>?_⟩;cases t <;> first|exact SQ q1|skip
 exact⟨_,b7 f8.head,c _ _ _ q1 f8.drop⟩
def kG(ts:List T)(lo hi:Option Int):List T:=(ts.drop (HT.sIx ts.length 0 lo)).take (HT.sIx ts.length ts.length hi-HT.sIx ts.length 0 lo)
def slT:T->Option Int->Option Int->(T->Prop)->Prop
 | .lst _ ts,lo,hi,k=>k (.lst true (kG ts lo hi))
 | .tup ts,lo,hi,k=>¬(HT.sIx ts.length 0 lo=0/\HT.sIx ts.length ts.length hi=ts.length)/\k (.tup (kG ts lo hi))
 | .cst ts,lo,hi,k=>¬(HT.sIx ts.length 0 lo=0/\HT.sIx ts.length ts.length hi=ts.length)/\k (.tup (kG ts lo hi))
 | _,_,_,_=>False
theorem zY:∀(ts:List T) (vs:List V) (n:Nat),zz (ts.drop n) (vs.drop n)=(zz ts vs).drop n
 |ts,vs,0=>rfl
 | [],vs,n+1=>by simp[zz]
 |t::ts,[],n+1=>by simp[zz]
 |t::ts,v::vs,n+1=>by show zz (ts.drop n) (vs.drop n)=(zz ts vs).drop n;exact zY ts vs n
theorem zD:∀(ts:List T) (vs:List V) (n:Nat),zz (ts.take n) (vs.take n)=(zz ts vs).take n
 |ts,vs,0=>by simp[zz]
 | [],vs,n+1=>by simp[zz]
 |t::ts,[],n+1=>by simp[zz]
 |t::ts,v::vs,n+1=>by show(t,some v)::zz (ts.take n) (vs.take n)=(t,some v)::(zz ts vs).take n;rw[zD ts vs n]
theorem yJ(l:ts.length=vs.length)(lo hi:Option Int)(h:Rp K H (zz ts vs++Γ)):Rp K H (zz (kG ts lo hi) (lB vs lo hi)++Γ)/\(kG ts lo hi).length=(lB vs lo hi).length:=by
 unfold kG lB;rw[<-l];refine⟨?_,?_⟩
 ·rw[zD,zY];have e1:=J_ (HT.sIx ts.length 0 lo) (zz ts vs);have e2:=J_ (HT.sIx ts.length ts.length hi-HT.sIx ts.length 0 lo) ((zz ts vs).drop (HT.sIx ts.length 0 lo));have h2:Rp K H ((zz ts vs).drop (HT.sIx ts.length 0 lo)++Γ):=by rw[<-e1,g_]at h;exact h.part
  rw[<-e2,g_]at h2;have h3:=h2.perm (w_ _ _ _);exact h3.part
 rw[p_,p_,o_,o_,l]
def fSl(fa:PF)(fl fh:PO'):PF:=λenv k=>fa env λt ad=>fl ad λlo bi=>fh bi λhi bn=>slT t lo hi λu=>k u bn
theorem iE{lo hi:Option SK}{fl fh:PO'}{p2:Pos}(he:GE X e fa)(hl:GO X lo fl)(hh:GO X hi fh):GE X (.Subscript e (.Slice lo hi none p2) pos) (fSl fa fl fh):=by
 have sl:SlR X (λx lo hi H Q=>∃t Γ k,Rp X.K H ((t,some x)::Γ)/\slT t lo hi k/\∀u v H',k u->Rp X.K H' ((u,some v)::Γ)->Q v H'):=by
  rintro ac s σ H x v vl vu lo hi sl Q I rx hs pl pu ⟨t,Γ,k,rp,g,c⟩;cases t with
  |lst o ts=>
   obtain⟨a,vs,rfl,hq,l,cr⟩:=aE rfl rp;obtain⟨dL,l3⟩:=yJ l lo hi cr;exact Ck ac s σ H _ v vl vu lo hi sl Q I rx hs pl pu ⟨a,vs,rfl,hq,λp H' hp g' e=>c _ _ _ g (l4 dL l3 hp g' e)⟩
  |tup ts=>
   obtain⟨a,vs,rfl,hq,l,cr⟩:=aE rfl rp;obtain⟨dL,l3⟩:=yJ l lo hi cr;exact zg ac s σ H _ v vl vu lo hi sl Q I rx hs pl pu ⟨a,vs,rfl,hq,by rw[<-l];exact g.1,λp H' hp g' e=>c _ _ _ g.2 (jj dL l3 g' e)⟩
  |cst ts=>
   obtain⟨a,vs,rfl,hq,l,cr⟩:=aE rfl rp;obtain⟨dL,l3⟩:=yJ l lo hi cr;exact zg ac s σ H _ v vl vu lo hi sl Q I rx hs pl pu ⟨a,vs,rfl,hq,by rw[<-l];exact g.1,λp H' hp g' e=>c _ _ _ g.2 (jj dL l3 g' e)⟩
  | _=>exact SQ g
 refine PE.imp (xQ sl he hl hh) ?_;rintro σ H Q ⟨env,Fr,k,rs,q,c⟩;refine⟨env,Fr,_,rs,q,λt ad v H1 q1 f8=>⟨ad,_,_,f8,q1,λlo bi H2 q2 rs2=>⟨bi,_,_,rs2,q2,λhi bn H3 q3 rs3=>?_⟩⟩⟩;exact⟨t,_,_,rs3.head,q3,λu w H' ku rp=>c _ _ _ _ ku (.of rs3.1 rp)⟩
end
open PySem PySem.Spec PyProof.Rows L2
inductive Arg where
 |val (t:T)|bor (i:Nat)
noncomputable def qO:Arg->T
 | .val t=>t
 | .bor _=>.any
noncomputable def lend:List Arg->Ev->List T×Ev
 | [],env=>([],env)
 | .val t::r,env=>(t::(lend r env).1,(lend r env).2)
 | .bor i::r,env=>match env[i]? with
  |some t=>(t::(lend r (env.set i .any)).1,(lend r (env.set i .any)).2)
  |none=>(.any::(lend r env).1,(lend r env).2)
noncomputable def back:List Arg->List T->Ev->Ev
 | .bor i::r,t::ts,env=>back r ts (env.set i t)
 | .val _::r,_::ts,env=>back r ts env
 | _,_,env=>env
noncomputable def nR:List Arg->List (Option V)->L2.St->Prop
 | [],[],_=>True
 | .val _::r,_::xs,σ=>nR r xs σ
 | .bor i::r,x::xs,σ=>(σ[i]?=some x\/σ.length<=i)/\nR r xs σ
 | _,_,_=>False
section
variable{K:Sm}{H:Hp}{σ:L2.St}
theorem nK:∀{as:List Arg}{xs:List (Option V)}{env:Ev}{Fr:Fm},nR as xs σ->Rs K H env σ ((as.map qO).zip xs++Fr)->Rs K H (lend as env).2 σ ((lend as env).1.zip xs++Fr)
 | [],[],env,Fr,_,h=>h
 | [],_::_,env,Fr,o,_=>o.elim
 | .val t::r,[],env,Fr,o,_=>o.elim
 | .bor i::r,[],env,Fr,o,_=>o.elim
 | .val t::r,x::xs,env,Fr,o,h=>by have h:Rs K H env σ ((t,x)::((r.map qO).zip xs++Fr)):=h;have h2:Rs K H env σ ((r.map qO).zip xs++((t,x)::Fr)):=h.perm h_.symm;exact(nK (as:=r) o h2).perm h_
 | .bor i::r,x::xs,env,Fr,o,h=>by
  have h:Rs K H env σ ((.any,x)::((r.map qO).zip xs++Fr)):=h;have h:=h.drop;rw[lend];split
  ·rename_i t e;obtain⟨y,ey,h2⟩:=h.slot e;have o1:σ[i]?=some x:=by
    rcases o.1 with z|z
    ·exact z
    have:=(gV.mp ey).1;lia
   rw[o1]at ey;cases ey;have h3:Rs K H (env.set i .any) σ ((r.map qO).zip xs++((t,x)::Fr)):=h2.perm h_.symm;exact(nK (as:=r) o.2 h3).perm h_
  have h3:Rs K H env σ ((r.map qO).zip xs++((.any,x)::Fr)):=(Rs.of h.1 (l8 (x:=x) h.2)).perm h_.symm;exact(nK (as:=r) o.2 h3).perm h_
theorem nF:∀{as:List Arg}{xs:List (Option V)}{ts:List T}{env:Ev}{Fr:Fm},nR as xs σ->Rs K H env σ (ts.zip xs++Fr)->Rs K H (back as ts env) σ Fr
 | [],xs,ts,env,Fr,_,h=>by
  have:back [] ts env=env:=by cases ts <;> rfl
  rw[this];exact⟨h.1,(h.2.perm (w_ _ _ _)).part⟩
 |a::r,xs,[],env,Fr,_,h=>by
  have:back (a::r) [] env=env:=by cases a <;> rfl
  rw[this];exact h
 | .val t::r,[],u::ts,env,Fr,o,_=>o.elim
 | .bor i::r,[],u::ts,env,Fr,o,_=>o.elim
 | .val t::r,x::xs,u::ts,env,Fr,o,h=>by have h:Rs K H env σ ((u,x)::(ts.zip xs++Fr)):=h;exact nF (as:=r) o h.drop
 | .bor i::r,x::xs,u::ts,env,Fr,o,h=>by
  have h:Rs K H env σ ((u,x)::(ts.zip xs++Fr)):=h;rw[back];by_cases hi:i<env.length
  ·have o1:σ[i]?=some x:=by
    rcases o.1 with z|z
    ·exact z
    have:=h.1;lia
   exact nF (as:=r) o.2 (h.sg hi o1)
  have e:env.set i u=env:=O4 (by lia);rw[e];exact nF (as:=r) o.2 h.drop
theorem Rs.put {env:Ev}{Fr:Fm}{i:Nat}{t:T}{v:V}(h:Rs K H env σ ((t,some v)::Fr)):Rs K H (env.set i t) (σ.set i (some v)) Fr:=by
 by_cases hi:i<env.length
 ·exact h.store hi
 rw[O4 (by lia),O4 (by rw[<-h.1];lia)];exact h.drop
end
abbrev PAs:=Ev->(List Arg->Ev->Prop)->Prop
def wR(K:Sm)(f:PAs):TA:=λσ H Q=>∃env Fr k,Rs K H env σ Fr/\f env k/\∀as be vs H',k as be->as.length=vs.length->nR as (vs.map some) σ->Rs K H' be σ ((as.map qO).zip (vs.map some)++Fr)->Q vs H'
def GR(X:Cx)(es:List SK)(f:PAs):Prop:=PA X es (wR X.K f)
noncomputable def Mc:PAs:=λenv k=>k [] env
noncomputable def Kb(f:PF)(r:PAs):PAs:=λenv k=>f env λt ad=>r ad λas bi=>k (.val t::as) bi
def Jj(i:Nat)(r:PAs):PAs:=λenv k=>(match env[i]? with
 |some t=>isAny t=false
 |none=>False)/\r env λas bi=>k (.bor i::as) bi
section
variable{X:Cx}{e:SK}{es:List SK}{f:PF}{fr:PAs}
theorem aq:GR X [] Mc:=PA.imp mJ (by rintro σ H Q ⟨env,Fr,k,rs,q,c⟩;exact c [] env [] H q rfl trivial rs)
theorem ag(he:GE X e f)(hr:GR X es fr)(hs:SO (e::es) X.env=(false,Ta e X.env)::SO es X.env:=by rfl):GR X (e::es) (Kb f fr):=by refine PA.imp (jg he hr hs) ?_;rintro σ H Q ⟨env,Fr,k,rs,q,c⟩;refine⟨env,Fr,_,rs,q,λt ad v H1 q1 f8=>⟨ad,_,_,f8,q1,λas bi vs H2 q2 l ao rs2=>c _ _ _ _ q2 (by rw[i',i',l]) ao ?_⟩⟩;exact rs2.perm h_
theorem bS(i:Nat){x:Str}{pos:Pos}(hr:GR X es fr)(hN:X.N[i]?=some x:=by rfl)(hv:Vis X.env.scope x:=by first|exact b_ rfl|exact d_ (b_ rfl)|exact d_ (d_ rfl))(hd:(x ==("__debug__":Str))=false:=by decide)(hcd:(x ==("__classdict__":Str))=false:=by decide)
  (hs:SO (.Name x pos::es) X.env=(false,Ta (.Name x pos) X.env)::SO es X.env:=by rfl):GR X (.Name x pos::es) (Jj i fr):=by
 refine PA.imp (jg (kO hN hv hd hcd) hr hs) ?_;rintro σ H Q ⟨env,Fr,k,rs,⟨na,q⟩,c⟩;split at na
 ·rename_i t e;obtain⟨y,ey,rs2⟩:=rs.slot e;obtain⟨v,rfl⟩:=jA rs2 na;refine⟨v,ey,env,Fr,_,rs,q,λas bi vs H2 q2 l ao rs2=>c _ _ _ _ q2 (by rw[i',i',l]) ⟨.inl ey,ao⟩ ?_⟩;exact .of rs2.1 (l8 rs2.2)
 exact na.elim
end
abbrev FP:=List T->(T->List T->Prop)->Prop
def aG(K:Sm)(n:Nat)(P:FP):Sp:=λvs H Q _=>∃ts Fr k,ts.length=vs.length/\vs.length=n/\Rp K H (zz ts vs++Fr)/\P ts k/\∀t ts' v H',k t ts'->Rp K H' ((t,some v)::(zz ts' vs++Fr))->Q v H'
noncomputable def Lz(P:FP)(ts:List T)(k:T->List T->Prop):Prop:=P ts k
def Ia(n:Nat)(P:FP)(fr:PAs):PF:=λenv k=>fr env λas ad=>as.length=n/\Lz P (lend as ad).1 λt ts'=>k t (back as ts' (lend as ad).2)
section
variable{X:Cx}
theorem lD:∀(as:List Arg) (env:Ev),(lend as env).1.length=as.length
 | [],env=>rfl
 | .val t::r,env=>by rw[lend,i',i',lD r]
 | .bor i::r,env=>by
  rw[lend];split
  ·rw[i',i',lD r]
  rw[i',i',lD r]
theorem EO{n:Nat}{P:FP}{fr:PAs}:∀ σ H Q,wE X.K (Ia n P fr) σ H Q->DS (aG X.K n P) [] E0 (wR X.K fr) σ H Q:=by
 rintro σ H Q ⟨env,Fr,k,rs,q,c⟩;refine⟨env,Fr,_,rs,q,λas ad vs H1 ⟨hn,q1⟩ l ao f8=>?_⟩;show aG X.K n P (vs++[]) H1 Q E0;rw[Nb];have rs2:=nK ao f8;refine⟨(lend as ad).1,(lend as ad).2.zip σ++Fr,_,by rw[lD,l],by rw[<-l];exact hn,?_,q1,λt ts' v H' kt rp=>c _ _ _ _ kt ?_⟩
 ·exact rs2.2.perm (w_ _ _ _)
 have h3:Rs X.K H' (lend as ad).2 σ (zz ts' vs++((t,some v)::Fr)):=⟨rs2.1,rp.perm (by refine E_ ?_ (w_ _ _ _);refine E_ h_.symm ?_;exact Ng _ h_.symm)⟩
 exact nF ao h3
theorem au{j k n:Nat}{x:Str}{ps:List Str}{P:FP}{e:SK}{es:List SK}{fr:PAs}{p pos:Pos}(D:Cal X.prog X.w X.K X.mg X.base j x ps (aG X.K n P))(hr:Room k X.A)(hg:Gl X x)(ha:GR X (e::es) fr)(hjk:j<=k:=by omega)(hdb:(x ==("__debug__":Str))=false:=by decide)
  (he:SO (e::es) X.env=(false,Ta e X.env)::SO es X.env:=by rfl) (hpl:(UH pos (SO es X.env)).any (·.1)=false:=by rfl):GE X (.Call (.Name x p) (e::es) [] pos) (Ia n P fr):=PE.imp (IQ D hr hg ha hjk hdb he hpl) EO
end
structure PEn where
 nx:Ev->Prop
 rt:T->Ev->Prop
 bk:Ev->Prop:=λ_=>False
 ct:Ev->Prop:=λ_=>False
abbrev PSt:=PEn->Ev->Prop
noncomputable def Kept(κ:Nat->Bool)(σ cl:L2.St):Prop:=cl.length=σ.length/\∀j,κ j=true->cl[j]?=σ[j]?
variable {κ:Nat->Bool}
theorem Kept.refl {σ:L2.St}:Kept κ σ σ:=⟨rfl,λ_ _=>rfl⟩
variable {cl:L2.St}
theorem Kept.trans {σ σ'':L2.St}(a:Kept κ σ cl)(b:Kept κ cl σ''):Kept κ σ σ'':=⟨b.1.trans a.1,λj h=>(b.2 j h).trans (a.2 j h)⟩
theorem Kept.set {σ:L2.St}(h:κ i=false):Kept κ σ (σ.set i x):=⟨Nf,λj hj=>by
 by_cases e:i=j
 ·subst e;rw[h]at hj;cases hj
 rw[PR e]⟩
structure EndOk (K:Sm) (κ:Nat->Bool) (σ:L2.St) (Fr:Fm) (pe:PEn) (D:Ends):Prop where
 nx:∀be cl H',pe.nx be->Rs K H' be cl Fr->Kept κ σ cl->D.nx cl H'
 rt:∀t be v cl H',pe.rt t be->Rs K H' be cl ((t,some v)::Fr)->Kept κ σ cl->D.rt v H'
 bk:∀be cl H',pe.bk be->Rs K H' be cl Fr->Kept κ σ cl->D.bk cl H'
 ct:∀be cl H',pe.ct be->Rs K H' be cl Fr->Kept κ σ cl->D.ct cl H'
theorem EndOk.later {σ:L2.St}{pe:PEn}{D:Ends}(h:EndOk K κ σ Fr pe D)(k:Kept κ σ cl):EndOk K κ cl Fr pe D:=
 ⟨λa b c p q r=>h.nx a b c p q (k.trans r),λa b c d e p q r=>h.rt a b c d e p q (k.trans r),λa b c p q r=>h.bk a b c p q (k.trans r),λa b c p q r=>h.ct a b c p q (k.trans r)⟩
def wS(K:Sm)(κ:Nat->Bool)(f:PSt):TS:=λD σ H=>∃env Fr pe,Rs K H env σ Fr/\f pe env/\EndOk K κ σ Fr pe D
def GS(κ:Nat->Bool)(X:Cx)(st:S5)(f:PSt):Prop:=PS X st (wS X.K κ f)
def GSs(κ:Nat->Bool)(X:Cx)(sts:List S5)(f:PSt):Prop:=PSs X sts (wS X.K κ f)
variable {st:S5}
theorem PS.imp {t t':TS}(h:PS X st t)(k:∀D σ H,t' D σ H->t D σ H):PS X st t':=λac s σ H D I q=>h ac s σ H D I (k _ _ _ q)
theorem PSs.imp {st:List S5}{t t':TS}(h:PSs X st t)(k:∀D σ H,t' D σ H->t D σ H):PSs X st t':=λac s σ H D I q=>h ac s σ H D I (k _ _ _ q)
noncomputable def Hd:PSt:=λpe env=>pe.nx env
noncomputable def Kh(f g:PSt):PSt:=λpe env=>f {pe with nx:=g pe} env
section
variable{X:Cx}{κ:Nat->Bool}{pos:Pos}{st:S5}{rest:List S5}{f g:PSt}{e:SK}{fe:PF}
theorem b9:GSs κ X [] Hd:=PSs.imp vy (by rintro D σ H ⟨env,Fr,pe,rs,q,c⟩;exact c.nx _ _ _ q rs .refl)
theorem ah(h1:GS κ X st f)(h2:GSs κ X rest g):GSs κ X (st::rest) (Kh f g):=by refine PSs.imp (fm h1 h2) ?_;rintro D σ H ⟨env,Fr,pe,rs,q,c⟩;refine⟨env,Fr,_,rs,q,⟨λbe cl H' q1 f8 k1=>⟨be,Fr,pe,f8,q1,c.later k1⟩,c.rt,c.bk,c.ct⟩⟩
theorem ak(h1:GS κ X st f):GSs κ X [st] f:=nB h1
noncomputable def H0(fe:PF):PSt:=λpe env=>fe env λ_ ad=>pe.nx ad
theorem jL(he:GE X e fe)(hs:UT e none pos.line X.env=pure false:=by rfl):GS κ X (.Expr e pos) (H0 fe):=by refine PS.imp (Gd he hs) ?_;rintro D σ H ⟨env,Fr,pe,rs,q,c⟩;exact⟨env,Fr,_,rs,q,λt be v H' q1 f8=>c.nx _ _ _ q1 f8.drop .refl⟩
noncomputable def Kq(fe:PF):PSt:=λpe env=>fe env λt ad=>pe.rt t ad
theorem aH(he:GE X e fe):GS κ X (.Return (some e) pos) (Kq fe):=by refine PS.imp (vR he) ?_;rintro D σ H ⟨env,Fr,pe,rs,q,c⟩;exact⟨env,Fr,_,rs,q,λt be v H' q1 f8=>c.rt _ _ _ _ _ q1 f8 .refl⟩
def sIf(tc:PB)(f g:PSt):PSt:=λpe env=>tc env λb ad=>cnd b (f pe ad) (g pe ad)
theorem f9{c:SK}{a b:List S5}{tc:PB}(hc:GT X c tc)(ha:GSs κ X a f)(hb:GSs κ X b g):GS κ X (.If c a b pos) (sIf tc f g):=by refine PS.imp (CG hc ha hb) ?_;rintro D σ H ⟨env,Fr,pe,rs,q,c⟩;refine⟨env,Fr,_,rs,q,λb be H' q1 f8=>k9 ⟨λh=>⟨be,Fr,pe,f8,q1.1 h,c⟩,λh=>⟨be,Fr,pe,f8,q1.2 h,c⟩⟩⟩
noncomputable def EC(i:Nat)(fe:PF):PSt:=λpe env=>fe env λt ad=>pe.nx (ad.set i t)
theorem aF{i:Nat}{x:Str}{pos':Pos}(hN:X.N.Nodup)(hi:X.N[i]?=some x)(hx:Loc X.env.scope x)(hκ:κ i=false)(he:GE X e fe)(hs:UT e (some (.Name x pos')) pos.line X.env=pure false:=by rfl)(hf:X.fn x=true\/X.env.scope.names.lookup x=some .local:=by first|exact .inl rfl|exact .inr rfl|assumption) :
  GS κ X (.Assign [.Name x pos'] e pos) (EC i fe):=by
 refine PS.imp (kM hN hi hx he hs hf) ?_;rintro D σ H ⟨env,Fr,pe,rs,q,c⟩;exact⟨env,Fr,_,rs,q,λt be v H' q1 f8=>c.nx _ _ _ q1 f8.put (.set hκ)⟩
abbrev PG':=T->Ev->(Ev->Prop)->Prop
abbrev oK:=List T->Ev->(Ev->Prop)->Prop
def wG(K:Sm)(κ:Nat->Bool)(f:PG'):TG:=λv σ H Q=>∃t env Fr k,Rs K H env σ ((t,some v)::Fr)/\f t env k/\∀be cl H',k be->Rs K H' be cl Fr->Kept κ σ cl->Q cl H'
def wGs(K:Sm)(κ:Nat->Bool)(f:oK):TGs:=λvs σ H Q=>∃ts env Fr k,ts.length=vs.length/\Rs K H env σ (zz ts vs++Fr)/\f ts env k/\∀be cl H',k be->Rs K H' be cl Fr->Kept κ σ cl->Q cl H'
def GG(κ:Nat->Bool)(X:Cx)(tg:SK)(f:PG'):Prop:=PG X tg (wG X.K κ f)
def GGs(κ:Nat->Bool)(X:Cx)(tgs:List SK)(f:oK):Prop:=PGs X tgs (wGs X.K κ f)
noncomputable def gN(i:Nat):PG':=λt env k=>k (env.set i t)
theorem ax{i:Nat}{x:Str}(hN:X.N.Nodup)(hi:X.N[i]?=some x)(hx:Loc X.env.scope x)(hκ:κ i=false)(hf:X.fn x=true\/X.env.scope.names.lookup x=some .local:=by first|exact .inl rfl|exact .inr rfl|assumption):GG κ X (.Name x pos) (gN i):=
 λac s σ H v u Q I r ⟨t,env,Fr,k,rs,q,c⟩=>zq hN hi hx hf ac s σ H v u Q I r (c _ _ _ q rs.put (.set hκ))
noncomputable def Hb:oK:=λts env k=>ts=[]/\k env
noncomputable def CK(f:PG')(r:oK):oK:=λts env k=>match ts with
 |t::ts=>f t env λad=>r ts ad k
 | []=>False
noncomputable def gTp(n:Nat)(f:oK):PG':=λt env k=>match t with
 | .tup ts=>ts.length=n/\f ts env k
 | .cst ts=>ts.length=n/\f ts env k
 | _=>False
end
open PySem PySem.Spec PyProof.Rows L2
variable {x1:Nat}
section
variable{X:Cx}{κ:Nat->Bool}{pos:Pos}{e tg:SK}{es:List SK}{fe:PF}{g:PG'}{gs:oK}
theorem cT:GGs κ X [] Hb:=by
 rintro ac s σ H vs us Q I r ⟨ts,env,Fr,k,l,rs,⟨e,q⟩,c⟩;subst e;have:vs=[]:=by cases vs with|nil=>rfl|cons _ _=>cases l
 subst this;exact Aq ac s σ H [] us Q I r ⟨rfl,c _ _ _ q rs .refl⟩
theorem aC(h1:GG κ X e g)(h2:GGs κ X es gs)(hs:(Tv (e::es) X.env).map (·.2)=UU e X.env::(Tv es X.env).map (·.2):=by rfl):GGs κ X (e::es) (CK g gs):=by
 rintro ac s σ H vs us Q I r ⟨ts,env,Fr,k,l,rs,q,c⟩;cases ts with
 |nil=>exact SQ q
 |cons t ts=>
  cases vs with
  |nil=>cases l
  |cons v vs=>
   have q:g t env λad=>gs ts ad k:=q;refine sf h1 h2 hs ac s σ H (v::vs) us Q I r ⟨v,vs,rfl,t,env,zz ts vs++Fr,_,rs,q,λad σ1 H1 q1 f8 k1=>?_⟩;exact⟨ts,ad,Fr,k,by simpa using l,f8,q1,λbi σ2 H2 q2 rs2 k2=>c _ _ _ q2 rs2 (k1.trans k2)⟩
theorem eZ{n:Nat}(hc:X.calm=true)(h:GGs κ X es gs)(hn:(Tv es X.env).length=n:=by rfl)(hst:(Tv es X.env).findIdx? (·.1)=none:=by rfl):GG κ X (.Tuple es x1 pos) (gTp n gs):=by
 rintro ac s σ H v u Q I r ⟨t,env,Fr,k,rs,q,c⟩;have go:∀ts,items t=some ts->jQ t=true->ts.length=n->gs ts env k->Sw (SG X.prog X.w) X.A (UU (.Tuple es x1 pos) X.env u) (λ_ s'=>∃ cl H',Inv X ac cl H' s'/\Q cl H') X.xe s:=λts e1 e2 e3 q=>by obtain⟨a,vs,rfl,hq,l,rp⟩:=aE e1 rs.head;rw[e2]at hq;refine C6 hc h hn hst ac s σ H _ u Q I r ⟨a,vs,rfl,hq,by rw[<-l];exact e3,ts,env,Fr,k,l,⟨rs.1,?_⟩,q,c⟩;exact rp.perm (w_ _ _ _)
 cases t with
 |tup ts=>exact go ts rfl rfl q.1 q.2
 |cst ts=>exact go ts rfl rfl q.1 q.2
 | _=>exact SQ q
noncomputable def Lc(fe:PF)(g:PG'):PSt:=λpe env=>fe env λt ad=>g t ad pe.nx
theorem uG(he:GE X e fe)(hg:GG κ X tg g)(hs:VF [tg] e pos.line X.env=pure false:=by rfl)(hw:VG [tg] e X.env=pure none:=by rfl)(h1:(Tv [tg] X.env).map (·.2)=[UU tg X.env]:=by rfl) :
  GS κ X (.Assign [tg] e pos) (Lc fe g):=by
 refine PS.imp (BF he hg hs hw h1) ?_;rintro D σ H ⟨env,Fr,pe,rs,q,c⟩;exact⟨env,Fr,_,rs,q,λt be v H' q1 f8=>⟨t,be,Fr,_,f8,q1,λbi σ2 H2 q2 rs2 k2=>c.nx _ _ _ q2 rs2 k2⟩⟩
noncomputable def KI(i j:Nat)(fr:PFs):PSt:=λpe env=>fr env λts ad=>match ts with
 | [t,u]=>pe.nx ((ad.set i t).set j u)
 | _=>False
theorem mZ{i j:Nat}{x y:Str}{a b:SK}{fr:PFs}{px py pt:Pos}{kt k2 pt2}(hc:X.calm=true)(hN:X.N.Nodup)(hi:X.N[i]?=some x)(hj:X.N[j]?=some y)(jp:i≠j)
  (hx:X.env.scope.names.lookup x=some .local) (hy:X.env.scope.names.lookup y=some .local) (hκi:κ i=false) (hκj:κ j=false) (ha:GA X [a,b] fr)
  (hw:VG [.Tuple [.Name x px,.Name y py] kt pt] (.Tuple [a,b] k2 pt2) X.env=pure (some [x,y])) (hs:VF [.Tuple [.Name x px,.Name y py] kt pt] (.Tuple [a,b] k2 pt2) pos.line X.env=pure false:=by rfl) :
  GS κ X (.Assign [.Tuple [.Name x px,.Name y py] kt pt] (.Tuple [a,b] k2 pt2) pos) (KI i j fr):=by
 refine PS.imp (J5 hc hN hi hj jp hx hy ha hw hs) ?_;rintro D σ H ⟨env,Fr,pe,rs,q,c⟩;refine⟨env,Fr,_,rs,q,λts ad vs H1 q1 l f8=>?_⟩;rcases ts with _|⟨t,_|⟨u,_|⟨t3,ts⟩⟩⟩
 ·exact q1.elim
 ·exact q1.elim
 ·obtain⟨v,w,rfl⟩:=zz2 l rfl;refine⟨v,w,rfl,c.nx _ _ _ q1 ?_ ((Kept.set hκi).trans (Kept.set hκj))⟩;have r1:Rs X.K H1 ad σ ((t,some v)::(u,some w)::Fr):=f8;exact Rs.put (Rs.put r1)
 exact q1.elim
structure ItOk (K:Sm) (J:It) (ap:List T) (Fg:Fm):Prop where
 turn:∀i t H Γ,ap[i]?=some t->Rp K H (Fg++Γ)->J.go i H/\∀x H',J.yld i H x H'->Rp K H' ((t,some x)::(Fg++Γ))
 stop:∀H Γ,Rp K H (Fg++Γ)->J.stop ap.length H
abbrev PIt:=Ev->(List T->Ev->Prop)->Prop
def wI(K:Sm)(f:PIt):TI:=λσ H R=>∃env Fr k,Rs K H env σ Fr/\f env k/\∀ap be J Fg H',k ap be->Rs K H' be σ (Fg++Fr)->ItOk K J ap Fg->R J H'
def GI(X:Cx)(tg iter:SK)(f:PIt):Prop:=PI X tg iter (wI X.K f)
noncomputable def forL(ap:List T)(g:PG')(fb:PSt)(pe:PEn)(ad:Ev):Prop:=∃W:Nat->Ev->Prop,W 0 ad/\(∀i t env,W i env->ap[i]?=some t->g t env λbi=>fb {pe with nx:=W (i+1),ct:=W (i+1),bk:=pe.nx} bi)/\∀env,W ap.length env->pe.nx env
def KH(fi:PIt)(g:PG')(fb:PSt):PSt:=λpe env=>fi env λap ad=>forL ap g fb pe ad
theorem rK{σ:L2.St}{Fg:Fm}(h:Rs K H env σ (Fg++Fr)):Rs K H env σ Fr:=⟨h.1,(h.2.perm (w_ _ _ _)).part⟩
theorem jX{iter:SK}{body:List S5}{fi:PIt}{g:PG'}{fb:PSt}(hp:PassesOwn (SG X.prog X.w) X.A X.env X.xe)(hc:X.calm=true)(hi:GI X tg iter fi)(hg:GG κ X tg g)(hb:GSs κ X body fb)(hs:∀x,Tx iter X.env x=pure x:=by intro _;rfl):GS κ X (.For tg iter body [] pos) (KH fi g fb):=by
 refine PS.imp (JP hp hc hi hg hb hs) ?_;rintro D σ H ⟨env,Fr,pe,rs,q,c⟩;refine⟨env,Fr,_,rs,q,?_⟩;rintro ap ad J Fg H1 ⟨W,w0,wt,we⟩ f8 ok;refine⟨λi m cl H'=>∃be,W i be/\Rs X.K H' be cl (Fg++Fr)/\Kept κ σ cl/\m+i=ap.length,⟨ap.length,ad,w0,f8,.refl,rfl⟩,?_⟩;rintro i m σ1 H2 ⟨bi,w2,rs2,k2,hm⟩;have cr:Rp X.K H2 (Fg++(bi.zip σ1++Fr)):=rs2.2.perm (w_ _ _ _);by_cases kw:i<ap.length
 ·have ei:ap[i]?=some ap[i]:=f_ kw;obtain⟨hgo,hy⟩:=ok.turn i ap[i] H2 _ ei cr;refine .inr ⟨hgo,λcl H'=>∃be,W (i+1) be/\Rs X.K H' be cl (Fg++Fr)/\Kept κ σ cl,λcl H' ⟨be,w',r',k'⟩=>⟨m-1,by lia,be,w',r',k',by lia⟩,λx H' hx=>?_⟩;have dL:=hy x H' hx;have rs3:Rs X.K H' bi σ1 ((ap[i],some x)::(Fg++Fr)):=.of rs2.1 (dL.perm (.cons _ (w_ _ _ _)));refine⟨ap[i],bi,Fg++Fr,_,rs3,wt i ap[i] bi w2 ei,λbn σ3 H3 q3 rs4 k4=>?_⟩;refine⟨bn,Fg++Fr,_,rs4,q3,⟨?_,?_,?_,?_⟩⟩
  ·exact λbe cl H' w' r' k'=>⟨be,w',r',k2.trans (k4.trans k')⟩
  ·exact λt be v cl H' p r' k'=>c.rt _ _ _ _ _ p (rK (Fg:=Fg) (r'.perm h_.symm)) (k2.trans (k4.trans k'))
  ·exact λbe cl H' p r' k'=>c.nx _ _ _ p (rK r') (k2.trans (k4.trans k'))
  exact λbe cl H' w' r' k'=>⟨be,w',r',k2.trans (k4.trans k')⟩
 have:i=ap.length:=by lia
 subst this;exact .inl ⟨ok.stop H2 _ cr,c.nx _ _ _ (we bi w2) (rK rs2) k2⟩
end
variable {as:List T}
section
variable{X:Cx}{pos:Pos}{e tg:SK}{fe:PF}
def Mb(fe:PF):PIt:=λenv k=>fe env λt ad=>got (items t) λts=>k (erL ts) ad
theorem Jo(e:items t=some ts)(n:aW t=true):ItOk K (Its K (jQ t) a) ts [(t,some (.ref a))] where
 turn:=λi u H Γ ei rp=>by obtain⟨a',vs,ea,hq,l,cr⟩:=aE e (mP rp n);cases ea;obtain⟨w,ew⟩:=qY l ei;refine⟨IB hq rfl i H .gQ (by have:=(gV.mp ew).1;exact this),λx H' hy=>?_⟩;obtain⟨rfl,hx⟩:=Gk hq .gQ hy;rw[ew]at hx;cases hx;exact jY cr ei ew
 stop:=λH Γ rp=>by obtain⟨a',vs,ea,hq,l,cr⟩:=aE e rp;cases ea;exact Ci hq l.symm H .gQ
theorem jr(e:items t=some ts):items (er t)=some (erL ts)/\jQ (er t)=jQ t:=by cases t <;> cases e <;> exact⟨rfl,rfl⟩
theorem cY(h:GE X e fe):GI X tg e (Mb fe):=by rintro ac s σ H R I ⟨env,Fr,k,rs,q,c⟩;refine Ib h ac s σ H R I ⟨env,Fr,_,rs,q,λt ad v H1 q1 f8=>?_⟩;obtain⟨ts,e1,kt⟩:=aJ q1;have rf:Rp X.K H1 ((er t,some v)::(ad.zip σ++Fr)):=mM f8.head;obtain⟨e2,e3⟩:=jr e1;obtain⟨a,vs,rfl,hq,l,cr⟩:=aE e2 rf;exact⟨jQ (er t),a,vs,rfl,hq,c _ _ _ _ _ kt (Rs.of (Fr:=Fr) f8.1 rf) (Jo e2 (aN t))⟩
noncomputable def pV(lo:Int)(n:Nat):List T:=(B' n).map λ(i:Nat)=>.int (lo+(i:Int))
theorem CL(lo:Int)(n:Nat):ItOk K (Itr lo n) (pV lo n) [] where
 turn:=λi t H Γ ei rp=>by
  unfold pV at ei;rw[u_]at ei;have hi:i<n:=by
   cases h:(B' n)[i]? with
   |none=>rw[h]at ei;cases ei
   |some j=>
    have:=(gV.mp h).1;simpa using this
  rw[N8 hi]at ei;cases ei;refine⟨hi,λx H' ⟨e1,e2⟩=>?_⟩;subst e1;subst e2;exact fk rp λ_=>.int
 stop:=λH Γ rp=>by show n<=_;unfold pV;rw[a_,MX];exact e_ _
def iR1(fr:PFs):PIt:=λenv k=>fr env λts ad=>match ts with
 | [.int j]=>(-(2 ^ 62)<=j/\j<2 ^ 62)/\k (pV 0 j.toNat) ad
 | _=>False
def iR2(fr:PFs):PIt:=λenv k=>fr env λts ad=>match ts with
 | [.int i,.int j]=>(-(2 ^ 62)<=i/\i<2 ^ 62/\-(2 ^ 62)<=j/\j<2 ^ 62)/\k (pV i (j-i).toNat) ad
 | _=>False
variable{a b c:SK}{fr:PFs}{p:Pos}
theorem jF(hg:Gl X "range")(hm:X.mg "range"=none)(ha:GA X [a] fr)(hs:SO [a] X.env=[(false,Ta a X.env)]:=by rfl):GI X tg (.Call (.Name "range" p) [a] [] pos) (iR1 fr):=by
 rintro ac s σ H R I ⟨env,Fr,k,rs,q,c⟩;refine B4 hg hm ha hs ac s σ H R I ⟨env,Fr,_,rs,q,λts ad vs H1 q1 l f8=>?_⟩;rcases ts with _|⟨t,_|⟨t2,ts⟩⟩
 ·exact q1.elim
 ·cases t <;> first|exact q1.elim|skip
  rename_i j;rcases vs with _|⟨v,_|⟨v2,vs⟩⟩
  ·cases l
  ·have f8:Rs X.K H1 ad σ ((.int j,some v)::Fr):=f8;rw[b7 f8.head];exact⟨j,rfl,q1.1.1,q1.1.2,c _ _ _ [] _ q1.2 f8.drop (CL 0 _)⟩
  cases l
 cases t <;> exact q1.elim
theorem tV(hg:Gl X "range")(hm:X.mg "range"=none)(ha:GA X [a,b] fr)(hs:SO [a,b] X.env=[(false,Ta a X.env),(false,Ta b X.env)]:=by rfl)(hs2:SO [b] X.env=[(false,Ta b X.env)]:=by rfl):GI X tg (.Call (.Name "range" p) [a,b] [] pos) (iR2 fr):=by
 rintro ac s σ H R I ⟨env,Fr,k,rs,q,c⟩;refine Bm hg hm ha hs hs2 ac s σ H R I ⟨env,Fr,_,rs,q,λts ad vs H1 q1 l f8=>?_⟩;rcases ts with _|⟨t,_|⟨u,_|⟨t3,ts⟩⟩⟩
 ·exact q1.elim
 ·cases t <;> exact q1.elim
 ·cases t <;> try exact q1.elim
  cases u <;> try exact q1.elim
  rename_i i j;obtain⟨v,w,rfl⟩:=zz2 l rfl;have f8:Rs X.K H1 ad σ ((.int i,some v)::(.int j,some w)::Fr):=f8;rw[b7 f8.head,b7 f8.drop.head];exact⟨i,j,rfl,q1.1,c _ _ _ [] _ q1.2 f8.drop.drop (CL i _)⟩
 cases t <;> try exact q1.elim
 cases u <;> exact q1.elim
def iZp(fr:PFs):PIt:=λenv k=>fr env λts ad=>match ts with
 | [t,u]=>got (items t) λas=>got (items u) λbs=>k (((erL as).zip (erL bs)).map λp=>.tup [p.1,p.2]) ad
 | _=>False
theorem DW{x:V}{p:Sn}(h:Rp K H ((t,some x)::(u,some y)::Γ))(s:d4 H H')(e:H' p=some (.tup [x,y])):Rp K H' ((.tup [t,u],some (.ref p))::Γ):=
 jj (ts:=[t,u]) (vs:=[x,y]) h rfl s e
theorem JD{bs:List T}{a b:Sn}(e1:items t=some as)(e2:items u=some bs)(n1:aW t=true)(n2:aW u=true) :
  ItOk K (Itz K (jQ t) a (jQ u) b) ((as.zip bs).map λp=>.tup [p.1,p.2]) [(t,some (.ref a)),(u,some (.ref b))] where
 turn:=λi w H Γ ei rp=>by
  rw[u_]at ei;cases hz:(as.zip bs)[i]? with
  |none=>rw[hz]at ei;cases ei
  |some q=>
   rw[hz]at ei;cases ei;obtain⟨q1,q2⟩:=q;rw[Qv]at hz;have rp0:Rp K H ((t,some (.ref a))::(u,some (.ref b))::Γ):=rp;have rpd:=mP rp0 n1;have rpe:Rp K H ((u,some (.ref b))::(t,some (.ref a))::(t,some (.ref a))::Γ):=rpd.perm (by refine E_ ?_ (Oq _ _ _);exact .cons _ (.swap _ _ _))
   have rpf:=mP rpe n2;obtain⟨b',ws,eb,hb,lb,rpg⟩:=aE e2 rpf;cases eb;obtain⟨y,ey⟩:=qY lb hz.2;have rph:=jY rpg hz.2 ey;have rpi:Rp K H ((t,some (.ref a))::(q2,some y)::(t,some (.ref a))::(u,some (.ref b))::Γ):=rph.perm (by refine E_ ?_ (Oq _ _ _);refine .cons _ ?_;refine E_ (Oq _ _ _) ?_;exact .cons _ (Oq _ _ _))
   obtain⟨a',vs,ea,ha,la,rpj⟩:=aE e1 rpi;cases ea;obtain⟨x,ex⟩:=qY la hz.1;have rpk:=jY rpj hz.1 ex;refine⟨⟨vs,ws,x,y,ha,hb,ex,ey⟩,λv H' hy=>?_⟩;obtain⟨p,x',y',hp,ev,eH,h1,h2⟩:=hy;have ex':=h1 vs ha;have ey':=h2 ws hb;rw[ex]at ex';rw[ey]at ey';cases ex';cases ey';subst ev;subst eH;exact DW rpk (eX hp _) aX
 stop:=λH Γ rp=>by have rp0:Rp K H ((t,some (.ref a))::(u,some (.ref b))::Γ):=rp;obtain⟨a',vs,ea,ha,la,_⟩:=aE e1 rp0;obtain⟨b',ws,eb,hb,lb,_⟩:=aE e2 rp0.tail;cases ea;cases eb;refine⟨vs,ws,ha,hb,?_⟩;rw[a_,QO,la,lb];lia
theorem IX{tp:Pos}(hg:Gl X "zip")(hm:X.mg "zip"=none)(ha:GA X [a,b] fr)(hs:SO [a,b] X.env=[(false,Ta a X.env),(false,Ta b X.env)]:=by rfl)(hs2:SO [b] X.env=[(false,Ta b X.env)]:=by rfl) :
  GI X (.Tuple es x1 tp) (.Call (.Name "zip" p) [a,b] [] pos) (iZp fr):=by
 rintro ac s σ H R I ⟨env,Fr,k,rs,q,c⟩;refine IS hg hm ha hs hs2 ac s σ H R I ⟨env,Fr,_,rs,q,λts ad vs H1 q1 l f8=>?_⟩;rcases ts with _|⟨t,_|⟨u,_|⟨t3,ts⟩⟩⟩ <;> try exact q1.elim
 obtain⟨v,w,rfl⟩:=zz2 l rfl;obtain⟨as,ea,q2⟩:=aJ q1;obtain⟨bs,eb,kt⟩:=aJ q2;have f8:Rs X.K H1 ad σ ((t,some v)::(u,some w)::Fr):=f8;have r2:Rs X.K H1 ad σ ((er t,some v)::(u,some w)::Fr):=.of f8.1 (mM f8.head);have r3:Rs X.K H1 ad σ ((er u,some w)::(er t,some v)::Fr):=.of f8.1 (mM (r2.perm (.swap _ _ _)).head);have r4:=r3.perm (.swap _ _ _);obtain⟨e1,_⟩:=jr ea;obtain⟨e2,_⟩:=jr eb;obtain⟨a',xs,rfl,hq,l1,_⟩:=aE e1 r4.head;obtain⟨b',ys,rfl,hq2,l2,_⟩:=aE e2 r3.head;exact⟨_,a',_,b',rfl,⟨xs,hq⟩,⟨ys,hq2⟩,c _ _ _ [(er t,_),(er u,_)] _ kt r4 (JD e1 e2 (aN t) (aN u))⟩
def iEn(fr:PFs):PIt:=λenv k=>fr env λts ad=>match ts with
 | [t]=>got (items t) λas=>k ((B' as.length).zipWith (λ(i:Nat) (x:T)=>T.tup [.int (i:Int),x]) (erL as)) ad
 | _=>False
theorem JK{a:Sn}(e1:items t=some as)(n1:aW t=true) :
  ItOk K (Ite K (jQ t) a) ((B' as.length).zipWith (λ(i:Nat) (x:T)=>T.tup [.int (i:Int),x]) as) [(t,some (.ref a))] where
 turn:=λi w H Γ ei rp=>by
  have rp0:Rp K H ((t,some (.ref a))::Γ):=rp;rw[Q4]at ei;cases h1:(B' as.length)[i]? with
  |none=>rw[h1]at ei;cases ei
  |some j=>
   cases h2:as[i]? with
   |none=>rw[h1,h2]at ei;cases ei
   |some u=>
    rw[h1,h2]at ei;cases ei;have hi:i<as.length:=(gV.mp h2).1;rw[N8 hi]at h1;cases h1;obtain⟨a',vs,ea,ha,la,cr⟩:=aE e1 (mP rp0 n1);cases ea;obtain⟨x,ex⟩:=qY la h2;have dL:=jY cr h2 ex;refine⟨⟨vs,x,ha,ex⟩,λv H' hy=>?_⟩;obtain⟨p,x',hp,ev,eH,h3⟩:=hy;have ex':=h3 vs ha;rw[ex]at ex';cases ex';subst ev;subst eH;exact DW (fk dL λ_=>.int) (eX hp _) aX
 stop:=λH Γ rp=>by have rp0:Rp K H ((t,some (.ref a))::Γ):=rp;obtain⟨a',vs,ea,ha,la,_⟩:=aE e1 rp0;cases ea;refine⟨vs,ha,?_⟩;rw[Ri,MX,la,QC]
theorem qh{tp:Pos}(hg:Gl X "enumerate")(hm:X.mg "enumerate"=none)(ha:GA X [a] fr)(hs:SO [a] X.env=[(false,Ta a X.env)]:=by rfl) :
  GI X (.Tuple es x1 tp) (.Call (.Name "enumerate" p) [a] [] pos) (iEn fr):=by
 rintro ac s σ H R I ⟨env,Fr,k,rs,q,c⟩;refine G4 hg hm ha hs ac s σ H R I ⟨env,Fr,_,rs,q,λts ad vs H1 q1 l f8=>?_⟩;rcases ts with _|⟨t,_|⟨t2,ts⟩⟩
 ·exact q1.elim
 ·obtain⟨v,rfl⟩:=zz1 l rfl;obtain⟨as,ea,kt⟩:=aJ q1;have f8:Rs X.K H1 ad σ ((t,some v)::Fr):=f8;have r2:Rs X.K H1 ad σ ((er t,some v)::Fr):=.of f8.1 (mM f8.head);obtain⟨e1,_⟩:=jr ea;obtain⟨a',xs,rfl,hq,l1,_⟩:=aE e1 r2.head;rw[<-iL as]at kt;exact⟨_,a',rfl,⟨xs,hq⟩,c _ _ _ [(er t,_)] _ kt r2 (JK e1 (aN t))⟩
 exact q1.elim
end
open PySem PySem.Spec PyProof.Rows L2
noncomputable def frA(fr:List (Option Nat)):List Arg:=fr.map λo=>match o with
 |some j=>.bor j
 |none=>.val .any
noncomputable def κc(fr:List (Option Nat))(j:Nat):Bool:=match fr[j]? with
 |some (some _)=>true
 | _=>false
theorem jT:∀(fr:List (Option Nat)) (σ:L2.St),nR (frA fr) (gU fr σ) σ
 | [],σ=>trivial
 |none::r,σ=>jT r σ
 |some j::r,σ=>by
  refine⟨?_,jT r σ⟩;by_cases h:j<σ.length
  ·refine .inl ?_;show σ[j]?=some ((σ[j]?).join);rw[f_ h]
   rfl
  exact .inr (by lia)
theorem mX:∀(fr:List (Option Nat)) (τ τ':List (Option V)) (σ:L2.St),τ'.length=τ.length->(∀j,κc fr j=true->τ'[j]?=τ[j]?)->nR (frA fr) τ σ->nR (frA fr) τ' σ
 | [],[],τ',σ,l,_,_=>by
  have:τ'=[]:=by cases τ' with|nil=>rfl|cons _ _=>cases l
  subst this
  trivial
 | [],_::_,_,_,_,_,o=>o.elim
 |none::r,[],_,_,_,_,o=>o.elim
 |some j::r,[],_,_,_,_,o=>o.elim
 |none::r,x::τ,[],σ,l,_,_=>by cases l
 |some j::r,x::τ,[],σ,l,_,_=>by cases l
 |none::r,x::τ,y::τ',σ,l,k,o=>mX r τ τ' σ (by simpa using l) (λj hj=>by simpa using k (j+1) hj) o
 |some i::r,x::τ,y::τ',σ,l,k,o=>by
  have e:y=x:=by have:=k 0 rfl;simpa using this
  subst e;exact⟨o.1,mX r τ τ' σ (by simpa using l) (λj hj=>by simpa using k (j+1) hj) o.2⟩
def Hr(fr:List (Option Nat))(ap:List T)(g:PG')(ft:PB)(fe:PF)(ad:Ev)(k:T->Ev->Prop):Prop:=ap.length<sizeLine/\∃W:Nat->List T->Ev->Prop,W 0 [] (lend (frA fr) ad).1/\
 (∀i t acc ie,W i acc ie->ap[i]?=some t->g t ie λie2=>ft ie2 λb ie3=>cnd b (fe ie3 λu ie4=>W (i+1) (acc++[u]) ie4) (W (i+1) acc ie3))/\
 ∀acc ie,W ap.length acc ie->k (.lst true acc) (back (frA fr) ie (lend (frA fr) ad).2)
def wK(fr:List (Option Nat))(fi:PIt)(g:PG')(ft:PB)(fe:PF):PF:=λenv k=>fi env λap ad=>Hr fr ap g ft fe ad k
theorem vS:∀fr:List (Option Nat),(frA fr).map qO=fr.map λ_=>T.any
 | []=>rfl
 |none::r=>by show T.any::(frA r).map qO=T.any::r.map λ_=>T.any;rw[vS r]
 |some j::r=>by show T.any::(frA r).map qO=T.any::r.map λ_=>T.any;rw[vS r]
theorem zA{K:Sm}{H:Hp}{Γ:Fm}:∀(fr:List (Option Nat)) (xs:List (Option V)),Rp K H Γ->Rp K H ((fr.map λ_=>T.any).zip xs++Γ)
 | [],xs,h=>h
 | _::r,[],h=>h
 | _::r,x::xs,h=>l8 (zA r xs h)
theorem Eo(fr:List (Option Nat)):(frA fr).length=fr.length:=by unfold frA;rw[a_]
theorem ye(fr:List (Option Nat))(σ:L2.St):(gU fr σ).length=fr.length:=by unfold gU;rw[a_]
variable {fe:PF}{fi:PIt}{fr:List (Option Nat)}{ft:PB}
theorem yS{g:PG'}:∀ σ H Q,wE K (wK fr fi g ft fe) σ H Q->zO (wI K fi) fr (λ_ _ _=>wG K (κc fr) g) (λ_ _ _=>wB K ft) (λ_ _ _=>wE K fe) σ H Q:=by
 rintro σ H Q ⟨env,Fr,k,rs,q,c⟩;refine⟨env,Fr,_,rs,q,?_⟩;rintro ap ad J Fg H1 ⟨hz,W,w0,wt,we⟩ f8 ok;intro p hp s3 H3' fp;have l0:Rs K H1 ad σ (((frA fr).map qO).zip (gU fr σ)++(Fg++Fr)):=⟨f8.1,by refine Rp.perm ?_ (w_ _ _ _);rw[vS];exact zA fr _ f8.2⟩
 have l1:=nK (jT fr σ) l0;obtain⟨ie0,ou,e0⟩:∃ie0 ou,lend (frA fr) ad=(ie0,ou):=⟨_,_,rfl⟩;have lie:ie0.length=(gU fr σ).length:=by have:=lD (frA fr) ad;rw[e0,Eo]at this;rw[ye];exact this
 rw[e0]at l1 w0;have rp0:Rp K (upd H1 p (.lst [])) ((.lst true [],some (.ref p))::(ie0.zip (gU fr σ)++(Fg++(ou.zip σ++Fr)))):=by refine l4 (ts:=[]) (vs:=[]) (l1.2.perm ?_) rfl hp (eX hp _) aX;show RX (ou.zip σ++(ie0.zip (gU fr σ)++(Fg++Fr))) (ie0.zip (gU fr σ)++(Fg++(ou.zip σ++Fr)));exact(w_ _ _ _).trans ((w_ _ _ _).append_left _)
 refine⟨λi m cl H'=>∃acc ie,W i acc ie/\Rs K H' ie cl ((.lst true acc,some (.ref p))::(Fg++(ou.zip σ++Fr)))/\Kept (κc fr) (gU fr σ) cl/\m+i=ap.length/\acc.length<=i,⟨ap.length,[],ie0,w0,.of lie rp0,.refl,rfl,e_ _⟩,?_⟩;rintro i m σ1 H2 ⟨acc,ie,w2,rs2,k2,hm,ha⟩;have cr:Rp K H2 (Fg++((.lst true acc,some (.ref p))::(ie.zip σ1++(ou.zip σ++Fr)))):=by refine rs2.head.perm ?_;refine E_ ?_ h_.symm;exact .cons _ (w_ _ _ _)
 by_cases kw:i<ap.length
 ·have ei:ap[i]?=some ap[i]:=f_ kw;obtain⟨hgo,hy⟩:=ok.turn i ap[i] H2 _ ei cr;refine .inr ⟨hgo,λx H' hx=>?_⟩;have dL:=hy x H' hx;have rs3:Rs K H' ie σ1 ((ap[i],some x)::((.lst true acc,some (.ref p))::(Fg++(ou.zip σ++Fr)))):=.of rs2.1 (dL.perm (.cons _ (by refine h_.trans ?_;refine E_ ?_ h_.symm;exact .cons _ (w_ _ _ _))))
  refine⟨ap[i],ie,_,_,rs3,wt i ap[i] acc ie w2 ei,λie3 σ3 H3 q3 rs4 k4=>?_⟩;refine⟨ie3,_,_,rs4,q3,λb ie4 H4 q4 rs5=>k9 ⟨λhb=>?_,λhb=>?_⟩⟩
  ·refine⟨ie4,_,_,rs5,q4.1 hb,λu ie5 v H5 q5 rs6=>?_⟩;have r7:=rs6.perm (.swap _ _ _);obtain⟨a',ys,ea,hys,ly,r8⟩:=kq r7.head;cases ea;refine⟨ys,hys,by rw[<-ly];exact NB ha (Qz kw hz),m-1,by lia,acc++[u],ie5,q5,.of r7.1 ?_,k2.trans k4,by lia,by rw[c_];simp;omega⟩;refine jB (ts:=acc++[u]) (vs:=ys++[v]) (r8.perm (.cons _ ?_)) (by rw[c_,c_,ly];rfl) Put.up;rw[mH ly,g_];refine Ng _ ?_;exact h_
  exact⟨m-1,by lia,acc,ie4,q4.2 hb,rs5,k2.trans k4,by lia,by lia⟩
 have:i=ap.length:=by lia
 subst this;refine .inl ⟨ok.stop H2 _ cr,c _ _ _ _ (we acc ie w2) ?_⟩;rw[e0];have ao:nR (frA fr) σ1 σ:=mX fr (gU fr σ) σ1 σ k2.1 k2.2 (jT fr σ);refine nF ao (env:=ou) ⟨l1.1,?_⟩;refine cr.part.perm ?_;refine E_ ?_ (w_ _ _ _);refine E_ h_.symm ?_;exact Ng _ h_.symm
def GTs(X:Cx)(ifs:List SK)(f:PB):Prop:=PTs X ifs (wB X.K f)
noncomputable def jV:PB:=λenv k=>k true env
theorem bV:GTs X [] jV:=by rintro ac s σ H Q I ⟨env,Fr,k,rs,q,c⟩;exact EY ac s σ H Q I (c _ _ _ q rs)
theorem uT{c:SK}{f:PB}(h:GT X c f):GTs X [c] f:=FV h
variable {N ps:List Str}{elt iter target:SK}{esc sc:TF}{ifs:List SK}
theorem cc(S:FnScope N ps esc)(N':List Str)(fr:List (Option Nat))(nd:N'.Nodup){g:PG'}(C:lE N esc sc N' fr=true)
  (hi:GI X target iter fi) (hg:∀s3 H3 fp,GG (κc fr) (bU X N' sc s3 H3 fp) target g) (ht:∀s3 H3 fp,GTs (bU X N' sc s3 H3 fp) ifs ft) (he:∀s3 H3 fp,GE (bU X N' sc s3 H3 fp) elt fe)
  (hc:X.calm=true:=by rfl) (hN:X.N=N:=by rfl) (hS:X.env.scope=esc:=by rfl) (hs:∀x,Tx iter X.env x=pure x:=by intro _;rfl):GE X (.ListComp elt [⟨target,iter,ifs,0⟩] sc pos) (wK fr fi g ft fe):=
 PE.imp (Cv S N' fr nd C hi hg ht he hc hN hS hs) yS
variable {li:Pos}
theorem F5(S:FnScope N ps esc){x:Str}{pos':Pos}(N':List Str)(fr:List (Option Nat))(nd:N'.Nodup){g:PG'}(C:lE N esc sc N' fr=true)
  (hi:X.N[i]?=some x) (hx:Loc X.env.scope x) (hκ:κ i=false) (hit:GI X target iter fi) (hg:∀s3 H3 fp,GG (κc fr) (bU X N' sc s3 H3 fp) target g) (ht:∀s3 H3 fp,GTs (bU X N' sc s3 H3 fp) ifs ft) (he:∀s3 H3 fp,GE (bU X N' sc s3 H3 fp) elt fe)
  (hsw:UT (.ListComp elt [⟨target,iter,ifs,0⟩] sc li) (some (.Name x pos')) pos.line X.env=pure true) (hf:X.fn x=true:=by rfl)
  (hc:X.calm=true:=by rfl) (hN:X.N=N:=by rfl) (hS:X.env.scope=esc:=by rfl) (hs:∀x,Tx iter X.env x=pure x:=by intro _;rfl):GS κ X (.Assign [.Name x pos'] (.ListComp elt [⟨target,iter,ifs,0⟩] sc li) pos) (EC i (wK fr fi g ft fe)):=by
 refine PS.imp (zI S N' fr nd C hi hx hit hg ht he hsw hf hc hN hS hs) ?_;rintro D σ H ⟨env,Fr,pe,rs,q,c⟩;exact yS σ H _ ⟨env,Fr,_,rs,q,λt be v H' q1 f8=>c.nx _ _ _ q1 f8.put (.set hκ)⟩
abbrev PM:=T->List T->(T->T->Prop)->Prop
def MtP(X:Cx)(id:String)(m:PM):Prop:=MtM X id (λx xs H Q=>∃t ts Γ k,ts.length=xs.length/\Rp X.K H ((t,some x)::(zz ts xs++Γ))/\m t ts k/\∀t' r v H',k t' r->Rp X.K H' ((r,some v)::(t',some x)::Γ)->Q v H')
noncomputable def isL:T->Bool
 | .lst _ _=>true
 | _=>false
def Ac(i:Nat)(m:PM)(fr:PFs):PF:=λenv k=>got (env[i]?) λt0=>isL t0=true/\fr env λts ad=>got (ad[i]?) λt=>m t ts λt' r=>k r (ad.set i t')
variable {xp:Pos}
section
variable{X:Cx}{e o:SK}{es:List SK}{fr:PFs}{fe:PF}{m:PM}{name:Str}{id:String}{apos ld pos:Pos}
theorem Fh(h:isL t=true)(rp:Rp X.K H ((t,some v)::Γ)):tyV X.K "list" v H:=by
 cases t <;> first|cases h|skip
 obtain⟨a,vs,rfl,hq,l,_⟩:=lK rp;exact .inl ⟨rfl,vs,.inl hq⟩
theorem Gp(h:isL t=true):isAny t=false:=by cases t <;> first|rfl|cases h
theorem GH:∀ σ H Q,wE X.K (Ac i m fr) σ H Q->tBM X.K "list" (λx xs H Q=>∃t ts Γ k,ts.length=xs.length/\Rp X.K H ((t,some x)::(zz ts xs++Γ))/\m t ts k/\∀t' r v H',k t' r->Rp X.K H' ((r,some v)::(t',some x)::Γ)->Q v H') (Jv i) (wA X.K fr) σ H Q:=by
 rintro σ H Q ⟨env,Fr,k,rs,q,c⟩;obtain⟨t0,e0,hl,q⟩:=aJ q;obtain⟨y,ey,rs2⟩:=rs.slot e0;obtain⟨v,rfl⟩:=jA rs2 (Gp hl);refine⟨v,ey,Fh hl rs2.head,env,Fr,_,rs,q,λts ad vs H1 q1 l f8=>?_⟩;obtain⟨t,et,q1⟩:=aJ q1;obtain⟨y',ey',rs3⟩:=f8.slot et;rw[ey]at ey';cases ey';have hi:i<ad.length:=(gV.mp et).1;refine⟨t,ts,(ad.set i .any).zip σ++Fr,_,l,?_,q1,λt' r w H' kt rp=>c _ _ _ _ kt ?_⟩
 ·refine rs3.head.perm (.cons _ ?_);exact w_ _ _ _
 have r4:Rs X.K H' (ad.set i .any) σ ((t',some v)::(r,some w)::Fr):=.of rs3.1 (rp.perm (by refine E_ (.swap _ _ _) ?_;exact .cons _ h_.symm))
 have r5:=Rs.sg (i:=i) r4 (by rw[Nf];exact hi) ey;rw[QI]at r5;exact r5
theorem lP(i:Nat){x:Str}(slot:Slot "list" name id)(hty:X_ (.builtin id)=pure (.type "method_descriptor"))(hm:MtP X id m)(ha:GA X (e::es) fr)(hN:X.N[i]?=some x:=by rfl)(hv:Vis X.env.scope x:=by first|exact b_ rfl|exact d_ (b_ rfl)|exact d_ (d_ rfl))(hd:(x ==("__debug__":Str))=false:=by decide)(hcd:(x ==("__classdict__":Str))=false:=by decide)
  (hbase:VI (.Name x xp) name X.env (Ta (.Name x xp) X.env)=Ta (.Name x xp) X.env:=by rfl)
  (hfew:((UH ld (SO (e::es) X.env)).all (λx=>!x.1)&&(backToKw ld (Yn [] X.env)).all (λx=>x.1.isSome)&&decide ((e::es).length+([]:List XD).length+(if([]:List XD).isEmpty then 0 else 1)<30))=true:=by rfl)
  (hline:(apos.endLine == ld.line)=true:=by rfl) (hs:SO (e::es) X.env=(false,Ta e X.env)::SO es X.env:=by rfl) (hplain:(UH ld (SO es X.env)).any (·.1)=false:=by rfl) :
  GE X (.Call (.Attribute (.Name x xp) name apos) (e::es) [] ld) (Ac i m fr):=PE.imp (LM V5 slot hty hm (kO hN hv hd hcd) ha hbase hfew hline hs hplain) GH
theorem Dg(i:Nat){x:Str}(slot:Slot "list" name id)(hty:X_ (.builtin id)=pure (.type "method_descriptor"))(hm:MtP X id m)(hN:X.N[i]?=some x:=by rfl)(hv:Vis X.env.scope x:=by first|exact b_ rfl|exact d_ (b_ rfl)|exact d_ (d_ rfl))(hd:(x ==("__debug__":Str))=false:=by decide)(hcd:(x ==("__classdict__":Str))=false:=by decide)
  (hbase:VI (.Name x xp) name X.env (Ta (.Name x xp) X.env)=Ta (.Name x xp) X.env:=by rfl) (hline:(apos.endLine == ld.line)=true:=by rfl) :
  GE X (.Call (.Attribute (.Name x xp) name apos) [] [] ld) (Ac i m IP):=by
 refine PE.imp (Ie V5 slot hty hm (kO hN hv hd hcd) hbase hline) λσ H Q h=>?_;obtain⟨v,ev,ty,env,Fr,k,rs,q,c⟩:=GH σ H Q h;exact⟨v,ev,ty,c [] env [] H q rfl rs⟩
noncomputable def uX:PM
 | .lst true ts,[t],k=>ts.length<sizeLine/\k (.lst true (ts++[t])) .non
 | _,_,_=>False
noncomputable def vv:PM
 | .lst true ts,[.lst true us],k=>ts.length+us.length<=sizeLine/\k (.lst true (ts++us)) .non
 | _,_,_=>False
noncomputable def sC:PM
 | .lst true ts,[],k=>k (.lst true ts.reverse) .non
 | _,_,_=>False
theorem k8:MtP X "list.append" uX:=by
 rintro ac s σ H x xs v us Q I rx r ⟨t,ts,Γ,k,l,rp,g,c⟩;unfold uX at g;split at g
 ·rename_i k ts t;obtain⟨y,rfl⟩:=zz1 l rfl;obtain⟨a,vs,ea,ha,la,cr⟩:=kq rp;cases ea;refine yA ac s σ H _ _ v us Q I rx r ⟨a,vs,y,rfl,rfl,ha,by rw[<-la];exact g.1,λH' hp=>c _ _ _ _ g.2 (fk ?_ λ_=>.non)⟩;refine jB (ts:=ts++[t]) (vs:=vs++[y]) ?_ (by rw[c_,c_,la];rfl) hp;rw[mH la,g_];exact cr
 exact SQ g
theorem sF:MtP X "list.extend" vv:=by
 rintro ac s σ H x xs v us Q I rx r ⟨t,ts,Γ,k,l,rp,g,c⟩;unfold vv at g;split at g
 ·rename_i k ts us';obtain⟨y,rfl⟩:=zz1 l rfl;obtain⟨a,vs,ea,ha,la,cr⟩:=kq rp;cases ea;have dL:Rp X.K H ((.lst true us',some y)::(.bare,some (.ref a))::(zz ts vs++Γ)):=cr.perm (by refine E_ (.cons _ h_) ?_;exact .swap _ _ _)
  obtain⟨b,ws,eb,hb,lb,rp4⟩:=kq dL;cases eb;have rp5:Rp X.K H ((.bare,some (.ref a))::(zz (ts++us') (vs++ws)++Γ)):=by rw[mH la,g_];refine rp4.tail.perm ?_;refine h_.trans (.cons _ ?_);exact w_ _ _ _
  exact xT ac s σ H _ _ v us Q I rx r ⟨a,b,vs,ws,rfl,rfl,ha,hb,by rw[<-la,<-lb];exact g.1,λH' hp=>c _ _ _ _ g.2 (fk (jB rp5 (by rw[c_,c_,la,lb]) hp) λ_=>.non)⟩
 exact SQ g
theorem yO:∀{ts:List T}{vs:List V},ts.length=vs.length->zz ts.reverse vs.reverse=(zz ts vs).reverse
 | [],[],_=>rfl
 | [],_::_,l=>by cases l
 | _::_,[],l=>by cases l
 |t::ts,v::vs,l=>by
  have l':ts.length=vs.length:=by simpa using l
  rw[N4,N4,mH (by rw[A',A'];exact l'),yO l'];show _=((t,some v)::zz ts vs).reverse;rw[N4]
  rfl
theorem wV:MtP X "list.reverse" sC:=by
 rintro ac s σ H x xs v us Q I rx r ⟨t,ts,Γ,k,l,rp,g,c⟩;unfold sC at g;split at g
 ·rename_i k ts;have:xs=[]:=by cases xs with|nil=>rfl|cons _ _=>cases l
  subst this;obtain⟨a,vs,ea,ha,la,cr⟩:=kq rp;cases ea;refine yW ac s σ H _ _ v us Q I rx r ⟨a,vs,rfl,rfl,ha,c _ _ _ _ g (fk (jB (ts:=ts.reverse) (vs:=vs.reverse) (cr.perm (.cons _ ?_)) (by rw[A',A',la]) Put.up) λ_=>.non)⟩;rw[yO la];exact(Ph _).symm.append_right _
 exact SQ g
end
noncomputable def outs(ms:List Bool)(env:Ev):List T:=ms.zipWith (λb t=>if b then t else .any) env
noncomputable def κm(ms:List Bool)(j:Nat):Bool:=match ms[j]? with
 |some b=>b
 |none=>false
theorem nM{K:Sm}{H:Hp}{Γ:Fm}:∀{ms:List Bool}{env:Ev}{σ:L2.St}{vs:List V},ms.length=vs.length->(∀j,κm ms j=true->σ[j]?=(vs[j]?).map some)->Rp K H (env.zip σ++Γ)->Rp K H (zz (outs ms env) vs++Γ)
 | [],env,σ,vs,l,k,h=>h.part
 | _::_,_,_,[],l,_,_=>by cases l
 |m::ms,[],σ,v::vs,l,k,h=>h
 |m::ms,t::env,[],v::vs,l,k,h=>by
  have ih:=nM (ms:=ms) (env:=env) (σ:=[]) (vs:=vs) (by simpa using l) (λj hj=>by have:=k (j+1) hj;simpa using this) (by simpa using h)
  cases m with
  |true=>have:=k 0 rfl;simp at this
  |false=>exact l8 ih
 |m::ms,t::env,x::σ,v::vs,l,k,h=>by
  have h:Rp K H ((t,x)::(env.zip σ++Γ)):=h;have ks:∀j,κm ms j=true->σ[j]?=(vs[j]?).map some:=λj hj=>by have:=k (j+1) hj;simpa using this
  cases m with
  |true=>
   have e:x=some v:=by have:=k 0 rfl;simpa using this
   subst e;have h2:Rp K H (env.zip σ++((t,some v)::Γ)):=h.perm h_.symm;exact(nM (ms:=ms) (by simpa using l) ks h2).perm h_
  |false=>exact l8 (nM (ms:=ms) (by simpa using l) ks h.tail)
theorem BG(l:ts.length=vs.length)(n:Nat)(h:Rp K H (zz ts vs++Γ)):Rp K H ((ts++NW n T.any).zip (vs.map some++NW n none)++Γ):=by
 rw[RL (by rw[a_];exact l),g_];have:∀n,Rp K H (zz ts vs++((NW n T.any).zip (NW n (none:Option V))++Γ)):=by
  intro n;induction n with
  |zero=>exact h
  |succ n ih=>
   rw[Rj,Rj];exact(l8 (x:=none) ih).perm h_.symm
 exact this n
variable {P:SD}
theorem cC{mg:Str->Option Sl}{base:SJ}{x qual:Str}{f:Sn}{fd:SR}{k:Nat}{Pr:FP}(F:Fun K x qual st f fd)(S:FnScope N ps (ay st))(ms:List Bool)(hms:ms.length=ps.length)
  (body:∀(cdv:Sl) (A:SW) (outer:List Env) (s:So) (H:Hp) (E:XK),Room k (A.deeper (Vl qual (ay st) s.heap.objs.size f cdv))->
   ∃fb,GSs (κm ms) (yh CX0 P w K mg base N qual (ay st) f cdv A outer s H E).nox (iA st) fb/\∀ts kk,ts.length=ps.length->Pr ts kk->fb { nx:=λenv=>kk .non (outs ms env),rt:=λt env=>kk t (outs ms env) } (ts++NW (N.length-ps.length) .any)) :
  FnOk P w K mg base CX0 (k+1) f fd ps (aG K ps.length Pr):=by
 refine F.ok S (by rintro vs H Q E ⟨ts,Fr,kk,h1,h2,_⟩;exact h2) ?_;rintro cdv A outer s H vs Q E hr ⟨ts,Fr,kk,h1,h2,rp,pr,c⟩;obtain⟨fb,hb,q⟩:=body cdv A outer s H E hr;refine⟨_,hb,ts++NW (N.length-ps.length) .any,Fr,_,?_,q ts kk (by rw[h1,h2]) pr,?_⟩
 ·unfold L2.start;rw[h2];refine⟨by simp[h1],BG h1 _ rp⟩
 have kv:∀{cl},Kept (κm ms) (L2.start N vs) cl->∀j,κm ms j=true->cl[j]?=(vs[j]?).map some:=λ{cl} kp j hj=>by
  rw[kp.2 j hj];unfold L2.start;have hj2:j<vs.length:=by
   rw[h2,<-hms];unfold κm at hj;split at hj
   ·rename_i b e;exact(gV.mp e).1
   cases hj
  rw[Ny (by rw[a_];exact hj2),u_]
 refine⟨λbe cl H' q' rs' k'=>c _ _ _ _ q' ?_,λt be v cl H' q' rs' k'=>c _ _ _ _ q' ?_,λ_ _ _ z=>z.elim,λ_ _ _ z=>z.elim⟩
 ·exact fk (nM (by rw[hms,h2]) (kv k') rs'.2) λ_=>.non
 exact(nM (Γ:=(t,some v)::Fr) (by rw[hms,h2]) (kv k') rs'.2).perm h_
open PySem PySem.Spec PyProof.Rows L2
variable {n:String}
section
variable{X:Cx}{pos:Pos}
theorem BH{te:TE}(h:PS X st (F9 te (A5 i))):PS X st (λD σ H=>te σ H λv H'=>Gr H H'/\D.nx (σ.set i (some v)) (over H H')):=by
 intro ac s σ H D I q;have key:=h ac s σ H { nx:=λcl H'=>Gr H H'/\D.nx cl (over H H'),rt:=λ_ _=>False} I q;refine thn key λf s' hs=>?_;cases f with
 |next=>
  obtain⟨cl,H',I',g,q'⟩:=hs;exact⟨cl,over H H',rQ I I' g,q'⟩
 |brk=>obtain⟨_,_,_,z⟩:=hs;exact z.elim
 |cont=>obtain⟨_,_,_,z⟩:=hs;exact z.elim
 |ret u=>obtain⟨_,_,_,_,_,z⟩:=hs;exact z.elim
theorem EE{f:PF}{σ:L2.St}{Q:VK}(h:wE K (fQ f) σ H Q):wE K f σ H λv H'=>Gr H H'/\Q v (over H H'):=by
 obtain⟨env,Fr,k,rs,q,c⟩:=h;have rv:Rs K H (erL env) σ ((Fr.map λp=>(er p.1,p.2))++[(.kp H,some .non)]):=by refine⟨by rw[iL];exact rs.1,?_⟩;have:=v9 rs.2;rw[m_,qi,g_]at this;exact this
 refine⟨erL env,_,_,rv,q,?_⟩;rintro t be v H' ⟨n,kt⟩ rs';obtain⟨g,r2⟩:=vT rs.2 (Δ:=be.zip σ++(Fr.map λp=>(er p.1,p.2))) (by rw[g_];exact rs'.head) n;exact⟨g,c t env v _ kt (.of rs.1 r2)⟩
theorem rh(S:FnScope N ps esc){x:Str}{pos pos':Pos}(N':List Str)(fr:List (Option Nat))(nd:N'.Nodup){g:PG'}(C:lE N esc sc N' fr=true)
  (hi:X.N[i]?=some x) (hx:Loc X.env.scope x) (hκ:κ i=false) (hit:GI X target iter fi) (hg:∀s3 H3 fp,GG (κc fr) (bU X N' sc s3 H3 fp) target g) (ht:∀s3 H3 fp,GTs (bU X N' sc s3 H3 fp) ifs ft) (he:∀s3 H3 fp,GE (bU X N' sc s3 H3 fp) elt fe)
  (hsw:UT (.ListComp elt [⟨target,iter,ifs,0⟩] sc li) (some (.Name x pos')) pos.line X.env=pure true) (hf:X.fn x=true:=by rfl)
  (hc:X.calm=true:=by rfl) (hN:X.N=N:=by rfl) (hS:X.env.scope=esc:=by rfl) (hs:∀x,Tx iter X.env x=pure x:=by intro _;rfl):GS κ X (.Assign [.Name x pos'] (.ListComp elt [⟨target,iter,ifs,0⟩] sc li) pos) (EC i (fQ (wK fr fi g ft fe))):=by
 refine PS.imp (BH (zI S N' fr nd C hi hx hit hg ht he hsw hf hc hN hS hs)) ?_;rintro D σ H ⟨env,Fr,pe,rs,q,c⟩;exact yS σ H _ (EE (Q:=λv H'=>D.nx (σ.set i (some v)) H') ⟨env,Fr,_,rs,q,λt be v H' q1 f8=>c.nx _ _ _ q1 f8.put (.set hκ)⟩)
theorem iW{x:Str}(hg:Gl X x)(hm:X.mg x=none)(hv:Uc x=some (.type n))(hn:x≠"__name__":=by decide)(hd:(x ==("__debug__":Str))=false:=by decide):GE X (.Name x pos) (fK (.ty n)):=
 PE.imp (FK (v:=.ty n) hg hm hv rfl hn hd) λσ H Q ⟨env,Fr,k,rs,q,c⟩=>c _ _ _ _ q (jP rs λ_=>.ty)
def Glb(K:Sm)(mg:Str->Option Sl)(x:Str)(t:T):Prop:=∃v u,mg x=some u/\RelV v u/\∀Hz H,RepT K Hz H t v []
theorem Ir{x:Str}(G:Glb X.K X.mg x t)(hg:Gl X x)(hd:(x ==("__debug__":Str))=false:=by decide):GE X (.Name x pos) (fK t):=by obtain⟨v,u,hm,r,ht⟩:=G;exact G9 hg hm r ht hd
theorem HF:GE X (.Dict [] [] pos) (fK (.dK true [])):=PE.imp Dc (by rintro σ H Q ⟨env,Fr,k,rs,q,c⟩;exact λp hp=>c _ _ _ _ q (.of rs.1 (Gq rs.2 hp (eX hp _) aX)))
noncomputable def lY:T->Option Ty
 | .non=>some .non
 | .bl _=>some .bl
 | .int _=>some .int
 | .str _=>some .str
 | .tup _=>some .tup
 | .cst _=>some .tup
 | .lst _ _=>some .lst
 | .dK _ _=>some .dct
 | _=>none
noncomputable def yc:String->Option Ty
 | "NoneType"=>some .non
 | "bool"=>some .bl
 | "int"=>some .int
 | "str"=>some .str
 | "list"=>some .lst
 | "tuple"=>some .tup
 | "dict"=>some .dct
 | _=>none
theorem zL{c:Ty}(h:yc n=some c):n=c.nm:=by unfold yc at h;split at h <;> cases h <;> rfl
def tZ:List T->Option (List Ty)
 | []=>some []
 | .ty n::r=>match yc n,tZ r with
  |some c,some cs=>some (c::cs)
  | _,_=>none
 | _::_=>none
def zE:P1s
 | [x,.ty n],k=>got (lY x) λt=>got (yc n) λc=>k (.bl (isA t c))
 | [x,.tup ts],k=>got (lY x) λt=>got (tZ ts) λcs=>k (.bl (cs.any (isA t)))
 | _,_=>False
theorem Hn(h:Rp K H ((.ty n,some y)::Γ)):y=.ty n:=by obtain⟨_,_,r,_⟩:=jJ h rfl;cases r;rfl
theorem E4{K:Sm}{H:Hp}{Γ:Fm}:∀{ts:List T}{cs:List Ty}{vs:List V},tZ ts=some cs->ts.length=vs.length->Rp K H (zz ts vs++Γ)->vs=cs.map λc=>V.ty c.nm
 | [],cs,[],e,_,_=>by cases e;rfl
 | [],_,_::_,_,l,_=>by cases l
 | _::_,_,[],_,l,_=>by cases l
 |t::ts,cs,v::vs,e,l,h=>by
  cases t <;> first|cases e|skip
  rename_i n;rw[tZ]at e;split at e
  ·rename_i c r e1 e2;cases e;have h:Rp K H ((.ty n,some v)::(zz ts vs++Γ)):=h;rw[Hn h,zL e1,E4 e2 (by simpa using l) h.tail]
   rfl
  cases e
theorem BR{c:Ty}(e:lY t=some c)(h:Rp K H ((t,some y)::Γ)):TyG K H y c:=by
 cases t with
 |non=>cases e;rw[sG h];exact .non
 |bl b=>cases e;rw[kD h];exact .bl b
 |int i=>cases e;rw[b7 h];exact .int i
 |str x=>cases e;rw[jR h];exact .str x
 |tup ts=>cases e;obtain⟨a,vs,rfl,hq,_⟩:=aE rfl h;exact .tup hq
 |cst ts=>cases e;obtain⟨a,vs,rfl,hq,_⟩:=aE rfl h;exact .tup hq
 |lst o ts=>cases e;obtain⟨a,vs,rfl,hq,_⟩:=aE rfl h;exact .lst hq
 |dK o al=>
  cases o with
  |true=>cases e;obtain⟨a,vs,ea,hq,_⟩:=qX h;cases ea;exact .dct (.inl hq)
  |false=>
   cases e;obtain⟨Hz,L,r,g⟩:=jJ h rfl;cases r;rename_i a vs hq _;exact .dct (g _ _ hq)
 | _=>cases e
theorem cf:j4 X (.builtin "isinstance") zE:=by
 rintro ac s σ H xs us Q I r ⟨ts,Γ,k,l,rp,g,c⟩;unfold zE at g;split at g
 ·rename_i k x n;obtain⟨y,z,rfl⟩:=zz2 l rfl;have rp:Rp X.K H ((x,some y)::(.ty n,some z)::Γ):=rp;obtain⟨t,et,g⟩:=aJ g;obtain⟨ct,ec,kt⟩:=aJ g;rw[Hn rp.tail,zL ec]at r;have e1:[ct].any (isA t)=isA t ct:=by simp
  refine pJ ac s σ H _ us Q I r ⟨y,_,t,[ct],rfl,BR et rp,.inl ⟨ct,rfl,rfl⟩,?_⟩;rw[e1];exact c _ _ _ kt (fk rp.tail.tail λ_=>.bl)
 ·rename_i k x us';obtain⟨y,z,rfl⟩:=zz2 l rfl;have rp:Rp X.K H ((x,some y)::(.tup us',some z)::Γ):=rp;obtain⟨t,et,g⟩:=aJ g;obtain⟨cs,ec,kt⟩:=aJ g;obtain⟨a,vs,rfl,ha,la,cr⟩:=qp rp.tail;have hv:=E4 ec la cr;subst hv;exact pJ ac s σ H _ us Q I r ⟨y,_,t,cs,rfl,BR et rp,.inr ⟨a,rfl,ha⟩,c _ _ _ kt (fk rp.tail.tail λ_=>.bl)⟩
 exact SQ g
noncomputable def M4:T->(T->Prop)->Prop
 | .lst _ ts,k=>k (.lst true ts.reverse)
 | _,_=>False
theorem JG(rp:Rp K H (zz ts vs++Γ))(l:ts.length=vs.length)(hp:H p=none)(g:d4 H H')(e:H' p=some (.lst vs.reverse)):Rp K H' ((.lst true ts.reverse,some (.ref p))::Γ):=
 l4 (ts:=ts.reverse) (vs:=vs.reverse) (rp.perm (by rw[yO l];exact(Ph _).symm.append_right _)) (by rw[A',A',l]) hp g e
theorem y3{p1 p2 pos1:Pos}(hc:X.calm=true)(hg1:Gl X "list")(hm1:X.mg "list"=none)(hg2:Gl X "reversed")(hm2:X.mg "reversed"=none)(he:GE X e fe)
  (hs1:SO [e] X.env=[(false,Ta e X.env)]:=by rfl) (hs2:SO [.Call (.Name "reversed" p2) [e] [] li] X.env=[(false,Ta (.Call (.Name "reversed" p2) [e] [] li) X.env)]:=by rfl) :
  GE X (.Call (.Name "list" p1) [.Call (.Name "reversed" p2) [e] [] li] [] pos1) (fUn M4 fe):=by
 refine PE.imp (yf hc hg1 hm1 hg2 hm2 he hs1 hs2) ?_;rintro σ H Q ⟨env,Fr,k,rs,q,c⟩;refine⟨env,Fr,_,rs,q,λt ad v H1 q1 f8=>?_⟩;cases t <;> first|exact SQ q1|skip
 obtain⟨a,vs,rfl,hq,l,rp⟩:=aE rfl f8.head;exact⟨a,vs,rfl,hq,λp H' hp g e=>c _ _ _ _ q1 (.of f8.1 (JG rp l hp g e))⟩
end
section
variable{κ':Type}[DecidableEq κ']
theorem xM:∀{ts:List (κ'×T)}{vs:List (κ'×V)} (q:κ') (t:T) (w:V),ts.map (·.1)=vs.map (·.1)->(oz ts q t).map (·.1)=(putK vs q w).map (·.1):=by
 intro ts vs q t w e;have ha:(ts.any λkv=>decide (kv.1=q))=(vs.any λkv=>decide (kv.1=q)):=by
  have e1:(ts.any λkv=>decide (kv.1=q))=(ts.map (·.1)).any λk=>decide (k=q):=by rw[PX];rfl
  have e2:(vs.any λkv=>decide (kv.1=q))=(vs.map (·.1)).any λk=>decide (k=q):=by rw[PX];rfl
  rw[e1,e2,e]
 unfold oz putK;rw[ha];split
 ·rw[H_,H_];have f1:((λx:κ'×T=>x.1) ∘ λkv=>if kv.1=q then(kv.1,t)else kv)=λx=>x.1:=by funext kv;show(if kv.1=q then(kv.1,t)else kv).1=kv.1;split <;> rfl
  have f2:((λx:κ'×V=>x.1) ∘ λkv=>if kv.1=q then(kv.1,w)else kv)=λx=>x.1:=by funext kv;show(if kv.1=q then(kv.1,w)else kv).1=kv.1;split <;> rfl
  rw[f1,f2,e]
 rw[m_,m_,e]
 rfl
theorem uC:∀{ts:List (κ'×T)}{vs:List (κ'×V)} (q:κ') (t:T) (w:V),ts.map (·.1)=vs.map (·.1)->(vs.map (·.1)).Nodup->∃r,((t,some w)::zz (ts.map (·.2)) (vs.map (·.2))).Perm (r++zz ((oz ts q t).map (·.2)) ((putK vs q w).map (·.2))):=by
 intro ts vs q t w e nd;by_cases hm:q∈vs.map (·.1)
 ·
  have ha:(vs.any λkv=>decide (kv.1=q))=true:=by obtain⟨kv,h1,h2⟩:=s_.mp hm;exact ND.mpr ⟨kv,h1,decide_eq_true h2⟩
  have hb:(ts.any λkv=>decide (kv.1=q))=true:=by rw[<-e]at hm;obtain⟨kv,h1,h2⟩:=s_.mp hm;exact ND.mpr ⟨kv,h1,decide_eq_true h2⟩
  unfold oz putK;rw[if_pos ha,if_pos hb];clear ha hb;induction ts generalizing vs with
  |nil=>
   have:vs=[]:=by cases vs with|nil=>rfl|cons _ _=>cases e
   subst this;cases hm
  |cons a ts ih=>
   cases vs with
   |nil=>cases e
   |cons b vs=>
    obtain⟨k1,t1⟩:=a;obtain⟨k2,v1⟩:=b;rw[f',f',Nu]at e;have ek:k1=k2:=e.1;subst ek;rw[f',MW]at nd;by_cases hk:k1=q
    ·subst hk;have n1:∀kv∈ts,kv.1≠k1:=λkv hkv z=>nd.1 (by rw[<-e.2];exact s_.mpr ⟨kv,hkv,z⟩)
     have n2:∀kv∈vs,kv.1≠k1:=λkv hkv z=>nd.1 (s_.mpr ⟨kv,hkv,z⟩);have m1:ts.map (λkv=>if kv.1=k1 then(kv.1,t)else kv)=ts:=by
      conv=>rhs;rw[<-Qf ts]
      exact Ni λkv hkv=>if_neg (n1 kv hkv)
     have m2:vs.map (λkv=>if kv.1=k1 then(kv.1,w)else kv)=vs:=by
      conv=>rhs;rw[<-Qf vs]
      exact Ni λkv hkv=>if_neg (n2 kv hkv)
     refine⟨[(t1,some v1)],?_⟩;simp only[f',if_true,m1,m2];exact .swap _ _ _
    have hm':q∈vs.map (·.1):=by
     rcases n_.mp hm with z|z
     ·exact absurd z.symm hk
     exact z
    obtain⟨r,p⟩:=ih e.2 nd.2 hm';refine⟨r,?_⟩;simp only[f',if_neg hk];show RX ((t,some w)::(t1,some v1)::zz (ts.map (·.2)) (vs.map (·.2))) (r++((t1,some v1)::zz ((ts.map λkv=>if kv.1=q then(kv.1,t)else kv).map (·.2)) ((vs.map λkv=>if kv.1=q then(kv.1,w)else kv).map (·.2))));exact(Oq _ _ _).trans ((p.cons _).trans h_.symm)
 have ha:(vs.any λkv=>decide (kv.1=q))=false:=by rw[N5];intro z;obtain⟨kv,h1,h2⟩:=ND.mp z;exact hm (s_.mpr ⟨kv,h1,of_decide_eq_true h2⟩)
 have hb:(ts.any λkv=>decide (kv.1=q))=false:=by rw[N5];intro z;obtain⟨kv,h1,h2⟩:=ND.mp z;exact hm (by rw[<-e];exact s_.mpr ⟨kv,h1,of_decide_eq_true h2⟩)
 unfold oz putK;rw[ha,hb];refine⟨[],?_⟩;simp only[MZ,if_false,NJ];rw[m_,m_,mH (by rw[a_,a_];exact gD e)];exact(Nh (l₁:=[(t,some w)]))
end
def G7:T->T->T->(T->Prop)->Prop
 | .lst true ts,.int i,v,k=>got (ixN ts.length i) λj=>k (.lst true (ts.set j v))
 | .dK true al,y,v,k=>got (vn y) λq=>al.length<sizeLine/\k (.dK true (oz al q v))
 | .dT true al,.tup ks,v,k=>got (AY ks) λq=>al.length<sizeLine/\k (.dT true (oz al q v))
 | _,_,_,_=>False
section
variable{X:Cx}{κ:Nat->Bool}{pos:Pos}
theorem Dm{h:SJ}{al:List (List Key×V)}(ok:HOk P w H h)(e:H a=some (.dT al)):(al.map (·.1)).Nodup:=by
 obtain⟨z,y,xs,r,o,es,ep,h1,h2,h3,h4,h5⟩:=ok a _ e;have:al.map (·.1)=xs.map (·.1):=by
  clear h4 h5 h1 z e;induction r with
  |nil=>rfl
  |cons q _ ih=>rw[f',f',ih,q.1]
 rw[this];exact h5
theorem BI{h:SJ}{al:List (Key×V)}(ok:HOk P w H h)(e:H a=some (.dK al)):(al.map (·.1)).Nodup:=by
 obtain⟨z,y,vs,r,o,es,ep,h1,h2,h3,h4,h5,h6⟩:=ok a _ e;have:al.map (·.1)=vs.map (·.1):=by
  clear h6 h5 h4 h1 z e;induction r with
  |nil=>rfl
  |cons q _ ih=>rw[f',f',ih,q.1]
 rw[this];exact h6
theorem CT:∀{ts:List T}{vs:List V}{j:Nat}{t:T}{w:V},ts.length=vs.length->j<ts.length->∃r,((t,some w)::zz ts vs).Perm (r::zz (ts.set j t) (vs.set j w))
 | [],vs,j,t,w,l,h=>by cases h
 |a::ts,[],j,t,w,l,h=>by cases l
 |a::ts,b::vs,0,t,w,l,h=>⟨(a,some b),.swap _ _ _⟩
 |a::ts,b::vs,j+1,t,w,l,h=>by obtain⟨r,p⟩:=CT (ts:=ts) (vs:=vs) (j:=j) (t:=t) (w:=w) (by simpa using l) (by simpa using h);exact⟨r,(Oq _ _ _).trans ((p.cons _).trans (.swap _ _ _))⟩
theorem KA(hr:Room kr X.A):yQ X (λo i v H Q=>∃t ti tv Γ k,Rp X.K H ((t,some o)::(ti,some i)::(tv,some v)::Γ)/\G7 t ti tv k/\∀t' H',k t'->Rp X.K H' ((t',some o)::Γ)->Q H'):=by
 rintro ac s σ H o i v ov iv u Q I ro ri rv ⟨t,ti,tv,Γ,k,rp,g,c⟩;cases t with
 |lst own ts=>
  cases own <;> cases ti <;> first|exact SQ g|skip
  rename_i j;obtain⟨m,em,kt⟩:=aJ g;rw[b7 rp.tail]at ri;obtain⟨a,vs,ea,ha,la,cr⟩:=kq rp;cases ea;have hm:m<ts.length:=by have:=(vz em).2.1;exact this
  rw[la]at em;refine AN ac s σ H _ _ v ov iv u Q I ro ri rv ⟨a,vs,j,m,rfl,rfl,ha,em,λH' hp=>c _ _ kt ?_⟩;obtain⟨r,p⟩:=CT (t:=tv) (w:=v) la hm;have dL:Rp X.K H ((.bare,some (.ref a))::(zz ts vs++((tv,some v)::Γ))):=by
   have:Rp X.K H ((.int j,some i)::((.bare,some (.ref a))::(zz ts vs++((tv,some v)::Γ)))):=cr.perm (by refine E_ (.cons _ h_) ?_;exact .swap _ _ _)
   exact this.tail
  have rp4:Rp X.K H (r::((.bare,some (.ref a))::(zz (ts.set m tv) (vs.set m v)++Γ))):=dL.perm (by refine E_ (.cons _ (h_.trans (p.append_right Γ))) ?_;exact .swap _ _ _)
  exact jB rp4.tail (by rw[Nf,Nf,la]) hp
 |dK own al=>
  cases own <;> first|exact SQ g|skip
  have g:got (vn ti) λq=>al.length<sizeLine/\k (.dK true (oz al q tv)):=by cases ti <;> exact g
  obtain⟨q,eq,hz,kt⟩:=aJ g;rw[v7 eq rp.tail]at ri;obtain⟨a,vs,ea,ha,la,cr⟩:=qX rp;cases ea;cases ro;have hl:vs.length<sizeLine:=by rw[<-gD la];exact hz
  refine oO (rV hr) I (.inl ⟨vs,q,ha,rfl,hl,rfl⟩) ri rv λs' I'=>⟨_,I',c _ _ kt ?_⟩;obtain⟨r,p⟩:=uC q tv v la (BI I.hok ha);have dL:Rp X.K H ((.bare,some (.ref a))::(zz (al.map (·.2)) (vs.map (·.2))++((tv,some v)::Γ))):=by
   have:Rp X.K H ((ti,some i)::((.bare,some (.ref a))::(zz (al.map (·.2)) (vs.map (·.2))++((tv,some v)::Γ)))):=cr.perm (by refine E_ (.cons _ h_) ?_;exact .swap _ _ _)
   exact this.tail
  have rp4:Rp X.K H (r++((.bare,some (.ref a))::(zz ((oz al q tv).map (·.2)) ((putK vs q v).map (·.2))++Γ))):=dL.perm (by refine E_ (.cons _ (h_.trans (p.append_right Γ))) ?_;rw[g_];exact h_.symm)
  exact tW rp4.part (xM q tv v la) Put.up
 |dT own al=>
  cases own <;> cases ti <;> first|exact SQ g|skip
  rename_i ks;obtain⟨q,eq,hz,kt⟩:=aJ g;obtain⟨b,rfl,hb⟩:=Ad eq rp.tail;obtain⟨a,vs,ea,ha,la,cr⟩:=Ee rp;cases ea;cases ro;have hl:vs.length<sizeLine:=by rw[<-gD la];exact hz
  refine oO (rV hr) I (.inr ⟨vs,q,b,ha,rfl,hb,hl,rfl⟩) ri rv λs' I'=>⟨_,I',c _ _ kt ?_⟩;obtain⟨r,p⟩:=uC q tv v la (Dm I.hok ha);have dL:Rp X.K H ((.bare,some (.ref a))::(zz (al.map (·.2)) (vs.map (·.2))++((tv,some v)::Γ))):=by
   have:Rp X.K H ((.tup ks,some (.ref b))::((.bare,some (.ref a))::(zz (al.map (·.2)) (vs.map (·.2))++((tv,some v)::Γ)))):=cr.perm (by refine E_ (.cons _ h_) ?_;exact .swap _ _ _)
   exact this.tail
  have rp4:Rp X.K H (r++((.bare,some (.ref a))::(zz ((oz al q tv).map (·.2)) ((putK vs q v).map (·.2))++Γ))):=dL.perm (by refine E_ (.cons _ (h_.trans (p.append_right Γ))) ?_;rw[g_];exact h_.symm)
  exact Br rp4.part (xM q tv v la) Put.up
 | _=>cases ti <;> exact SQ g
def Hc(i:Nat)(fi:PF):PG':=λv env k=>got (env[i]?) λt0=>isAny t0=false/\fi env λti ad=>got (ad[i]?) λt=>G7 t ti v λt'=>k (ad.set i t')
theorem HW{x:Str}{ix:SK}{fi:PF}(hr:Room kr X.A)(hi:GE X ix fi)(hN:X.N[i]?=some x:=by rfl)(hv:Vis X.env.scope x:=by first|exact b_ rfl|exact d_ (b_ rfl)|exact d_ (d_ rfl))(hd:(x ==("__debug__":Str))=false:=by decide)(hcd:(x ==("__classdict__":Str))=false:=by decide)
  (ha:∀v,UU (.Subscript (.Name x xp) ix pos) X.env v=(do
   let ov <-U2 [v] (Ta (.Name x xp) X.env)
   let iv <-U2 [v,ov] (Ta ix X.env)
   Xz pos
   U2 [v,ov,iv] (Xy ov iv v)
   release [v,ov,iv] []):=by intro _;rfl):GG κ X (.Subscript (.Name x xp) ix pos) (Hc i fi):=by
 rintro ac s σ H v u Q I r ⟨tv,env,Fr,k,rs,q,c⟩;obtain⟨t0,e0,na,q⟩:=aJ q;obtain⟨y,ey,rs2⟩:=rs.slot e0;obtain⟨w,rfl⟩:=jA rs2 na;refine DX (kO hN hv hd hcd) hi (KA hr) ha ac s σ H v u Q I r ⟨w,ey,env,(tv,some v)::Fr,_,rs,q,λti ad iv H1 q1 f8=>?_⟩;obtain⟨t,et,q1⟩:=aJ q1;obtain⟨y',ey',rs3⟩:=f8.slot et;rw[ey]at ey';cases ey';have hi':i<ad.length:=(gV.mp et).1;refine⟨t,ti,tv,(ad.set i .any).zip σ++Fr,_,?_,q1,λt' H' kt rp=>c _ _ _ kt ?_ .refl⟩
 ·refine rs3.head.perm (.cons _ ?_);refine E_ h_ (.cons _ ?_);exact h_
 have r4:Rs X.K H' (ad.set i .any) σ ((t',some w)::Fr):=.of rs3.1 rp;have r5:=Rs.sg (i:=i) r4 (by rw[Nf];exact hi') ey;rw[QI]at r5;exact r5
end
open PySem PySem.Spec PyProof.Rows L2
class Th (α:Type) where
 v:α
noncomputable def LO(P:FP)(ts:List T)[k:Th (T->List T->Prop)]:Prop:=P ts k.v
def kY(b:Bool)[A:Th Prop][B:Th Prop]:Prop:=cnd b A.v B.v
def gK(o:Option α)[k:Th (α->Prop)]:Prop:=got o k.v
def Dq(fr:List (Option Nat))(ap:List T)(g:PG')(ft:PB)(fe:PF)(env:Ev)[k:Th (T->Ev->Prop)]:Prop:=Hr fr ap g ft fe env k.v
theorem br{u:α}{k:Th (α->Prop)}:gK (some u) (k:=k)=k.v u:=rfl
theorem b8{o:Option α}{u:α}{k:Th (α->Prop)}(e:o=some u)(h:k.v u):gK o (k:=k):=HB e h
variable {A B:Th Prop}
theorem bZ:kY true (A:=A) (B:=B)=A.v:=propext ⟨λh=>h.1 rfl,λh=>Gy h⟩
theorem aY:kY false (A:=A) (B:=B)=B.v:=propext ⟨λh=>h.2 rfl,λh=>GB h⟩
theorem eL:kY (!b) (A:=A) (B:=B)=kY b (A:=B) (B:=A):=by cases b <;> simp only[Pp,Qb,bZ,aY]
theorem iX(h1:b=true->A.v)(h2:b=false->B.v):kY b (A:=A) (B:=B):=⟨h1,h2⟩
theorem cg{p:Prop}{d:Decidable p}(h1:p->A.v)(h2:¬p->B.v):kY (decide p) (A:=A) (B:=B):=⟨λh=>h1 (of_decide_eq_true h),λh=>h2 (of_decide_eq_false h)⟩
theorem lH(e:b=true)(h:A.v):kY b (A:=A) (B:=B):=by rw[e];exact Gy h
theorem vA(e:b=false)(h:B.v):kY b (A:=A) (B:=B):=by rw[e];exact GB h
variable {gt:PG'}{ko:Option Int->Ev->Prop}
section
variable{f g:PF}{env:Ev}{k:T->Ev->Prop}{kb:Bool->Ev->Prop}{tc td:PB}{pe:PEn}{u v:PSt}{fs:PFs}{fa:PAs}{ks:List T->Ev->Prop}{ka:List Arg->Ev->Prop}
theorem i9:fQ f env k=f (erL env) λt _=>eY t=true/\k t env:=rfl
theorem gx:fQT tc env kb=tc (erL env) λb _=>kb b env:=rfl
theorem il:fK t env k=k t env:=rfl
theorem dC:FL i env k=gK (env[i]?) (k:=⟨λt=>isAny t=false/\aW t=true/\k t env⟩):=by unfold FL;cases env[i]? <;> rfl
theorem fT:fFz i env k=gK (env[i]?) (k:=⟨λt=>isAny t=false/\k (er t) (env.set i (er t))⟩):=by unfold fFz;cases env[i]? <;> rfl
theorem gd:fMv i env k=gK (env[i]?) (k:=⟨λt=>isAny t=false/\k t (env.set i .any)⟩):=by unfold fMv;cases env[i]? <;> rfl
theorem eC{p:P2}:Bk p f g env k=f env λx ad=>g ad λy bi=>p x y λt=>k t bi:=rfl
theorem gq{p:T->(T->Prop)->Prop}:fUn p f env k=f env λt ad=>p t λu=>k u ad:=rfl
noncomputable def asB(t:T)[k:Th (Bool->Prop)]:Prop:=match t with
 | .bl b=>k.v b
 | _=>False
theorem fA{k:Th (Bool->Prop)}:asB (.bl b) (k:=k)=k.v b:=rfl
theorem dP:F4 f env kb=f env λt ad=>asB t (k:=⟨λb=>kb b ad⟩):=rfl
theorem dY:KS f env kb=f env λt ad=>J2 t λb=>kb b ad:=rfl
theorem bG{p q:P2}{h:PF}:vZ p q f g h env k=f env λx ad=>g ad λy bi=>aW y=true/\p x y λz=>asB z (k:=⟨λb=>kY b (A:=⟨h bi λu bn=>q y u λt=>k t bn⟩) (B:=⟨k (.bl false) bi⟩)⟩):=rfl
theorem cn:Hf tc td env kb=tc env λb ad=>kY b (A:=⟨td ad kb⟩) (B:=⟨kb false ad⟩):=rfl
theorem dB:KJ tc td env kb=tc env λb ad=>kY b (A:=⟨kb true ad⟩) (B:=⟨td ad kb⟩):=rfl
theorem cM:GP tc env kb=tc env λb ad=>kb (!b) ad:=rfl
theorem dR:K8 f g env k=f env λt ad=>asB t (k:=⟨λb=>kY b (A:=⟨g ad k⟩) (B:=⟨k (.bl false) ad⟩)⟩):=rfl
theorem d6:Kn f env k=f env λt ad=>asB t (k:=⟨λb=>k (.bl (!b)) ad⟩):=rfl
theorem fW:fIf tc f g env k=tc env λb ad=>kY b (A:=⟨f ad k⟩) (B:=⟨g ad k⟩):=rfl
theorem dD:IP env ks=ks [] env:=rfl
theorem cK:Ho f fs env ks=f env λt ad=>fs ad λts bi=>ks (t::ts) bi:=rfl
theorem dS:K9 fs env k=fs env λts ad=>ts.length<=sizeLine/\k (.tup ts) ad:=rfl
theorem eS:Ko fs env k=fs env λts ad=>ts.length<=sizeLine/\k (.lst true ts) ad:=rfl
theorem fx{p:P1s}:fCl p fs env k=fs env λts ad=>p ts λt=>k t ad:=rfl
theorem dm:Mc env ka=ka [] env:=rfl
theorem dM:Kb f fa env ka=f env λt ad=>fa ad λas bi=>ka (.val t::as) bi:=rfl
theorem eG:Jj i fa env ka=gK (env[i]?) (k:=⟨λt=>isAny t=false/\fa env λas bi=>ka (.bor i::as) bi⟩):=by
 unfold Jj;cases env[i]? with
 |none=>exact propext ⟨λh=>h.1,λh=>h.elim⟩
 |some t=>rfl
theorem ed{n:Nat}{P:FP}:Ia n P fa env k=fa env λas ad=>as.length=n/\LO P (lend as ad).1 (k:=⟨λt ts'=>k t (back as ts' (lend as ad).2)⟩):=rfl
theorem cL:wK fr fi gt ft fe env k=fi env λap ad=>Dq fr ap gt ft fe ad (k:=⟨k⟩):=rfl
theorem cz{m:PM}:Ac i m fs env k=gK (env[i]?) (k:=⟨λt0=>isL t0=true/\fs env λts ad=>gK (ad[i]?) (k:=⟨λt=>m t ts λt' r=>k r (ad.set i t')⟩)⟩):=rfl
theorem fC{fl fh:PO'}:fSl f fl fh env k=f env λt ad=>fl ad λlo bi=>fh bi λhi bn=>slT t lo hi λu=>k u bn:=rfl
theorem d5:Lf env ko=ko none env:=rfl
noncomputable def asI(t:T)[k:Th (Int->Prop)]:Prop:=match t with
 | .int b=>k.v b
 | _=>False
theorem dE{b:Int}{k:Th (Int->Prop)}:asI (.int b) (k:=k)=k.v b:=rfl
theorem dq:M1 f env ko=f env λt ad=>asI t (k:=⟨λi=>ko (some i) ad⟩):=rfl
theorem cQ:Hd pe env=pe.nx env:=rfl
theorem e7:Kh u v pe env=u {pe with nx:=v pe} env:=rfl
theorem cD:H0 f pe env=f env λ_ ad=>pe.nx ad:=rfl
theorem eP:Kq f pe env=f env λt ad=>pe.rt t ad:=rfl
theorem fE:sIf tc u v pe env=tc env λb ad=>kY b (A:=⟨u pe ad⟩) (B:=⟨v pe ad⟩):=rfl
theorem de:EC i f pe env=f env λt ad=>pe.nx (ad.set i t):=rfl
theorem dh:Lc f gt pe env=f env λt ad=>gt t ad pe.nx:=rfl
noncomputable def asP(ts:List T)(k:T->T->Prop):Prop:=match ts with
 | [t,u]=>k t u
 | _=>False
theorem fO{u:T}{k:T->T->Prop}:asP [t,u] k=k t u:=rfl
theorem dk{j:Nat}:KI i j fs pe env=fs env λts ad=>asP ts λt u=>pe.nx ((ad.set i t).set j u):=rfl
theorem dX:KH fi gt u pe env=fi env λap ad=>forL ap gt u pe ad:=rfl
variable{t:T}{ke:Ev->Prop}{ts:List T}{gt:PG'}{gts:oK}
theorem ik:gN i t env ke=ke (env.set i t):=rfl
theorem eM:Hb [] env ke=ke env:=propext ⟨λh=>h.2,λh=>⟨rfl,h⟩⟩
theorem cG:CK gt gts (t::ts) env ke=gt t env λad=>gts ts ad ke:=rfl
theorem eI{n:Nat}:gTp n gts (.tup ts) env ke=(ts.length=n/\gts ts env ke):=rfl
theorem cI{fi:PF}:Hc i fi t env ke=gK (env[i]?) (k:=⟨λt0=>isAny t0=false/\fi env λti ad=>gK (ad[i]?) (k:=⟨λt1=>G7 t1 ti t λt'=>ke (ad.set i t')⟩)⟩):=rfl
variable{ki:List T->Ev->Prop}
theorem dJ:Mb f env ki=f env λt ad=>gK (items t) (k:=⟨λts=>ki (erL ts) ad⟩):=rfl
noncomputable def as1(ts:List T)(k:Int->Prop):Prop:=match ts with
 | [.int j]=>k j
 | _=>False
noncomputable def as2(ts:List T)(k:Int->Int->Prop):Prop:=match ts with
 | [.int i,.int j]=>k i j
 | _=>False
theorem gp{j:Int}{k:Int->Prop}:as1 [.int j] k=k j:=rfl
theorem fR{i j:Int}{k:Int->Int->Prop}:as2 [.int i,.int j] k=k i j:=rfl
theorem fN:iR1 fs env ki=fs env λts ad=>as1 ts λj=>(-(2 ^ 62)<=j/\j<2 ^ 62)/\ki (pV 0 j.toNat) ad:=rfl
theorem gu:iR2 fs env ki=fs env λts ad=>as2 ts λi j=>(-(2 ^ 62)<=i/\i<2 ^ 62/\-(2 ^ 62)<=j/\j<2 ^ 62)/\ki (pV i (j-i).toNat) ad:=rfl
theorem fD:iZp fs env ki=fs env λts ad=>asP ts λt u=>gK (items t) (k:=⟨λas=>gK (items u) (k:=⟨λbs=>ki (((erL as).zip (erL bs)).map λp=>.tup [p.1,p.2]) ad⟩)⟩):=rfl
noncomputable def asO(ts:List T)(k:T->Prop):Prop:=match ts with
 | [t]=>k t
 | _=>False
theorem gm{t:T}{k:T->Prop}:asO [t] k=k t:=rfl
theorem fU:iEn fs env ki=fs env λts ad=>asO ts λt=>gK (items t) (k:=⟨λas=>ki ((B' as.length).zipWith (λ(i:Nat) (x:T)=>T.tup [.int (i:Int),x]) (erL as)) ad⟩):=rfl
end
variable {al:List (Key×T)}
section
variable{k:T->Prop}{i j l:Int}{x y:Str}{ts us:List T}{o o' b c:Bool}{t:T}
theorem dZ:Jq (.int i) (.int j) k=k (.int (i+j)):=rfl
theorem dH:Jq (.lst o ts) (.lst o' us) k=(ts.length+us.length<=sizeLine/\k (.lst true (ts++us))):=rfl
theorem eh:Ll (.int i) (.int j) k=k (.int (i-j)):=rfl
theorem dU:M7 (.int i) (.int j) k=(yb i j/\k (.int (i*j))):=rfl
theorem eR:Ly (.int i) (.int j) k=(EL i j/\k (.int (i/j))):=rfl
theorem dI:K4 (.int i) (.int j) k=(0<j/\k (.int (i%j))):=rfl
theorem gj:ltT (.int i) (.int j) k=k (.bl (decide (i<j))):=rfl
theorem gn:leT (.int i) (.int j) k=k (.bl (decide (i<=j))):=rfl
theorem fJ:gtT (.int i) (.int j) k=k (.bl (decide (j<i))):=rfl
theorem fG:LD (.int i) k=k (.int (-i)):=rfl
noncomputable def iT(ns:List Int):T:=.tup (ns.map T.int)
theorem eQ:L6 t .non k=(isV t=true/\k (.bl (nL t))):=by cases t <;> rfl
theorem cJ:Hi t .non k=(isV t=true/\k (.bl (!nL t))):=by cases t <;> rfl
theorem df:ixT (.tup ts) (.int i) k=gK (atI ts i) (k:=⟨k⟩):=rfl
theorem d8:ixT (.cst ts) (.int i) k=gK (atI ts i) (k:=⟨k⟩):=rfl
theorem dg:ixT (.lst o ts) (.int i) k=gK (atI ts i) (k:=⟨k⟩):=rfl
theorem dN:ixT (.dK o al) (.int i) k=gK (pW al (.inl i)) (k:=⟨k⟩):=rfl
theorem i8(a:α)(l:List α):atI (a::l) 0=some a:=qC (j:=0) rfl
theorem i6(a b:α)(l:List α):atI (a::b::l) 1=some b:=qC (j:=1) rfl
theorem cq:CB [.lst o ts] k=k (.int ts.length):=rfl
theorem cH:CB [.tup ts] k=k (.int ts.length):=rfl
theorem cR:CB [.cst ts] k=k (.int ts.length):=rfl
theorem fY:Lb [.int i] k=k (.int i.natAbs):=rfl
theorem fP:FW [.int i,.int j] k=k (.int (max i j)):=rfl
theorem fI:G3 [.int i,.int j] k=k (.int (min i j)):=rfl
theorem fM:FW [.lst o ts] k=gK (intsOf ts) (k:=⟨λns=>ns≠[]/\∀r,uj ns r->k (.int r)⟩):=rfl
theorem gy:G3 [.lst o ts] k=gK (intsOf ts) (k:=⟨λns=>ns≠[]/\∀r,tI ns r->k (.int r)⟩):=rfl
theorem fF:IW [.lst o ts] k=gK (boolsOf ts) (k:=⟨λbs=>k (.bl (bs.all id))⟩):=rfl
theorem gh:Je [.lst o ts] k=gK (boolsOf ts) (k:=⟨λbs=>k (.bl (bs.any id))⟩):=rfl
theorem fq:M4 (.lst o ts) k=k (.lst true ts.reverse):=rfl
theorem i7{lo hi:Option Int}:slT (.lst o ts) lo hi k=k (.lst true (kG ts lo hi)):=rfl
theorem fB{kb:Bool->Prop}:J2 (.bl b) kb=kb b:=rfl
variable{km:T->T->Prop}
theorem aS:uX (.lst true ts) [t] km=(ts.length<sizeLine/\km (.lst true (ts++[t])) .non):=rfl
theorem aR:vv (.lst true ts) [.lst true us] km=(ts.length+us.length<=sizeLine/\km (.lst true (ts++us)) .non):=rfl
theorem aO:sC (.lst true ts) [] km=km (.lst true ts.reverse) .non:=rfl
theorem cF:G7 (.dK true al) (.int i) t k=(al.length<sizeLine/\k (.dK true (oz al (.inl i) t))):=rfl
end
theorem aU(g:α->T)(l:List α):aZ (l.map g)=l.all λx=>aW (g x):=by rw[iS,Ou];rfl
theorem aM(g:α->T)(l:List α):d0 (l.map g)=l.all λx=>eY (g x):=by rw[jw,Ou];rfl
theorem aT(l m:List T):aZ (l++m)=(aZ l&&aZ m):=by rw[iS,iS,iS,RM]
theorem bg(l m:List T):d0 (l++m)=(d0 l&&d0 m):=by rw[jw,jw,jw,RM]
theorem cV(l:List α):(l.all λ_=>true)=true:=by induction l with|nil=>rfl|cons _ _ ih=>rw[Rf,ih];rfl
theorem cu:isAny (.bl b)=false:=rfl
theorem bA{i:Int}:isAny (.int i)=false:=rfl
theorem d7{i:Int}:isV (.int i)=true:=rfl
theorem bQ{i:Int}:nL (.int i)=false:=rfl
theorem iF:isAny (.ty n)=false:=rfl
theorem bE:isAny (.tup ts)=false:=rfl
theorem dy:isV (.tup ts)=true:=rfl
theorem bD:nL (.tup ts)=false:=rfl
theorem ba:isAny (.cst ts)=false:=rfl
theorem bP:isAny (.lst o ts)=false:=rfl
theorem d9:isV (.lst o ts)=true:=rfl
theorem bc:nL (.lst o ts)=false:=rfl
theorem cO:isAny (.dK o al)=false:=rfl
theorem eE:isL (.lst o ts)=true:=rfl
theorem bL:items (.tup ts)=some ts:=rfl
theorem bz:items (.lst o ts)=some ts:=rfl
variable {ap:List T}
theorem iM{g:PG'}{fb:PSt}{pe:PEn}(W:Nat->Ev->Prop)(h0:W 0 env)(ht:∀i t env,W i env->ap[i]?=some t->g t env λbi=>fb {pe with nx:=W (i+1),ct:=W (i+1),bk:=pe.nx} bi)(he:∀env,W ap.length env->pe.nx env):forL ap g fb pe env:=⟨W,h0,ht,he⟩
theorem aP{g:PG'}{k:Th (T->Ev->Prop)}(hz:ap.length<sizeLine)(W:Nat->List T->Ev->Prop)(h0:W 0 [] (lend (frA fr) env).1)(ht:∀i t acc ie,W i acc ie->ap[i]?=some t->g t ie λie2=>ft ie2 λb ie3=>kY b (A:=⟨fe ie3 λu ie4=>W (i+1) (acc++[u]) ie4⟩) (B:=⟨W (i+1) acc ie3⟩))
  (he:∀acc ie,W ap.length acc ie->k.v (.lst true acc) (back (frA fr) ie (lend (frA fr) env).2)):Dq fr ap g ft fe env (k:=k):=⟨hz,W,h0,ht,he⟩
noncomputable def vM(F:T->List T)(ap:List T)(i:Nat):List T:=(ap.take i).flatMap F
theorem Bl{F:T->List T}(ei:ap[i]?=some t):vM F ap (i+1)=vM F ap i++F t:=by unfold vM;rw[List.take_succ,ei,NI];show _++List.flatMap F [t]=_;rw[Pn]
theorem FQ{g:PG'}{k:Th (T->Ev->Prop)}(F:T->List T)(Ok:Ev->Prop)(hz:ap.length<sizeLine)(h0:Ok (lend (frA fr) env).1)
  (ht:∀i t ie,ap[i]?=some t->Ok ie->g t ie λie2=>ft ie2 λb ie3=>kY b (A:=⟨fe ie3 λu ie4=>vM F ap i++[u]=vM F ap (i+1)/\Ok ie4⟩) (B:=⟨vM F ap i=vM F ap (i+1)/\Ok ie3⟩))
  (he:∀ie,Ok ie->k.v (.lst true (ap.flatMap F)) (back (frA fr) ie (lend (frA fr) env).2)):Dq fr ap g ft fe env (k:=k):=by
 refine⟨hz,λi acc ie=>acc=vM F ap i/\Ok ie,⟨rfl,h0⟩,?_,?_⟩
 ·rintro i t acc ie ⟨rfl,ok⟩ ei;exact ht i t ie ei ok
 rintro acc ie ⟨rfl,ok⟩;unfold vM;rw[z_];exact he ie ok
noncomputable def sq(b:Bool)(ts:List T):T:=match b with
 |true=>.tup ts
 |false=>.lst false ts
abbrev pt(x y:Int):T:=.tup [.int x,.int y]
end PL
namespace L2
open PySem PySem.Spec PyProof.Rows
section
variable{X:Cx}
abbrev rF(K:Sm)(H:Hp):List V->List (List Int)->Prop:=Vx λv k=>k≠[]/\∃b,v=.ref b/\SqT K H b (k.map V.int)
theorem xf{ac:List (Sn×Obj)}{σ:St}{H:Hp}{s:So}(I:Inv X ac σ H s):∀{ys:List V}{ap:List Sl}{ks:List (List Int)},Vals ys ap->rF X.K H ys ks->(∀v∈ap,ZS.Em s.heap v/\∃b,v=.ref b/\ZS.oq s.heap v≠[]/\SqT X.K H b ((ZS.oq s.heap v).map V.int))/\ap.map (ZS.oq s.heap)=ks:=by
 intro ys ap ks x;induction x generalizing ks with
 |nil=>intro r;cases r;exact⟨λv hv=>(nomatch hv),rfl⟩
 | @cons v _ _ ap hv tv ih=>
  intro r;rcases r with _|⟨hk,tk⟩;rename_i k ks;obtain⟨io,b,rfl,hb⟩:=hk;cases hv;obtain⟨j1,j2⟩:=ih tk;obtain⟨its',r',⟨o,ho,hc,n,hd⟩,hz⟩:=I.tuple hb;obtain⟨ps,e1,e2⟩:=gL r';have kv:ZS.oq s.heap (.ref b)=k:=by
   rw[ZS.uO ho hd];show its'.map ZS.sI=k;rw[e1,H_,<-e2]
   rfl
  refine⟨λw hw=>?_,by rw[f',kv,j2]⟩;rcases n_.mp hw with e|e
  ·subst e;refine⟨⟨b,o,_,n,rfl,ho,hc,hd,λv hv=>?_,?_⟩,b,rfl,by rw[kv];exact io,by rw[kv];exact hb⟩
   ·have hv:v∈its':=hv;rw[e1]at hv;obtain⟨p,_,e⟩:=s_.mp hv;exact⟨p.1,p.2,e.symm⟩
   rw[j',e1,a_,<-a_ (f:=(·.1)),e2];exact Rh.mpr io
  exact j1 w e
theorem B6:∀{ys:List V}{us:List Sl}{u:Sl}{b:Sn},Vals ys us->u∈us->u=.ref b->V.ref b∈ys:=by
 intro ys us u b x;induction x with
 |nil=>intro h _;cases h
 | @cons y _ _ _ r t ih=>
  intro h e;rcases n_.mp h with z|h
  ·subst z;subst e;have:y=.ref b:=RelV.inj r (show RelV (.ref b) (.ref b)from rfl);rw[this];exact lm
  exact t_ _ (ih h e)
theorem vd:d3 X (.builtin "sorted") (λxs H Q=>∃p ys ks,xs=[.ref p]/\SqL X.K H p ys/\rF X.K H ys ks/\∀zs ls,rF X.K H zs ls->(∀v∈zs,v∈ys)->ls.Perm ks->ls.Pairwise (λx y=>ZS.ltL y x=false)->New (.lst zs) H Q):=by
 intro ac s σ H xs us Q I r h;obtain⟨p,ys,ks,rfl,hq,hr,q⟩:=h;obtain⟨u,rfl,ru⟩:=vals1 r;cases ru;obtain⟨ap,rv,pl,hz⟩:=I.list hq;have hlen:=rv.length;obtain⟨f1,f2⟩:=xf I rv hr;refine ZS.yD (kd:=XN true) (rk:=λx=>ZS.rnk ZS.ltL ks (ZS.oq s.heap x.1)) (S:=λx=>x.1∈ap) pl.isList (by lia) (λv hv=>hv) (λh' kp {Q}{E} io q=>ZS.xv (h0:=s.heap) (λv hv=>(f1 v hv).1) (λb o e _=>kp b o e) io q)
  (λh' E kp=>ZS.xE (h0:=s.heap) (ks:=ks) (λx hx=>⟨(f1 _ hx).1,by rw[<-f2];exact P_ hx⟩) λb o e _=>kp b o e) λo a c h' op os ha kp e=>?_
 have mem:∀v∈o,v∈ap:=λv hv=>op.mem_iff.mp hv;have mk:∀(l:List Sl),(∀v∈l,v∈ap)->∃zs,Vals zs l/\rF X.K H zs (l.map (ZS.oq s.heap))/\zs.length=l.length/\∀v∈zs,v∈ys:=by
  intro l;induction l with
  |nil=>exact λ_=>⟨[],.nil,.nil,rfl,λv hv=>(by cases hv)⟩
  |cons v t ih=>
   intro hl;obtain⟨zs,k1,k2,k3,k6⟩:=ih λv hv=>hl v (.tail _ hv);obtain⟨_,b,e,k4,k5⟩:=f1 v (hl v (.head _));refine⟨.ref b::zs,.cons e k1,.cons ⟨k4,b,rfl,k5⟩ k2,by rw[i',i',k3],λw hw=>?_⟩;rcases n_.mp hw with rfl|hw
   ·exact B6 rv (hl v (.head _)) e
   exact k6 w hw
 obtain⟨zs,k1,k2,k3,k6⟩:=mk o mem;refine⟨.ref a,_,I.laid (t':=s.toks) kp ha (show f7 X.prog X.w _ h' _ (.lst zs)from⟨by rw[k3,op.length_eq];lia,o,c,k1,e⟩),rfl,(q zs _ k2 k6 ?_ ?_).at (I.hok.fresh ha)⟩
 ·rw[<-f2];exact op.map _
 rw[Nz];refine QG (λ{x y} hx hy hxy=>?_) os;cases z:ZS.ltL (ZS.oq s.heap y) (ZS.oq s.heap x)
 ·rfl
 have:=ZS.BW ZS.BY (ks:=ks) (by rw[<-f2];exact P_ (mem y hy)) z;exact absurd this (Ra.mpr hxy)
abbrev GU(H:Hp):List V->List (List Int)->Prop:=Vx λv k=>k≠[]/\∃b,v=.ref b/\H b=some (.tup (k.map V.int))
end
end L2
namespace PL
open PySem PySem.Spec PyProof.Rows L2
section
variable{κ:Type}{lt:κ->κ->Bool}
noncomputable def Bb(lt:κ->κ->Bool)(x:κ):List κ->List κ
 | []=>[x]
 |y::r=>if lt y x=true then y::Bb lt x r else x::y::r
def DB(lt:κ->κ->Bool):List κ->List κ
 | []=>[]
 |x::r=>Bb lt x (DB lt r)
theorem ow(x:κ):∀l:List κ,(Bb lt x l).Perm (x::l)
 | []=>.refl _
 |y::r=>by
  rw[Bb];split
  ·exact((ow x r).cons y).trans (.swap _ _ _)
  exact .refl _
theorem uw:∀l:List κ,(DB lt l).Perm l
 | []=>.refl _
 |x::r=>(ow x _).trans ((uw r).cons x)
theorem pD(T:ZS.Tot lt)(x:κ):∀{l:List κ},l.Pairwise (λa b=>lt b a=false)->(Bb lt x l).Pairwise (λa b=>lt b a=false)
 | [],_=>QM _ _
 |y::r,h=>by
  rw[M_]at h;rw[Bb];split
  ·rename_i hy;rw[M_];refine⟨λb hb=>?_,pD T x h.2⟩;rcases n_.mp ((ow x r).mem_iff.mp hb)with rfl|hb
   ·cases z:lt b y
    ·rfl
    have:=T.tr _ _ _ z hy;rw[T.irr]at this;cases this
   exact h.1 b hb
  rename_i hy;have hy:lt y x=false:=N5.mpr hy;rw[M_];refine⟨λb hb=>?_,M_.mpr h⟩;rcases n_.mp hb with rfl|hb
  ·exact hy
  cases z:lt b x
  ·rfl
  have h1:=h.1 b hb;cases w:lt y b
  ·have:=T.tot _ _ h1 w;subst this;rw[z]at hy;cases hy
  have:=T.tr _ _ _ w z;rw[hy]at this;cases this
theorem pP(T:ZS.Tot lt):∀l:List κ,(DB lt l).Pairwise (λa b=>lt b a=false)
 | []=>NH
 |x::r=>pD T x (pP T r)
theorem pT(T:ZS.Tot lt):∀{l m:List κ},l.Perm m->l.Pairwise (λa b=>lt b a=false)->m.Pairwise (λa b=>lt b a=false)->l=m
 | [],m,p,_,_=>(List.Perm.nil_eq p)
 |a::l,[],p,_,_=>(List.Perm.eq_nil p)
 |a::l,b::m,p,h,g=>by
  rw[M_]at h g;have e:a=b:=by
   have ha:a∈b::m:=p.mem_iff.mp lm;have hb:b∈a::l:=p.mem_iff.mpr lm;rcases n_.mp ha with e|ha
   ·exact e
   rcases n_.mp hb with e|hb
   ·exact e.symm
   exact T.tot _ _ (g.1 a ha) (h.1 b hb)
  subst e;rw[pT T (List.Perm.cons_inv p) h.2 g.2]
theorem Ar(T:ZS.Tot lt){l m:List κ}(p:l.Perm m)(h:l.Pairwise (λa b=>lt b a=false)):l=DB lt m:=
 pT T (p.trans (uw m).symm) h (pP T m)
end
abbrev FH(ks:List (List Int)):List (List Int):=DB ZS.ltL ks
def rowOf:T->Option (List Int)
 | .tup ts=>match intsOf ts with
  |some (n::r)=>some (n::r)
  | _=>none
 | _=>none
def rowsOf:List T->Option (List (List Int))
 | []=>some []
 |t::r=>match rowOf t,rowsOf r with
  |some k,some ks=>some (k::ks)
  | _,_=>none
variable {t:T}
theorem DM{k:List Int}(h:rowOf t=some k):t=iT k/\k≠[]:=by
 cases t <;> first|cases h|skip
 rename_i ts;rw[rowOf]at h;split at h
 ·rename_i n r e;cases h;exact⟨by rw[gW e];rfl,by simp⟩
 cases h
theorem Cz{k:List Int}(h:k≠[]):rowOf (iT k)=some k:=by
 cases k with
 |nil=>exact absurd rfl h
 |cons n r=>
  show(match intsOf ((n::r).map T.int)with|some (n::r)=>some (n::r) | _=>none)=_;rw[yR]
theorem oU:∀{ts:List T}{ks:List (List Int)},rowsOf ts=some ks->ts=ks.map iT/\∀k∈ks,k≠[]
 | [],ks,h=>by cases h;exact⟨rfl,λk hk=>by cases hk⟩
 |t::ts,ks,h=>by
  rw[rowsOf]at h;split at h
  ·rename_i k r e1 e2;cases h;obtain⟨h1,h2⟩:=DM e1;obtain⟨h3,h4⟩:=oU e2;refine⟨by rw[h1,h3];rfl,λq hq=>?_⟩;rcases n_.mp hq with rfl|hq
   ·exact h2
   exact h4 q hq
  cases h
theorem qT{ks:List (List Int)}(h:∀k∈ks,k≠[]):rowsOf (ks.map iT)=some ks:=by
 induction ks with
 |nil=>rfl
 |cons k r ih=>
  rw[f',rowsOf,Cz (h k lm),ih λq hq=>h q (t_ _ hq)]
theorem xO{α:Type}(g:α->T)(f:α->List Int)(h:∀x,g x=iT (f x))(n:∀x,f x≠[])(l:List α):rowsOf (l.map g)=some (l.map f):=by
 have:l.map g=(l.map f).map iT:=by rw[H_];exact Ni λx _=>h x
 rw[this];exact qT λk hk=>by obtain⟨x,_,rfl⟩:=s_.mp hk;exact n x
variable {H:Hp}{K:Sm}
section
variable{X:Cx}
theorem rT{K:Sm}{H:Hp}{Γ:Fm}:∀{ks:List (List Int)}{vs:List V},(∀k∈ks,k≠[])->(ks.map iT).length=vs.length->Rp K H (zz (ks.map iT) vs++Γ)->rF K H vs ks/\∀v∈vs,∃(b:Sn) (k:List Int),v=.ref b/\H b=some (.tup (k.map V.int))
 | [],[],_,_,_=>⟨.nil,λv hv=>by cases hv⟩
 | [],_::_,_,l,_=>by cases l
 | _::_,[],_,l,_=>by cases l
 |k::ks,v::vs,n,l,h=>by
  have h:Rp K H ((iT k,some v)::(zz (ks.map iT) vs++Γ)):=h;obtain⟨a,us,rfl,ha,la,h2⟩:=qp h;have eu:=iB la h2;subst eu;obtain⟨r1,r2⟩:=rT (λq hq=>n q (t_ _ hq)) (by simpa using l) h.tail;refine⟨.cons ⟨n k lm,a,rfl,SqT.of ha⟩ r1,λw hw=>?_⟩;rcases n_.mp hw with rfl|hw
  ·exact⟨a,k,rfl,ha⟩
  exact r2 w hw
theorem rS{K:Sm}{H:Hp}{Γ:Fm}:∀{ks:List (List Int)}{vs:List V},GU H vs ks->Rp K H Γ->Rp K H (zz (ks.map iT) vs++Γ)/\(ks.map iT).length=vs.length
 | [],_,r,h=>by cases r;exact⟨h,rfl⟩
 |k::ks,_,r,h=>by rcases r with _|⟨hd,t⟩;rename_i v vs;obtain⟨_,b,e,hb⟩:=hd;obtain⟨h1,l1⟩:=rS t h;subst e;refine⟨?_,by simp at l1 ⊢;exact l1⟩;show Rp K H ((iT k,some (.ref b))::(zz (ks.map iT) vs++Γ));exact jj (ts:=k.map T.int) (vs:=k.map V.int) (rp_intsP k h1) (by rw[a_,a_]) .gQ hb
where
 rp_intsP {Γ:Fm}:∀(ns:List Int),Rp K H Γ->Rp K H (zz (ns.map T.int) (ns.map V.int)++Γ)
 | [],h=>h
 | _::r,h=>fk (rp_intsP r h) λ_=>.int
theorem zZ:∀{zs:List V}{ls:List (List Int)},(∀v∈zs,∀b,v=.ref b->∀xs,SqT K H b xs->H b=some (.tup xs))->rF K H zs ls->GU H zs ls:=by
 intro zs ls h r;induction r with
 |nil=>exact .nil
 |cons hk t ih=>
  obtain⟨n,b,e,hb⟩:=hk;exact .cons ⟨n,b,e,h _ lm b e _ hb⟩ (ih λv hv=>h v (t_ _ hv))
end
variable {n:Nat}
section
variable{b:Bool}{ts us:List T}{k:T->Prop}{i:Int}{t u:T}{env:Ev}{ke:T->Ev->Prop}
theorem gP(lo:Int)(n:Nat):(pV lo n).length=n:=by rw[pV,a_,MX]
theorem kU{lo:Int}{i:Nat}{t:T}(h:(pV lo n)[i]?=some t):i<n:=by have:=(gV.mp h).1;rwa[gP]at this
theorem vg{lo:Int}{i:Nat}{t:T}(h:(pV lo n)[i]?=some t):t=.int (lo+(i:Int)):=by
 have hi:=kU h;rw[pV,u_,N8 hi]at h;cases h
 rfl
theorem cU{α:Type}{g:α->T}{l:List α}{i:Nat}{t:T}(h:(l.map g)[i]?=some t):∃x,l[i]?=some x/\t=g x:=by
 rw[u_]at h;cases e:l[i]? with
 |none=>rw[e]at h;cases h
 |some x=>rw[e]at h;cases h;exact⟨x,rfl,rfl⟩
end
noncomputable def LK(f g:PSt):PSt:=λpe env=>∃W:Ev->Prop,f {pe with nx:=W} env/\∀e,W e->g pe e
theorem iP{X:Cx}{κ:Nat->Bool}{st:S5}{rest:List S5}{f g:PSt}(h1:GS κ X st f)(h2:GSs κ X rest g):GSs κ X (st::rest) (LK f g):=by refine PSs.imp (fm h1 h2) ?_;rintro D σ H ⟨env,Fr,pe,rs,⟨W,q,w⟩,c⟩;refine⟨env,Fr,_,rs,q,⟨λbe cl H' q1 f8 k1=>⟨be,Fr,pe,f8,w _ q1,c.later k1⟩,c.rt,c.bk,c.ct⟩⟩
variable {env:Ev}
theorem kg{f g:PSt}{pe:PEn}(W:Ev->Prop)(h1:f {pe with nx:=W} env)(h2:∀e,W e->g pe e):LK f g pe env:=⟨W,h1,h2⟩
theorem DG:∀(as bs:List T) (xs ys:List V) (n0:Nat) (Γ:Fm),as.length=xs.length->bs.length=ys.length->xs.length=ys.length->Rp K H (zz as xs++(zz bs ys++Γ))->(∀j x y,xs[j]?=some x->ys[j]?=some y->H (n0+j)=some (.tup [x,y]))->
  Rp K H (zz ((as.zip bs).map λp=>T.tup [p.1,p.2]) ((OR n0 xs.length).map V.ref)++Γ):=by
 intro as;induction as with
 |nil=>
  intro bs xs ys n0 Γ l1 l2 l3 rp _;cases xs with
  |nil=>
   cases ys with
   |nil=>
    cases bs with
    |nil=>exact rp
    |cons b bs=>cases l2
   |cons y ys=>cases l3
  |cons x xs=>cases l1
 |cons a as ih=>
  intro bs xs ys n0 Γ l1 l2 l3 rp h;cases xs with
  |nil=>cases l1
  |cons x xs=>
   cases ys with
   |nil=>cases l3
   |cons y ys=>
    cases bs with
    |nil=>cases l2
    |cons b bs=>
     have rp1:Rp K H ((a,some x)::(zz as xs++((b,some y)::(zz bs ys++Γ)))):=rp;have cr:Rp K H ((a,some x)::(b,some y)::(zz as xs++(zz bs ys++Γ))):=rp1.perm (.cons _ h_);have e0:=h 0 x y rfl rfl;have dL:Rp K H ((.tup [a,b],some (.ref n0))::(zz as xs++(zz bs ys++Γ))):=jj (ts:=[a,b]) (vs:=[x,y]) cr rfl (λ_ _ q=>q) e0;have rp4:Rp K H (zz as xs++(zz bs ys++((.tup [a,b],some (.ref n0))::Γ))):=dL.perm (by rw[<-g_,<-g_];exact h_.symm)
     have rp5:=ih bs xs ys (n0+1) _ (NQ l1) (NQ l2) (NQ l3) rp4 λj x' y' hx hy=>by have:=h (j+1) x' y' hx hy;rw[Rt];exact this
     exact rp5.perm (by rw[i',List.range'_succ];exact h_)
section
variable{X:Cx}{a b:SK}{fr:PFs}{p1 p2 pos1 li:Pos}
def lz2:P1s:=λts k=>match ts with
 | [t,u]=>got (items t) λas=>got (items u) λbs=>as.length=bs.length/\k (.lst true (((erL as).zip (erL bs)).map λp=>T.tup [p.1,p.2]))
 | _=>False
theorem fZ{u:T}{k:T->Prop}:lz2 [t,u] k=gK (items t) (k:=⟨λas=>gK (items u) (k:=⟨λbs=>as.length=bs.length/\k (.lst true (((erL as).zip (erL bs)).map λp=>T.tup [p.1,p.2]))⟩)⟩):=rfl
def fLZ(fr:PFs):PF:=fCl lz2 fr
theorem gf{k:T->Ev->Prop}:fLZ fr env k=fr env λts ad=>lz2 ts λt=>k t ad:=rfl
theorem yM(hc:X.calm=true)(hg1:Gl X "list")(hm1:X.mg "list"=none)(hg2:Gl X "zip")(hm2:X.mg "zip"=none)(ha:GA X [a,b] fr)
  (hs:SO [a,b] X.env=[(false,Ta a X.env),(false,Ta b X.env)]:=by rfl) (hs1:SO [b] X.env=[(false,Ta b X.env)]:=by rfl)
  (hs2:SO [.Call (.Name "zip" p2) [a,b] [] li] X.env=[(false,Ta (.Call (.Name "zip" p2) [a,b] [] li) X.env)]:=by rfl) :
  GE X (.Call (.Name "list" p1) [.Call (.Name "zip" p2) [a,b] [] li] [] pos1) (fLZ fr):=by
 rintro ac s σ H Q I ⟨env,Fr,k,rs,q,c⟩;refine T7 (j9 I hg1 hm1 boot_list (callWith_type1 ?_ (by rw[hs2];rfl) rfl));rw[hs2];refine UW ?_;refine T7 (j9 I hg2 hm2 boot_zip (callWith_type1 ?_ (by rw[hs,hs1]) (by rw[hs1];rfl)));refine thn (ha li ac s σ H (λvs H1=>∃ts ad,(lz2 ts λt=>k t ad)/\ts.length=vs.length/\Rs X.K H1 ad σ (zz ts vs++Fr)) I ⟨env,Fr,_,rs,q,λts ad vs H1 q1 l f8=>⟨ts,ad,q1,l,f8⟩⟩) λus s1 ⟨vs,H1,I1,r1,ts,ad,q1,l,f8⟩=>?_;rcases ts with _|⟨t,_|⟨u,_|⟨t3,ts⟩⟩⟩
 ·exact q1.elim
 ·exact q1.elim
 ·obtain⟨v,w,rfl⟩:=zz2 l rfl;obtain⟨as,ea,q2⟩:=aJ q1;obtain⟨bs,eb,el,kt⟩:=aJ q2;have f8:Rs X.K H1 ad σ ((t,some v)::(u,some w)::Fr):=f8;have r2:Rs X.K H1 ad σ ((er t,some v)::(u,some w)::Fr):=.of f8.1 (mM f8.head);have r3:Rs X.K H1 ad σ ((er u,some w)::(er t,some v)::Fr):=.of f8.1 (mM (r2.perm (.swap _ _ _)).head);have r4:=r3.perm (.swap _ _ _);obtain⟨e1,_⟩:=jr ea;obtain⟨e2,_⟩:=jr eb;have rA:Rp X.K H1 ((er t,some v)::(er u,some w)::(ad.zip σ++Fr)):=r4.head.perm (.cons _ h_);obtain⟨a',xs,rfl,hq1,m1,rB⟩:=aE e1 rA;have rC:Rp X.K H1 ((er u,some w)::(zz (erL as) xs++(ad.zip σ++Fr))):=rB.perm h_;obtain⟨b',ys,rfl,hq2,m2,rD⟩:=aE e2 rC;have rE:Rp X.K H1 (zz (erL as) xs++(zz (erL bs) ys++(ad.zip σ++Fr))):=rD.perm (by simpa only[g_]using(Nh (l₁:=zz (erL bs) ys) (l₂:=zz (erL as) xs)).append_right (ad.zip σ++Fr));cases r1 with
  |cons r rr=>
   cases rr with
   |cons r' rr=>
    cases rr;cases r;cases r';have el2:xs.length=ys.length:=by rw[<-m1,<-m2,iL,iL,el]
    refine thn (t6 I1 hc hq1 hq2 el2 λS n0 H' hS off sm e h=>c _ _ _ _ kt (.of f8.1 ?_)) λv s2 hv=>WZ hv
    let J:Hp:=λb=>if b=S then none else H' b
    have s1:d4 H1 J:=λb o q=>by
     have hb:b≠S:=λz=>by rw[z,hS]at q;cases q
     show(if b=S then none else H' b)=_;rw[if_neg hb];exact sm _ _ q
    have s2:d4 J H':=λb o q=>by
     by_cases hb:b=S
     ·have q:(if b=S then none else H' b)=some o:=q;rw[if_pos hb]at q;cases q
     have q:(if b=S then none else H' b)=some o:=q;rw[if_neg hb]at q;exact q
    have hJ:∀j x y,xs[j]?=some x->ys[j]?=some y->J (n0+j)=some (.tup [x,y]):=λj x y hx hy=>by show(if n0+j=S then none else H' (n0+j))=_;rw[if_neg (off j)];exact h j x y hx hy
    refine l4 (DG _ _ _ _ n0 _ m1 m2 el2 (rE.same s1) hJ) ?_ (show(if S=S then none else H' S)=none from if_pos rfl) s2 e;rw[a_,a_,QO,Ro,m1,m2,el2,QC]
 exact q1.elim
end
section
variable{X:Cx}
noncomputable def Gw:P2
 | .bl a,.bl b,k=>k (.bl (a != b))
 | _,_,_=>False
theorem cE{a b:Bool}{k:T->Prop}:Gw (.bl a) (.bl b) k=k (.bl (a != b)):=rfl
theorem FA:OpR X (S8 .IsNot) (λx y H Q=>∃a b,x=.bl a/\y=.bl b/\Q (.bl (a != b)) H):=by intro ac s σ H x y v u Q I rx ry h;obtain⟨a,b,rfl,rfl,q⟩:=h;cases rx;cases ry;exact isnot_bool (yd I q rfl)
theorem CJ:OpP X (S8 .IsNot) Gw:=.of FA λtx ty x y H Γ k Q rp g c=>by
 cases tx <;> cases ty <;> first|exact SQ g|skip
 exact⟨_,_,kD rp.tail,kD rp,c _ _ _ g (fk rp.tail.tail λ_=>.bl)⟩
end
variable {ts:List T}
section
variable{X:Cx}{κ:Nat->Bool}{es:List SK}{pos:Pos}{gs:oK}
theorem ng{prog:SD}{w:SI}{A:SW}{E:Sl->So->Prop}{s:So}{env:Env}{elts:List SK}{x1}{pos:Pos}{l:Sn}{items:Array Sl}{Q:Unit->So->Prop}(hh:A.handled=none)(hl:s.heap.IsList l items)
  (hn:(Tv elts env).length=items.size) (hstar:(Tv elts env).findIdx? (·.1)=none)
  (h:∀h',Vv s.heap.objs.size s.heap h'->Sw (SG prog w) A (VE ((Tv elts env).map (·.2)) items.toList) Q E {s with heap:=h'}) :
  Sw (SG prog w) A (UU (.Tuple elts x1 pos) env (.ref l)) Q E s:=by
 rw[assign_Tuple];refine Sj (Uz ?_);unfold unpack;rw[hn,hstar];exact Sj (SY (PySem.W.kun_itemsOf hh hl h))
theorem IJ{k:Nat}{t:TGs}(hc:X.calm=true)(h:PGs X es t)
  (hn:(Tv es X.env).length=n:=by rfl) (hst:(Tv es X.env).findIdx? (·.1)=none:=by rfl):PG X (.Tuple es k pos) (λv σ H Q=>∃a xs,v=.ref a/\SqL X.K H a xs/\xs.length=n/\t xs σ H Q):=by
 intro ac s σ H v u Q I r hw;obtain⟨a,xs,e1,hq,hl,hw⟩:=hw;subst e1;cases r;obtain⟨ap,rv,ht,hz⟩:=I.list hq;refine ng (I.ok.hd hc) ht.isList (by simp[hn,<-hl,rv.length]) hst λh' hx=>?_
 have I1:L2.Inv X ac σ H {s with heap:=h'}:=I.kept (t':=s.toks) λb o e=>hx b o (j_ (Sx e)) e;exact h ac _ σ H xs _ Q I1 (by simpa using rv) hw
noncomputable def gTq(n:Nat)(f:oK):PG':=λt env k=>match t with
 | .tup ts=>ts.length=n/\f ts env k
 | .cst ts=>ts.length=n/\f ts env k
 | .lst _ ts=>ts.length=n/\f ts env k
 | _=>False
theorem du{k:Ev->Prop}:gTq n gs (.tup ts) env k=(ts.length=n/\gs ts env k):=rfl
theorem eA{o:Bool}{k:Ev->Prop}:gTq n gs (.lst o ts) env k=(ts.length=n/\gs ts env k):=rfl
theorem A4{x1:Nat}(hc:X.calm=true)(h:GGs κ X es gs)(hn:(Tv es X.env).length=n:=by rfl)(hst:(Tv es X.env).findIdx? (·.1)=none:=by rfl):GG κ X (.Tuple es x1 pos) (gTq n gs):=by
 rintro ac s σ H v u Q I r ⟨t,env,Fr,k,rs,q,c⟩;cases t with
 |tup ts=>exact eZ hc h hn hst ac s σ H v u Q I r ⟨.tup ts,env,Fr,k,rs,q,c⟩
 |cst ts=>exact eZ hc h hn hst ac s σ H v u Q I r ⟨.cst ts,env,Fr,k,rs,q,c⟩
 |lst o ts=>
  obtain⟨a,vs,rfl,hq,l,rp⟩:=aE rfl rs.head;refine IJ hc h hn hst ac s σ H _ u Q I r ⟨a,vs,rfl,hq,by rw[<-l];exact q.1,ts,env,Fr,k,l,⟨rs.1,?_⟩,q.2,c⟩;exact rp.perm (w_ _ _ _)
 | _=>exact SQ q
end
def keyOf(t:T):Option (List Int):=match t with
 | .tup ts=>intsOf ts
 | .cst ts=>intsOf ts
 | _=>none
def keysOf:List T->Option (List (List Int))
 | []=>some []
 |t::r=>match keyOf t,keysOf r with
  |some k,some ks=>some (k::ks)
  | _,_=>none
def LB:P1s:=λts k=>match ts with
 | [t]=>got (items t) λus=>got (keysOf us) λks=>us≠[]/\∀(i:Nat) u m,us[i]?=some u->ks[i]?=some m->(∀n∈ks,ZM.lx n m=false)->k u
 | _=>False
def KO:P1s:=λts k=>match ts with
 | [t]=>got (items t) λus=>got (keysOf us) λks=>us≠[]/\∀(i:Nat) u m,us[i]?=some u->ks[i]?=some m->(∀n∈ks,ZM.lx m n=false)->k u
 | _=>False
theorem dW{k:T->Prop}:LB [t] k=gK (items t) (k:=⟨λus=>gK (keysOf us) (k:=⟨λks=>us≠[]/\∀(i:Nat) u m,us[i]?=some u->ks[i]?=some m->(∀n∈ks,ZM.lx n m=false)->k u⟩)⟩):=rfl
theorem dc{k:T->Prop}:KO [t] k=gK (items t) (k:=⟨λus=>gK (keysOf us) (k:=⟨λks=>us≠[]/\∀(i:Nat) u m,us[i]?=some u->ks[i]?=some m->(∀n∈ks,ZM.lx m n=false)->k u⟩)⟩):=rfl
theorem tX:∀{us:List T}{vs:List V}{ks:List (List Int)}{Γ:Fm},keysOf us=some ks->us.length=vs.length->Rp K H (zz us vs++Γ)->∃ps:List Sn,vs=ps.map V.ref/\ks.length=ps.length/\∀(i:Nat) (p:Sn) (n:List Int),ps[i]?=some p->ks[i]?=some n->SqT K H p (n.map V.int):=by
 intro us;induction us with
 |nil=>
  intro vs ks Γ e l rp;cases e;cases vs with
  |nil=>exact⟨[],rfl,rfl,λi p n h=>by cases h⟩
  |cons v vs=>cases l
 |cons t us ih=>
  intro vs ks Γ e l rp;cases vs with
  |nil=>cases l
  |cons v vs=>
   rw[keysOf]at e;cases h1:keyOf t with
   |none=>rw[h1]at e;cases e
   |some k=>
    cases h2:keysOf us with
    |none=>rw[h1,h2]at e;cases e
    |some ks'=>
     rw[h1,h2]at e;cases e;have rp:Rp K H ((t,some v)::(zz us vs++Γ)):=rp;obtain⟨ps,rfl,e2,e3⟩:=ih h2 (NQ l) rp.tail;obtain⟨ts,et,ei,ep⟩:∃ts,items t=some ts/\intsOf ts=some k/\jQ t=true:=by cases t <;> first|exact⟨_,rfl,h1,rfl⟩|cases h1
     obtain⟨a,ws,rfl,hq,l2,cr⟩:=aE et rp;have:=gW ei;subst this;have:=iB l2 cr;subst this;rw[ep]at hq;refine⟨a::ps,rfl,by rw[i',i',e2],λi p n hp hn=>?_⟩;cases i with
     |zero=>cases hp;cases hn;exact hq
     |succ i=>exact e3 i p n hp hn
section
variable{X:Cx}
theorem Bj{k:Nat}(hr:Room k X.A)(hc:X.calm=true):j4 X (.builtin "min") LB:=by
 rintro ac s σ H xs us Q I r ⟨ts,Γ,k,l,rp,g,c⟩;rcases ts with _|⟨t,_|⟨t2,ts⟩⟩
 ·exact g.elim
 ·obtain⟨x,rfl⟩:=zz1 l rfl;have rp:Rp X.K H ((t,some x)::Γ):=rp;obtain⟨us',e,g⟩:=aJ g;obtain⟨ks,ek,ne,kt⟩:=aJ g;obtain⟨a,vs,rfl,hq,l2,cr⟩:=aE e rp;obtain⟨ps,rfl,e2,e3⟩:=tX ek l2 cr;refine yT hr hc ac s σ H _ us Q I r ⟨_,a,ps,ks,rfl,hq,λz=>ne (I_ (by rw[l2,z];rfl)),e2,e3,λi p m hp hm hb=>?_⟩;obtain⟨u,hu⟩:∃u,us'[i]?=some u:=⟨_,f_ (by rw[l2,a_];exact(gV.mp hp).1)⟩;obtain⟨rest,pm⟩:=qx hu (show(ps.map V.ref)[i]?=some (.ref p) by rw[u_,hp];rfl);have dL:Rp X.K H ((u,some (.ref p))::(rest++Γ)):=cr.perm (pm.append_right Γ);exact c _ _ _ (kt i u m hu hm hb) ((dL.perm (h_ (l₁:=rest)).symm).part)
 exact g.elim
theorem AS{k:Nat}(hr:Room k X.A)(hc:X.calm=true):j4 X (.builtin "max") KO:=by
 rintro ac s σ H xs us Q I r ⟨ts,Γ,k,l,rp,g,c⟩;rcases ts with _|⟨t,_|⟨t2,ts⟩⟩
 ·exact g.elim
 ·obtain⟨x,rfl⟩:=zz1 l rfl;have rp:Rp X.K H ((t,some x)::Γ):=rp;obtain⟨us',e,g⟩:=aJ g;obtain⟨ks,ek,ne,kt⟩:=aJ g;obtain⟨a,vs,rfl,hq,l2,cr⟩:=aE e rp;obtain⟨ps,rfl,e2,e3⟩:=tX ek l2 cr;refine yP hr hc ac s σ H _ us Q I r ⟨_,a,ps,ks,rfl,hq,λz=>ne (I_ (by rw[l2,z];rfl)),e2,e3,λi p m hp hm hb=>?_⟩;obtain⟨u,hu⟩:∃u,us'[i]?=some u:=⟨_,f_ (by rw[l2,a_];exact(gV.mp hp).1)⟩;obtain⟨rest,pm⟩:=qx hu (show(ps.map V.ref)[i]?=some (.ref p) by rw[u_,hp];rfl);have dL:Rp X.K H ((u,some (.ref p))::(rest++Γ)):=cr.perm (pm.append_right Γ);exact c _ _ _ (kt i u m hu hm hb) ((dL.perm (h_ (l₁:=rest)).symm).part)
 exact g.elim
end
end PL
namespace L2
open PySem PySem.Spec PyProof.Rows
section
variable{X:Cx}
theorem t5:d3 X (.builtin "sorted") (λxs H Q=>∃p ys ks,xs=[.ref p]/\SqL X.K H p ys/\rF X.K H ys ks/\ks.Pairwise (λx y=>ZS.ltL y x=false)/\New (.lst ys) H Q):=by
 intro ac s σ H xs us Q I r h;obtain⟨p,ys,ks,rfl,hq,hr,ho,q⟩:=h;obtain⟨u,rfl,ru⟩:=vals1 r;cases ru;obtain⟨ap,rv,pl,hz⟩:=I.list hq;have hlen:=rv.length;obtain⟨f1,f2⟩:=xf I rv hr;refine ZS.De (kd:=XN true) (rk:=λx=>ZS.rnk ZS.ltL ks (ZS.oq s.heap x.1)) (S:=λx=>x.1∈ap) pl.isList (by lia) (λv hv=>hv) ?_ (λh' kp {Q}{E} io q=>ZS.xv (h0:=s.heap) (λv hv=>(f1 v hv).1) (λb o e _=>kp b o e) io q)
  (λh' E kp=>ZS.xE (h0:=s.heap) (ks:=ks) (λx hx=>⟨(f1 _ hx).1,by rw[<-f2];exact P_ hx⟩) λb o e _=>kp b o e) λa c h' ha kp e=>?_
 ·rw[<-f2,Nz]at ho;exact ho.imp λ{x y} h=>ZS.Cj ZS.BY h
 exact⟨.ref a,_,I.laid (t':=s.toks) kp ha (show f7 X.prog X.w _ h' _ (.lst ys)from⟨hz,ap,c,rv,e⟩),rfl,q.at (I.hok.fresh ha)⟩
end
end L2
namespace PL
open PySem L2
def sk:P1s
 | [.lst _ ts],k=>got (rowsOf ts) λks=>ks.Pairwise (λx y=>ZS.ltL y x=false)/\k (.lst true (ks.map iT))
 | _,_=>False
section
variable{X:Cx}
theorem sW:j4 X (.builtin "sorted") sk:=by
 rintro ac s σ H xs us Q I r ⟨ts,Γ,k,l,rp,g,c⟩;unfold sk at g;split at g
 ·rename_i k o ts;obtain⟨x,rfl⟩:=zz1 l rfl;have rp:Rp X.K H ((.lst o ts,some x)::Γ):=rp;obtain⟨a,vs,rfl,hq,l2,cr⟩:=lK rp;obtain⟨ks,ek,ho,kt⟩:=aJ g;obtain⟨et,ne⟩:=oU ek;subst et;obtain⟨rv,ex⟩:=rT ne l2 cr;refine t5 ac s σ H _ us Q I r ⟨a,vs,ks,rfl,.inl hq,rv,ho,λp H' hp g' e'=>c _ _ _ kt ?_⟩;have rH:=zZ (λv hv b eb xs hs=>by obtain⟨b',k',e1,e2⟩:=ex v hv;rw[eb]at e1;cases e1;rw[e2,I.lN hs (SqT.of e2)]) rv
  obtain⟨dL,l3⟩:=rS rH rp.tail;exact l4 dL l3 hp g' e'
 exact SQ g
end
end PL
namespace L2
open PySem PySem.Spec PyProof.Rows
section
variable{X:Cx}
theorem Be(hc:X.calm=true):d3 X (.builtin "sum") (λxs H Q=>∃(a:Sn) (ns:List Int),xs=[.ref a]/\SqL X.K H a (ns.map V.int)/\Q (.int ns.sum) H):=by
 intro ac s σ H xs us Q I r h;obtain⟨a,ns,rfl,hq,q⟩:=h;obtain⟨u,rfl,ru⟩:=vals1 r;cases ru;obtain⟨ap,rv,p,z⟩:=I.list hq;obtain⟨ps,e1,e2⟩:=gL rv;subst e1;have hl:s.heap.IsList a (Tj ps.toArray):=by
  have e:Tj ps.toArray=(ps.map λp=>US p.1 p.2).toArray:=by simp[Tj]
  rw[e];exact p.isList
 have hlen:ps.length=ns.length:=by rw[<-e2];simp
 have k:∀i,i<=ns.length->preSum (Uw ps.toArray) i=(ns.take i).sum:=λi=>by
  induction i with
  |zero=>exact λ_=>rfl
  |succ i ih=>
   intro hi;show preSum (Uw ps.toArray) i+Uw ps.toArray i=_;rw[ih (by lia),hU e2 hi,NN,f_ hi,List.sum_append_int];simp
 refine sum_intListG (I.ok.hd hc) hl λh' tk t' hk=>?_;rw[j',hlen,k _ (e_ _),z_];exact⟨.int _,H,I.kept (t':=tk) hk,⟨t',rfl⟩,q⟩
end
end L2
namespace PL
open PySem L2
def J8:P1s
 | [.lst _ ts],k=>got (intsOf ts) λns=>k (.int ns.sum)
 | _,_=>False
section
variable{X:Cx}
theorem Bp(hc:X.calm=true):j4 X (.builtin "sum") J8:=by
 rintro ac s σ H xs us Q I r ⟨ts,Γ,k,l,rp,g,c⟩;unfold J8 at g;split at g
 ·rename_i k o ts;obtain⟨x,rfl⟩:=zz1 l rfl;have rp:Rp X.K H ((.lst o ts,some x)::Γ):=rp;obtain⟨a,vs,rfl,hq,l2,cr⟩:=lK rp;obtain⟨ns,en,kt⟩:=aJ g;have:=gW en;subst this;have:=iB l2 cr;subst this;exact Be hc ac s σ H _ us Q I r ⟨a,ns,rfl,.inl hq,c _ _ _ kt (fk rp.tail λ_=>.int)⟩
 exact SQ g
end
theorem fu{o:Bool}{ts:List T}{k:T->Prop}:J8 [.lst o ts] k=gK (intsOf ts) (k:=⟨λns=>k (.int ns.sum)⟩):=rfl
open PySem PySem.Spec PyProof.Rows L2
noncomputable def Kf:PSt:=λ_ _=>False
section
variable{X:Cx}{pos:Pos}{e:SK}{es:List SK}{fe:PF}{fr:PFs}{m:PM}{name:Str}{id:String}{apos ld spos xp yp kp vp p1 pos1:Pos}{x:Str}{κ:Nat->Bool}{kn:Nat}
theorem qf{st:S5}:GS κ X st Kf:=by rintro ac s σ H D I ⟨env,Fr,pe,rs,q,c⟩;exact q.elim
end
open PySem PySem.Spec PyProof.Rows L2
def vk:P1s
 | [.lst _ ts],k=>got (rowsOf ts) λks=>k (.lst true ((FH ks).map iT))
 | _,_=>False
theorem mC{X:Cx}:j4 X (.builtin "sorted") vk:=by
 rintro ac s σ H xs us Q I r ⟨ts,Γ,k,l,rp,g,c⟩;unfold vk at g;split at g
 ·rename_i k o ts;obtain⟨x,rfl⟩:=zz1 l rfl;have rp:Rp X.K H ((.lst o ts,some x)::Γ):=rp;obtain⟨a,vs,rfl,hq,l2,cr⟩:=lK rp;obtain⟨ks,ek,kt⟩:=aJ g;obtain⟨et,ne⟩:=oU ek;subst et;obtain⟨rv,ex⟩:=rT ne l2 cr;refine vd ac s σ H _ us Q I r ⟨a,vs,ks,rfl,.inl hq,rv,λzs ls rz mem pm sm p H' hp g' e'=>c _ _ _ kt ?_⟩;have es:ls=FH ks:=Ar ZS.BY pm sm;rw[<-es];have rH:=zZ (λv hv b eb xs hs=>by obtain⟨b',k',e1,e2⟩:=ex v (mem v hv);rw[eb]at e1;cases e1;rw[e2,I.lN hs (SqT.of e2)]) rz
  obtain⟨dL,l3⟩:=rS rH rp.tail;exact l4 dL l3 hp g' e'
 exact SQ g
open PySem PySem.Spec PyProof.Rows L2
def HZ(t u:T):Option Bool:=match t with
 | .int i=>match u with
  | .int j=>some (decide (i=j))
  | _=>none
 | .str i=>match u with
  | .str j=>some (decide (i=j))
  | _=>none
 | .bl i=>match u with
  | .bl j=>some (i == j)
  | _=>none
 | _=>(items t).bind λts=>(items u).bind λus=>(intsOf ts).bind λa=>(intsOf us).bind λb=>if jQ t=jQ u then some (decide (a=b))else none
def eqS:P2:=λt u k=>got (HZ t u) λb=>k (.bl b)
def neS:P2:=λt u k=>got (HZ t u) λb=>k (.bl (!b))
theorem Dp{K:Sm}{H:Hp}{Γ:Fm}{t u:T}{x y:V}{b:Bool}(rp:Rp K H ((u,some y)::(t,some x)::Γ))(e:HZ t u=some b):EqS K H x y b:=by
 have seq:∀{t:T},Rp K H ((u,some y)::(t,some x)::Γ)->((items t).bind λts=>(items u).bind λus=>(intsOf ts).bind λa=>(intsOf us).bind λb=>if jQ t=jQ u then some (decide (a=b))else none)=some b->EqS K H x y b:=by
  intro t rp e;obtain⟨ts,e1,f1⟩:=Ox.mp e;obtain⟨us,e2,f2⟩:=Ox.mp f1;obtain⟨a,e3,f3⟩:=Ox.mp f2;obtain⟨c,e4,f4⟩:=Ox.mp f3;clear e f1 f2 f3;have e5:=gW e3;have e6:=gW e4;subst e5 e6;by_cases h:jQ t=jQ u
  ·rw[if_pos h]at f4;cases f4;obtain⟨p,xs,rfl,s1,l1,r1⟩:=aE e1 rp.tail;obtain⟨q,ys,rfl,s2,l2,r2⟩:=aE e2 rp;have v1:=iB l1 r1;have v2:=iB l2 r2;subst v1 v2;rw[h]at s1;exact .inr (.inr (.inr ⟨_,p,q,a,c,rfl,rfl,rfl,s1,s2⟩))
  rw[if_neg h]at f4;cases f4
 cases t <;> try exact seq rp e
 ·cases u <;> cases e
  rw[kD rp,kD rp.tail];exact .inr (.inr (.inl ⟨_,_,rfl,rfl,rfl⟩))
 ·cases u <;> cases e
  rw[b7 rp,b7 rp.tail];exact .inl ⟨_,_,rfl,rfl,rfl⟩
 cases u <;> cases e
 rw[jR rp,jR rp.tail];exact .inr (.inl ⟨_,_,rfl,rfl,rfl⟩)
section
variable{X:Cx}
theorem dG{k:Nat}(hr:Room k X.A):OpP X (S8 .Eq) eqS:=.of (DY (Gx hr (n:=0) (by decide))) λtx ty x y H Γ k Q rp g c=>by obtain⟨b,e,g⟩:=aJ g;refine⟨b,Dp rp e,?_⟩;rw[RP];exact c _ _ _ g (fk rp.tail.tail λ_=>.bl)
theorem qr{k:Nat}(hr:Room k X.A):OpP X (S8 .NotEq) neS:=.of (Ji (Gx hr (n:=0) (by decide))) λtx ty x y H Γ k Q rp g c=>by obtain⟨b,e,g⟩:=aJ g;refine⟨b,Dp rp e,?_⟩;rw[RY];exact c _ _ _ g (fk rp.tail.tail λ_=>.bl)
end
section
variable{i j:Int}{x y:Str}{b c:Bool}{k:T->Prop}
theorem gv:eqS (.int i) (.int j) k=k (.bl (decide (i=j))):=rfl
theorem fv:neS (.int i) (.int j) k=k (.bl (!decide (i=j))):=rfl
theorem gw:eqS (.bl b) (.bl c) k=k (.bl (b == c)):=rfl
theorem gc:neS (.bl b) (.bl c) k=k (.bl (!(b == c))):=rfl
theorem IU{a b c d:Int}:eqS (.tup [.int a,.int b]) (.tup [.int c,.int d]) k=k (.bl (decide (a=c/\b=d))):=by show k (.bl (decide ([a,b]=[c,d])))=_;simp only[Nu,and_true]
theorem Hw{a b c d:Int}:neS (.tup [.int a,.int b]) (.tup [.int c,.int d]) k=k (.bl (!decide (a=c/\b=d))):=by show k (.bl (!decide ([a,b]=[c,d])))=_;simp only[Nu,and_true]
end
open PySem PySem.Spec PyProof.Rows L2
def K6:P2:=λx y k=>match y with
 | .dK _ al=>got (vn x) λq=>k (.bl (!(pW al q).isSome))
 | _=>False
variable{X:Cx}
theorem BN{kr:Nat}(hr:Room kr X.A):OpP X (S8 .NotIn) K6:=by
 rintro ac s σ H x y v u Q I rx ry ⟨tx,ty,Γ,k,rp,g,c⟩;cases ty <;> first|exact SQ g|skip
 rename_i o al;obtain⟨q,eq,g⟩:=aJ g;rw[v7 eq rp.tail]at rx;obtain⟨a,vs,rfl,hq,ek,cr⟩:=yl rp;cases ry;rw[tU q ek]at g;exact FY (rV hr) I (.inl ⟨vs,q,hq,rfl,rfl⟩) rx λs' I'=>⟨.bl _,H,I',rfl,c _ _ _ g (fk rp.tail.tail λ_=>.bl)⟩
theorem fS{o:Bool}{x:T}{al:List (Key×T)}{k:T->Prop}:K6 x (.dK o al) k=gK (vn x) (k:=⟨λq=>k (.bl (!(pW al q).isSome))⟩):=rfl
end PL
namespace Mp
open PySem L2
noncomputable def top(i:Nat):S5:=PySem.Challenge.pw_millpath_k16_outlines_moved_and_turned.main.body.getD i (.Pass ⟨0,0,0,0⟩)
abbrev oP:S5:=top 3
abbrev mI:S5:=top 4
abbrev jo:S5:=top 5
abbrev kX:S5:=top 7
abbrev sN:S5:=top 8
abbrev jn:S5:=top 9
abbrev jO:S5:=top 11
abbrev kz:S5:=top 12
abbrev mR:S5:=top 13
abbrev iH:S5:=top 14
abbrev l6:S5:=top 15
abbrev ji:S5:=top 16
abbrev kc:S5:=top 17
abbrev iu:S5:=top 18
abbrev jl:S5:=top 19
abbrev pj:S5:=top 20
abbrev j7:S5:=top 21
abbrev kh:S5:=top 22
abbrev lh:S5:=top 23
abbrev hZ:S5:=top 24
abbrev uH:S5:=top 25
abbrev ox:S5:=top 26
abbrev jN:S5:=top 27
abbrev gS:S5:=top 28
abbrev jK:S5:=top 29
abbrev DC:S5:=top 31
abbrev qU:S5:=top 32
abbrev oJ:S5:=top 33
abbrev qt:S5:=top 34
abbrev vi:S5:=top 35
abbrev s_same:S5:=top 36
abbrev iq:S5:=top 37
abbrev oQ:S5:=top 38
abbrev sh:S5:=top 39
abbrev jm:S5:=top 40
abbrev uY:S5:=top 41
abbrev lj:S5:=top 42
abbrev kL:S5:=top 43
abbrev kW:S5:=top 44
variable {al:List (Key×V)}
theorem xD{k:Key}{v:V}:iG ((k,v)::al) k=some v:=by
 unfold iG;rw[Nn,show(decide ((k,v).1=k))=true from decide_eq_true rfl]
 rfl
theorem tL{k k':Key}{v:V}(h:¬k=k'):iG ((k,v)::al) k'=iG al k':=by unfold iG;rw[Nn,show(decide ((k,v).1=k'))=false from decide_eq_false h]
theorem key_ne:¬((S6 (some ("cells":Str)):Key)=S6 (some ("turn":Str))):=by rfl'
noncomputable def stK(c:Sn)(t:Int):List (Key×V):=[(S6 (some ("cells":Str)),V.ref c),(S6 (some ("turn":Str)),V.int t)]
theorem xq(c:Sn)(t:Int):iG (stK c t) (S6 (some ("cells":Str)))=some (.ref c):=xD
theorem zH(c:Sn)(t:Int):iG (stK c t) (S6 (some ("turn":Str)))=some (.int t):=by unfold stK;rw[tL key_ne];exact xD
theorem HP(c:Sn)(t u:Int):putK (stK c t) (S6 (some ("turn":Str))) (.int u)=stK c u:=by
 have e:((stK c t).any λkv=>decide (kv.1=(S6 (some ("turn":Str)):Key)))=true:=by rw[n9,zH];rfl
 unfold putK;rw[if_pos e];show [(if(S6 (some ("cells":Str)):Key)=S6 (some ("turn":Str))then _ else _),(if(S6 (some ("turn":Str)):Key)=S6 (some ("turn":Str))then _ else _)]=stK c u;rw[if_neg key_ne,if_pos rfl]
 rfl
structure StAt (H:Hp) (st c:Sn) (cs:List Int) (t:Int):Prop where
 d:H st=some (.dK (stK c t))
 l:H c=some (.lst (cs.map V.int))
 pos:0<cs.length
 len:cs.length<=63
variable {H:Hp}{cs:List Int}{st:Sn}
theorem StAt.ne {c:Sn}{t:Int}(S:StAt H st c cs t):st≠c:=Hg S.d S.l (by intro z;cases z)
variable {H':Hp}
theorem StAt.same {c:Sn}{t:Int}(S:StAt H st c cs t)(e:d4 H H'):StAt H' st c cs t:=⟨e _ _ S.d,e _ _ S.l,S.pos,S.len⟩
structure Txt (mg:Str->Option Sl):Prop where
 len:mg "len"=none
 list:mg "list"=none
 divmod:mg "divmod"=none
 isinstance:mg "isinstance"=none
 dict:mg "dict"=none
 tuple:mg "tuple"=none
 str:mg "str"=none
 int:mg "int"=none
 bool:mg "bool"=none
 all:mg "all"=none
 any:mg "any"=none
 zip:mg "zip"=none
 range:mg "range"=none
 max:mg "max"=none
 min:mg "min"=none
 abs:mg "abs"=none
 sum:mg "sum"=none
 sorted:mg "sorted"=none
 enumerate:mg "enumerate"=none
 set:mg "set"=none
 reversed:mg "reversed"=none
def G6(K:Sm):Sp:=λvs H Q _=>∃(a:Sn) (ns:List Int),vs=[.ref a]/\SqL K H a (ns.map V.int)/\ns.length<=63/\∀(st c:Sn) (cs:List Int) (H':Hp),H st=none->H c=none->StAt H' st c cs 0->d4 H H'->Q (.ref st) H'
def JB:Sp:=λvs H Q _=>∃(st c:Sn) (cs:List Int) (t m:Int),vs=[.ref st,.int m]/\StAt H st c cs t/\0<=t/\t<2 ^ 40/\0<m/\m<1073741824/\
 ∀(r:Int) (cs':List Int) (H':Hp),0<=r->r<m->StAt H' st c cs' (t+1)->Kp st c H H'->Q (.int r) H'
variable {fd:SR}
section
variable{P:SD}{w:SI}{K:Sm}{mg:Str->Option Sl}{base:SJ}
theorem scB:FnScope ["_law_script","_law_cells"] ["_law_script"] (ay qt):=⟨rfl,rfl,rfl,by rfl',rfl,by rfl',by rfl'⟩
theorem D4{f:Sn}(F:Fun K "_law_begin" "_law_begin" qt f fd)(T:Txt mg):FnOk P w K mg base CX0 1 f fd ["_law_script"] (G6 K):=by
 refine F.ok scB (λvs H Q E h=>?_) (λcdv A outer s H vs Q E hr h=>?_)
 ·obtain⟨a,ns,rfl,_⟩:=h
  rfl
 obtain⟨a,ns,rfl,hS,h63,q⟩:=h;have sc:=@scB;refine⟨_,(fm (kM (i:=1) sc.nd rfl (b_ rfl) (ur vh (by rfl) T.list (by rfl') (jg (xQ Aa (pv 0) zP (zr gH)) mJ)))
  (fm (CG (uK (DY (Nat.lt_of_succ_lt (rV hr))) (pv 1) (E6 mJ) (aV _)) (nB (kM (i:=1) sc.nd rfl (b_ rfl) (E6 (jg gH mJ)))) vy)
  (nB (vR (F6 (wZ mL (pv 1) (wZ mL gH ER)) rfl rfl (by intro z;cases z) (by decide)))))),?_⟩
 refine⟨_,rfl,_,rfl,a,_,rfl,hS,λp hp=>⟨p,_,rfl,.inl (SqL.of aX),λl hl=>?_⟩⟩;obtain⟨zs,ez,lz⟩:∃zs:List Int,lB (ns.map V.int) none (some 63)=zs.map V.int/\zs.length<=63:=by refine⟨_,by unfold lB;rw[<-N6,<-Of],?_⟩;exact r_ (List.length_take_le' _ _) (r_ (by rw[o_];omega) h63)
 have hp0:H p=none:=hp;have hl0:H l=none:=(eX hp _).none hl;have g1:d4 H (upd (upd H p (.lst (lB (ns.map V.int) none (some 63)))) l (.lst (lB (ns.map V.int) none (some 63)))):=(eX hp _).trans' (eX hl _);refine⟨_,rfl,(by show 0<=sizeLine;decide),λe he=>?_⟩;have hul:∀o,upd (upd (upd H p (.lst (lB (ns.map V.int) none (some 63)))) l (.lst (lB (ns.map V.int) none (some 63)))) e o l=some (.lst (zs.map V.int)):=λo=>by rw[aQ (f6 aX he),aX,ez]
 have he0:H e=none:=g1.none he;have g2:=g1.trans' (eX he (.lst []));refine⟨decide (zs=[]),.inr (.inr (.inr ⟨false,_,_,zs,[],rfl,rfl,rfl,SqL.of (hul _),SqL.of aX⟩)),_,rfl,?_⟩;have fin:∀(c:Sn) (cs:List Int) (H2:Hp),H c=none->d4 H H2->H2 c=some (.lst (cs.map V.int))->0<cs.length->cs.length<=63->∀p,H2 p=none->StAt (upd (upd H2 p (.dK [])) p (.dK (kZ [] [(S6 (some ("cells":Str)),V.ref c),(S6 (some ("turn":Str)),V.int 0)]))) p c cs 0/\d4 H (upd (upd H2 p (.dK [])) p (.dK (kZ [] [(S6 (some ("cells":Str)),V.ref c),(S6 (some ("turn":Str)),V.int 0)]))):=λc cs H2 hc g h1 h2 h3 p hp=>by
  have em:kZ [] [((S6 (some ("cells":Str)):Key),V.ref c),(S6 (some ("turn":Str)),V.int 0)]=stK c 0:=by
   show putK (putK ([]:List (Key×V)) (S6 (some ("cells":Str))) (V.ref c)) (S6 (some ("turn":Str))) (V.int 0)=stK c 0;rw[xJ _ (show iG ([]:List (Key×V)) (S6 (some ("cells":Str)))=none from rfl),NJ,xJ _ (show iG [((S6 (some ("cells":Str)):Key),V.ref c)] (S6 (some ("turn":Str)))=none by rw[tL key_ne];rfl)]
   rfl
  rw[em,El];exact⟨⟨aX,by rw[aQ (f6 h1 hp)];exact h1,h2,h3⟩,g.trans' (eX hp _)⟩
 refine KD (λc=>?_) (λc=>?_)
 ·
  refine⟨(by show 1<=sizeLine;decide),λc7 h7=>?_⟩;have g3:=g2.trans' (eX h7 (.lst [V.int 7]));intro p' hp';obtain⟨S,g4⟩:=fin c7 [7] _ (g2.none h7) g3 aX (by decide) (by decide) p' hp';refine⟨_,rfl,?_,[(S6 (some ("cells":Str)),V.ref c7),(S6 (some ("turn":Str)),V.int 0)],rfl,(by show 2<=15;decide),?_⟩
  ·exact aX
  exact q p' c7 [7] _ (g3.none hp') (g2.none h7) S g4
 have c0:0<zs.length:=by
  cases zs with
  |nil=>exact absurd c (by decide)
  |cons a r=>exact N3 _
 intro p' hp';obtain⟨S,g4⟩:=fin l zs _ hl0 g2 (hul _) c0 lz p' hp';refine⟨_,rfl,?_,[(S6 (some ("cells":Str)),V.ref l),(S6 (some ("turn":Str)),V.int 0)],rfl,(by show 2<=15;decide),?_⟩
 ·exact aX
 exact q p' l zs _ (g2.none hp') hl0 S g4
theorem scT:FnScope ["_law_state","_law_many","_law_turn","_law_place","_law_cell","_law_digit","_law_mixed"] ["_law_state","_law_many"] (ay vi):=⟨rfl,rfl,rfl,by rfl',rfl,by rfl',by rfl'⟩
theorem Ft{f:Sn}(F:Fun K "_law_take" "_law_take" vi f fd)(T:Txt mg):FnOk P w K mg base CX0 1 f fd ["_law_state","_law_many"] JB:=by
 refine F.ok scT (λvs H Q E h=>?_) (λcdv A outer s H vs Q E hr h=>?_)
 ·obtain⟨st,c,cs,t,m,rfl,_⟩:=h
  rfl
 obtain⟨st,c,cs,t,m,rfl,S,ht0,ht,hm0,hm1,q⟩:=h;have sc:=@scT;have hu:=rV hr;refine⟨_,(fm (kM (i:=2) sc.nd rfl (b_ rfl) (hX r6 (qv hu (pv 0) mL (λ_ _=>rfl)) gH))
  (fm (Ei hu (pv 0) mL (pv 2) rfl)
  (fm (kM (i:=3) sc.nd rfl (b_ rfl) (hX mQ (pv 2) (sj nD (by rfl) T.len (by rfl') (jg (qv hu (pv 0) mL (λ_ _=>rfl)) mJ))))
  (fm (kM (i:=4) sc.nd rfl (b_ rfl) (Hm zN (qv hu (pv 0) mL (λ_ _=>rfl)) (pv 3) (λ_ _=>rfl)))
  (fm (CG (uK Lh (pv 4) (hX Jy gH gH) (aV _)) (fm (BF (sj xA (by rfl) T.divmod (by rfl') (jg (pv 4) (jg (pv 1) mJ))) (C6 rfl (sf (DX (qv hu (pv 0) mL (λ_ _=>rfl)) (pv 3) set_list) (sf (zq (i:=5) sc.nd rfl (b_ rfl)) Aq))))
  (nB (vR (pv 5)))) vy)
  (fm (kM (i:=6) sc.nd rfl (b_ rfl) (hX mQ (hX mW (hX r6 (hX r6 (hX mQ (pv 4) gH) (hX mW (hX mW (pv 2) (pv 2)) gH)) gH) gH) gH))
  (fm (kM (i:=6) sc.nd rfl (b_ rfl) (hX mQ (hX mW (pv 6) (pv 6)) gH))
  (nB (vR (hX mQ (hX Ap (hX mQ (hX mW (hX r6 (pv 6) (hX mW (pv 2) gH)) gH) gH) gH) (pv 1))))))))))),?_⟩
 have D0:pA H st (.str ("turn":Str)) (some (.int t)):=by rw[<-zH c t];exact pA.k (k:=S6 (some ("turn":Str))) S.d
 refine⟨_,rfl,st,_,rfl,D0,_,_,rfl,rfl,?_⟩;have hP:B9 H st (.str ("turn":Str)) (.int (t+1)) (upd H st (.dK (stK c (t+1)))):=by rw[<-HP c t (t+1)];exact B9.k (k:=S6 (some ("turn":Str))) S.d (by show 2<sizeLine;decide)
 refine⟨_,rfl,_,rfl,st,_,rfl,hP,?_⟩;have S1:StAt (upd H st (.dK (stK c (t+1)))) st c cs (t+1):=⟨aX,by rw[aQ S.ne.symm];exact S.l,S.pos,S.len⟩;have K1:Kp st c H (upd H st (.dK (stK c (t+1)))):=λb o e n1 n2=>by rw[aQ n1];exact e
 generalize upd H st (.dK (stK c (t+1)))=H1 at S1 K1 ⊢;have D1:pA H1 st (.str ("cells":Str)) (some (.ref c)):=by rw[<-xq c (t+1)];exact pA.k (k:=S6 (some ("cells":Str))) S1.d
 have hl:(cs.map V.int).length=cs.length:=a_ _;have hpos:(0:Int)<(((cs.map V.int).length:Nat):Int):=by rw[hl];have:=S.pos;omega
 refine⟨_,rfl,_,rfl,st,_,rfl,D1,c,_,rfl,.inl (SqL.of S1.l),_,_,rfl,rfl,hpos,?_⟩;have j0:0<=(t+1)%(((cs.map V.int).length:Nat):Int):=PZ _ (by omega);have j1:(t+1)%(((cs.map V.int).length:Nat):Int)<(cs.length:Int):=by have:=O5 (t+1) hpos;rw[hl]at this ⊢;exact this
 obtain⟨v,hat⟩:∃v:Int,atI (cs.map V.int) ((t+1)%(((cs.map V.int).length:Nat):Int))=some (.int v):=⟨_,CC j0 j1⟩;refine⟨_,rfl,st,_,rfl,D1,_,rfl,c,_,_,_,rfl,rfl,SqL.of S1.l,hat,?_⟩;refine⟨_,rfl,_,_,rfl,rfl,⟨by decide,by decide,by decide⟩,_,_,rfl,rfl,_,rfl,?_⟩;refine KD (λhc=>?_) (λhc=>?_)
 ·
  refine⟨_,rfl,_,rfl,_,_,rfl,⟨hm0,hm1⟩,λp hp=>?_⟩;have g:=eX hp (.tup [.int (v/m),.int (v%m)]);have S2:=S1.same g;have D2:pA (upd H1 p (.tup [.int (v/m),.int (v%m)])) st (.str ("cells":Str)) (some (.ref c)):=by rw[<-xq c (t+1)];exact pA.k (k:=S6 (some ("cells":Str))) S2.d
  refine⟨p,_,rfl,SqT.of aX,rfl,_,_,rfl,?_⟩;refine⟨_,rfl,st,_,rfl,D2,_,rfl,c,_,_,((t+1)%(((cs.map V.int).length:Nat):Int)).toNat,rfl,rfl,S2.l,Ao j0 (by rw[hl];rw[hl]at j1;exact j1),?_⟩;refine⟨_,_,rfl,rfl,?_⟩;refine⟨_,rfl,?_⟩;have es:∀j:Nat,(cs.map V.int).set j (.int (v/m))=(cs.set j (v/m)).map V.int:=λj=>by rw[List.map_set]
  refine q (v%m) (cs.set ((t+1)%(((cs.map V.int).length:Nat):Int)).toNat (v/m)) _ (PZ _ (by omega)) (O5 _ hm0) ⟨?_,?_,?_,?_⟩ ?_
  ·rw[aQ S2.ne];exact S2.d
  ·rw[aX,es]
  ·rw[Nf];exact S.pos
  ·rw[Nf];exact S.len
  intro b o e n1 n2;rw[aQ n2];exact g b o (K1 b o e n1 n2)
 
 have mulR:∀(x y:Int),-(2 ^ 64)<y->y<2 ^ 64->yb x y:=λx y h1 h2=>.inr ⟨h1,h2⟩;refine⟨_,rfl,_,_,rfl,rfl,(by show(0:Int)<2147483629;decide),_,rfl,_,rfl,_,_,rfl,rfl,mulR _ _ (by omega) (by omega),_,_,rfl,rfl,mulR _ _ (by decide) (by decide),_,_,rfl,rfl,_,_,rfl,rfl,_,_,rfl,rfl,mulR _ _ (by decide) (by decide),_,_,rfl,rfl,(by show(0:Int)<2147483647;decide),?_⟩;generalize hM:(v%2147483629+(t+1)*(t+1)*7919+11)*48271%2147483647=M;have m0:0<=M:=by rw[<-hM];exact PZ _ (by decide)
 have m1:M<2147483647:=by rw[<-hM];exact O5 _ (by decide)
 refine⟨_,rfl,_,rfl,_,_,rfl,rfl,mulR _ _ (by omega) (by omega),_,_,rfl,rfl,(by show(0:Int)<2147483587;decide),?_⟩;refine⟨_,rfl,_,rfl,_,_,rfl,rfl,mulR _ _ (by decide) (by decide),_,_,rfl,rfl,_,_,rfl,rfl,mulR _ _ (by decide) (by decide),_,_,rfl,rfl,(by show(0:Int)<2147483629;decide),_,_,rfl,rfl,⟨by decide,by decide⟩,_,rfl,_,_,rfl,rfl,hm0,?_⟩;exact q _ cs H1 (PZ _ (by omega)) (O5 _ hm0) S1 K1
end
open PySem L2 PL
structure Cells where
 cs:List Int
 pos:0<cs.length
 len:cs.length<=63
noncomputable def stT(c:Cells)(n:Nat):T:=.dK true [(S6 (some ("cells":Str)),.lst true (c.cs.map T.int)),(S6 (some ("turn":Str)),.int (n:Int))]
theorem eN{c:Cells}{n:Nat}:isAny (stT c n)=false:=rfl
def Scr(K:Sm)(t:T)(ns:List Int):Prop:=t=.lst false (ns.map T.int)\/∃a,t=.hole (.ref a)/\∀H,SqL K H a (ns.map V.int)
def vV(K:Sm):FP:=λts k=>∃t,∃ns:List Int,ts=[t]/\Scr K t ns/\ns.length<=63/\∀c,k (stT c 0) ts
def kj:FP:=λts k=>∃c n m,ts=[stT c n,.int m]/\n<2 ^ 40/\0<m/\m<1073741824/\∀r c',0<=r->r<m->k (.int r) [stT c' (n+1),.int m]
variable {Γ:Fm}{α β:Type}
section
variable{P:SD}{w:SI}{K:Sm}{mg:Str->Option Sl}{base:SJ}
theorem vN{l:List (α×β)}{a b:α}(h:[a,b]=l.map (·.1)):∃v w,l=[(a,v),(b,w)]:=by
 cases l with
 |nil=>cases h
 |cons x l=>
  cases l with
  |nil=>cases h
  |cons y l=>
   cases l with
   |nil=>
    have h1:=(Pq h).1;have h2:=(Pq (Pq h).2).1;exact⟨x.2,y.2,by rw[h1,h2]⟩
   |cons z l=>cases (Pq (Pq h).2).2
theorem x8{a:Sn}{o:HO}(h:H a=some o):Put H a o H:=⟨h,λ_ _=>rfl⟩
theorem Ks{c:Cells}{n:Nat}{v:V}(h:Rp K H ((stT c n,some v)::Γ)):∃st l,v=.ref st/\StAt H st l c.cs n/\Rp K H ((.bare,some (.ref st))::(.bare,some (.ref l))::Γ):=by
 obtain⟨st,al,ev,hs,ek,h2⟩:=qX h;cases ev;obtain⟨v1,v2,rfl⟩:=vN ek;have h2:Rp K H ((.bare,some (.ref st))::(.lst true (c.cs.map T.int),some v1)::(.int (n:Int),some v2)::Γ):=h2;have e2:v2=.int n:=b7 h2.tail.tail;subst e2;have h3:=h2.perm (.swap _ _ _);obtain⟨l,vs,el,hl,ll,h4⟩:=kq h3;cases el;have ev:vs=c.cs.map V.int:=iB ll h4.tail;subst ev;refine⟨st,l,rfl,⟨hs,hl,c.pos,c.len⟩,?_⟩;have h5:Rp K H ((.bare,some (.ref l))::(.bare,some (.ref st))::(.int (n:Int),some (.int n))::Γ):=by have:Rp K H (zz (c.cs.map T.int) (c.cs.map V.int)++((.bare,some (.ref l))::(.bare,some (.ref st))::(.int (n:Int),some (.int n))::Γ)):=h4.perm h_.symm;exact this.part
 exact(h5.perm (by refine E_ (.cons _ (.swap _ _ _)) ?_;refine E_ (.swap _ _ _) ?_;exact .cons _ (.swap _ _ _))).tail
theorem wX{H:Hp}{Γ:Fm}:∀(ns:List Int),Rp K H Γ->Rp K H (zz (ns.map T.int) (ns.map V.int)++Γ)
 | [],h=>h
 |n::r,h=>fk (wX r h) λ_=>.int
theorem Di{n:Nat}{l:Sn}(S:StAt H st l cs n)(h:Rp K H ((.bare,some (.ref st))::(.bare,some (.ref l))::Γ)):∃c,Rp K H ((stT c n,some (.ref st))::Γ):=by
 refine⟨⟨cs,S.pos,S.len⟩,?_⟩;have h1:Rp K H ((.bare,some (.ref l))::(zz (cs.map T.int) (cs.map V.int)++((.bare,some (.ref st))::Γ))):=(wX cs (h.perm (.swap _ _ _))).perm h_;have h2:=jB h1 (by rw[a_,a_]) (x8 S.l);have h3:Rp K H ((.bare,some (.ref st))::((.lst true (cs.map T.int),some (.ref l))::(.int (n:Int),some (.int n))::Γ)):=by refine(fk (t:=.int (n:Int)) h2 λ_=>.int).perm ?_;refine E_ (.swap _ _ _) ?_;refine E_ (.cons _ (.swap _ _ _)) ?_;exact .swap _ _ _
 exact tW (ts:=[(S6 (some ("cells":Str)),.lst true (cs.map T.int)),(S6 (some ("turn":Str)),.int (n:Int))]) (vs:=stK l n) h3 rfl (x8 S.d)
theorem KR{a c:Sn}(h:Rp K H ((.bare,some (.ref a))::(.bare,some (.ref c))::Γ))(k:Kp a c H H')(ha:∃u,H' a=some u/\∀xs,u≠.tup xs)(hc:∃u,H' c=some u/\∀xs,u≠.tup xs):Rp K H' ((.bare,some (.ref a))::(.bare,some (.ref c))::Γ):=by
 obtain⟨ua,ea,na⟩:=ha;obtain⟨uc,ec,nc⟩:=hc;obtain⟨Hz,N,h,nd,g,d⟩:=h;cases h with
 |cons e1 h1 c1=>
  cases c1 with
  |cons e2 h2 c2=>
   rcases h1 with⟨z,_⟩|⟨v1,ev1,h1⟩
   ·cases z
   rcases h2 with⟨z,_⟩|⟨v2,ev2,h2⟩
   ·cases z
   cases ev1;cases ev2;cases h1;cases h2;rename_i M u1 hu1 nt1 u2 hu2 nt2;subst e2;subst e1;have nd':(a::c::M).Nodup:=nd;rw[MW,MW]at nd';have keep:∀b o,H b=some o->b≠a->b≠c->H' b=some o:=k;have tk:TK H H':=λb xs r=>keep b _ r (λz=>nt1 xs (z▸r)) (λz=>nt2 xs (z▸r));have za:Hz a=none:=d a lm;have zc:Hz c=none:=d c (t_ _ lm);have g':Gr Hz H':=λb u r=>by
    obtain⟨w',q⟩:=Rd.some r;have b1:b≠a:=λz=>by rw[z,za]at q;cases q
    have b2:b≠c:=λz=>by rw[z,zc]at q;cases q
    rcases g b u r with r|⟨o,r⟩
    ·exact .inl (keep b _ r b1 b2)
    exact .inr ⟨o,keep b _ r b1 b2⟩
   refine⟨Hz,[a]++([c]++M),.cons rfl (.inr ⟨_,rfl,.bare ea λxs z=>?_⟩) (.cons rfl (.inr ⟨_,rfl,.bare ec λxs z=>?_⟩) (c2.move tk .gQ λb m u e=>?_)),nd,g',d⟩
   ·rw[ea]at z;exact na xs (L' z)
   ·rw[ec]at z;exact nc xs (L' z)
   have b1:b≠a:=λz=>nd'.1 (by rw[<-z];exact t_ _ m)
   have b2:b≠c:=λz=>nd'.2.1 (by rw[<-z];exact m)
   exact⟨keep b u e b1 b2,λnt xs r=>nt xs (by rw[keep b u e b1 b2]at r;exact e.trans r)⟩
theorem Fw{a c:Sn}(h:Rp K H Γ)(ha:H a=none)(hc:H c=none)(ne:a≠c)(s:d4 H H')(ea:∃u,H' a=some u/\∀xs,u≠.tup xs)(ec:∃u,H' c=some u/\∀xs,u≠.tup xs):Rp K H' ((.bare,some (.ref a))::(.bare,some (.ref c))::Γ):=by
 obtain⟨ua,ea,na⟩:=ea;obtain⟨uc,ec,nc⟩:=ec;obtain⟨Hz,N,h,nd,g,d⟩:=h;have n1:a ∉ N:=λm=>by obtain⟨⟨u,e⟩,_⟩:=h.there a m;rw[ha]at e;cases e
 have n2:c ∉ N:=λm=>by obtain⟨⟨u,e⟩,_⟩:=h.there c m;rw[hc]at e;cases e
 refine⟨Hz,[a]++([c]++N),.cons rfl (.inr ⟨_,rfl,.bare ea λxs z=>?_⟩) (.cons rfl (.inr ⟨_,rfl,.bare ec λxs z=>?_⟩) (h.move (d4.tk s) .gQ λb m u e=>lV s b u e)),?_,g.trans (.of s),?_⟩
 ·rw[ea]at z;exact na xs (L' z)
 ·rw[ec]at z;exact nc xs (L' z)
 ·show(a::c::N).Nodup;rw[MW,MW];exact⟨λm=>(n_.mp m).elim (λz=>ne z) n1,n2,nd⟩
 intro b m;have m:b∈a::c::N:=m;rcases n_.mp m with rfl|m
 ·exact g.none ha
 rcases n_.mp m with rfl|m
 ·exact g.none hc
 exact d b m
theorem DL(D:Dfn K mg "_law_take" vi ["_law_state","_law_many"])(TX:Txt mg):Cal P w K mg base 1 "_law_take" ["_law_state","_law_many"] (aG K 2 kj):=by
 refine(D.cal λ_ _ F=>Ft F TX).imp ?_;rintro vs H Q E ⟨ts,Fr,k,l,hn,rp,⟨c,n,m,rfl,h1,h2,h3,pk⟩,q⟩;obtain⟨x,y,rfl⟩:=zz2 l rfl;have rp:Rp K H ((stT c n,some x)::(.int m,some y)::Fr):=rp;have ey:=b7 rp.tail;subst ey;obtain⟨st,lc,rfl,S,cr⟩:=Ks rp;refine⟨st,lc,c.cs,n,m,rfl,S,by omega,by omega,h2,h3,λr cs' H' hr0 hr1 S' kp=>?_⟩;have dL:=KR cr kp ⟨_,S'.d,λ_ z=>by cases z⟩ ⟨_,S'.l,λ_ z=>by cases z⟩;have S'':StAt H' st lc cs' ((n+1:Nat):Int):=by push_cast;exact S'
 obtain⟨c',rp4⟩:=Di S'' dL;exact q _ _ _ _ (pk r c' hr0 hr1) (fk rp4 λ_=>.int)
theorem yx{w y:V}(h:Rp K H ((.hole w,some y)::Γ)):y=w:=by
 obtain⟨_,_,r,_⟩:=jJ h rfl;cases r
 rfl
theorem Bh(D:Dfn K mg "_law_begin" qt ["_law_script"])(TX:Txt mg):Cal P w K mg base 1 "_law_begin" ["_law_script"] (aG K 1 (vV K)):=by
 refine(D.cal λ_ _ F=>D4 F TX).imp ?_;rintro vs H Q E ⟨ts,Fr,k,l,hn,rp,⟨t,ns,rfl,hs,h1,pk⟩,q⟩;obtain⟨x,rfl⟩:=zz1 l rfl;have rp:Rp K H ((t,some x)::Fr):=rp;obtain⟨a,rfl,hq⟩:∃a,x=.ref a/\SqL K H a (ns.map V.int):=by
  rcases hs with rfl|⟨a,rfl,hs⟩
  ·obtain⟨a,us,rfl,hq,l2,cr⟩:=aE rfl rp;have eu:=iB l2 cr;subst eu;exact⟨a,rfl,hq⟩
  exact⟨a,yx rp,hs H⟩
 refine⟨a,ns,rfl,hq,h1,λst lc cs H' hs hl S g=>?_⟩;have dL:=Fw rp hs hl S.ne g ⟨_,S.d,λ_ z=>by cases z⟩ ⟨_,S.l,λ_ z=>by cases z⟩;obtain⟨c,rp4⟩:=Di (n:=0) S dL;exact q _ _ _ _ (pk c) rp4
def CI(K:Sm):FP:=λts k=>∃t,∃ns:List Int,ts=[t]/\Scr K t ns/\ns.length<=63/\∀z,k (.bl true) [z]
def zJ(K:Sm):Sp:=λvs H Q _=>∃(a:Sn) (ns:List Int),vs=[.ref a]/\SqL K H a (ns.map V.int)/\ns.length<=63/\∀H',Q (.bl true) H'
theorem wo{Hz H:Hp}:∀(ns:List Int),RepTs K Hz H (ns.map T.int) (ns.map V.int) []
 | []=>.nil
 | _::r=>.cons rfl .int (wo r)
theorem JA{k:Nat}{f:Sn}(F:FnOk P w K mg base CX0 k f fd ["_law_script"] (aG K 1 (CI K))):FnOk P w K mg base CX0 k f fd ["_law_script"] (zJ K):=by
 refine F.imp ?_;rintro vs H Q E ⟨a,ns,rfl,hq,h1,q⟩;have key:∀t,Scr K t ns->(∀Hz,RepT K H Hz t (.ref a) [])->aG K 1 (CI K) [.ref a] H Q E:=λt sc ht=>
  ⟨[t],[],λt _=>t=.bl true,rfl,rfl,⟨H,[],.cons rfl (.inr ⟨_,rfl,ht H⟩) .nil,Q3,.gQ,λ_ m=>by cases m⟩,⟨t,ns,rfl,sc,h1,λ_=>rfl⟩,λt ts' v H' e rp=>by subst e;rw[kD rp];exact q H'⟩
 rcases hq with hq|hq
 ·exact key _ (.inl rfl) λHz=>.lstZ hq (wo ns)
 exact key _ (.inr ⟨a,rfl,λH=>.inr hq⟩) λHz=>.hole
end
open PySem L2 PL
abbrev uJ:T:=.cst [.cst [.int 1,.int 0],.cst [.int 1,.int 1],.cst [.int 0,.int 1],.cst [.int (-1),.int 1],.cst [.int (-1),.int 0],.cst [.int (-1),.int (-1)],.cst [.int 0,.int (-1)],.cst [.int 1,.int (-1)]]
abbrev zj:T:=.cst [.cst [.int 3,.int 2],.cst [.int 2,.int 3],.cst [.int 1,.int 2],.cst [.int 2,.int 1]]
abbrev Pt:=Int×Int
noncomputable def ptP(p:Pt):T:=pt p.1 p.2
variable {p:Pt}
theorem fX:er (ptP p)=ptP p:=rfl
theorem cA:eY (ptP p)=true:=rfl
theorem bO:aW (ptP p)=true:=rfl
theorem bJ:isAny (ptP p)=false:=rfl
theorem eJ{k:T->Prop}:ixT (ptP p) (.int 0) k=k (.int p.1):=rfl
theorem dO{k:T->Prop}:ixT (ptP p) (.int 1) k=k (.int p.2):=rfl
theorem bK{k:T->Prop}:rG [ptP p] k=k (ptP p):=rfl
theorem Hv{p q:Pt}{k:T->Prop}:eqS (ptP p) (ptP q) k=k (.bl (decide (p=q))):=by unfold ptP;rw[IU];congr 2;rw[decide_eq_decide];exact⟨λh=>D' h.1 h.2,λh=>by rw[h];exact⟨rfl,rfl⟩⟩
noncomputable def jv:List Pt:=[(1,0),(1,1),(0,1),(-1,1),(-1,0),(-1,-1),(0,-1),(1,-1)]
noncomputable def st8(d:Nat):Pt:=jv.getD d (0,0)
def az(p:Pt)(d:Nat)(m:Int):Pt:=(p.1+(st8 d).1*m,p.2+(st8 d).2*m)
variable {d:Nat}
theorem BE(h:d<8):atI [T.cst [.int 1,.int 0],.cst [.int 1,.int 1],.cst [.int 0,.int 1],.cst [.int (-1),.int 1],.cst [.int (-1),.int 0],.cst [.int (-1),.int (-1)],.cst [.int 0,.int (-1)],.cst [.int 1,.int (-1)]] (d:Int)=some (.cst [.int (st8 d).1,.int (st8 d).2]):=by
 match d,h with
 |0,_=>rfl
 |1,_=>rfl
 |2,_=>rfl
 |3,_=>rfl
 |4,_=>rfl
 |5,_=>rfl
 |6,_=>rfl
 |7,_=>rfl
theorem uq(d:Nat)(h:d<8):-1<=(st8 d).1/\(st8 d).1<=1/\-1<=(st8 d).2/\(st8 d).2<=1:=by
 match d,h with
 |0,_=>decide
 |1,_=>decide
 |2,_=>decide
 |3,_=>decide
 |4,_=>decide
 |5,_=>decide
 |6,_=>decide
 |7,_=>decide
noncomputable def far(p q:Pt):Int:=max ((q.1-p.1).natAbs:Int) ((q.2-p.2).natAbs:Int)
def lead(p q:Pt):Option Nat:=if far p q=0 then none else(B' 8).find? λd=>decide (az p d (far p q)=q)
def pH(p q:Pt):T:=match lead p q with
 |none=>.non
 |some d=>.tup [.int (d:Int),.int (far p q)]
variable {t:T}
theorem cj:lY (er t)=lY t:=by cases t <;> rfl
theorem iF{c:Ty}(h:lY t=some c):isAny (er t)=false:=by cases t <;> first|rfl|cases h
theorem eg{x:T}{n:String}{k:T->Prop}:zE [x,.ty n] k=gK (lY x) (k:=⟨λt=>gK (yc n) (k:=⟨λc=>k (.bl (isA t c))⟩)⟩):=rfl
variable {ts:List T}
theorem eO{x:T}{k:T->Prop}:zE [x,.tup ts] k=gK (lY x) (k:=⟨λt=>gK (tZ ts) (k:=⟨λcs=>k (.bl (cs.any (isA t)))⟩)⟩):=rfl
theorem cw:yc "int"=some .int:=rfl
theorem bC:yc "bool"=some .bl:=rfl
theorem cS:tZ [.ty "list",.ty "tuple"]=some [.lst,.tup]:=rfl
def C5(c:Ty):Bool:=[Ty.lst,Ty.tup].any (isA c)
def Kd(t:T):Prop:=(∃c,lY t=some c)/\∀us,items t=some us->∀u∈us,∃c,lY u=some c
def isI(t:T):Bool:=decide (lY t=some .int)
def nums(t:T)(n:Nat):Bool:=match items t with
 |some us=>decide (us.length=n)&&us.all isI
 |none=>false
mutual
theorem gF:∀t:T,er (er t)=er t
 | .tup ts=>by rw[er,er,eU ts]
 | .cst ts=>by rw[er,er,eU ts]
 | .lst _ ts=>by rw[er,er,eU ts]
 | .dK _ ts=>by rw[er,er,CQ ts]
 | .dT _ ts=>by rw[er,er,BQ ts]
 | .bare=>rfl
 | .any=>rfl
 | .hole _=>rfl
 | .kp _=>rfl
 | .non=>rfl
 | .bl _=>rfl
 | .int _=>rfl
 | .str _=>rfl
 | .ty _=>rfl
theorem eU:∀t:List T,erL (erL t)=erL t
 | []=>rfl
 |t::r=>by rw[erL,erL,gF t,eU r]
theorem CQ:∀t:List (Key×T),erK (erK t)=erK t
 | []=>rfl
 | (_,t)::r=>by rw[erK,erK,gF t,CQ r]
theorem BQ:∀t:List (List Key×T),erT (erT t)=erT t
 | []=>rfl
 | (_,t)::r=>by rw[erT,erT,gF t,BQ r]
end
theorem CY:isI (er t)=isI t:=by unfold isI;rw[cj]
theorem ij(f:α->β)(l:List α):l.flatMap (λx=>[f x])=l.map f:=by
 induction l with
 |nil=>rfl
 |cons x l ih=>rw[A_,ih];rfl
theorem B8{c:Ty}(h:lY t=some c):(items t).isSome=C5 c:=by cases t <;> first|cases h;rfl|cases h
theorem Bf:items (er t)=(items t).map erL:=by cases t <;> rfl
theorem aL(f:α->Bool)(l:List α):boolsOf (l.map λx=>T.bl (f x))=some (l.map f):=by
 induction l with
 |nil=>rfl
 |cons x l ih=>rw[f',boolsOf,ih];rfl
theorem A8{us:List T}{k:T->Prop}(h:items t=some us)(q:k (.int us.length)):CB [t] k:=by cases t <;> first|cases h;exact q|cases h
abbrev Ed:=Pt×Pt
def edT(e:Ed):T:=.tup [ptP e.1,ptP e.2]
variable {e:Ed}
theorem fL:er (edT e)=edT e:=rfl
theorem cN:eY (edT e)=true:=rfl
theorem bB:aW (edT e)=true:=rfl
theorem bj:isAny (edT e)=false:=rfl
theorem e9{k:T->Prop}:ixT (edT e) (.int 0) k=k (ptP e.1):=rfl
theorem dw{k:T->Prop}:ixT (edT e) (.int 1) k=k (ptP e.2):=rfl
noncomputable def aj(ps:List Pt):List Ed:=ps.zip (ps.drop 1++ps.take 1)
theorem Bt(ps:List Pt):((ps.map ptP).zip ((ps.map ptP).drop 1++(ps.map ptP).take 1)).map (λp=>T.tup [p.1,p.2])=(aj ps).map edT:=by
 unfold aj;rw[<-N6,<-Of,<-m_,Ru,H_]
 rfl
theorem qo(ps:List Pt):erL (ps.map ptP)=ps.map ptP:=by rw[bX];rfl
theorem gI(ps:List Pt):(aj ps).length=ps.length:=by unfold aj;rw[QO,c_,o_,p_];lia
theorem kF:kG ts (some 1) none=ts.drop 1:=by
 unfold kG;rw[HT.nS,show HT.sIx ts.length 0 (some 1)=min 1 ts.length from HT.lU ts.length 0 1];cases ts with
 |nil=>rfl
 |cons t ts=>
  rw[show min 1 (t::ts).length=1 by rw[i'];lia,Nw (by rw[o_];lia)]
theorem i5:kG ts none (some 1)=ts.take 1:=by
 unfold kG;rw[HT.nS,show HT.sIx ts.length ts.length (some 1)=min 1 ts.length from HT.lU ts.length _ 1];cases ts with
 |nil=>rfl
 |cons t ts=>rw[show min 1 (t::ts).length=1 by rw[i'];lia];rfl
abbrev Fp:=Bool×Pt
def fpT(f:Fp):T:=if f.1 then .lst false [.int f.2.1,.int f.2.2]else ptP f.2
def hdT(c:Bool)(fs:List Fp):T:=if c then .tup (fs.map fpT)else .lst false (fs.map fpT)
theorem KW{c:Bool}{fs:List Fp}:lY (hdT c fs)=some (if c then .tup else .lst):=by cases c <;> rfl
theorem HE{c:Bool}:C5 (if c then .tup else .lst)=true:=by cases c <;> rfl
theorem qG{c:Bool}{fs:List Fp}:items (hdT c fs)=some (fs.map fpT):=by cases c <;> rfl
theorem pf{c:Bool}{fs:List Fp}:isAny (hdT c fs)=false:=by cases c <;> rfl
variable {f:Fp}
theorem Kx:lY (fpT f)=some (if f.1 then .lst else .tup):=by obtain⟨b,p⟩:=f;cases b <;> rfl
theorem qF:items (fpT f)=some [.int f.2.1,.int f.2.2]:=by obtain⟨b,p⟩:=f;cases b <;> rfl
theorem fH:isAny (fpT f)=false:=by obtain⟨b,p⟩:=f;cases b <;> rfl
theorem ip:er (fpT f)=fpT f:=by obtain⟨b,p⟩:=f;cases b <;> rfl
theorem cp:aW (fpT f)=true:=by obtain⟨b,p⟩:=f;cases b <;> rfl
theorem G2:nums (fpT f) 2=true:=by unfold nums;rw[qF];rfl
theorem Ls:Kd (fpT f):=⟨⟨_,Kx⟩,λus e u m=>by
 rw[qF]at e;cases e;rcases n_.mp m with rfl|m
 ·exact⟨_,rfl⟩
 rw[x_.mp m];exact⟨_,rfl⟩⟩
theorem cv{k:T->Prop}:rG [fpT f] k=k (ptP f.2):=by obtain⟨b,p⟩:=f;cases b <;> rfl
noncomputable def kE(e:Ed)(c:Pt):Int:=(e.2.1-e.1.1)*(c.2-e.1.2)-(e.2.2-e.1.2)*(c.1-e.1.1)
noncomputable def sm(p:Pt):Prop:=-8388608<p.1/\p.1<8388608/\-8388608<p.2/\p.2<8388608
def smE(e:Ed):Prop:=sm e.1/\sm e.2
variable {a b:Int}
theorem zS(h1:-16777216<a)(h2:a<16777216)(h3:-16777216<b)(h4:b<16777216):-281474976710656<=a*b/\a*b<=281474976710656:=by
 have hn:(a*b).natAbs<=16777216*16777216:=by rw[Qc];exact RT (by lia) (by lia)
 lia
theorem wU{c:Pt}(h:smE e)(hc:sm c):-(2 ^ 64)<kE e c/\kE e c<2 ^ 64:=by obtain⟨⟨a1,a2,a3,a4⟩,b1,b2,b3,b4⟩:=h;obtain⟨c1,c2,c3,c4⟩:=hc;unfold kE;have p1:=zS (a:=e.2.1-e.1.1) (b:=c.2-e.1.2) (by lia) (by lia) (by lia) (by lia);have p2:=zS (a:=e.2.2-e.1.2) (b:=c.1-e.1.1) (by lia) (by lia) (by lia) (by lia);omega
noncomputable def ovl(a0 a1 b0 b1:Int):Bool:=decide (min a0 a1<=max b0 b1)&&decide (min b0 b1<=max a0 a1)
def acr(e o:Ed):Bool:=decide (kE e o.1*kE e o.2<=0)
def com(e o:Ed):Bool:=ovl e.1.1 e.2.1 o.1.1 o.2.1&&(ovl e.1.2 e.2.2 o.1.2 o.2.2&&(acr e o&&acr o e))
variable {i:Nat}
theorem map_take{g:α->β}{l:List α}{x:α}(h:l[i]?=some x):NO g (l.take (i+1))=NO g (l.take i)++[g x]:=by rw[NN,h,m_];rfl
variable {env:Ev}
theorem dF{n:Nat}{gs:oK}{k:Ev->Prop}:gTp n gs (edT e) env k=gTp n gs (.tup [ptP e.1,ptP e.2]) env k:=rfl
theorem eB{n:Nat}{gs:oK}{k:Ev->Prop}:gTp n gs (ptP p) env k=gTp n gs (.tup [.int p.1,.int p.2]) env k:=rfl
noncomputable def ig(n i:Nat):Nat:=if i=0 then n-1 else i-1
theorem qy{g:α->T}{l:List α}{n:Nat}(hn:n=l.length)(h:(R3 (λ(i:Nat) (x:T)=>T.tup [.int (i:Int),x]) (B' n) (l.map g))[i]?=some t):∃x,l[i]?=some x/\t=.tup [.int (i:Int),g x]:=by
 subst hn;rw[Q4]at h;cases e:l[i]? with
 |none=>
  rw[u_,e]at h;cases hr:(B' l.length)[i]? <;> rw[hr]at h <;> cases h
 |some x=>
  have hi:i<l.length:=(gV.mp e).1;rw[u_,e,N8 hi]at h;cases h;exact⟨x,rfl,rfl⟩
theorem jC{g:α->T}{l:List α}{n:Nat}(hn:n=l.length):(R3 (λ(i:Nat) (x:T)=>T.tup [.int (i:Int),x]) (B' n) (l.map g)).length=l.length:=by rw[Ri,MX,a_,hn,QC]
theorem xP{g:α->T}{l:List α}(h:i<l.length)(z:α):atI (l.map g) ((i:Int)-1)=some (g (l.getD (ig l.length i) z)):=by
 unfold atI ig;rw[a_];by_cases hi:i=0
 ·subst hi;rw[if_pos rfl];have:ixN l.length (((0:Nat):Int)-1)=some (l.length-1):=by unfold ixN;rw[if_neg (by decide),if_pos (by lia)];congr 1;lia
  rw[this,QJ,u_,i_,f_ (by lia)]
  rfl
 rw[if_neg hi];have:ixN l.length ((i:Int)-1)=some (i-1):=by unfold ixN;rw[if_pos (by lia)];rw[if_pos (by lia)];congr 1;lia
 rw[this,QJ,u_,i_,f_ (by omega)]
 rfl
theorem Bs{q:Pt}:isV (pH p q)=true:=by unfold pH;cases lead p q <;> rfl
theorem xr{q:Pt}:nL (pH p q)=!(lead p q).isSome:=by unfold pH;cases lead p q <;> rfl
noncomputable def beyond(es:List Ed)(i:Nat):List Ed:=if i=0 then(es.take (es.length-1)).drop 2 else es.drop (i+2)
def nU(es:List Ed)(i:Nat):Bool:=match es[i]? with
 |some e=>(beyond es i).any (com e)
 |none=>false
def pQ(es:List Ed):Bool:=(B' es.length).any (nU es)
def gC(e:Ed):Nat:=(lead e.1 e.2).getD 0
def rj(es:List Ed):Bool:=es.all λe=>(lead e.1 e.2).isSome
def rX(ws:List Nat)(i:Nat):Bool:=decide (((ws.getD i 0:Int)-(ws.getD (ig ws.length i) 0:Int))%8=4)
def uF(ws:List Nat):Bool:=(B' ws.length).any (rX ws)
def J7(ps:List Pt):Bool:=rj (aj ps)&&(!uF ((aj ps).map gC)&&!pQ (aj ps))
theorem Kl{n:Nat}:kG ts (some (n:Int)) none=ts.drop n:=by
 unfold kG;rw[HT.nS,HT.lU];rcases R4 n ts.length with h|h
 ·rw[Oc h,Nw (by rw[o_];lia)]
 rw[PC h,QU (e_ _),QU h,List.take_nil]
theorem Md{n m:Nat}(h:m<=ts.length):kG ts (some (n:Int)) (some (m:Int))=(ts.take m).drop n:=by
 unfold kG;rw[HT.lU,HT.lU,Oc h,RQ];rcases R4 n ts.length with h2|h2
 ·rw[Oc h2]
 rw[PC h2,Q5 (by omega),Q5 (by lia),Q1,Q1]
variable {ps:List Pt}
theorem fg(h:e∈aj ps):e.1∈ps/\e.2∈ps:=by
 obtain⟨h1,h2⟩:=PU (show(e.1,e.2)∈ps.zip (ps.drop 1++ps.take 1)from h);refine⟨h1,?_⟩;rcases C_.mp h2 with h|h
 ·exact Nt h
 exact Nk h
noncomputable def pX(x y w h a b c d:Int):List Pt:=[(x+a,y),(x+w-b,y),(x+w,y+b),(x+w,y+h-c),(x+w-c,y+h),(x+d,y+h),(x,y+h-d),(x,y+a)]
noncomputable def ddl:Pt->List Pt->List Pt
 | _,[]=>[]
 |p,q::l=>if q=p then ddl q l else q::ddl q l
def lW(x y w h a b c d:Int):List Pt:=ddl (x,y+a) (pX x y w h a b c d)
theorem FN{x:Pt}:∀{l:List Pt}{p:Pt},ddl p (l++[x])=ddl p l++(if x=l.getLastD p then []else [x]):=by
 intro l;induction l with
 |nil=>intro p;rfl
 |cons q l ih=>
  intro p;have e:(q::l).getLastD p=l.getLastD q:=by rw[Nv]
  rw[e,G',ddl,ddl,ih];split
  ·rfl
  rfl
variable {z:Pt}
theorem D5{l:List Pt}{x:Pt}(hp:l.getD (l.length-1) z=p)(e:l[i]?=some x):ddl p (l.take (i+1))=ddl p (l.take i)++(if x=l.getD (ig l.length i) z then []else [x]):=by
 have hi:i<l.length:=(gV.mp e).1;have ek:(l.take i).getLastD p=l.getD (ig l.length i) z:=by
  unfold ig;by_cases h:i=0
  ·subst h;rw[if_pos rfl,hp];rfl
  rw[if_neg h,List.getLastD_eq_getLast?,List.getLast?_eq_getElem?,p_,Oc (by lia),NA (by lia),i_,f_ (by omega)]
  rfl
 rw[NN,e,<-ek];exact FN
theorem F0{q:Pt}:∀{l:List Pt}{p:Pt},q∈ddl p l->q∈l:=by
 intro l;induction l with
 |nil=>intro p h;exact h
 |cons x l ih=>
  intro p h;rw[ddl]at h;split at h
  ·exact t_ _ (ih h)
  rcases n_.mp h with rfl|h
  ·exact lm ..
  exact t_ _ (ih h)
theorem Er:∀{l:List Pt}{p:Pt},(ddl p l).length<=l.length:=by
 intro l;induction l with
 |nil=>intro p;exact e_ _
 |cons x l ih=>
  intro p;rw[ddl];split
  ·exact Pe ih
  exact Nat.succ_le_succ ih
theorem Gi{q:Pt}:∀{l:List Pt}{p:Pt},ddl p l=[]->q∈l->q=p:=by
 intro l;induction l with
 |nil=>intro p _ h;cases h
 |cons x l ih=>
  intro p h m;rw[ddl]at h;split at h
  ·rename_i e;rcases n_.mp m with rfl|m
   ·exact e
   rw[<-e];exact ih h m
  cases h
variable {c h w x y:Int}
theorem rZ{d:Int}(hw:w≠0):0<(lW x y w h a b c d).length:=by refine Nm λz=>?_;have e:=Gi (I_ z) (show((x+w,y+b):Pt)∈pX x y w h a b c d from .tail _ (.tail _ (.head _)));have:=congrArg Og e;dsimp only at this;lia
noncomputable def bd(m:Int)(z:Int):Prop:=-m<=z/\z<=m
def bdP(m:Int)(p:Pt):Prop:=bd m p.1/\bd m p.2
def bdL(m:Int):List Pt->Prop
 | []=>True
 |p::l=>bdP m p/\bdL m l
variable {m:Int}
theorem bT:∀{l:List Pt},bdL m l->p∈l->bdP m p:=by
 intro l;induction l with
 |nil=>intro _ h;cases h
 |cons x l ih=>
  intro h q;rcases n_.mp q with rfl|q
  ·exact h.1
  exact ih h.2 q
theorem kS:∀{l:List Pt},(∀p∈l,bdP m p)->bdL m l:=by
 intro l;induction l with
 |nil=>intro _;trivial
 |cons x l ih=>exact λh=>⟨h x (lm ..),ih λp q=>h p (t_ _ q)⟩
variable {n:Int}
theorem A2{z:Int}(h:bd m z)(l:m<=n):bd n z:=⟨by have:=h.1;lia,by have:=h.2;lia⟩
theorem JZ(h:bdP m p)(l:m<=n):bdP n p:=⟨A2 h.1 l,A2 h.2 l⟩
theorem Eh{d:Int}(h0:bd m x)(h1:bd m y)(h2:bd m (x+w))(h3:bd m (y+h))(h4:bd m (x+a))(h5:bd m (x+w-b))(h6:bd m (y+b))(h7:bd m (y+h-c))(h8:bd m (x+w-c))(h9:bd m (x+d))(h10:bd m (y+h-d))(h11:bd m (y+a)):bdL m (lW x y w h a b c d):=
 kS λp q=>bT (l:=pX x y w h a b c d) ⟨⟨h4,h1⟩,⟨h5,h1⟩,⟨h2,h6⟩,⟨h2,h7⟩,⟨h8,h3⟩,⟨h9,h3⟩,⟨h0,h10⟩,⟨h0,h11⟩,trivial⟩ (F0 q)
theorem Eg(h0:bd m x)(h1:bd m (x+w))(g0:0<=a)(g1:a<=w):bd m (x+a):=⟨Nj h0.1 (Int.le_add_of_nonneg_right g0),Nj (Int.add_le_add_left g1 x) h1.2⟩
theorem F2(h0:bd m x)(h1:bd m (x+w))(g0:0<=a)(g1:a<=w):bd m (x+w-a):=⟨Nj h0.1 (by lia),Nj (Int.sub_le_self _ g0) h1.2⟩
variable {M:Int}
theorem JM{d:Int}(h0:bd m x)(h1:bd m y)(h2:bd m (x+w))(h3:bd m (y+h))(mw:M<=w)(mh:M<=h)(ha:0<=a/\a<=M)(hb:0<=b/\b<=M)(hc:0<=c/\c<=M)(hd:0<=d/\d<=M):bdL m (lW x y w h a b c d):=
 have l {z:Int} (g:0<=z/\z<=M):z<=w:=Nj g.2 mw;have k {z:Int} (g:0<=z/\z<=M):z<=h:=Nj g.2 mh
 Eh h0 h1 h2 h3 (Eg h0 h2 ha.1 (l ha)) (F2 h0 h2 hb.1 (l hb)) (Eg h1 h3 hb.1 (k hb)) (F2 h1 h3 hc.1 (k hc)) (F2 h0 h2 hc.1 (l hc)) (Eg h0 h2 hd.1 (l hd)) (F2 h1 h3 hd.1 (k hd)) (Eg h1 h3 ha.1 (k ha))
variable {u v:Int}
theorem Jl(h0:bd m x)(h1:bd m y)(h2:bd m (x+u))(h3:bd m (y+v)):bdL m [(x,y),(x+u,y),(x,y+v)]:=⟨⟨h0,h1⟩,⟨h2,h1⟩,⟨h0,h3⟩,trivial⟩
theorem F7{l:List α}{i:Int}(h0:0<=i)(h1:i<l.length):∃x,x∈l/\atI l i=some x:=by
 have h:i.toNat<l.length:=by lia
 refine⟨l[i.toNat],N_ h,?_⟩;have:=qC (xs:=l) (j:=i.toNat) (f_ h);rwa[P' h0]at this
variable {ns:List Int}
theorem B0(P:Int->Prop){i:Int}(h0:0<=i)(h1:i<ns.length)(hp:∀x∈ns,P x):∃v,atI (ns.map T.int) i=some (.int v)/\P v:=by obtain⟨t,m,e⟩:=F7 (l:=ns.map T.int) h0 (by rw[a_];exact h1);obtain⟨v,mv,rfl⟩:=s_.mp m;exact⟨v,e,hp v mv⟩
theorem four{P:Int->Prop}(h:cs.length=4)(hp:∀v∈cs,P v):∃a b c d,cs=[a,b,c,d]/\P a/\P b/\P c/\P d:=by
 match cs,h with
 | [a,b,c,d],_=>exact⟨a,b,c,d,rfl,hp a (.head _),hp b (.tail _ (.head _)),hp c (.tail _ (.tail _ (.head _))),hp d (.tail _ (.tail _ (.tail _ (.head _))))⟩
theorem nk{l r:List Pt}(h:bdL m l)(e:∀p∈r,p∈l):bdL m r:=kS λp q=>bT h (e p q)
theorem Hh(h:0<=m)(h2:m<ts.length):kG ts (some m) none=ts.drop m.toNat/\kG ts none (some m)=ts.take m.toNat:=by
 obtain⟨n,rfl⟩:=Int.eq_ofNat_of_zero_le h;refine⟨Kl,?_⟩;unfold kG;rw[HT.nS,HT.lU,Oc (by lia)]
 rfl
theorem qQ(l:List α)(x:α):atI (l++[x]) (-1)=some x:=by
 unfold atI;have:ixN (l++[x]).length (-1)=some l.length:=by unfold ixN;rw[c_,if_neg (by decide),if_pos (by show -((l.length+1:Nat):Int)<=-1;lia)];congr 1;show(-1+((l.length+1:Nat):Int)).toNat=_;lia
 rw[this,QJ,MY (e_ _),O2]
 rfl
theorem qw{l r:List Pt}(h1:bdL m l)(h2:bdL m r):bdL m (l++r):=kS λp q=>(C_.mp q).elim (bT h1) (bT h2)
theorem oj{l:List Pt}(h:bdL m l)(e:m<=n):bdL n l:=kS λp q=>JZ (bT h q) e
theorem LJ(h1:bd 600 a)(h2:bd 600 c)(h3:0<b):bd 360000 (a/b*c):=by
 have e:(a/b*c).natAbs<=600*600:=by
  rw[Qc];refine RT (r_ (Int.natAbs_ediv_le_natAbs a b) ?_) ?_
  ·have:=h1.1;have:=h1.2;lia
  have:=h2.1;have:=h2.2;lia
 exact⟨by lia,by lia⟩
theorem HL{p q:Pt}{k:T->Prop}:neS (ptP p) (ptP q) k=k (.bl (decide (p≠q))):=by unfold ptP;rw[Hw,<-decide_not];congr 2;rw[decide_eq_decide];exact not_congr ⟨λh=>D' h.1 h.2,λh=>by rw[h];exact⟨rfl,rfl⟩⟩
theorem zV{A B:Int}(h:0<m):(m*A)*(m*B)<=0↔(A<=0/\0<=B)\/(0<=A/\B<=0):=by
 have e:(m*A)*(m*B)=(m*m)*(A*B):=by grind
 have hm:0<m*m:=NG h h;rw[e];have k:(m*m)*(A*B)<=0↔A*B<=0:=⟨λg=>Om.mp λz=>absurd (NG hm z) (Om.mpr g),λg=>Pj (Na hm) g⟩;rw[k];constructor
 ·intro g;rcases Int.lt_trichotomy A 0 with a|a|a
  ·refine .inl ⟨Na a,Om.mp λz=>absurd (Int.mul_pos_of_neg_of_neg a z) (Om.mpr g)⟩
  ·rcases Int.le_total B 0 with b|b
   ·exact .inr ⟨by lia,b⟩
   exact .inl ⟨by lia,b⟩
  refine .inr ⟨Na a,Om.mp λz=>absurd (NG a z) (Om.mpr g)⟩
 rintro(⟨a,b⟩|⟨a,b⟩)
 ·exact Int.mul_nonpos_of_nonpos_of_nonneg a b
 exact Pj a b
def crs(d:Nat)(x y:Int):Int:=(st8 d).1*y-(st8 d).2*x
theorem vE{c:Pt}:kE (p,az p d m) c=m*crs d (c.1-p.1) (c.2-p.2):=by
 unfold kE az crs;dsimp only;generalize (st8 d).1=a;generalize (st8 d).2=b
 grind
noncomputable def opp(A B:Int):Prop:=(A<=0/\0<=B)\/(0<=A/\B<=0)
variable {d':Nat}
theorem ze{q:Pt}(hm:0<m)(hn:0<n):com (p,az p d m) (q,az q d' n)=true ↔
    ((min p.1 (p.1+(st8 d).1*m)<=max q.1 (q.1+(st8 d').1*n)/\min q.1 (q.1+(st8 d').1*n)<=max p.1 (p.1+(st8 d).1*m))/\
     (min p.2 (p.2+(st8 d).2*m)<=max q.2 (q.2+(st8 d').2*n)/\min q.2 (q.2+(st8 d').2*n)<=max p.2 (p.2+(st8 d).2*m))/\
     opp (crs d (q.1-p.1) (q.2-p.2)) (crs d (q.1+(st8 d').1*n-p.1) (q.2+(st8 d').2*n-p.2))/\opp (crs d' (p.1-q.1) (p.2-q.2)) (crs d' (p.1+(st8 d).1*m-q.1) (p.2+(st8 d).2*m-q.2))):=by
  unfold com ovl acr;rw[vE,vE,vE,vE,L_,L_,L_,L_,L_,decide_eq_true_iff,decide_eq_true_iff,decide_eq_true_iff,decide_eq_true_iff,decide_eq_true_iff,decide_eq_true_iff,zV hm,zV hn];exact RU
variable {o:Ed}
theorem wL{a b:Pt}:com (b,a) o=com (a,b) o:=by
 have s1:∀c,kE (b,a) c=-kE (a,b) c:=λc=>by unfold kE;dsimp only;grind
 unfold com ovl acr;dsimp only;rw[s1,s1,Int.neg_mul_neg,R5 b.1,R6 b.1,R5 b.2,R6 b.2,Int.mul_comm (kE o b)]
theorem iC:com e o=com o e:=by unfold com ovl;rw[Rg (decide (min e.1.1 _<=_)),Rg (decide (min e.1.2 _<=_)),Rg (acr e o)]
theorem B1{a b:Pt}:com e (b,a)=com e (a,b):=by rw[iC,wL,iC]
def Meet(p:Pt)(d:Nat)(m:Int)(q:Pt)(d':Nat)(n:Int):Prop:=∃s t:Int,0<=s/\s<=2*m/\0<=t/\t<=2*n/\2*p.1+(st8 d).1*s=2*q.1+(st8 d').1*t/\2*p.2+(st8 d).2*s=2*q.2+(st8 d').2*t
variable {P s:Int}
theorem mm_(ha:a=0\/a=1\/a=-1)(s0:0<=s)(s1:s<=2*m):2*min P (P+a*m)<=2*P+a*s/\2*P+a*s<=2*max P (P+a*m):=by
 rcases ha with rfl|rfl|rfl
 ·rw[P0,P0,OJ,OJ,Int.min_self,Int.max_self];exact⟨NZ _,NZ _⟩
 ·rw[QP (by lia),QK (by lia)];exact⟨by lia,by lia⟩
 rw[Int.min_eq_right (by lia),Int.max_eq_left (by lia)];exact⟨by lia,by lia⟩
theorem ov_{Q t:Int}(ha:a=0\/a=1\/a=-1)(hb:b=0\/b=1\/b=-1)(s0:0<=s)(s1:s<=2*m)(t0:0<=t)(t1:t<=2*n)(e:2*P+a*s=2*Q+b*t):min P (P+a*m)<=max Q (Q+b*n)/\min Q (Q+b*n)<=max P (P+a*m):=by have h1:=mm_ (P:=P) ha s0 s1;have h2:=mm_ (P:=Q) hb t0 t1;rw[e]at h1;exact⟨Qw (Nj h1.1 h2.2) (by decide),Qw (Nj h2.1 h1.2) (by decide)⟩
theorem pL(h:d<4):((st8 d).1=0\/(st8 d).1=1\/(st8 d).1=-1)/\((st8 d).2=0\/(st8 d).2=1\/(st8 d).2=-1):=by
 match d,h with
 |0,_=>exact⟨.inr (.inl rfl),.inl rfl⟩
 |1,_=>exact⟨.inr (.inl rfl),.inr (.inl rfl)⟩
 |2,_=>exact⟨.inl rfl,.inr (.inl rfl)⟩
 |3,_=>exact⟨.inr (.inr rfl),.inr (.inl rfl)⟩
def Opp(p:Pt)(d:Nat)(m:Int)(q:Pt)(d':Nat)(n:Int):Prop:=opp (crs d (q.1-p.1) (q.2-p.2)) (crs d (q.1+(st8 d').1*n-p.1) (q.2+(st8 d').2*n-p.2))/\opp (crs d' (p.1-q.1) (p.2-q.2)) (crs d' (p.1+(st8 d).1*m-q.1) (p.2+(st8 d).2*m-q.2))
theorem G5{Q:Int}(hm:0<m)(hn:0<n)(h:min P (P+1*m)<=max Q (Q+1*n)/\min Q (Q+1*n)<=max P (P+1*m)):-n<=Q-P/\Q-P<=m:=by rw[Oa,Oa,QP (by lia),QK (by lia),QP (by lia),QK (by lia)]at h;exact⟨by lia,by lia⟩
theorem LN(h:opp c c):c=0:=by
 rcases h with h|h
 ·exact RN h.1 h.2
 exact RN h.2 h.1
theorem DZ(ha:a=0)(hb:b=0):opp a b:=by rw[ha,hb];exact .inl ⟨NZ _,NZ _⟩
theorem BJ{x' y':Int}:crs d (x+(st8 d).1*n-x') (y+(st8 d).2*n-y')=crs d (x-x') (y-y'):=by unfold crs;generalize (st8 d).1=a;generalize (st8 d).2=b;grind
theorem zU{x' y' t:Int}(e1:2*x+(st8 d).1*s=2*x'+(st8 d).1*t)(e2:2*y+(st8 d).2*s=2*y'+(st8 d).2*t):crs d (x'-x) (y'-y)=0:=by revert e1 e2;unfold crs;generalize (st8 d).1=a;generalize (st8 d).2=b;grind
theorem Par{q:Pt}(hm:0<m)(hn:0<n)(h:-n<=u/\u<=m)(e1:(st8 d).1*u=q.1-p.1)(e2:(st8 d).2*u=q.2-p.2):Meet p d m q d n:=by refine⟨max 0 (2*u),max 0 (2*u)-2*u,by lia,by lia,by lia,by lia,?_,?_⟩ <;> grind
theorem vL{q:Pt}(h:d<4)(hm:0<m)(hn:0<n):com (p,az p d m) (q,az q d n)=true↔Meet p d m q d n:=by
 rw[ze hm hn];constructor
 ·rintro⟨h1,h2,h3,h4⟩;rw[BJ]at h3;have h3:=LN h3;unfold crs at h3
  rcases(show d=0\/d=1\/d=2\/d=3 by lia) with rfl|rfl|rfl|rfl
  ·replace h3:1*(q.2-p.2)-0*(q.1-p.1)=0:=h3;exact Par hm hn (G5 hm hn h1) (Oa _) (show(0:Int)*_=_ by lia)
  ·replace h3:1*(q.2-p.2)-1*(q.1-p.1)=0:=h3;exact Par hm hn (G5 hm hn h1) (Oa _) (show(1:Int)*_=_ by lia)
  ·replace h3:0*(q.2-p.2)-1*(q.1-p.1)=0:=h3;exact Par hm hn (G5 hm hn h2) (show(0:Int)*_=_ by lia) (Oa _)
  replace h3:-1*(q.2-p.2)-1*(q.1-p.1)=0:=h3;exact Par hm hn (G5 hm hn h2) (show(-1:Int)*_=_ by lia) (Oa _)
 rintro⟨s,t,s0,s1,t0,t1,e1,e2⟩;exact⟨ov_ (pL h).1 (pL h).1 s0 s1 t0 t1 e1,ov_ (pL h).2 (pL h).2 s0 s1 t0 t1 e2,DZ (zU e1 e2) (by rw[BJ];exact zU e1 e2),DZ (zU e1.symm e2.symm) (by rw[BJ];exact zU e1.symm e2.symm)⟩
theorem gxr{A n D:Int}(hn:0<D*n)(h:opp A (A+D*n)):A<=0/\0<=A+D*n:=by
 rcases h with h|h
 ·exact h
 exact absurd (Nj (Int.add_le_add_right h.1 _) h.2) (by rw[Int.zero_add];exact OA.mpr hn)
theorem gxl{C m D:Int}(hm:0<D*m)(h:opp C (C-D*m)):0<=C/\C-D*m<=0:=by
 rcases h with h|h
 ·exact absurd (Nj h.2 (Int.sub_le_sub_right h.1 _)) (by rw[Int.zero_sub];exact λz=>OA.mpr hm (Int.neg_nonneg.mp z))
 exact h
theorem gxa{a b a' b' x y:Int}:a*(b'*x-a'*y)+a'*(a*y-b*x)=(a*b'-b*a')*x:=by grind
theorem gxb{a b a' b' x y:Int}:b*(b'*x-a'*y)+b'*(a*y-b*x)=(a*b'-b*a')*y:=by grind
theorem gxc{a b a' b' s t:Int}:a*(b*s-b'*t)-b*(a*s-a'*t)= -(t*(a*b'-b*a')):=by grind
theorem gxd{a b a' b' s t:Int}:b'*(a*s-a'*t)-a'*(b*s-b'*t)=s*(a*b'-b*a'):=by grind
theorem gxe{a b a' b' n P P' Q Q':Int}:a*(Q+b'*n-P)-b*(Q'+a'*n-P')=a*(Q-P)-b*(Q'-P')+(a*b'-b*a')*n:=by grind
theorem gxf{a' b' P P' Q Q':Int}:a'*(P-Q)-b'*(P'-Q')=b'*(Q'-P')-a'*(Q-P):=by grind
theorem gxg{a b a' b' m P P' Q Q':Int}:a'*(P+b*m-Q)-b'*(P'+a*m-Q')=b'*(Q'-P')-a'*(Q-P)-(a*b'-b*a')*m:=by grind
theorem gxx{p q:Pt}{d d':Nat}{m n:Int}(hm:0<m)(hn:0<n)(hd:d<4:=by decide)(hd':d'<4:=by decide)(hk:crs d (st8 d').1 (st8 d').2=1\/crs d (st8 d').1 (st8 d').2=2:=by decide):com (p,az p d m) (q,az q d' n)=true↔Meet p d m q d' n:=by
 rw[ze hm hn];have s1:=pL hd;have s2:=pL hd';revert s1 s2 hk;unfold Meet crs;generalize (st8 d).1=a,(st8 d).2=b,(st8 d').1=a',(st8 d').2=b';intro hk s1 s2
 rw[gxe (P:=p.2),gxg (Q:=q.2),gxf (P:=p.2)];obtain⟨x,hx⟩:∃x,q.1=p.1+x:=⟨q.1-p.1,by lia⟩;obtain⟨y,hy⟩:∃y,q.2=p.2+y:=⟨q.2-p.2,by lia⟩;rw[show q.1-p.1=x by lia,show q.2-p.2=y by lia]
 have fA:=@gxa a b a' b' x y;have fB:=@gxb a b a' b' x y;have fC:=@gxc a b a' b';have fD:=@gxd a b a' b';generalize hD:a*b'-b*a'=D at *
 obtain⟨k,kD,k0,D0⟩:∃k:Int,k*D=2/\0<=k/\0<D:=by
  rcases hk with rfl|rfl
  ·exact⟨2,rfl,by decide,by decide⟩
  exact⟨1,rfl,by decide,by decide⟩
 constructor
 ·rintro⟨_,_,h1,h2⟩;generalize a*y-b*x=A,b'*x-a'*y=C at *;have h1:=gxr (NG D0 hn) h1;have h2:=gxl (NG D0 hm) h2;have e:∀z:Int,k*(D*z)=2*z:=λz=>by rw[<-Int.mul_assoc,kD]
  have g:∀{u v z:Int},u*C+v*A=D*z->u*(k*C)=2*z+v*(k* -A):=λ{u v z} f=>by rw[Int.mul_left_comm u,Int.mul_left_comm v,Int.mul_neg,Int.mul_neg,<-e,<-f,Int.mul_add];lia
  refine⟨k*C,k* -A,Int.mul_nonneg k0 h2.1,?_,Int.mul_nonneg k0 (Int.neg_nonneg.mpr h1.1),?_,?_,?_⟩
  ·rw[<-e];exact Int.mul_le_mul_of_nonneg_left (Int.le_of_sub_nonpos h2.2) k0
  ·rw[<-e];exact Int.mul_le_mul_of_nonneg_left (by lia) k0
  ·rw[g fA,hx];lia
  rw[g fB,hy];lia
 rintro⟨s,t,s0,s1',t0,t1,e1,e2⟩;have x2:2*x=a*s-a'*t:=by lia
 have y2:2*y=b*s-b'*t:=by lia
 have c1:2*(a*y-b*x)= -(t*D):=by rw[Int.mul_sub,Int.mul_left_comm 2,Int.mul_left_comm 2,x2,y2];exact fC
 have c2:2*(b'*x-a'*y)=s*D:=by rw[Int.mul_sub,Int.mul_left_comm 2,Int.mul_left_comm 2,x2,y2];exact fD
 generalize a*y-b*x=A,b'*x-a'*y=C at *
 have u:∀{s m:Int},s<=2*m->s*D<=2*(D*m):=λ{s m} h=>by rw[Int.mul_comm D,<-Int.mul_assoc];exact Int.mul_le_mul_of_nonneg_right h (Na D0)
 have v1:=u s1';have v2:=u t1;have w1:=Int.mul_nonneg s0 (Na D0);have w2:=Int.mul_nonneg t0 (Na D0);exact⟨ov_ s1.1 s2.1 s0 s1' t0 t1 e1,ov_ s1.2 s2.2 s0 s1' t0 t1 e2,.inl ⟨by lia,by lia⟩,.inr ⟨by lia,by lia⟩⟩
theorem Lx(h:i<4):st8 (4+i)=(-(st8 i).1,-(st8 i).2):=by
 match i,h with
 |0,_=>rfl
 |1,_=>rfl
 |2,_=>rfl
 |3,_=>rfl
theorem xk(h:i<4):az (az p (4+i) m) i m=p:=by unfold az;rw[Lx h];exact D' (by dsimp only;grind) (by dsimp only;grind)
theorem wx{q:Pt}(h:i<4):Meet p (4+i) m q d' n↔Meet (az p (4+i) m) i m q d' n:=by
 unfold Meet az;rw[Lx h];dsimp only;generalize (st8 i).1=a;generalize (st8 i).2=b;constructor
 ·rintro⟨s,t,h1,h2,h3,h4,h5,h6⟩;exact⟨2*m-s,t,by lia,by lia,h3,h4,by rw[<-h5];grind,by rw[<-h6];grind⟩
 rintro⟨s,t,h1,h2,h3,h4,h5,h6⟩;exact⟨2*m-s,t,by lia,by lia,h3,h4,by rw[<-h5];grind,by rw[<-h6];grind⟩
theorem meet_comm{q:Pt}:Meet p d m q d' n↔Meet q d' n p d m:=
 ⟨λ⟨s,t,a,b,c,d,e,f⟩=>⟨t,s,c,d,a,b,e.symm,f.symm⟩,λ⟨s,t,a,b,c,d,e,f⟩=>⟨t,s,c,d,a,b,e.symm,f.symm⟩⟩
theorem Lk{q:Pt}(hd:d<4)(hd':d'<4)(hm:0<m)(hn:0<n):com (p,az p d m) (q,az q d' n)=true↔Meet p d m q d' n:=by
 match d,d',hd,hd' with
 |0,0,_,_=>exact vL (by decide) hm hn
 |0,1,_,_=>exact gxx hm hn
 |0,2,_,_=>exact gxx hm hn
 |0,3,_,_=>exact gxx hm hn
 |1,0,_,_=>exact(by rw[iC]:_↔_).trans ((gxx hn hm).trans meet_comm)
 |1,1,_,_=>exact vL (by decide) hm hn
 |1,2,_,_=>exact gxx hm hn
 |1,3,_,_=>exact gxx hm hn
 |2,0,_,_=>exact(by rw[iC]:_↔_).trans ((gxx hn hm).trans meet_comm)
 |2,1,_,_=>exact(by rw[iC]:_↔_).trans ((gxx hn hm).trans meet_comm)
 |2,2,_,_=>exact vL (by decide) hm hn
 |2,3,_,_=>exact gxx hm hn
 |3,0,_,_=>exact(by rw[iC]:_↔_).trans ((gxx hn hm).trans meet_comm)
 |3,1,_,_=>exact(by rw[iC]:_↔_).trans ((gxx hn hm).trans meet_comm)
 |3,2,_,_=>exact(by rw[iC]:_↔_).trans ((gxx hn hm).trans meet_comm)
 |3,3,_,_=>exact vL (by decide) hm hn
theorem LU{q:Pt}(hd:d<8)(hd':d'<4)(hm:0<m)(hn:0<n):com (p,az p d m) (q,az q d' n)=true↔Meet p d m q d' n:=by
 by_cases c:d<4
 ·exact Lk c hd' hm hn
 obtain⟨i,rfl⟩:∃i,d=4+i:=⟨d-4,by lia⟩;have hi:i<4:=by lia
 have:=Lk (p:=az p (4+i) m) (q:=q) hi hd' hm hn;rw[xk hi,wL]at this;rw[this,wx hi]
theorem geo{q:Pt}(hd:d<8)(hd':d'<8)(hm:0<m)(hn:0<n):com (p,az p d m) (q,az q d' n)=true↔Meet p d m q d' n:=by
 by_cases c:d'<4
 ·exact LU hd c hm hn
 obtain⟨i,rfl⟩:∃i,d'=4+i:=⟨d'-4,by lia⟩;have hi:i<4:=by lia
 have:=LU (p:=p) (q:=az q (4+i) n) hd hi hm hn;rw[xk hi,B1,meet_comm]at this;rw[this,meet_comm (p:=p),wx hi]
structure Sg (e:Ed) (d:Nat) (m:Int):Prop where
 dl:d<8
 mp:0<m
 eq:e.2=az e.1 d m
theorem HU{q:Pt}:0<=far p q:=by unfold far;lia
theorem Ig{q:Pt}(h:lead p q=some d):Sg (p,q) d (far p q):=by
 unfold lead at h;split at h
 ·cases h
 rename_i c;have h1:=RO h;have h2:=K_.mp (Qx h);have:=HU (p:=p) (q:=q);exact⟨h2,by lia,(of_decide_eq_true h1).symm⟩
theorem zB(h:d<8):max ((st8 d).1.natAbs:Int) ((st8 d).2.natAbs:Int)=1:=by
 match d,h with
 |0,_=>rfl
 |1,_=>rfl
 |2,_=>rfl
 |3,_=>rfl
 |4,_=>rfl
 |5,_=>rfl
 |6,_=>rfl
 |7,_=>rfl
theorem gxs:∀d,d<8->((st8 d).1.natAbs=1/\(st8 d).2.natAbs<=1)\/((st8 d).2.natAbs=1/\(st8 d).1.natAbs<=1):=by decide
theorem qc{q:Pt}(h:Sg (p,q) d m):far p q=m:=by
 obtain⟨hd,hm,e⟩:=h;have e:q=az p d m:=e;subst e;unfold far az;dsimp only;rw[show p.1+(st8 d).1*m-p.1=(st8 d).1*m by lia,show p.2+(st8 d).2*m-p.2=(st8 d).2*m by lia,Int.natAbs_mul,Int.natAbs_mul]
 have t:((m.natAbs:Nat):Int)=m:=Int.natAbs_of_nonneg (Na hm)
 rcases gxs d hd with⟨e,g⟩|⟨e,g⟩
 ·rw[e,Nat.one_mul,t];refine Int.max_eq_left ?_;rw[Int.natCast_mul,t];exact Nj (Int.mul_le_mul_of_nonneg_right (Int.ofNat_le.mpr g) (Na hm)) (by rw[Int.natCast_one,Oa];exact NZ _)
 rw[e,Nat.one_mul,t];refine Int.max_eq_right ?_;rw[Int.natCast_mul,t];exact Nj (Int.mul_le_mul_of_nonneg_right (Int.ofNat_le.mpr g) (Na hm)) (by rw[Int.natCast_one,Oa];exact NZ _)
theorem Jw{a b:Nat}(ha:a<8)(hb:b<8)(h:st8 a=st8 b):a=b:=by
 have:∀a,a<8->∀b,b<8->st8 a=st8 b->a=b:=by decide
 exact this a ha b hb h
theorem Gb{a b:Nat}(ha:a<8)(hb:b<8)(hm:0<m)(h:az p a m=az p b m):a=b:=by unfold az at h;have h1:p.1+(st8 a).1*m=p.1+(st8 b).1*m:=congrArg Og h;have h2:p.2+(st8 a).2*m=p.2+(st8 b).2*m:=congrArg PJ h;exact Jw ha hb (D' (Oh (P4 hm) (OW h1)) (Oh (P4 hm) (OW h2)))
theorem C3{q:Pt}(h:Sg (p,q) d m):lead p q=some d:=by
 have hf:=qc h;obtain⟨hd,hm,e⟩:=h;have e:q=az p d m:=e;unfold lead;rw[if_neg (by lia),hf];cases hx:(B' 8).find? λd=>decide (az p d m=q)with
 |none=>exact absurd (decide_eq_true e.symm) (List.find?_eq_none.mp hx d (K_.mpr hd))
 |some x=>
  have h1:az p x m=q:=of_decide_eq_true (RO (p:=λd=>decide (az p d m=q)) hx);have h2:=K_.mp (Qx hx);rw[e]at h1;exact congrArg some (Gb h2 hd hm h1)
def bR(e:Ed):List Pt:=(B' (2*far e.1 e.2).toNat).map λ(t:Nat)=>(2*e.1.1+(e.2.1-e.1.1)/far e.1 e.2*(t:Int),2*e.1.2+(e.2.2-e.1.2)/far e.1 e.2*(t:Int))
def hpt(e:Ed)(d:Nat)(s:Int):Pt:=(2*e.1.1+(st8 d).1*s,2*e.1.2+(st8 d).2*s)
theorem acl(a b:Int):a+b-a=b:=by lia
theorem gA(h:Sg e d m):bR e=(B' (2*m).toNat).map λ(t:Nat)=>hpt e d t:=by obtain⟨p,q⟩:=e;have hf:=qc h;obtain⟨hd,hm,e⟩:=h;have e:q=az p d m:=e;have z:m≠0:=P4 hm;unfold bR hpt;dsimp only;rw[hf,e];unfold az;dsimp only;rw[acl,acl,OX _ z,OX _ z]
theorem fj(h:Sg e d m){x:Pt}:x∈bR e↔∃s:Int,0<=s/\s<2*m/\x=hpt e d s:=by
 rw[gA h,s_];constructor
 ·rintro⟨t,mt,rfl⟩;have:=K_.mp mt;exact⟨t,by lia,by lia,rfl⟩
 rintro⟨s,h1,h2,rfl⟩;exact⟨s.toNat,K_.mpr (by lia),by rw[P' h1]⟩
theorem Ic(h:d<8):(st8 d).1≠0\/(st8 d).2≠0:=by
 match d,h with
 |0,_=>decide
 |1,_=>decide
 |2,_=>decide
 |3,_=>decide
 |4,_=>decide
 |5,_=>decide
 |6,_=>decide
 |7,_=>decide
theorem Fd(hd:d<8){t:Int}(h:hpt e d s=hpt e d t):s=t:=by
 have h1:(st8 d).1*s=(st8 d).1*t:=OW (congrArg Og h);have h2:(st8 d).2*s=(st8 d).2*t:=OW (congrArg PJ h);rcases Ic hd with z|z
 ·exact Qy z h1
 exact Qy z h2
theorem iR(h:Sg e d m):(bR e).Nodup:=by rw[gA h];refine Nz.mpr (List.nodup_range.imp λ{a b} ne z=>ne ?_);have:=Fd h.dl z;lia
theorem GZ:hpt e d 0=(2*e.1.1,2*e.1.2):=by unfold hpt;rw[O6,O6,OJ,OJ]
theorem nP(h:Sg e d m):hpt e d (2*m-s)=(2*e.2.1-(st8 d).1*s,2*e.2.2-(st8 d).2*s):=by rw[h.eq];unfold hpt az;exact D' (by dsimp only;grind) (by dsimp only;grind)
theorem Au(h:Sg e d m):(2*e.1.1,2*e.1.2)∈bR e:=(fj h).mpr ⟨0,NZ _,by have:=h.mp;lia,GZ.symm⟩
theorem L9{a b:Nat}(ha:a<8)(hb:b<8):((a:Int)-(b:Int))%8=4↔(st8 a).1=-(st8 b).1/\(st8 a).2=-(st8 b).2:=by
 have:∀a:Nat,a<8->∀b:Nat,b<8->(((a:Int)-(b:Int))%8=4↔(st8 a).1=-(st8 b).1/\(st8 a).2=-(st8 b).2):=by decide
 exact this a ha b hb
theorem EZ{a b:Nat}(ha:a<8)(hb:b<8){t:Int}(hs:0<s)(ht:0<=t)(h1:(st8 a).1*t=-((st8 b).1*s))(h2:(st8 a).2*t=-((st8 b).2*s)):(st8 a).1=-(st8 b).1/\(st8 a).2=-(st8 b).2:=by
 have n1:=congrArg Sf h1;have n2:=congrArg Sf h2;rw[Int.natAbs_neg,Qc,Qc]at n1 n2;have u1:=zB ha;have u2:=zB hb;have e:t=s:=by
  have l1:max ((st8 a).1.natAbs*t.natAbs) ((st8 a).2.natAbs*t.natAbs)=t.natAbs:=by rw[Q6,show max (st8 a).1.natAbs (st8 a).2.natAbs=1 by omega,R_]
  have l2:max ((st8 b).1.natAbs*s.natAbs) ((st8 b).2.natAbs*s.natAbs)=s.natAbs:=by rw[Q6,show max (st8 b).1.natAbs (st8 b).2.natAbs=1 by omega,R_]
  rw[n1,n2,l2]at l1;lia
 have z:s≠0:=P4 hs;rw[e,<-OD]at h1 h2;exact⟨Oh z h1,Oh z h2⟩
theorem uz{a b:Nat}(h:Sg e a m)(g:Sg o b n)(c:e.2=o.1){x:Pt}(h1:x∈bR e)(h2:x∈bR o):((b:Int)-(a:Int))%8=4:=by obtain⟨s,s0,s1,rfl⟩:=(fj h).mp h1;obtain⟨t,t0,t1,e2⟩:=(fj g).mp h2;have e3:hpt e a s=hpt e a (2*m-(2*m-s)):=congrArg (hpt e a) (by lia);rw[e3,nP h,c]at e2;have q1:2*o.1.1-(st8 a).1*(2*m-s)=2*o.1.1+(st8 b).1*t:=congrArg Og e2;have q2:2*o.1.2-(st8 a).2*(2*m-s)=2*o.1.2+(st8 b).2*t:=congrArg PJ e2;exact(L9 g.dl h.dl).mpr (EZ g.dl h.dl (s:=2*m-s) (t:=t) (by lia) t0 (by lia) (by lia))
theorem AI{a b:Nat}(h:Sg e a m)(g:Sg o b n)(c:e.2=o.1)(z:((b:Int)-(a:Int))%8=4):∃x,x∈bR e/\x∈bR o:=by obtain⟨z1,z2⟩:=(L9 g.dl h.dl).mp z;have:=h.mp;have:=g.mp;refine⟨hpt o b 1,(fj h).mpr ⟨2*m-1,by lia,by lia,?_⟩,(fj g).mpr ⟨1,by lia,by lia,rfl⟩⟩;rw[nP h,c];unfold hpt;rw[z1,z2];exact D' (by dsimp only;lia) (by dsimp only;lia)
theorem xH{a b:Nat}(h:Sg e a m)(g:Sg o b n):com e o=true↔∃s t:Int,0<=s/\s<=2*m/\0<=t/\t<=2*n/\hpt e a s=hpt o b t:=by
 obtain⟨p,p'⟩:=e;obtain⟨q,q'⟩:=o;have e1:p'=az p a m:=h.eq;have e2:q'=az q b n:=g.eq;rw[e1,e2,geo h.dl g.dl h.mp g.mp];unfold Meet hpt;constructor
 ·rintro⟨s,t,h1,h2,h3,h4,h5,h6⟩;exact⟨s,t,h1,h2,h3,h4,D' h5 h6⟩
 rintro⟨s,t,h1,h2,h3,h4,h5⟩;exact⟨s,t,h1,h2,h3,h4,congrArg Og h5,congrArg PJ h5⟩
theorem nW{l:List α}{z:α}(h:i<l.length):l[i]?=some (l.getD i z):=by
 rw[i_,f_ h]
 rfl
theorem iz(h:i<ps.length):(aj ps)[i]?=some (ps.getD i z,ps.getD ((i+1)%ps.length) z):=by
 refine Qv.mpr ⟨nW h,?_⟩;show _=some (ps.getD ((i+1)%ps.length) z);by_cases g:i+1<ps.length
 ·rw[Ny (by rw[o_];lia),Nd,R7 1 i,NF g];exact nW g
 have g:i+1=ps.length:=by lia
 rw[MY (by rw[o_];omega),o_,g,O7,show i-(ps.length-1)=0 by lia,NA (by decide)];exact nW (by lia)
abbrev e00:Ed:=((0,0),(0,0))
structure Lp (es:List Ed) (n:Nat):Prop where
 len:es.length=n
 st:∀i,i<n->Sg (es.getD i e00) (gC (es.getD i e00)) (far (es.getD i e00).1 (es.getD i e00).2)
 ch:∀i,i<n->(es.getD i e00).2=(es.getD ((i+1)%n) e00).1
theorem GX(h:rj (aj ps)=true):Lp (aj ps) ps.length where
 len:=gI ps
 st:=λi hi=>by
  have e:=iz (z:=(0,0)) hi;have e2:(aj ps).getD i e00=(ps.getD i (0,0),ps.getD ((i+1)%ps.length) (0,0)):=by rw[i_,e];rfl
  have g:=NU.mp h _ (D_ e);obtain⟨d,hd⟩:=Ot.mp g;rw[e2];have hw:gC (ps.getD i (0,0),ps.getD ((i+1)%ps.length) (0,0))=d:=by unfold gC;rw[hd];rfl
  rw[hw];exact Ig hd
 ch:=λi hi=>by
  have l:(i+1)%ps.length<ps.length:=NT _ (by lia);have g:∀k,k<ps.length->(aj ps).getD k e00=(ps.getD k (0,0),ps.getD ((k+1)%ps.length) (0,0)):=λk h=>by rw[i_,iz (z:=(0,0)) h];rfl
  rw[g i hi,g _ l]
variable {es:List Ed}
theorem qK:o∈beyond es i↔∃j,i+2<=j/\(i=0->j<es.length-1)/\es[j]?=some o:=by
 unfold beyond;rw[Od];split
 ·rename_i h;subst h;constructor
  ·rintro⟨k,e⟩;rw[Nd]at e;have l:2+k<es.length-1:=by have:=(gV.mp e).1;rw[p_]at this;omega
   rw[NA l]at e;exact⟨2+k,by lia,λ_=>l,e⟩
  rintro⟨j,h1,h2,e⟩;refine⟨j-2,?_⟩;rw[Nd,show 2+(j-2)=j by lia,NA (h2 rfl)];exact e
 rename_i h;constructor
 ·rintro⟨k,e⟩;rw[Nd]at e;exact⟨i+2+k,by lia,λz=>absurd z h,e⟩
 rintro⟨j,h1,h2,e⟩;refine⟨j-(i+2),?_⟩;rw[Nd,show i+2+(j-(i+2))=j by omega];exact e
theorem ud:pQ es=true↔∃i j,i+2<=j/\j<es.length/\(i=0->j<es.length-1)/\com (es.getD i e00) (es.getD j e00)=true:=by
 unfold pQ nU;rw[ND];constructor
 ·rintro⟨i,mi,h⟩;rw[nW (z:=e00) (K_.mp mi)]at h;obtain⟨o,mo,hc⟩:=ND.mp h;obtain⟨j,h1,h2,e⟩:=qK.mp mo;have hj:j<es.length:=(gV.mp e).1;refine⟨i,j,h1,hj,h2,?_⟩;rw[i_ (i:=j),e];exact hc
 rintro⟨i,j,h1,hj,h2,hc⟩;refine⟨i,K_.mpr (by lia),?_⟩;rw[nW (z:=e00) (show i<es.length by lia)];exact ND.mpr ⟨_,qK.mpr ⟨j,h1,h2,nW hj⟩,hc⟩
theorem oG:uF (es.map gC)=true↔∃i,i<es.length/\((gC (es.getD i e00):Int)-(gC (es.getD (ig es.length i) e00):Int))%8=4:=by
 have g:∀i,i<es.length->(es.map gC).getD i 0=gC (es.getD i e00):=λi h=>by rw[i_,u_,nW (z:=e00) h];rfl
 unfold uF rX;rw[ND,a_];constructor
 ·rintro⟨i,mi,h⟩;have hi:=K_.mp mi;have:=of_decide_eq_true h;rw[g i hi,g _ (by unfold ig;split <;> lia)]at this;exact⟨i,hi,this⟩
 rintro⟨i,hi,h⟩;refine⟨i,K_.mpr hi,decide_eq_true ?_⟩;rw[g i hi,g _ (by unfold ig;split <;> lia)];exact h
theorem Ah{n:Nat}(L:Lp es n):(es.flatMap bR).Nodup↔∀i j,i<j->j<n->∀x,x∈bR (es.getD i e00)->x∈bR (es.getD j e00)->False:=by
 have ln:=L.len;unfold Sh;rw[PK];have gg:∀i (h:i<es.length),es[i]=es.getD i e00:=λi h=>by rw[i_,f_ h];rfl
 constructor
 ·rintro⟨_,h⟩ i j jp hj x h1 h2;have hi':i<es.length:=by lia
  have hj':j<es.length:=by lia
  have:=NY.mp h i j hi' hj' jp;rw[gg,gg]at this;exact this x h1 x h2 rfl
 intro h;refine⟨λe me=>?_,NY.mpr λi j hi hj jp x hx y hy z=>?_⟩
 ·obtain⟨i,hi,e1⟩:=NM.mp me;rw[<-e1,gg];exact iR (L.st i (by lia))
 rw[gg]at hx hy;exact h i j jp (by lia) x hx (by rw[z];exact hy)
theorem B2{n:Nat}(L:Lp es n)(h3:3<=n):(es.flatMap bR).Nodup↔uF (es.map gC)=false/\pQ es=false:=by
 have ln:=L.len;rw[Ah L];constructor
 ·intro h;have sym:∀i j,i≠j->i<n->j<n->∀x,x∈bR (es.getD i e00)->x∈bR (es.getD j e00)->False:=λi j ne hi hj x h1 h2=>by
   rcases Nat.lt_or_gt_of_ne ne with c|c
   ·exact h i j c hj x h1 h2
   exact h j i c hi x h2 h1
  refine⟨N5.mpr λz=>?_,N5.mpr λz=>?_⟩
  ·obtain⟨i,hi,hb⟩:=oG.mp z;rw[ln]at hb hi;have hp:ig n i<n/\ig n i≠i/\(ig n i+1)%n=i:=by
    unfold ig;split
    ·rename_i q;subst q;exact⟨by lia,by lia,by rw[show n-1+1=n by lia,O7]⟩
    exact⟨by lia,by lia,by rw[show i-1+1=i by lia,NF hi]⟩
   have hc:=L.ch _ hp.1;rw[hp.2.2]at hc;obtain⟨x,x1,x2⟩:=AI (L.st _ hp.1) (L.st i hi) hc hb;exact sym _ _ hp.2.1 hp.1 hi x x1 x2
  obtain⟨i,j,h1,hj,h2,hc⟩:=ud.mp z;rw[ln]at hj h2;have hi:i<n:=by lia
  obtain⟨s,t,s0,s1,t0,t1,e⟩:=(xH (L.st i hi) (L.st j hj)).mp hc;have pick:∀{k:Nat}{s:Int},k<n->0<=s->s<=2*far (es.getD k e00).1 (es.getD k e00).2->hpt (es.getD k e00) (gC (es.getD k e00)) s∈bR (es.getD k e00)\/hpt (es.getD k e00) (gC (es.getD k e00)) s∈bR (es.getD ((k+1)%n) e00):=λ{k s} hk g0 g1=>by
   by_cases c:s<2*far (es.getD k e00).1 (es.getD k e00).2
   ·exact .inl ((fj (L.st k hk)).mpr ⟨s,g0,c,rfl⟩)
   refine .inr ?_;have e0:s=2*far (es.getD k e00).1 (es.getD k e00).2-0:=by lia
   rw[e0,nP (L.st k hk),O6,O6,P5,P5,L.ch k hk];exact Au (L.st _ (NT _ (by lia)))
  have i1:(i+1)%n=i+1:=NF (by lia);have j1:(j+1)%n=j+1/\j+1<n\/(j+1)%n=0/\j+1=n:=by
   by_cases c:j+1<n
   ·exact .inl ⟨NF c,c⟩
   have c:j+1=n:=by lia
   exact .inr ⟨by rw[c,O7],c⟩
  have q1:=pick hi s0 s1;have q2:=pick hj t0 t1;rw[<-e,]at q2;rw[i1]at q1;rcases q1 with q1|q1 <;> rcases q2 with q2|q2
  ·exact sym i j (by lia) hi hj _ q1 q2
  ·exact sym i _ (by lia) hi (NT _ (by lia)) _ q1 q2
  ·exact sym (i+1) j (by lia) (by lia) hj _ q1 q2
  exact sym (i+1) _ (by lia) (by lia) (NT _ (by lia)) _ q1 q2
 rintro⟨hb,ht⟩ i j jp hj x h1 h2;have hi:i<n:=by lia
 by_cases c1:j=i+1
 ·have hc:=L.ch i hi;rw[NF (by lia),<-c1]at hc;have:=uz (L.st i hi) (L.st j hj) hc h1 h2;refine absurd ((oG (es:=es)).mpr ⟨j,by lia,?_⟩) (by rw[hb];exact NX);rw[show ig es.length j=i by unfold ig;rw[if_neg (by lia)];lia];exact this
 by_cases c2:i=0/\j=n-1
 ·obtain⟨r1,r2⟩:=c2;have hc:=L.ch j hj;rw[show j+1=n by lia,O7,<-r1]at hc;have:=uz (L.st j hj) (L.st i hi) hc h2 h1;refine absurd ((oG (es:=es)).mpr ⟨i,by lia,?_⟩) (by rw[hb];exact NX);rw[show ig es.length i=j by unfold ig;rw[if_pos r1];lia];exact this
 obtain⟨s,s0,s1,e1⟩:=(fj (L.st i hi)).mp h1;obtain⟨t,t0,t1,e2⟩:=(fj (L.st j hj)).mp h2;refine absurd (ud.mpr ⟨i,j,by lia,by lia,λz=>by lia,(xH (L.st i hi) (L.st j hj)).mpr ⟨s,t,s0,by lia,t0,by lia,by rw[<-e1,<-e2]⟩⟩) (by rw[ht];exact NX)
def yi(ps:List Pt):Bool:=decide (3<=ps.length)&&(rj (aj ps)&&decide ((aj ps).flatMap bR).Nodup)
theorem C4(h3:3<=ps.length):J7 ps=yi ps:=by
 unfold J7 yi;rw[decide_eq_true h3,Np];cases hg:rj (aj ps)with
 |false=>rfl
 |true=>
  rw[Np,Np];have:=B2 (GX hg) h3;by_cases c:((aj ps).flatMap bR).Nodup
  ·obtain⟨a,b⟩:=this.mp c;rw[a,b,decide_eq_true c]
   rfl
  rw[decide_eq_false c];refine N5.mpr λz=>c (this.mpr ?_);rw[L_,Qr,Qr]at z;exact z
theorem lT{k:Nat}(hk:k<=ps.length):(aj (ps.drop k++ps.take k)).Perm (aj ps):=by
 have e:aj (ps.drop k++ps.take k)=(aj ps).drop k++(aj ps).take k:=by
  have ll:(ps.drop k++ps.take k).length=ps.length:=by rw[c_,o_,p_];lia
  have le:=gI ps;have rot:∀{α:Type}{l:List α}{z:α}{i:Nat},k<=l.length->i<l.length->(l.drop k++l.take k).getD i z=l.getD ((i+k)%l.length) z:=λ{α l z i} hk hi=>by
   rw[i_,i_];congr 1;by_cases c:i<l.length-k
   ·rw[Ny (by rw[o_];exact c),Nd,NF (by lia),R7]
   rw[MY (by rw[o_];lia),o_,NA (by lia),Nat.mod_eq_sub_mod (by lia),NF (by lia),show i-(l.length-k)=i+k-l.length by lia]
  refine Pc λi=>?_;by_cases hi:i<ps.length
  ·have l1:(i+1)%ps.length<ps.length:=NT _ (by lia);have l2:(i+k)%ps.length<ps.length:=NT _ (by lia);rw[iz (z:=(0,0)) (by rw[ll];exact hi),ll,rot hk hi,rot hk l1,nW (z:=e00) (l:=(aj ps).drop k++(aj ps).take k) (i:=i) (by rw[c_,o_,p_,le];lia),rot (by rw[le];exact hk) (by rw[le];exact hi),le,i_ (l:=aj ps),iz (z:=(0,0)) l2];congr 2;have:((i+1)%ps.length+k)%ps.length=((i+k)%ps.length+1)%ps.length:=by rw[QV ((i+1)%ps.length),R',<-QV,QV ((i+k)%ps.length),R',<-QV,Rt]
   rw[this]
  rw[NK (by rw[gI,ll];lia),NK (by rw[c_,o_,p_,le];lia)]
 rw[e];refine Nh.trans ?_;rw[J_]
noncomputable def swp(e:Ed):Ed:=(e.2,e.1)
theorem lF:(aj ps.reverse).Perm ((aj ps).map swp):=by
 by_cases h0:ps.length=0
 ·rw[I_ h0];exact RV _
 have le:=gI ps;have gr:∀{i:Nat},i<ps.length->ps.reverse.getD i (0,0)=ps.getD (ps.length-1-i) (0,0):=λ{i} hi=>by rw[i_,i_,OH hi]
 have e:aj ps.reverse=(((aj ps).map swp).take (ps.length-1)).reverse++((aj ps).map swp).drop (ps.length-1):=by
  have lt:(((aj ps).map swp).take (ps.length-1)).length=ps.length-1:=by rw[p_,a_,le];lia
  refine Pc λi=>?_;by_cases hi:i<ps.length
  ·have sw:∀{j:Nat},j<ps.length->((aj ps).map swp)[j]?=some (ps.getD ((j+1)%ps.length) (0,0),ps.getD j (0,0)):=λ{j} hj=>by rw[u_,iz (z:=(0,0)) hj];rfl
   rw[iz (z:=(0,0)) (by rw[A'];exact hi),A'];by_cases c:i<ps.length-1
   ·rw[Ny (by rw[A',lt];exact c),OH (by rw[lt];exact c),lt,NA (by omega),sw (by omega),gr hi,NF (by lia),gr (by lia),NF (by omega),show ps.length-1-1-i+1=ps.length-1-i by lia,show ps.length-1-(i+1)=ps.length-1-1-i by lia]
   have ei:i=ps.length-1:=by lia
   rw[MY (by rw[A',lt];lia),A',lt,Nd,sw (by lia),ei,show ps.length-1+(ps.length-1-(ps.length-1))=ps.length-1 by lia,show ps.length-1+1=ps.length by lia,O7,gr (by lia),gr (by lia)];congr 3;lia
  rw[NK (by rw[gI,A'];lia),NK (by rw[c_,A',o_,lt,a_,le];lia)]
 rw[e];refine(Pm _ (Ph _)).trans ?_;rw[J_]
structure Spl (ps:List Pt):Prop where
 len:3<=ps.length
 st:∀e∈aj ps,∃d m,Sg e d m
 nd:((aj ps).flatMap bR).Nodup
theorem A7(h:∀e∈es,∃d m,Sg e d m):rj es=true:=NU.mpr λe me=>by
 obtain⟨d,m,s⟩:=h e me;have:=C3 (p:=e.1) (q:=e.2) s;rw[this]
 rfl
theorem Ex(h:Spl ps):yi ps=true:=by
 unfold yi;rw[decide_eq_true h.len,A7 h.st,decide_eq_true h.nd]
 rfl
theorem CU{qs:List Pt}(h:Spl ps)(l:qs.length=ps.length)(p:(aj qs).Perm (aj ps)):Spl qs where
 len:=by rw[l];exact h.len
 st:=λe me=>h.st e (p.mem_iff.mp me)
 nd:=((p.flatMap_right bR).nodup_iff).mpr h.nd
theorem A9{k:Nat}(h:Spl ps)(hk:k<=ps.length):Spl (ps.drop k++ps.take k):=CU h (by rw[c_,o_,p_];lia) (lT hk)
theorem EX(h:d<8):∃d',d'<8/\(st8 d').1=-(st8 d).1/\(st8 d').2=-(st8 d).2:=by
 match d,h with
 |0,_=>exact⟨4,by decide⟩
 |1,_=>exact⟨5,by decide⟩
 |2,_=>exact⟨6,by decide⟩
 |3,_=>exact⟨7,by decide⟩
 |4,_=>exact⟨0,by decide⟩
 |5,_=>exact⟨1,by decide⟩
 |6,_=>exact⟨2,by decide⟩
 |7,_=>exact⟨3,by decide⟩
theorem vW(h:Sg e d m):∃d',Sg (swp e) d' m/\∀s,hpt (swp e) d' s=hpt e d (2*m-s):=by
 obtain⟨d',h1,h2,h3⟩:=EX h.dl;have ee:=h.eq;refine⟨d',⟨h1,h.mp,?_⟩,λs=>?_⟩
 ·show e.1=az e.2 d' m;rw[ee];unfold az;rw[h2,h3];exact D' (by dsimp only;grind) (by dsimp only;grind)
 rw[nP h];unfold hpt swp;rw[h2,h3];exact D' (by dsimp only;grind) (by dsimp only;grind)
theorem FO(f:Nat->α)(n:Nat):(B' n).map (λt=>f (n-1-t))=((B' n).map f).reverse:=by
 refine Pc λi=>?_;by_cases h:i<n
 ·rw[OH (by rw[a_,MX];exact h),u_,u_,N8 h,a_,MX,N8 (by omega)]
  rfl
 rw[NK (by rw[a_,MX];lia),NK (by rw[A',a_,MX];lia)]
theorem FC(h:Sg e d m):(bR (swp e)++[(2*e.1.1,2*e.1.2)]).Perm (bR e++[(2*e.2.1,2*e.2.2)]):=by
 obtain⟨d',h1,h2⟩:=vW h;have hm:=h.mp;have n0:((2*m).toNat:Int)=2*m:=P' (by lia);have a:bR (swp e)++[(2*e.1.1,2*e.1.2)]=(B' ((2*m).toNat+1)).map (λt=>hpt e d ((((2*m).toNat+1-1-t:Nat)):Int)):=by
  rw[gA h1,OZ,m_,f',NL,Nat.add_sub_cancel,O2];congr 1
  ·refine Ni λt mt=>?_;have:=K_.mp mt;rw[h2];congr 1;lia
  rw[<-GZ (e:=e) (d:=d)]
  rfl
 have b:bR e++[(2*e.2.1,2*e.2.2)]=(B' ((2*m).toNat+1)).map (λ(t:Nat)=>hpt e d (t:Int)):=by rw[gA h,OZ,m_,f',NL,n0];congr 2;have:=nP h (s:=0);rw[P5,O6,O6,P5,P5]at this;exact this.symm
 rw[a,b,FO (λ(t:Nat)=>hpt e d (t:Int))];exact Ph _
theorem vf:∀{es:List Ed},(∀e∈es,∃d m,Sg e d m)->((es.map swp).flatMap bR++es.map (λe=>((2*e.1.1,2*e.1.2):Pt))).Perm (es.flatMap bR++es.map (λe=>((2*e.2.1,2*e.2.2):Pt)))
 | [],_=>RV _
 |e::es,h=>by
  obtain⟨d,m,s⟩:=h e (.head _);have h1:=FC s;have h2:=vf (es:=es) λe me=>h e (.tail _ me);rw[f',A_,f',A_,f'];have mv:∀(A B C:List Pt) (x:Pt),((A++B)++x::C).Perm ((A++[x])++(B++C)):=λA B C x=>by rw[g_,g_];exact Ng A h_
  exact(mv _ _ _ _).trans ((h1.append h2).trans (mv _ _ _ _).symm)
theorem Ax:(aj ps).map (·.1)=ps:=by unfold aj;exact List.map_fst_zip (by rw[c_,o_,p_];lia)
theorem Bq:(aj ps).map (·.2)=ps.drop 1++ps.take 1:=by unfold aj;exact List.map_snd_zip (by rw[c_,o_,p_];omega)
theorem yX(h:Spl ps):Spl ps.reverse:=by
 have pr:=lF (ps:=ps);refine⟨by rw[A'];exact h.len,λe me=>?_,((pr.flatMap_right bR).nodup_iff).mpr ?_⟩
 ·obtain⟨o,mo,rfl⟩:=s_.mp (pr.mem_iff.mp me);obtain⟨d,m,s⟩:=h.st o mo;obtain⟨d',h1,_⟩:=vW s;exact⟨d',m,h1⟩
 have s:=vf h.st;have f1:(aj ps).map (λe=>((2*e.1.1,2*e.1.2):Pt))=ps.map λp=>(2*p.1,2*p.2):=by have:=congrArg (NO λp:Pt=>((2*p.1,2*p.2):Pt)) (Ax (ps:=ps));rw[H_]at this;exact this
 have f2:(aj ps).map (λe=>((2*e.2.1,2*e.2.2):Pt))=(ps.drop 1++ps.take 1).map λp=>(2*p.1,2*p.2):=by have:=congrArg (NO λp:Pt=>((2*p.1,2*p.2):Pt)) (Bq (ps:=ps));rw[H_]at this;exact this
 rw[f1,f2]at s;have p2:((ps.drop 1++ps.take 1).map λp:Pt=>((2*p.1,2*p.2):Pt)).Perm (ps.map λp=>(2*p.1,2*p.2)):=by refine List.Perm.map _ (Nh.trans ?_);rw[J_]
 have s2:=s.trans (Ng _ p2);exact((List.perm_append_right_iff _).mp s2).nodup_iff.mpr h.nd
abbrev Tr3:=Pt×Nat×Int
def tE(t:Tr3):Ed:=(t.1,az t.1 t.2.1 t.2.2)
def Dj(a b:Tr3):Prop:=∀s u:Int,0<=s->s<2*a.2.2->0<=u->u<2*b.2.2->2*a.1.1+(st8 a.2.1).1*s=2*b.1.1+(st8 b.2.1).1*u->2*a.1.2+(st8 a.2.1).2*s=2*b.1.2+(st8 b.2.1).2*u->False
theorem vX{t:Tr3}(h:t.2.1<8)(m:0<t.2.2):Sg (tE t) t.2.1 t.2.2:=⟨h,m,rfl⟩
theorem vI{t:Tr3}(m:t.2.2=0):(tE t).2=(tE t).1:=by unfold tE az;rw[m];exact D' (by dsimp only;lia) (by dsimp only;lia)
theorem sH:far p p=0:=by unfold far;lia
theorem xa(h:e.2=e.1):bR e=[]:=by
 unfold bR;rw[h,sH]
 rfl
theorem Dn{t:Tr3}(h:t.2.1<8)(m:0<=t.2.2){x:Pt}(hx:x∈bR (tE t)):∃s:Int,0<=s/\s<2*t.2.2/\x=hpt (tE t) t.2.1 s:=by
 by_cases c:t.2.2=0
 ·rw[xa (vI c)]at hx;cases hx
 exact(fj (vX h (by lia))).mp hx
def npt(ps:List Pt):Nat:=((aj ps).flatMap bR).length
theorem C0{qs:List Pt}(p:(aj qs).Perm (aj ps)):npt qs=npt ps:=(p.flatMap_right bR).length_eq
theorem Gu(h:Spl ps):npt ps.reverse=npt ps:=by have s:=(vf h.st).length_eq;rw[c_,c_,a_,a_]at s;unfold npt;rw[((lF (ps:=ps)).flatMap_right bR).length_eq];lia
theorem Ih{t:Tr3}(h:t.2.1<8)(m:0<=t.2.2):(bR (tE t)).length=(2*t.2.2).toNat:=by
 by_cases c:t.2.2=0
 ·rw[xa (vI c),c]
  rfl
 rw[gA (vX h (by lia)),a_,MX]
theorem Cc{f:Ed->Bool}:∀{ts:List Tr3},(∀t∈ts,t.2.1<8/\0<=t.2.2)->(((ts.map tE).filter f).flatMap bR).length<=(ts.map λt=>(2*t.2.2).toNat).sum
 | [],_=>e_ _
 |t::ts,h=>by
  have ih:=Cc (f:=f) (ts:=ts) λx m=>h x (.tail _ m);have e:=Ih (h t (.head _)).1 (h t (.head _)).2;rw[f',f',F_,NV];split
  ·rw[A_,c_,e];lia
  lia
theorem xy(h1:0<ps.length)(st:∀e∈aj ps,∃d m,Sg e d m)(nd:((aj ps).flatMap bR).Nodup):3<=ps.length:=by
 have L:=GX (A7 st);by_cases c1:ps.length=1
 ·have s:=L.st 0 (by omega);have c:=L.ch 0 (by omega);rw[c1]at c;have c:((aj ps).getD 0 e00).2=((aj ps).getD 0 e00).1:=c;have f:=s.mp;rw[c,sH]at f;exact absurd f (by decide)
 by_cases c2:ps.length=2
 ·have s:=L.st 0 (by omega);have c:=L.ch 0 (by omega);have d:=L.ch 1 (by lia);rw[c2]at c d;have c:((aj ps).getD 0 e00).2=((aj ps).getD 1 e00).1:=c;have d:((aj ps).getD 1 e00).2=((aj ps).getD 0 e00).1:=d;have e:(aj ps).getD 1 e00=swp ((aj ps).getD 0 e00):=D' c.symm d;obtain⟨d',g1,g2⟩:=vW s;have m:=s.mp;refine absurd ?_ ((Ah L).mp nd 0 1 (by decide) (by lia) _ ((fj s).mpr ⟨2*far ((aj ps).getD 0 e00).1 ((aj ps).getD 0 e00).2-1,by lia,by lia,(g2 1)⟩));rw[e];exact(fj g1).mpr ⟨1,by lia,by lia,rfl⟩
 lia
theorem D9{ts:List Tr3}(hp:(aj ps).Perm ((ts.map tE).filter λe=>decide (e.2≠e.1)))(hd:∀t∈ts,t.2.1<8/\0<=t.2.2)(h1:0<ps.length)(dj:ts.Pairwise Dj):Spl ps/\npt ps<=(ts.map λt=>(2*t.2.2).toNat).sum:=by
 have st:∀e∈aj ps,∃d m,Sg e d m:=λe me=>by obtain⟨m1,m2⟩:=N0.mp (hp.mem_iff.mp me);obtain⟨t,mt,rfl⟩:=s_.mp m1;obtain⟨g1,g2⟩:=hd t mt;have ne:=of_decide_eq_true m2;have:t.2.2≠0:=λz=>ne (vI z);exact⟨_,_,vX g1 (by lia)⟩
 have nd:((aj ps).flatMap bR).Nodup:=by
  refine((hp.flatMap_right bR).nodup_iff).mpr ?_;unfold Sh;rw[PK];refine⟨λe me=>?_,List.Pairwise.filter _ (Nz.mpr (dj.imp_of_mem λ{a b} ma mb q=>?_))⟩
  ·obtain⟨d,m,s⟩:=st e (hp.mem_iff.mpr me);exact iR s
  intro x hx y hy z;obtain⟨s,s0,s1,e1⟩:=Dn (hd a ma).1 (hd a ma).2 hx;obtain⟨u,u0,u1,e2⟩:=Dn (hd b mb).1 (hd b mb).2 hy;rw[e1,e2]at z;exact q s u s0 s1 u0 u1 (congrArg Og z) (congrArg PJ z)
 refine⟨⟨xy h1 st nd,st,nd⟩,?_⟩;unfold npt;rw[(hp.flatMap_right bR).length_eq];exact Cc hd
theorem qg{ts:List Tr3}(hp:aj ps=ts.map tE)(hd:∀t∈ts,t.2.1<8/\0<t.2.2)(h1:0<ps.length)(dj:ts.Pairwise Dj):Spl ps/\npt ps<=(ts.map λt=>(2*t.2.2).toNat).sum:=by refine D9 (ts:=ts) ?_ (λt m=>⟨(hd t m).1,Na (hd t m).2⟩) h1 dj;rw[hp,Rk.mpr];intro e me;obtain⟨t,mt,rfl⟩:=s_.mp me;refine decide_eq_true λz=>?_;have f:=qc (p:=(tE t).1) (q:=(tE t).2) (vX (hd t mt).1 (hd t mt).2);rw[z,sH]at f;have:=(hd t mt).2;lia
noncomputable def edF:Pt->List Pt->List Ed
 | _,[]=>[]
 |p,q::l=>(p,q)::edF q l
theorem va:∀{r:List Pt}{a z:Pt},(a::r).zip (r++[z])=edF a r++[(r.getLastD a,z)]
 | [],a,z=>rfl
 |b::r,a,z=>by
  rw[G',NC,va (r:=r),Nv]
  rfl
theorem Ag{a:Pt}{r:List Pt}:(aj (a::r)).Perm (edF (r.getLastD a) (a::r)):=by unfold aj;show((a::r).zip (r++[a])).Perm _;rw[va];exact Nh
theorem vj:∀{l:List Pt}{p:Pt},edF p (ddl p l)=(edF p l).filter λe=>decide (e.2≠e.1)
 | [],_=>rfl
 |q::l,p=>by
  show edF p (if q=p then ddl q l else q::ddl q l)=((p,q)::edF q l).filter _;by_cases c:q=p
  ·rw[if_pos c,NV,if_neg (by rw[decide_eq_true_iff];exact λz=>z c),<-c];exact vj
  rw[if_neg c,NV,if_pos (decide_eq_true c),<-vj]
  rfl
theorem oT:∀{l:List Pt}{p:Pt},(ddl p l).getLastD p=l.getLastD p
 | [],_=>rfl
 |q::l,p=>by
  unfold ddl;rw[Nv];by_cases c:q=p
  ·rw[if_pos c,<-c];exact oT
  rw[if_neg c,Nv];exact oT
theorem uk{l:List Pt}(hl:l.getLastD p=p)(h:0<(ddl p l).length):(aj (ddl p l)).Perm ((edF p l).filter λe=>decide (e.2≠e.1)):=by
 rw[<-vj];have e:=oT (l:=l) (p:=p);rw[hl]at e;cases q:ddl p l with
 |nil=>rw[q]at h;cases h
 |cons a r=>
  rw[q,Nv]at e;have:=Ag (a:=a) (r:=r);rw[e]at this;exact this
theorem oY:st8 0=(1,0):=rfl
theorem r9:st8 1=(1,1):=rfl
theorem oE:st8 2=(0,1):=rfl
theorem sS:st8 3=(-1,1):=rfl
theorem ot:st8 4=(-1,0):=rfl
theorem sr:st8 5=(-1,-1):=rfl
theorem oo:st8 6=(0,-1):=rfl
theorem qE:st8 7=(1,-1):=rfl
theorem gxt{ts:List Tr3}(hd:∀t∈ts,t.2.1<8/\0<=t.2.2)(N:Nat)(b:2*(ts.map (·.2.2)).sum<=N):(ts.map λt=>(2*t.2.2).toNat).sum<=N:=by
 refine Int.ofNat_le.mp (Nj (Int.le_of_eq ?_) b);clear b;induction ts with
 |nil=>rfl
 |cons t ts ih=>
  rw[NO,NO,F_,F_,Int.natCast_add,ih λx m=>hd x (List.mem_cons_of_mem _ m),Int.toNat_of_nonneg (by have:=(hd t (List.mem_cons_self ..)).2;lia),Int.mul_add]
theorem FZ{d:Int}(hm:2*M<=w)(hn:2*M<=h)(hw:0<w)(hh:0<h)(ha:0<=a/\a<=M)(hb:0<=b/\b<=M)(hc:0<=c/\c<=M)(hd:0<=d/\d<=M)(h1:0<(lW x y w h a b c d).length)(w2:w<=14)(h2:h<=14):Spl (lW x y w h a b c d)/\npt (lW x y w h a b c d)<=160:=by
 have ee:edF (x,y+a) (pX x y w h a b c d)=[((x,y+a),7,a),((x+a,y),0,w-a-b),((x+w-b,y),1,b),((x+w,y+b),2,h-b-c),((x+w,y+h-c),3,c),((x+w-c,y+h),4,w-c-d),((x+d,y+h),5,d),((x,y+h-d),6,h-d-a)].map tE:=by
  unfold pX tE az;simp only[edF,NO,oY,r9,oE,sS,ot,sr,oo,qE,Nu,Pu,and_true,true_and]
  and_intros <;> lia
 have H1:∀t∈([((x,y+a),7,a),((x+a,y),0,w-a-b),((x+w-b,y),1,b),((x+w,y+b),2,h-b-c),((x+w,y+h-c),3,c),((x+w-c,y+h),4,w-c-d),((x+d,y+h),5,d),((x,y+h-d),6,h-d-a)]:List Tr3),t.2.1<8/\0<=t.2.2:=by
  simp only[Nl,Nx,false_imp_iff,implies_true,and_true]
  and_intros <;> lia
 refine Pw (λn=>r_ n (gxt H1 160 (by simp only[NO,F_,P6];lia))) (D9 ?_ H1 h1 ?_)
 ·rw[<-ee];exact uk rfl h1
 clear H1 ee;simp only[M_,Nl,Nx,false_imp_iff,implies_true,NH,and_true,Dj,oY,r9,oE,sS,ot,sr,oo,qE]
 and_intros <;>(intros;lia)
theorem Lg(u0:0<u)(u1:u<w)(v0:0<v)(v1:v<h)(w2:w<=14)(h2:h<=14):Spl [(x+0,y+0),(x+w,y+0),(x+w,y+v),(x+u,y+v),(x+u,y+h),(x+0,y+h)]/\npt [(x+0,y+0),(x+w,y+0),(x+w,y+v),(x+u,y+v),(x+u,y+h),(x+0,y+h)]<=160:=by
 refine Pw (λn=>r_ n (by simp only[NO,F_,P6];lia)) (qg (ts:=[((x+0,y+0),0,w),((x+w,y+0),2,v),((x+w,y+v),4,w-u),((x+u,y+v),2,h-v),((x+u,y+h),4,u),((x+0,y+h),6,h)]) ?_ ?_ (N3 _) ?_)
 ·unfold aj tE az;simp only[Rv,Rw,G',NJ,NC,O8,NO,oY,r9,oE,sS,ot,sr,oo,qE,Nu,Pu,and_true,true_and]
  and_intros <;> lia
 ·simp only[Nl,Nx,false_imp_iff,implies_true,and_true]
  and_intros <;> lia
 simp only[M_,Nl,Nx,false_imp_iff,implies_true,NH,and_true,Dj,oY,r9,oE,sS,ot,sr,oo,qE]
 and_intros <;>(intros;lia)
theorem M6(u0:0<u)(u1:2*u<w)(v0:0<v)(v1:v<h)(v2:2<=v)(w2:w<=14)(h2:h<=14):Spl [(x+0,y+0),(x+w,y+0),(x+w,y+h),(x+(w-u),y+h),(x+(w-u),y+v),(x+u,y+v),(x+u,y+h),(x+0,y+h)]/\npt [(x+0,y+0),(x+w,y+0),(x+w,y+h),(x+(w-u),y+h),(x+(w-u),y+v),(x+u,y+v),(x+u,y+h),(x+0,y+h)]<=160:=by
 refine Pw (λn=>r_ n (by simp only[NO,F_,P6];lia)) (qg (ts:=[((x+0,y+0),0,w),((x+w,y+0),2,h),((x+w,y+h),4,u),((x+(w-u),y+h),6,h-v),((x+(w-u),y+v),4,w-u-u),((x+u,y+v),2,h-v),((x+u,y+h),4,u),((x+0,y+h),6,h)]) ?_ ?_ (N3 _) ?_)
 ·unfold aj tE az;simp only[Rv,Rw,G',NJ,NC,O8,NO,oY,r9,oE,sS,ot,sr,oo,qE,Nu,Pu,and_true,true_and]
  and_intros <;> lia
 ·simp only[Nl,Nx,false_imp_iff,implies_true,and_true]
  and_intros <;> lia
 simp only[M_,Nl,Nx,false_imp_iff,implies_true,NH,and_true,Dj,oY,r9,oE,sS,ot,sr,oo,qE]
 and_intros <;>(intros;lia)
theorem KL{p q:Int}(u0:0<u)(u1:2*u<w)(p0:0<p)(p1:p<q)(q1:q<h)(pq:p+(h-q)<=12)(w2:w<=14)(h2:h<=14):Spl [(x+0,y+0),(x+u,y+0),(x+u,y+p),(x+(w-u),y+p),(x+(w-u),y+0),(x+w,y+0),(x+w,y+h),(x+(w-u),y+h),(x+(w-u),y+q),(x+u,y+q),(x+u,y+h),(x+0,y+h)]/\npt [(x+0,y+0),(x+u,y+0),(x+u,y+p),(x+(w-u),y+p),(x+(w-u),y+0),(x+w,y+0),(x+w,y+h),(x+(w-u),y+h),(x+(w-u),y+q),(x+u,y+q),(x+u,y+h),(x+0,y+h)]<=160:=by
 refine Pw (λn=>r_ n (by simp only[NO,F_,P6];lia)) (qg (ts:=[((x+0,y+0),0,u),((x+u,y+0),2,p),((x+u,y+p),0,w-u-u),((x+(w-u),y+p),6,p),((x+(w-u),y+0),0,u),((x+w,y+0),2,h),((x+w,y+h),4,u),((x+(w-u),y+h),6,h-q),((x+(w-u),y+q),4,w-u-u),((x+u,y+q),2,h-q),((x+u,y+h),4,u),((x+0,y+h),6,h)]) ?_ ?_ (N3 _) ?_)
 ·unfold aj tE az;simp only[Rv,Rw,G',NJ,NC,O8,NO,oY,r9,oE,sS,ot,sr,oo,qE,Nu,Pu,and_true,true_and]
  and_intros <;> lia
 ·simp only[Nl,Nx,false_imp_iff,implies_true,and_true]
  and_intros <;> lia
 simp only[M_,Nl,Nx,false_imp_iff,implies_true,NH,and_true,Dj,oY,r9,oE,sS,ot,sr,oo,qE]
 and_intros <;>(intros;lia)
theorem Ga{l:Int}(h:0<l)(l2:l<=14):Spl [(x,y),(x+l,y),(x,y+l)]/\npt [(x,y),(x+l,y),(x,y+l)]<=160:=by
 refine Pw (λn=>r_ n (by simp only[NO,F_,P6];lia)) (qg (ts:=[((x,y),0,l),((x+l,y),3,l),((x,y+l),6,l)]) ?_ ?_ (N3 _) ?_)
 ·unfold aj tE az;simp only[Rv,Rw,G',NJ,NC,O8,NO,oY,r9,oE,sS,ot,sr,oo,qE,Nu,Pu,and_true,true_and]
  and_intros <;> lia
 ·simp only[Nl,Nx,false_imp_iff,implies_true,and_true]
  and_intros <;> omega
 simp only[M_,Nl,Nx,false_imp_iff,implies_true,NH,and_true,Dj,oY,r9,oE,sS,ot,sr,oo,qE]
 and_intros <;>(intros;lia)
noncomputable def k7:List Pt->Pt->List Ed
 | [],_=>[]
 |p::l,z=>(p,l.headD z)::k7 l z
theorem js{a:Pt}{l:List Pt}:aj (a::l)=k7 (a::l) a:=by
 unfold aj;show(a::l).zip (l++[a])=_;have:∀(l:List Pt) (a z:Pt),(a::l).zip (l++[z])=k7 (a::l) z:=by
  intro l;induction l with
  |nil=>intro a z;rfl
  |cons b l ih=>intro a z;rw[G',NC,ih];rfl
 exact this l a a
inductive Rfn (z:Pt):List Pt->List Pt->Prop
 |nil:Rfn z [] []
 |keep {p:Pt}{l k:List Pt} (h:Rfn z l k):Rfn z (p::l) (p::k)
 |put {p:Pt}{l k:List Pt}{d:Nat}{m r:Int} (s:Sg (p,l.headD z) d m) (r0:0<r) (r1:r<m) (h:Rfn z l k):Rfn z (p::l) (p::az p d r::k)
theorem nj{l k:List Pt}(h:Rfn z l k):k.headD z=l.headD z:=by cases h <;> rfl
theorem Gs{l k:List Pt}(h:Rfn z l k):l.length<=k.length:=by
 induction h with
 |nil=>exact e_ _
 |keep h ih=>rw[i',i'];lia
 |put s r0 r1 h ih=>rw[i',i',i'];lia
theorem EH{q:Pt}{r:Int}(s:Sg (p,q) d m)(r0:0<r)(r1:r<m):Sg (p,az p d r) d r/\Sg (az p d r,q) d (m-r)/\bR (p,az p d r)++bR (az p d r,q)=bR (p,q):=by
 have e:q=az p d m:=s.eq;have s1:Sg (p,az p d r) d r:=⟨s.dl,r0,rfl⟩;have s2:Sg (az p d r,q) d (m-r):=⟨s.dl,by lia,by show q=az (az p d r) d (m-r);rw[e];unfold az;exact D' (by dsimp only;grind) (by dsimp only;grind)⟩
 refine⟨s1,s2,?_⟩;rw[gA s1,gA s2,gA s,show(2*m).toNat=(2*r).toNat+(2*(m-r)).toNat by lia,List.range_add,m_,H_];congr 1;refine Ni λt _=>?_;have n0:(((2*r).toNat+t:Nat):Int)=2*r+t:=by lia
 show hpt (az p d r,q) d t=hpt (p,q) d (((2*r).toNat+t:Nat):Int);rw[n0];unfold hpt az;exact D' (by dsimp only;grind) (by dsimp only;grind)
theorem E1{l k:List Pt}(h:Rfn z l k):(k7 k z).flatMap bR=(k7 l z).flatMap bR/\((∀e∈k7 l z,∃d m,Sg e d m)->∀e∈k7 k z,∃d m,Sg e d m):=by
 induction h with
 |nil=>exact⟨rfl,λh=>h⟩
 | @keep p l k h ih=>
  have hh:=nj h;unfold k7;rw[A_,A_,ih.1,hh];refine⟨rfl,λg e me=>?_⟩;rcases n_.mp me with rfl|me
  ·exact g _ (.head _)
  ·exact ih.2 (λe m=>g e (.tail _ m)) e me
 | @put p l k d m r s r0 r1 h ih=>
  have hh:=nj h;obtain⟨s1,s2,e3⟩:=EH s r0 r1;show((p,az p d r)::(az p d r,k.headD z)::k7 k z).flatMap bR=((p,l.headD z)::k7 l z).flatMap bR/\((∀e∈(p,l.headD z)::k7 l z,∃d m,Sg e d m)->∀e∈(p,az p d r)::(az p d r,k.headD z)::k7 k z,∃d m,Sg e d m);rw[A_,A_,A_,ih.1,hh,<-e3,g_];refine⟨rfl,λg e me=>?_⟩;rcases n_.mp me with rfl|me
  ·exact⟨_,_,s1⟩
  rcases n_.mp me with rfl|me
  ·exact⟨_,_,s2⟩
  exact ih.2 (λe m=>g e (.tail _ m)) e me
theorem Fy{qs:List Pt}(h:Spl ps)(r:Rfn (ps.headD (0,0)) ps qs):Spl qs:=by
 cases ps with
 |nil=>exact absurd h.len (by decide)
 |cons p l=>
  have r:Rfn p (p::l) qs:=r;have o:=E1 r;have ll:=Gs r;obtain⟨k,rfl⟩:∃k,qs=p::k:=by cases r <;> exact⟨_,rfl⟩
  have e1:aj (p::l)=k7 (p::l) p:=js;have e2:aj (p::k)=k7 (p::k) p:=js;refine⟨r_ h.len ll,by rw[e2];exact o.2 (by rw[<-e1];exact h.st),?_⟩;rw[e2,o.1,<-e1];exact h.nd
theorem FI{qs:List Pt}(h:Spl ps)(r:Rfn (ps.headD (0,0)) ps qs):npt qs=npt ps:=by
 cases ps with
 |nil=>exact absurd h.len (by decide)
 |cons p l=>
  have r:Rfn p (p::l) qs:=r;have o:=E1 r;obtain⟨k,rfl⟩:∃k,qs=p::k:=by cases r <;> exact⟨_,rfl⟩
  unfold npt;rw[js,js,o.1]
def iJ:List Pt->List Ed
 | []=>[]
 |p::l=>edF p l
theorem j8:∀{l:List Pt}{p q:Pt},edF p (l++[q])=edF p l++[(l.getLastD p,q)]
 | [],p,q=>rfl
 |a::l,p,q=>by
  rw[G',edF,j8,edF,Nv]
  rfl
structure Stp (l:List Pt) (z:Pt):Prop where
 hd:∃r,l=(0,0)::r/\r.getLastD (0,0)=z
 st:∀e∈iJ l,∃d m,Sg e d m
 nd:((iJ l).flatMap bR).Nodup
 pt:∀x∈(iJ l).flatMap bR,0<=x.1/\0<=x.2/\x.2<2*z.2/\x.1+x.2<2*(z.1+z.2)/\(x.1=0->x.2=0)
 ln:((iJ l).flatMap bR).length=(2*(z.1+z.2)).toNat
 zp:0<=z.1/\0<=z.2/\(z.1=0->z.2=0)
theorem Kk:Stp [(0,0)] (0,0):=⟨⟨[],rfl,rfl⟩,(λe m=>nomatch m),Q3,(λx m=>nomatch m),rfl,by decide⟩
theorem zR(h:0<m):Sg ((x,y),(x+m,y)) 0 m:=⟨by decide,h,by unfold az;rw[oY];exact D' (by dsimp only;lia) (by dsimp only;lia)⟩
theorem zf(h:0<m):Sg ((x,y),(x,y+m)) 2 m:=⟨by decide,h,by unfold az;rw[oE];exact D' (by dsimp only;lia) (by dsimp only;lia)⟩
theorem lO{l r:List α}(h1:l.Nodup)(h2:r.Nodup)(h:∀x∈l,x∈r->False):(l++r).Nodup:=Oi.mpr ⟨h1,h2,λa ha b hb e=>h a ha (by rw[e];exact hb)⟩
theorem BS(h:0<m){u:Pt}:u∈bR ((x,y),(x+m,y))↔∃s:Int,0<=s/\s<2*m/\u=(2*x+s,2*y):=by
 rw[fj (zR h)];unfold hpt;rw[oY];exact exists_congr λs=>and_congr_right λ_=>and_congr_right λ_=>by rw[show((2*x+1*s,2*y+0*s):Pt)=(2*x+s,2*y)from D' (by dsimp only;lia) (by dsimp only;lia)]
theorem BO(h:0<m){u:Pt}:u∈bR ((x,y),(x,y+m))↔∃s:Int,0<=s/\s<2*m/\u=(2*x,2*y+s):=by
 rw[fj (zf h)];unfold hpt;rw[oE];exact exists_congr λs=>and_congr_right λ_=>and_congr_right λ_=>by rw[show((2*x+0*s,2*y+1*s):Pt)=(2*x,2*y+s)from D' (by dsimp only;lia) (by dsimp only;lia)]
theorem HV{l:List Pt}(h:Stp l (x,y))(ha:0<a)(hb:0<b):Stp ((l++[(x+a,y)])++[(x+a,y+b)]) (x+a,y+b):=by
 obtain⟨⟨r,el,er⟩,st,nd,pt,ln,z1,z2,z3⟩:=h;have ln:((iJ l).flatMap bR).length=(2*(x+y)).toNat:=ln;have z1:0<=x:=z1;have z2:0<=y:=z2;have z3:x=0->y=0:=z3;have pe:iJ ((l++[(x+a,y)])++[(x+a,y+b)])=iJ l++[((x,y),(x+a,y)),((x+a,y),(x+a,y+b))]:=by
  rw[el];show edF (0,0) ((r++[(x+a,y)])++[(x+a,y+b)])=edF (0,0) r++_;rw[j8,j8,er,Oo,g_]
  rfl
 have pt:∀u∈(iJ l).flatMap bR,0<=u.1/\0<=u.2/\u.2<2*y/\u.1+u.2<2*(x+y)/\(u.1=0->u.2=0):=pt;refine⟨⟨(r++[(x+a,y)])++[(x+a,y+b)],by rw[el];rfl,Oo ..⟩,?_,?_,?_,?_,?_⟩
 ·rw[pe];intro e me;rcases C_.mp me with me|me
  ·exact st e me
  rcases n_.mp me with rfl|me
  ·exact⟨_,_,zR ha⟩
  rw[x_.mp me];exact⟨_,_,zf hb⟩
 ·rw[pe,NI,A_,A_,OO,Nb];refine lO nd (lO (iR (zR ha)) (iR (zf hb)) λu h1 h2=>?_) λu h1 h2=>?_
  ·obtain⟨s,s0,s1,rfl⟩:=(BS ha).mp h1;obtain⟨t,t0,t1,e⟩:=(BO hb).mp h2;have e1:2*x+s=2*(x+a):=congrArg Og e;lia
  obtain⟨_,_,_,g,_⟩:=pt u h1;rcases C_.mp h2 with h2|h2
  ·obtain⟨s,s0,s1,rfl⟩:=(BS ha).mp h2;have g:2*x+s+2*y<2*(x+y):=g;lia
  obtain⟨s,s0,s1,rfl⟩:=(BO hb).mp h2;have g:2*(x+a)+(2*y+s)<2*(x+y):=g;lia
 ·rw[pe,NI,A_,A_,OO,Nb];intro u mu;dsimp only;rcases C_.mp mu with mu|mu
  ·obtain⟨g1,g2,g3,g4,g5⟩:=pt u mu;exact⟨g1,g2,by lia,by lia,g5⟩
  rcases C_.mp mu with mu|mu
  ·obtain⟨s,s0,s1,rfl⟩:=(BS ha).mp mu;dsimp only;exact⟨by lia,by lia,by lia,by lia,λz=>by have:=z3 (by lia);lia⟩
  obtain⟨s,s0,s1,rfl⟩:=(BO hb).mp mu;dsimp only;exact⟨by lia,by lia,by lia,by lia,λz=>by lia⟩
 ·rw[pe,NI,A_,A_,OO,Nb,c_,c_,ln,gA (zR ha),gA (zf hb),a_,a_,MX,MX];show _=(2*(x+a+(y+b))).toNat;lia
 exact⟨by show 0<=x+a;lia,by show 0<=y+b;lia,λz=>by have:x+a=0:=z;lia⟩
theorem yq{l:List Pt}(h:Stp l (x,y))(hx:0<x)(hy:0<y)(x2:x<=20)(y2:y<=20):Spl (l++[(0,y)])/\npt (l++[(0,y)])<=160:=by
 obtain⟨⟨r,el,er⟩,st,nd,pt,ln,_⟩:=h;have ln:((iJ l).flatMap bR).length=(2*(x+y)).toNat:=ln;have pt:∀u∈(iJ l).flatMap bR,0<=u.1/\0<=u.2/\u.2<2*y/\u.1+u.2<2*(x+y)/\(u.1=0->u.2=0):=pt;have s1:Sg ((x,y),((0:Int),y)) 4 x:=⟨by decide,hx,by unfold az;rw[ot];exact D' (by dsimp only;lia) (by dsimp only;lia)⟩;have s2:Sg (((0:Int),y),((0:Int),(0:Int))) 6 y:=⟨by decide,hy,by unfold az;rw[oo];exact D' (by dsimp only;lia) (by dsimp only;lia)⟩;have ee:aj (l++[(0,y)])=iJ l++[((x,y),((0:Int),y)),(((0:Int),y),((0:Int),(0:Int)))]:=by
  rw[el];unfold aj;show((0,0)::(r++[(0,y)])).zip ((r++[(0,y)])++[(0,0)])=edF (0,0) r++_;rw[va,j8,er,Oo,g_]
  rfl
 have m1:∀{u:Pt},u∈bR ((x,y),((0:Int),y))->0<u.1/\u.2=2*y:=λ{u} hu=>by obtain⟨s,s0,s1,rfl⟩:=(fj s1).mp hu;unfold hpt;rw[ot];dsimp only;lia
 have m2:∀{u:Pt},u∈bR (((0:Int),y),((0:Int),(0:Int)))->u.1=0/\0<u.2:=λ{u} hu=>by obtain⟨s,s0,s1,rfl⟩:=(fj s2).mp hu;unfold hpt;rw[oo];dsimp only;lia
 have am:∀e∈aj (l++[(0,y)]),∃d m,Sg e d m:=by
  rw[ee];intro e me;rcases C_.mp me with me|me
  ·exact st e me
  rcases n_.mp me with rfl|me
  ·exact⟨_,_,s1⟩
  rw[x_.mp me];exact⟨_,_,s2⟩
 have nd':((aj (l++[(0,y)])).flatMap bR).Nodup:=by
  rw[ee,NI,A_,A_,OO,Nb];refine lO nd (lO (iR s1) (iR s2) λu h1 h2=>?_) λu h1 h2=>?_
  ·have:=(m1 h1).1;have:=(m2 h2).1;lia
  obtain⟨_,_,g3,_,g5⟩:=pt u h1;rcases C_.mp h2 with h2|h2
  ·have:=(m1 h2).2;lia
  obtain⟨k1,k2⟩:=m2 h2;have:=g5 k1;lia
 refine⟨⟨xy (by rw[c_];exact N3 _) am nd',am,nd'⟩,?_⟩;unfold npt;rw[ee,NI,A_,A_,OO,Nb,c_,c_,ln,gA s1,gA s2,a_,a_,MX,MX];lia
abbrev Qt:=Int×Int×Nat
noncomputable def qtT(q:Qt):T:=.tup [.int q.1,.int q.2.1,.int (q.2.2:Int)]
variable {q:Qt}
theorem fV:er (qtT q)=qtT q:=rfl
theorem cB:eY (qtT q)=true:=rfl
theorem bo:aW (qtT q)=true:=rfl
theorem bF:isAny (qtT q)=false:=rfl
theorem eF{k:T->Prop}:ixT (qtT q) (.int 0) k=k (.int q.1):=rfl
theorem dQ{k:T->Prop}:ixT (qtT q) (.int 1) k=k (.int q.2.1):=rfl
theorem eK{k:T->Prop}:ixT (qtT q) (.int 2) k=k (.int (q.2.2:Int)):=rfl
theorem bI{k:T->Prop}:rG [qtT q] k=k (qtT q):=rfl
theorem dA{n:Nat}{gs:oK}{k:Ev->Prop}:gTp n gs (qtT q) env k=gTp n gs (.tup [.int q.1,.int q.2.1,.int (q.2.2:Int)]) env k:=rfl
noncomputable def Mv:List Pt:=[(3,2),(2,3),(1,2),(2,1)]
noncomputable def inn(s:Nat):Pt:=Mv.getD s (0,0)
theorem Jt{s:Nat}(h:s<4):atI [T.cst [.int 3,.int 2],.cst [.int 2,.int 3],.cst [.int 1,.int 2],.cst [.int 2,.int 1]] (s:Int)=some (.cst [.int (inn s).1,.int (inn s).2]):=by
 match s,h with
 |0,_=>rfl
 |1,_=>rfl
 |2,_=>rfl
 |3,_=>rfl
theorem tG{s:Nat}(h:s<4):1<=(inn s).1/\(inn s).1<=3/\1<=(inn s).2/\(inn s).2<=3:=by
 match s,h with
 |0,_=>decide
 |1,_=>decide
 |2,_=>decide
 |3,_=>decide
def FG(q:Qt):Pt:=(4*q.1+(inn q.2.2).1,4*q.2.1+(inn q.2.2).2)
def ja(q:Qt)(l:Pt):Bool:=decide (4*l.1+(inn q.2.2).1*l.2<4*q.2.1+(inn q.2.2).2)
noncomputable def ck(e:Ed)(x:Int):List Pt:=
 if e.1.1<=x/\x<e.2.1 then [(e.1.2+(e.2.2-e.1.2)/(e.2.1-e.1.1)*(x-e.1.1),(e.2.2-e.1.2)/(e.2.1-e.1.1))]
 else if e.2.1<=x/\x<e.1.1 then [(e.2.2+(e.1.2-e.2.2)/(e.1.1-e.2.1)*(x-e.2.1),(e.1.2-e.2.2)/(e.1.1-e.2.1))]else []
noncomputable def oy(n:Nat):Bool:=decide ((n:Int)%2=1)
theorem lx2{d:Int}(h:ZM.lx [a,b] [c,d]=false):c<=a:=by
 rw[ZM.lx]at h;split at h
 ·lia
 rw[decide_eq_false_iff_not]at h;lia
theorem cx{q:Pt}:keysOf [ptP p,ptP q]=some [[p.1,p.2],[q.1,q.2]]:=rfl
theorem bN:items (edT e)=some [ptP e.1,ptP e.2]:=rfl
theorem tQ(es:List Ed)(x:Int):(es.flatMap (ck · x)).length<=es.length:=by
 induction es with
 |nil=>exact e_ _
 |cons e es ih=>
  rw[A_,c_,i'];have:(ck e x).length<=1:=by
   unfold ck;split
   ·exact e_ _
   split
   ·exact e_ _
   exact MU _
  lia
theorem c4(x:Int):yb 4 x:=.inl ⟨by decide,by decide⟩
structure Rgd (f f2:Pt->Pt) (σ:Nat->Nat):Prop where
 lt:∀d,d<8->σ d<8
 step:∀p d m,d<8->f (az p d m)=az (f p) (σ d) m
 half:∀p d s,d<8->f2 (2*p.1+(st8 d).1*s,2*p.2+(st8 d).2*s)=(2*(f p).1+(st8 (σ d)).1*s,2*(f p).2+(st8 (σ d)).2*s)
 inj:∀p q,f2 p=f2 q->p=q
noncomputable def mpE(f:Pt->Pt)(e:Ed):Ed:=(f e.1,f e.2)
theorem jz(f:Pt->Pt)(l:List Pt):aj (l.map f)=(aj l).map (mpE f):=by
 unfold aj;rw[<-N6,<-Of,<-m_,Ru]
 rfl
variable {f2:Pt->Pt}{σ:Nat->Nat}
theorem Dy{f:Pt->Pt}(r:Rgd f f2 σ)(s:Sg e d m):Sg (mpE f e) (σ d) m/\bR (mpE f e)=(bR e).map f2:=by have s':Sg (mpE f e) (σ d) m:=⟨r.lt d s.dl,s.mp,by show f e.2=_;rw[s.eq];exact r.step _ _ _ s.dl⟩;refine⟨s',?_⟩;rw[gA s',gA s,H_];refine Ni λt _=>?_;exact(r.half e.1 d t s.dl).symm
theorem B3{g:α->β}(hg:∀x y,g x=g y->x=y){l:List α}(h:l.Nodup):(l.map g).Nodup:=
 Nz.mpr (h.imp λn e=>n (hg _ _ e))
theorem xY{f:Pt->Pt}(r:Rgd f f2 σ)(h:Spl ps):Spl (ps.map f):=by
 refine⟨by rw[a_];exact h.len,λe m=>?_,?_⟩
 ·rw[jz]at m;obtain⟨o,mo,rfl⟩:=s_.mp m;obtain⟨d,k,s⟩:=h.st o mo;exact⟨_,_,(Dy r s).1⟩
 rw[jz,List.flatMap_map];have e:(aj ps).flatMap (λa=>bR (mpE f a))=((aj ps).flatMap bR).map f2:=by
  rw[List.map_flatMap];have go:∀es:List Ed,(∀e∈es,∃d m,Sg e d m)->es.flatMap (λa=>bR (mpE f a))=es.flatMap λa=>(bR a).map f2:=by
   intro es;induction es with
   |nil=>intro _;rfl
   |cons a es ih=>
    intro hs;obtain⟨d,m,s⟩:=hs a (.head _);rw[A_,A_,(Dy r s).2,ih λe m=>hs e (.tail _ m)]
  exact go _ h.st
 rw[e];exact B3 r.inj h.nd
noncomputable def mvP(u v:Int)(p:Pt):Pt:=(p.1+u,p.2+v)
noncomputable def tuP(p:Pt):Pt:=(-p.2,p.1)
noncomputable def miP(p:Pt):Pt:=(-p.1,p.2)
theorem Iw:Rgd (mvP u v) (mvP (2*u) (2*v)) (λd=>d):=by
 refine⟨λd h=>h,λp d m h=>?_,λp d s h=>?_,λp q h=>?_⟩
 ·exact D' (by show p.1+_+u=p.1+u+_;lia) (by show p.2+_+v=p.2+v+_;lia)
 ·exact D' (by show 2*p.1+_+2*u=2*(p.1+u)+_;lia) (by show 2*p.2+_+2*v=2*(p.2+v)+_;lia)
 have h1:p.1+2*u=q.1+2*u:=congrArg Og h;have h2:p.2+2*v=q.2+2*v:=congrArg PJ h;exact D' (by lia) (by lia)
theorem tu8(h:d<8):(st8 ((d+2)%8)).1=-(st8 d).2/\(st8 ((d+2)%8)).2=(st8 d).1:=by revert d;decide
theorem mi8(h:d<8):(st8 ((12-d)%8)).1=-(st8 d).1/\(st8 ((12-d)%8)).2=(st8 d).2:=by revert d;decide
theorem Ii:Rgd tuP tuP (λd=>(d+2)%8):=by
 refine⟨λd _=>NT _ (by decide),λp d m h=>?_,λp d s h=>?_,λp q h=>?_⟩
 ·obtain⟨a,b⟩:=tu8 h;refine D' ?_ ?_
  ·show -(p.2+(st8 d).2*m)=-p.2+(st8 ((d+2)%8)).1*m;rw[a,OD,QW]
  show p.1+(st8 d).1*m=p.1+(st8 ((d+2)%8)).2*m;rw[b]
 ·obtain⟨a,b⟩:=tu8 h;refine D' ?_ ?_
  ·show -(2*p.2+(st8 d).2*s)=2 * -p.2+(st8 ((d+2)%8)).1*s;rw[a,OD,QW,Sd]
  show 2*p.1+(st8 d).1*s=2*p.1+(st8 ((d+2)%8)).2*s;rw[b]
 have h1:-p.2=-q.2:=congrArg Og h;have h2:p.1=q.1:=congrArg PJ h;exact D' h2 (by lia)
theorem HN:Rgd miP miP (λd=>(12-d)%8):=by
 refine⟨λd _=>NT _ (by decide),λp d m h=>?_,λp d s h=>?_,λp q h=>?_⟩
 ·obtain⟨a,b⟩:=mi8 h;refine D' ?_ ?_
  ·show -(p.1+(st8 d).1*m)=-p.1+(st8 ((12-d)%8)).1*m;rw[a,OD,QW]
  show p.2+(st8 d).2*m=p.2+(st8 ((12-d)%8)).2*m;rw[b]
 ·obtain⟨a,b⟩:=mi8 h;refine D' ?_ ?_
  ·show -(2*p.1+(st8 d).1*s)=2 * -p.1+(st8 ((12-d)%8)).1*s;rw[a,OD,QW,Sd]
  show 2*p.2+(st8 d).2*s=2*p.2+(st8 ((12-d)%8)).2*s;rw[b]
 have h1:-p.1=-q.1:=congrArg Og h;have h2:(miP p).2=(miP q).2:=congrArg PJ h;exact D' (by lia) h2
noncomputable def ii(p q:Pt):Prop:=p≠q/\(p.1=q.1\/p.2=q.2\/q.1-p.1=q.2-p.2\/q.1-p.1=p.2-q.2)
def dnP(q:Qt)(p p':Pt):Prop:=(p.1<=q.1/\q.1<p'.1\/p'.1<=q.1/\q.1<p.1)/\(p.2=p'.2/\4*p.2<4*q.2.1+(inn q.2.2).2\/p'.2-p.2=p'.1-p.1/\4*(p.2+q.1-p.1)+(inn q.2.2).1<4*q.2.1+(inn q.2.2).2\/p'.2-p.2=p.1-p'.1/\4*(p.2+p.1-q.1)-(inn q.2.2).1<4*q.2.1+(inn q.2.2).2)
noncomputable def mvQ(u v:Int)(q:Qt):Qt:=(q.1+u,q.2.1+v,q.2.2)
noncomputable def tuQ(q:Qt):Qt:=(-q.2.1-1,q.1,(q.2.2+1)%4)
noncomputable def miQ(q:Qt):Qt:=(-q.1-1,q.2.1,[2,1,0,3].getD q.2.2 0)
variable {p':Pt}
theorem M3:dnP (mvQ u v q) (mvP u v p) (mvP u v p')↔dnP q p p':=by unfold dnP mvQ mvP;dsimp only;lia
theorem uf{s:Nat}(h:s<4):s=0\/s=1\/s=2\/s=3:=by lia
theorem Kv(h:q.2.2<4):dnP (miQ q) (miP p) (miP p')↔dnP q p p':=by
 obtain⟨x,y,s⟩:=q;have e:(inn ([2,1,0,3].getD s 0)).1=4-(inn s).1/\(inn ([2,1,0,3].getD s 0)).2=(inn s).2:=by rcases uf h with e|e|e|e <;>(dsimp only at e;subst e) <;> exact⟨rfl,rfl⟩
 unfold dnP miQ miP;dsimp only;rw[e.1,e.2];generalize (inn s).1=i;generalize (inn s).2=j;lia
noncomputable def swQ(q:Qt)(p:Pt):Prop:=p.1<=q.1/\p.2<=q.2.1
theorem kx:dnP q p p'↔dnP q p' p:=by unfold dnP;lia
variable {D S:Prop}
theorem tt1{T R:Prop}(d:¬D)(t:¬T)(s:S↔R):(D↔T)↔(S↔R):=iff_of_true (iff_of_false d t) s
theorem tt2{T R:Prop}(d:D)(t:¬T)(s:S)(r:¬R):(D↔T)↔(S↔R):=iff_of_false (λh=>t (h.mp d)) λh=>r (h.mp s)
theorem tt3{T R:Prop}(d:¬D)(t:T)(s:S)(r:¬R):(D↔T)↔(S↔R):=iff_of_false (λh=>d (h.mpr t)) λh=>r (h.mp s)
theorem tt4{T R:Prop}(d:D)(t:T)(s:¬S)(r:¬R):(D↔T)↔(S↔R):=iff_of_true (iff_of_true d t) (iff_of_false s r)
theorem tt5{T R:Prop}(d:¬D)(t:T)(s:¬S)(r:R):(D↔T)↔(S↔R):=iff_of_false (λh=>d (h.mpr t)) λh=>s (h.mpr r)
variable {X Y:Int}
theorem KZ(m0:0<m):(False↔(0<=Y/\Y<m)/\0<=X)↔(0<=X/\0<=Y↔0<=X/\m<=Y):=by
 by_cases g:(0<=Y/\Y<m)/\0<=X
 ·exact tt3 id g ⟨g.2,g.1.1⟩ λh=>OA.mpr g.1.2 h.2
 exact tt1 id g ⟨λh=>⟨h.1,Om.mp λk=>g ⟨⟨h.2,k⟩,h.1⟩⟩,λh=>⟨h.1,Nj (Na m0) h.2⟩⟩
theorem MF{P:Prop}(m0:0<m)(p:P->X<=Y)(n:¬P->Y<=X):((0<=X/\X<m)/\P↔(0<=Y/\Y<m)/\¬P)↔(0<=X/\0<=Y↔m<=X/\m<=Y):=by
 have up:m<=X/\m<=Y->0<=X/\0<=Y:=λh=>⟨Nj (Na m0) h.1,Nj (Na m0) h.2⟩;by_cases c:P
 ·have c1:=p c;by_cases g:0<=X/\X<m
  ·exact tt2 ⟨g,c⟩ (λh=>h.2 c) ⟨g.1,Nj g.1 c1⟩ λh=>OA.mpr g.2 h.1
  exact tt1 (λh=>g h.1) (λh=>h.2 c) ⟨λh=>have k:=Om.mp λk=>g ⟨h.1,k⟩;⟨k,Nj k c1⟩,up⟩
 have c1:=n c;by_cases g:0<=Y/\Y<m
 ·exact tt3 (λh=>c h.2) ⟨g,c⟩ ⟨Nj g.1 c1,g.1⟩ λh=>OA.mpr g.2 h.2
 exact tt1 (λh=>c h.2) (λh=>g h.1) ⟨λh=>have k:=Om.mp λk=>g ⟨h.2,k⟩;⟨Nj k c1,k⟩,up⟩
theorem Ml{P:Prop}(m0:0<m)(p:P->-1<=X+Y)(n:¬P->X+Y<0):((0<=X/\X<m)/\P↔(-m<=Y/\Y<0)/\P)↔(0<=X/\0<=Y↔m<=X/\-m<=Y):=by
 by_cases c:P
 ·have c1:=p c;by_cases g1:0<=X/\X<m <;> by_cases g2:-m<=Y/\Y<0
  ·exact tt4 ⟨g1,c⟩ ⟨g2,c⟩ (λh=>OA.mpr g2.2 h.2) λh=>OA.mpr g1.2 h.1
  ·exact tt2 ⟨g1,c⟩ (λh=>g2 h.1) ⟨g1.1,by lia⟩ λh=>OA.mpr g1.2 h.1
  ·exact tt5 (λh=>g1 h.1) ⟨g2,c⟩ (λh=>OA.mpr g2.2 h.2) ⟨by lia,g2.1⟩
  exact tt1 (λh=>g1 h.1) (λh=>g2 h.1) (by lia)
 have c1:=n c;exact tt1 (λh=>c h.2) (λh=>c h.2) (iff_of_false (by lia) (by lia))
theorem Df(h:p.2=p'.2)(n:p.1<p'.1):dnP q p p'↔(p.1<=q.1/\q.1<p'.1)/\4*p.2<4*q.2.1+(inn q.2.2).2:=
 ⟨λ⟨r,o⟩=>⟨r.elim id λg=>absurd (Qh g.1 g.2) (Rx n),o.elim (·.2) λo=>o.elim (λg=>by have:=g.1;lia) λg=>by have:=g.1;lia⟩,λg=>⟨.inl g.1,.inl ⟨h,g.2⟩⟩⟩
theorem Cy(h:p'.2-p.2=p'.1-p.1)(n:p.1<p'.1):dnP q p p'↔(p.1<=q.1/\q.1<p'.1)/\4*(p.2+q.1-p.1)+(inn q.2.2).1<4*q.2.1+(inn q.2.2).2:=
 ⟨λ⟨r,o⟩=>⟨r.elim id λg=>absurd (Qh g.1 g.2) (Rx n),o.elim (λg=>by have:=g.1;lia) λo=>o.elim (·.2) λg=>by have:=g.1;lia⟩,λg=>⟨.inl g.1,.inr (.inl ⟨h,g.2⟩)⟩⟩
theorem DV(h:p'.2-p.2=p.1-p'.1)(n:p.1<p'.1):dnP q p p'↔(p.1<=q.1/\q.1<p'.1)/\4*(p.2+p.1-q.1)-(inn q.2.2).1<4*q.2.1+(inn q.2.2).2:=
 ⟨λ⟨r,o⟩=>⟨r.elim id λg=>absurd (Qh g.1 g.2) (Rx n),o.elim (λg=>by have:=g.1;lia) λo=>o.elim (λg=>by have:=g.1;lia) (·.2)⟩,λg=>⟨.inl g.1,.inr (.inr ⟨h,g.2⟩)⟩⟩
theorem DO(h:p.1=p'.1):dnP q p p'↔False:=
 iff_false_intro λ⟨r,_⟩=>r.elim (λg=>by lia) λg=>by lia
theorem rg:(a<=x/\x<c)=(0<=x-a/\x-a<c-a):=propext (and_congr Qd.symm ⟨λh=>Int.sub_lt_sub_right h a,λh=>Int.lt_of_sub_lt_sub_right h⟩)
theorem rt{d:Int}:(-d<=-y-1/\-y-1 < -b)=(0<=y-b/\y-b<d-b):=propext ⟨λh=>⟨by lia,by lia⟩,λh=>⟨by lia,by lia⟩⟩
theorem rt2{d:Int}:(-b<=-y-1/\-y-1 < -d)=(-(b-d)<=y-b/\y-b<0):=propext ⟨λh=>⟨by lia,by lia⟩,λh=>⟨by lia,by lia⟩⟩
theorem lt4(h:1<=v/\v<=3):(4*a<4*x+v)=(0<=x-a):=propext ⟨λg=>by lia,λg=>by lia⟩
theorem sb{d:Int}:(0<=y-d)=(d-b<=y-b):=propext (Qd.trans ⟨λh=>Int.sub_le_sub_right h b,λh=>Int.le_of_sub_le_sub_right h⟩)
theorem Lm(hq:q.2.2<4)(h:(p.1=p'.1/\p.2<p'.2)\/(p.2=p'.2/\p.1<p'.1)\/(p'.2-p.2=p'.1-p.1/\p.1<p'.1)\/(p'.2-p.2=p.1-p'.1/\p.1<p'.1)):(dnP q p p'↔dnP (tuQ q) (tuP p) (tuP p'))↔(swQ q p↔swQ q p'):=by
 obtain⟨a,b⟩:=p;obtain⟨c,d⟩:=p';obtain⟨x,y,s⟩:=q;have hs:(inn ((s+1)%4)).1=4-(inn s).2/\(inn ((s+1)%4)).2=(inn s).1/\(1<=(inn s).1/\(inn s).1<=3)/\(1<=(inn s).2/\(inn s).2<=3)/\(inn s).1≠(inn s).2/\(inn s).1+(inn s).2≠4:=by rcases uf hq with e|e|e|e <;>(dsimp only at e;subst e;decide)
 obtain⟨e1,e2,v1,j1,n1,n2⟩:=hs;have sw:∀X Y,(swQ (x,y,s) (X,Y)↔0<=x-X/\0<=y-Y):=λX Y=>and_congr Qd.symm Qd.symm;rw[sw,sw];dsimp only at h;rcases h with⟨rfl,h⟩|⟨rfl,h⟩|⟨e,h⟩|⟨e,h⟩
 ·rw[DO (q:=(x,y,s)) (p:=(a,b)) (p':=(a,d)) rfl,kx,Df (show(tuP (a,d)).2=(tuP (a,b)).2 from rfl) (Int.neg_lt_neg h)];dsimp only[tuP,tuQ];rw[e2,rt,lt4 v1,sb (b:=b) (d:=d)];exact KZ (QX.mpr h)
 ·rw[DO (q:=tuQ (x,y,s)) (p:=tuP (a,b)) (p':=tuP (c,b)) rfl,Df (p:=(a,b)) (p':=(c,b)) rfl h];dsimp only;rw[rg,lt4 j1,sb (b:=a) (d:=c),@and_comm (0<=x-a) (0<=y-b),@and_comm (c-a<=x-a),iff_comm (b:=False)];exact KZ (X:=y-b) (Y:=x-a) (m:=c-a) (QX.mpr h)
 ·rw[Cy e h,kx,DV (show(tuP (a,b)).2-(tuP (c,d)).2=(tuP (c,d)).1-(tuP (a,b)).1 by dsimp only[tuP];lia) (show -d < -b by lia)];dsimp only[tuP,tuQ];rw[e1,e2,rg,rt,e,sb (b:=a) (d:=c),sb (b:=b) (d:=d),e,show(4*(c + -d-(-y-1))-(4-(inn s).2)<4*x+(inn s).1)=¬(4*(b+x-a)+(inn s).1<4*y+(inn s).2)from propext ⟨λg=>by lia,λg=>by lia⟩];exact MF (QX.mpr h) (λg=>by lia) (λg=>by lia)
 rw[DV e h,Cy (show(tuP (c,d)).2-(tuP (a,b)).2=(tuP (c,d)).1-(tuP (a,b)).1 by dsimp only[tuP];lia) (show -b < -d by lia)];dsimp only[tuP,tuQ];rw[e1,e2,rg,rt2,sb (b:=a) (d:=c),sb (b:=b) (d:=d),show b-d=c-a by lia,show d-b=-(c-a) by lia,show(4*(a+(-y-1) - -b)+(4-(inn s).2)<4*x+(inn s).1)=(4*(b+a-x)-(inn s).1<4*y+(inn s).2)from propext ⟨λg=>by lia,λg=>by lia⟩];exact Ml (QX.mpr h) (λg=>by lia) (λg=>by lia)
theorem AM(hq:q.2.2<4)(h:ii p p'):(dnP q p p'↔dnP (tuQ q) (tuP p) (tuP p'))↔(swQ q p↔swQ q p'):=by
 have o:((p.1=p'.1/\p.2<p'.2)\/(p.2=p'.2/\p.1<p'.1)\/(p'.2-p.2=p'.1-p.1/\p.1<p'.1)\/(p'.2-p.2=p.1-p'.1/\p.1<p'.1))\/((p'.1=p.1/\p'.2<p.2)\/(p'.2=p.2/\p'.1<p.1)\/(p.2-p'.2=p.1-p'.1/\p'.1<p.1)\/(p.2-p'.2=p'.1-p.1/\p'.1<p.1)):=by
  obtain⟨h0,h⟩:=h;rcases h with h|h|h|h
  ·exact(O9 λg=>h0 (D' h g)).imp (λg=>.inl ⟨h,g⟩) λg=>.inl ⟨h.symm,g⟩
  ·exact(O9 λg=>h0 (D' g h)).imp (λg=>.inr (.inl ⟨h,g⟩)) λg=>.inr (.inl ⟨h.symm,g⟩)
  ·exact(O9 λg=>h0 (D' g (by lia))).imp (λg=>.inr (.inr (.inl ⟨h.symm,g⟩))) λg=>.inr (.inr (.inl ⟨by lia,g⟩))
  exact(O9 λg=>h0 (D' g (by lia))).imp (λg=>.inr (.inr (.inr ⟨by lia,g⟩))) λg=>.inr (.inr (.inr ⟨by lia,g⟩))
 rcases o with o|o
 ·exact Lm hq o
 have:=Lm hq o;rwa[kx,kx (q:=tuQ q),iff_comm (a:=swQ q p')]at this
noncomputable def b6(e:Ed):Int:=e.1.1*e.2.2-e.2.1*e.1.2
def cZ(ps:List Pt):Int:=((aj ps).map b6).sum
theorem gJ{fs:List Ed}(F:Ed->Int)(p:es.Perm fs):(es.map F).sum=(fs.map F).sum:=by
 induction p with
 |nil=>rfl
 |cons x _ ih=>rw[f',f',F_,F_,ih]
 |swap x y l=>simp only[f',F_];lia
 |trans _ _ ih1 ih2=>exact ih1.trans ih2
variable {F G:Ed->Int}
theorem sum_neg(h:∀e∈es,F e=-G e):(es.map F).sum=-(es.map G).sum:=by
 induction es with
 |nil=>rfl
 |cons e l ih=>
  have h1:=h e (.head _);have h2:=ih λe m=>h e (.tail _ m);rw[f',f',F_,F_,h1,h2];lia
theorem sum_add{H:Ed->Int}(h:∀e∈es,F e=G e+H e):(es.map F).sum=(es.map G).sum+(es.map H).sum:=by
 induction es with
 |nil=>rfl
 |cons e l ih=>
  have h1:=h e (.head _);have h2:=ih λe m=>h e (.tail _ m);rw[f',f',f',F_,F_,F_,h1,h2];lia
theorem Mm{g:Pt->Int}{l:List Pt}:∀{p z:Pt},(((p::l).zip (l++[z])).map λe=>g e.2-g e.1).sum=g z-g p:=by
 induction l with
 |nil=>intro p z;show g z-g p+0=_;lia
 |cons q l ih=>
  intro p z;show g q-g p+(((q::l).zip (l++[z])).map λe=>g e.2-g e.1).sum=_;rw[ih];lia
theorem mN{g:Pt->Int}(ps:List Pt):((aj ps).map λe=>g e.2-g e.1).sum=0:=by
 match ps with
 | []=>rfl
 |p::l=>
  show(((p::l).zip (l++[p])).map λe=>g e.2-g e.1).sum=0;rw[Mm];lia
theorem y6{f:Pt->Pt}(ps:List Pt):cZ (ps.map f)=((aj ps).map λe=>b6 (mpE f e)).sum:=by
 unfold cZ;rw[jz,H_]
 rfl
theorem Ds(ps:List Pt):cZ (ps.map (mvP u v))=cZ ps:=by rw[y6,sum_add (G:=b6) (H:=λe=>(u*e.2.2-v*e.2.1)-(u*e.1.2-v*e.1.1)) λe _=>by unfold b6 mpE mvP;dsimp only;grind,mN (g:=λp=>u*p.2-v*p.1)];exact OJ _
theorem DT(ps:List Pt):cZ (ps.map tuP)=cZ ps:=by rw[y6];exact congrArg List.sum (Ni λe _=>by unfold b6 mpE tuP;dsimp only;grind)
theorem DP(ps:List Pt):cZ (ps.map miP)=-cZ ps:=by rw[y6];exact sum_neg λe _=>by unfold b6 mpE miP;dsimp only;grind
theorem Ai{k:Nat}(hk:k<=ps.length):cZ (ps.drop k++ps.take k)=cZ ps:=gJ _ (lT hk)
theorem uL:cZ ps.reverse=-cZ ps:=by unfold cZ;rw[gJ _ lF,H_];exact sum_neg λe _=>by show b6 (swp e)=_;unfold b6 swp;dsimp only;grind
theorem Fe(hF:∀p q d m r,Sg (p,q) d m->0<r->r<m->F (p,az p d r)+F (az p d r,q)=F (p,q)){l k:List Pt}(h:Rfn z l k):((k7 k z).map F).sum=((k7 l z).map F).sum:=by
 induction h with
 |nil=>rfl
 | @keep p l k h ih=>
  have hh:=nj h;unfold k7;rw[f',f',F_,F_,ih,hh]
 | @put p l k d m r s r0 r1 h ih=>
  have hh:=nj h;show(((p,az p d r)::(az p d r,k.headD z)::k7 k z).map F).sum=(((p,l.headD z)::k7 l z).map F).sum;rw[f',f',f',F_,F_,F_,ih,hh,<-hF _ _ _ _ _ s r0 r1,Py]
theorem ux(hF:∀p q d m r,Sg (p,q) d m->0<r->r<m->F (p,az p d r)+F (az p d r,q)=F (p,q)){qs:List Pt}(h:Rfn (ps.headD (0,0)) ps qs):((aj qs).map F).sum=((aj ps).map F).sum:=by
 cases ps with
 |nil=>cases h;rfl
 |cons p l=>
  have r:Rfn p (p::l) qs:=h;obtain⟨k,rfl⟩:∃k,qs=p::k:=by cases r <;> exact⟨_,rfl⟩
  rw[js,js];exact Fe hF r
theorem EG(p q:Pt)(d:Nat)(m r:Int)(s:Sg (p,q) d m)(_:0<r)(_:r<m):b6 (p,az p d r)+b6 (az p d r,q)=b6 (p,q):=by
 have e:q=az p d m:=s.eq;rw[e];unfold b6 az;dsimp only
 grind
theorem z0{qs:List Pt}(h:Rfn (ps.headD (0,0)) ps qs):cZ qs=cZ ps:=ux EG h
theorem iQ{A B:Prop}[Decidable A][Decidable B]{a b c d:Int}(h:A↔B)(e:a=b)(f:c=d):(if A then a else c)=if B then b else d:=by
 subst e;subst f;by_cases g:A
 ·rw[if_pos g,if_pos (h.mp g)]
 rw[if_neg g,if_neg λk=>g (h.mpr k)]
noncomputable instance {q:Qt}{p p':Pt}:Decidable (dnP q p p'):=Ti _
def dnI(q:Qt) (e:Ed):Int:=if dnP q e.1 e.2 then 1 else 0
def inD(ps:List Pt) (q:Qt):Prop:=((aj ps).map (dnI q)).sum%2=1
theorem KY:inD (ps.map (mvP u v)) (mvQ u v q)↔inD ps q:=by unfold inD;rw[jz,H_];have:((aj ps).map (dnI (mvQ u v q) ∘ mpE (mvP u v)))=(aj ps).map (dnI q):=Ni λe _=>iQ M3 rfl rfl;rw[this]
theorem KU(h:q.2.2<4):inD (ps.map miP) (miQ q)↔inD ps q:=by unfold inD;rw[jz,H_];have:((aj ps).map (dnI (miQ q) ∘ mpE miP))=(aj ps).map (dnI q):=Ni λe _=>iQ (Kv h) rfl rfl;rw[this]
theorem xc(h:∀e∈es,F e%2=0):(es.map F).sum%2=0:=by
 induction es with
 |nil=>rfl
 |cons e l ih=>
  have h1:=h e (.head _);have h2:=ih λe m=>h e (.tail _ m);rw[f',F_];lia
theorem MN{A B P Q:Prop}[Decidable A][Decidable B][Decidable P][Decidable Q](h:(A↔B)↔(P↔Q)):(((if A then 1 else 0:Int)+(if B then 1 else 0))+((if Q then 1 else 0)-(if P then 1 else 0)))%2=0:=by by_cases A <;> by_cases B <;> by_cases P <;> by_cases Q <;> simp_all
theorem LY(h:q.2.2<4)(hs:∀e∈aj ps,ii e.1 e.2):inD (ps.map tuP) (tuQ q)↔inD ps q:=by
 unfold inD;rw[jz,H_];have ev:((aj ps).map λe=>(dnI q e+dnI (tuQ q) (mpE tuP e))+((λp:Pt=>@ite Int (swQ q p) (Ti _) 1 0) e.2-(λp:Pt=>@ite Int (swQ q p) (Ti _) 1 0) e.1)).sum%2=0:=
  xc λe m=>@MN _ _ _ _ _ _ (Ti _) (Ti _) (AM h (hs e m))
 rw[sum_add (G:=λe=>dnI q e+dnI (tuQ q) (mpE tuP e)) (H:=λe=>(λp:Pt=>@ite Int (swQ q p) (Ti _) 1 0) e.2-(λp:Pt=>@ite Int (swQ q p) (Ti _) 1 0) e.1) λ_ _=>rfl,mN (g:=λp:Pt=>@ite Int (swQ q p) (Ti _) 1 0),sum_add (G:=dnI q) (H:=λe=>dnI (tuQ q) (mpE tuP e)) λ_ _=>rfl]at ev;show((aj ps).map (λe=>dnI (tuQ q) (mpE tuP e))).sum%2=1↔_;lia
theorem Es{qs:List Pt}(p:(aj qs).Perm (aj ps)):inD qs q↔inD ps q:=by unfold inD;rw[gJ _ p]
theorem IH:inD ps.reverse q↔inD ps q:=by unfold inD;rw[gJ _ lF,H_];have:((aj ps).map (dnI q ∘ swp))=(aj ps).map (dnI q):=Ni λe _=>iQ kx rfl rfl;rw[this]
theorem uU{A B C:Int}{H:Prop}(h1:A<B)(h2:B<C):((A<=x/\x<C)/\H↔((A<=x/\x<B)/\H)\/((B<=x/\x<C)/\H))/\¬(((A<=x/\x<B)/\H)/\((B<=x/\x<C)/\H)):=
 ⟨⟨λg=>(R8 x B).imp (λk=>⟨⟨g.1.1,k⟩,g.2⟩) λk=>⟨⟨k,g.1.2⟩,g.2⟩,λg=>g.elim (λk=>⟨⟨k.1.1,Ov k.1.2 h2⟩,k.2⟩) λk=>⟨⟨Nj (Na h1) k.1.1,k.1.2⟩,k.2⟩⟩,λg=>OA.mpr g.1.1.2 g.2.1.1⟩
def Cut(q:Qt)(p o z:Pt):Prop:=(dnP q p z↔dnP q p o\/dnP q o z)/\¬(dnP q p o/\dnP q o z)
theorem HS{o:Pt}(h:Cut q z o p):Cut q p o z:=by unfold Cut at *;rw[kx,kx (p:=p) (p':=o),kx (p:=o) (p':=z),or_comm,and_comm (a:=dnP q o p)];exact h
theorem GD{r:Int}(k:Int)(hk:k=0\/k=1\/k=-1)(r0:0<r)(r1:r<m):Cut q (x,y) (x+r,y+k*r) (x+m,y+k*m):=by
 have a:x<x+r:=by lia
 have b:x+r<x+m:=by lia
 unfold Cut;rcases hk with rfl|rfl|rfl
 ·simp only[P0,OJ];rw[Df (p:=(x,y)) (p':=(x+m,y)) rfl (Ov a b),Df (p:=(x,y)) (p':=(x+r,y)) rfl a,Df (p:=(x+r,y)) (p':=(x+m,y)) rfl b];exact uU a b
 ·simp only[Oa];rw[Cy (p:=(x,y)) (p':=(x+m,y+m)) (by dsimp only;lia) (Ov a b),Cy (p:=(x,y)) (p':=(x+r,y+r)) (by dsimp only;lia) a,Cy (p:=(x+r,y+r)) (p':=(x+m,y+m)) (by dsimp only;lia) b];dsimp only;rw[show y+r+q.1-(x+r)=y+q.1-x by lia];exact uU a b
 simp only[OD,Oa];rw[DV (p:=(x,y)) (p':=(x+m,y + -m)) (by dsimp only;lia) (Ov a b),DV (p:=(x,y)) (p':=(x+r,y + -r)) (by dsimp only;lia) a,DV (p:=(x+r,y + -r)) (p':=(x+m,y + -m)) (by dsimp only;lia) b];dsimp only;rw[show y + -r+(x+r)-q.1=y+x-q.1 by lia];exact uU a b
theorem KP{z:Int}:Cut q (x,y) (x,z) (x,w):=by unfold Cut;rw[DO (p:=(x,y)) (p':=(x,w)) rfl,DO (p:=(x,y)) (p':=(x,z)) rfl,DO (p:=(x,z)) (p':=(x,w)) rfl];exact⟨(or_self False).symm▸RU,λh=>h.1⟩
theorem ID{q0:Qt}(p q:Pt)(d:Nat)(m r:Int)(s:Sg (p,q) d m)(r0:0<r)(r1:r<m):dnI q0 (p,az p d r)+dnI q0 (az p d r,q)=dnI q0 (p,q):=by
 have e:q=az p d m:=s.eq;have hd:=s.dl;rw[e];obtain⟨x,y⟩:=p;have k:Cut q0 (x,y) (az (x,y) d r) (az (x,y) d m):=by
  have:d=0\/d=1\/d=2\/d=3\/d=4\/d=5\/d=6\/d=7:=by lia
  have bk:∀k:Int,k=0\/k=1\/k=-1->Cut q0 (x,y) (x + -1*r,y+k*r) (x + -1*m,y+k*m):=λk hk=>by have:=GD (q:=q0) (x:=x + -1*m) (y:=y+k*m) (r:=m-r) (m:=m) (-k) (by lia) (by lia) (by lia);rw[show x + -1*m+(m-r)=x + -1*r by lia,show x + -1*m+m=x by lia,show y+k*m + -k*(m-r)=y+k*r by rw[OD,Int.mul_sub];lia,show y+k*m + -k*m=y by rw[OD];lia]at this;exact HS this
  have fw:∀k:Int,k=0\/k=1\/k=-1->Cut q0 (x,y) (x+1*r,y+k*r) (x+1*m,y+k*m):=λk hk=>by rw[Oa,Oa];exact GD k hk r0 r1
  have up:∀k:Int,Cut q0 (x,y) (x+0*r,y+k*r) (x+0*m,y+k*m):=λk=>by rw[P0,P0,OJ];exact KP
  rcases this with rfl|rfl|rfl|rfl|rfl|rfl|rfl|rfl
  ·exact fw 0 (.inl rfl)
  ·exact fw 1 (.inr (.inl rfl))
  ·exact up 1
  ·exact bk 1 (.inr (.inl rfl))
  ·exact bk 0 (.inl rfl)
  ·exact bk (-1) (.inr (.inr rfl))
  ·exact up (-1)
  exact fw (-1) (.inr (.inr rfl))
 unfold dnI;dsimp only;by_cases h1:dnP q0 (x,y) (az (x,y) d r) <;> by_cases h2:dnP q0 (az (x,y) d r) (az (x,y) d m)
 ·exact absurd ⟨h1,h2⟩ k.2
 ·rw[if_pos h1,if_neg h2,if_pos (k.1.mpr (.inl h1))];rfl
 ·rw[if_neg h1,if_pos h2,if_pos (k.1.mpr (.inr h2))];rfl
 rw[if_neg h1,if_neg h2,if_neg λg=>(k.1.mp g).elim h1 h2];rfl
theorem JJ{qs:List Pt}(h:Rfn (ps.headD (0,0)) ps qs):inD qs q↔inD ps q:=by unfold inD;rw[ux ID h]
def AF(p:Pt)(l:List Pt):Int:=((edF p l).map b6).sum
theorem Lj{a:Pt}{r:List Pt}:cZ (a::r)=AF (r.getLastD a) (a::r):=gJ _ Ag
theorem yr:((es.filter λe=>decide (e.2≠e.1)).map b6).sum=(es.map b6).sum:=by
 induction es with
 |nil=>rfl
 |cons e l ih=>
  rw[NV];by_cases h:e.2=e.1
  ·rw[if_neg (by rw[decide_eq_true_iff];exact λg=>g h),ih,f',F_];have:b6 e=0:=by unfold b6;rw[h];lia
   lia
  rw[if_pos (decide_eq_true h),f',F_,ih,f',F_]
theorem Fc{l:List Pt}(hl:l.getLastD p=p)(h:0<(ddl p l).length):cZ (ddl p l)=AF p l:=by unfold cZ AF;rw[gJ _ (uk hl h),yr]
theorem zC(h0:0<=a)(h1:a<=M):a*a<=M*M:=Q7 h1 h1 h0 (Nj h0 h1)
theorem EU{d:Int}(hm:2*M<=w)(hn:2*M<=h)(hw:0<w)(hh:0<h)(ha:0<=a/\a<=M)(hb:0<=b/\b<=M)(hc:0<=c/\c<=M)(hd:0<=d/\d<=M)(h1:0<(lW x y w h a b c d).length):0<cZ (lW x y w h a b c d):=by
 have e:cZ (lW x y w h a b c d)=AF (x,y+a) (pX x y w h a b c d):=Fc rfl h1;have e2:AF (x,y+a) (pX x y w h a b c d)=2*(w*h)-a*a-b*b-c*c-d*d:=by
  show b6 ((x,y+a),(x+a,y))+(b6 ((x+a,y),(x+w-b,y))+(b6 ((x+w-b,y),(x+w,y+b))+(b6 ((x+w,y+b),(x+w,y+h-c))+(b6 ((x+w,y+h-c),(x+w-c,y+h))+(b6 ((x+w-c,y+h),(x+d,y+h))+(b6 ((x+d,y+h),(x,y+h-d))+(b6 ((x,y+h-d),(x,y+a))+0)))))))=_;unfold b6;dsimp only
  grind
 have s1:=zC ha.1 ha.2;have s2:=zC hb.1 hb.2;have s3:=zC hc.1 hc.2;have s4:=zC hd.1 hd.2;have s5:(2*M)*(2*M)<=w*h:=Q7 hm hn (by lia) (by lia);have s6:(2*M)*(2*M)=4*(M*M):=by grind
 have s7:0<w*h:=NG hw hh;rw[e,e2];lia
theorem Eu{l:Int}(h:0<l):0<cZ [(x,y),(x+l,y),(x,y+l)]:=by
 have e:cZ [(x,y),(x+l,y),(x,y+l)]=l*l:=by
  show b6 ((x,y),(x+l,y))+(b6 ((x+l,y),(x,y+l))+(b6 ((x,y+l),(x,y))+0))=_;unfold b6;dsimp only
  grind
 rw[e];exact NG h h
theorem Ku(u0:0<u)(u1:u<w)(v0:0<v)(v1:v<h):0<cZ [(x+0,y+0),(x+w,y+0),(x+w,y+v),(x+u,y+v),(x+u,y+h),(x+0,y+h)]:=by
 have e:cZ [(x+0,y+0),(x+w,y+0),(x+w,y+v),(x+u,y+v),(x+u,y+h),(x+0,y+h)]=2*(u*h+(w-u)*v):=by
  show b6 ((x+0,y+0),(x+w,y+0))+(b6 ((x+w,y+0),(x+w,y+v))+(b6 ((x+w,y+v),(x+u,y+v))+(b6 ((x+u,y+v),(x+u,y+h))+(b6 ((x+u,y+h),(x+0,y+h))+(b6 ((x+0,y+h),(x+0,y+0))+0)))))=_;unfold b6;dsimp only
  grind
 have a1:=NG u0 (Ov v0 v1);have a2:=NG (show 0<w-u by lia) v0;rw[e];lia
theorem LG(u0:0<u)(u1:2*u<w)(v0:0<v)(v1:v<h):0<cZ [(x+0,y+0),(x+w,y+0),(x+w,y+h),(x+(w-u),y+h),(x+(w-u),y+v),(x+u,y+v),(x+u,y+h),(x+0,y+h)]:=by
 have e:cZ [(x+0,y+0),(x+w,y+0),(x+w,y+h),(x+(w-u),y+h),(x+(w-u),y+v),(x+u,y+v),(x+u,y+h),(x+0,y+h)]=2*(2*(u*h)+(w-2*u)*v):=by
  show b6 ((x+0,y+0),(x+w,y+0))+(b6 ((x+w,y+0),(x+w,y+h))+(b6 ((x+w,y+h),(x+(w-u),y+h))+(b6 ((x+(w-u),y+h),(x+(w-u),y+v))+(b6 ((x+(w-u),y+v),(x+u,y+v))+(b6 ((x+u,y+v),(x+u,y+h))+(b6 ((x+u,y+h),(x+0,y+h))+(b6 ((x+0,y+h),(x+0,y+0))+0)))))))=_;unfold b6;dsimp only
  grind
 have a1:=NG u0 (Ov v0 v1);have a2:=NG (show 0<w-2*u by lia) v0;rw[e];lia
theorem Mg{p q:Int}(u0:0<u)(u1:2*u<w)(p0:0<p)(p1:p<q)(q1:q<h):0<cZ [(x+0,y+0),(x+u,y+0),(x+u,y+p),(x+(w-u),y+p),(x+(w-u),y+0),(x+w,y+0),(x+w,y+h),(x+(w-u),y+h),(x+(w-u),y+q),(x+u,y+q),(x+u,y+h),(x+0,y+h)]:=by
 have e:cZ [(x+0,y+0),(x+u,y+0),(x+u,y+p),(x+(w-u),y+p),(x+(w-u),y+0),(x+w,y+0),(x+w,y+h),(x+(w-u),y+h),(x+(w-u),y+q),(x+u,y+q),(x+u,y+h),(x+0,y+h)]=2*(2*(u*h)+(w-2*u)*(q-p)):=by
  show b6 ((x+0,y+0),(x+u,y+0))+(b6 ((x+u,y+0),(x+u,y+p))+(b6 ((x+u,y+p),(x+(w-u),y+p))+(b6 ((x+(w-u),y+p),(x+(w-u),y+0))+(b6 ((x+(w-u),y+0),(x+w,y+0))+(b6 ((x+w,y+0),(x+w,y+h))+(b6 ((x+w,y+h),(x+(w-u),y+h))+(b6 ((x+(w-u),y+h),(x+(w-u),y+q))+(b6 ((x+(w-u),y+q),(x+u,y+q))+(b6 ((x+u,y+q),(x+u,y+h))+(b6 ((x+u,y+h),(x+0,y+h))+(b6 ((x+0,y+h),(x+0,y+0))+0)))))))))))=_;unfold b6;dsimp only
  grind
 have a1:=NG u0 (show 0<h by lia);have a2:=NG (show 0<w-2*u by lia) (show 0<q-p by lia);rw[e];lia
def xK(l:List Pt)(z:Pt):Int:=((iJ l).map b6).sum+z.1*z.2
theorem oS:∀{l:List Pt}{p q:Pt},iJ ((l++[p])++[q])=iJ (l++[p])++[(p,q)]
 | [],p,q=>rfl
 |a::l,p,q=>by show edF a ((l++[p])++[q])=edF a (l++[p])++[(p,q)];rw[j8,Oo]
theorem JW{l:List Pt}:xK (((l++[(x,y)])++[(x+a,y)])++[(x+a,y+b)]) (x+a,y+b)=xK (l++[(x,y)]) (x,y)+2*((x+a)*b):=by
 unfold xK;rw[oS,oS,m_,m_,QQ,QQ];show _+(b6 ((x,y),(x+a,y))+0)+(b6 ((x+a,y),(x+a,y+b))+0)+(x+a)*(y+b)=_+x*y+_;unfold b6;dsimp only
 grind
theorem yU{l:List Pt}(hl:∃r,l=(0,0)::r)(he:∃k,l=k++[(x,y)]):cZ (l++[(0,y)])=xK l (x,y):=by
 obtain⟨r,rfl⟩:=hl;obtain⟨k,ek⟩:=he;show cZ ((0,0)::(r++[(0,y)]))=_;rw[Lj,Oo];unfold AF xK;have e:edF (0,y) ((0,0)::(r++[(0,y)]))=((0,y),(0,0))::(iJ ((0,0)::r)++[((x,y),(0,y))]):=by show((0,y),(0,0))::iJ (((0,0)::r)++[(0,y)])=_;rw[ek,oS,<-ek]
 rw[e,f',F_,m_,QQ];show b6 ((0,y),(0,0))+(_+(b6 ((x,y),(0,y))+0))=_;unfold b6;dsimp only
 grind
noncomputable def ltQ(a b:Qt):Prop:=a.1<b.1\/a.1=b.1/\(a.2.1<b.2.1\/a.2.1=b.2.1/\a.2.2<b.2.2)
theorem om:∀{l r:List Qt},l.Pairwise ltQ->r.Pairwise ltQ->(∀q,q∈l↔q∈r)->l=r
 | [],[],_,_,_=>rfl
 | [],b::r,_,_,h=>nomatch (h b).mpr (.head _)
 |a::l,[],_,_,h=>nomatch (h a).mp (.head _)
 |a::l,b::r,hl,hr,h=>by
  have hl:=M_.mp hl;have hr:=M_.mp hr;have e:a=b:=by
   rcases n_.mp ((h a).mp (.head _))with e|m
   ·exact e
   rcases n_.mp ((h b).mpr (.head _))with e|m2
   ·exact e.symm
   have h1:=hr.1 a m;have h2:=hl.1 b m2;unfold ltQ at h1 h2;lia
  subst e;have irr:∀{q:Qt},¬ltQ q q:=λ{q} g=>by unfold ltQ at g;lia
  rw[om hl.2 hr.2 λq=>⟨λm=>?_,λm=>?_⟩]
  ·rcases n_.mp ((h q).mp (.tail _ m))with rfl|m2
   ·exact absurd (hl.1 _ m) irr
   exact m2
  rcases n_.mp ((h q).mpr (.tail _ m))with rfl|m2
  ·exact absurd (hr.1 _ m) irr
  exact m2
structure Wtn (ps:List Pt) (qs:List Qt):Prop where
 up:qs.Pairwise ltQ
 iff:∀q,q∈qs↔q.2.2<4/\inD ps q
variable {qs rs:List Qt}
theorem An(h:Wtn ps qs)(g:Wtn ps rs):qs=rs:=om h.up g.up λq=>(h.iff q).trans (g.iff q).symm
theorem vU(h:Wtn ps qs):qs.Nodup:=h.up.imp λg e=>by subst e;unfold ltQ at g;lia
variable {os:List Pt}
theorem mem_of(h:Wtn ps qs){g g':Qt->Qt}(h4:∀q,q.2.2<4->(g q).2.2<4)(h5:∀q,q.2.2<4->(g' q).2.2<4/\g (g' q)=q)(hi:∀q,q.2.2<4->(inD os (g q)↔inD ps q)):∀q,q∈qs.map g↔q.2.2<4/\inD os q:=λq=>by
 rw[s_];constructor
 ·rintro⟨p,mp,rfl⟩;obtain⟨a,b⟩:=(h.iff p).mp mp;exact⟨h4 p a,(hi p a).mpr b⟩
 rintro⟨a,b⟩;obtain⟨c,d⟩:=h5 q a;exact⟨g' q,(h.iff _).mpr ⟨c,(hi _ c).mp (by rw[d];exact b)⟩,d⟩
theorem HR(h:Wtn ps qs):∀q,q∈qs.map (mvQ u v)↔q.2.2<4/\inD (ps.map (mvP u v)) q:=
 mem_of h (g':=mvQ (-u) (-v)) (λ_ h=>h) (λq h=>⟨h,by obtain⟨x,y,s⟩:=q;exact D' (by show x + -u+u=x;lia) (D' (by show y + -v+v=y;lia) rfl)⟩) λ_ _=>KY
theorem Iy(hs:∀e∈aj ps,ii e.1 e.2)(h:Wtn ps qs):∀q,q∈qs.map tuQ↔q.2.2<4/\inD (ps.map tuP) q:=
 mem_of h (g':=λq=>(q.2.1,-q.1-1,(q.2.2+3)%4)) (λ_ _=>NT _ (by decide)) (λq h=>⟨NT _ (by decide),by obtain⟨x,y,s⟩:=q;exact D' (by show -(-x-1)-1=x;lia) (D' rfl (by show((s+3)%4+1)%4=s;dsimp only at h;lia))⟩) λ_ k=>LY k hs
theorem CA{s:Nat}(h:s<4):[2,1,0,3].getD s 0<4/\[2,1,0,3].getD ([2,1,0,3].getD s 0) 0=s:=by revert s;decide
theorem Ju(h:Wtn ps qs):∀q,q∈qs.map miQ↔q.2.2<4/\inD (ps.map miP) q:=
 mem_of h (g':=miQ) (λ_ h=>(CA h).1) (λq h=>⟨(CA h).1,by obtain⟨x,y,s⟩:=q;exact D' (by show -(-x-1)-1=x;lia) (D' rfl (CA h).2)⟩) λ_ k=>KU k
theorem sL(h:Wtn ps qs)(hi:∀q,inD os q↔inD ps q):∀q,q∈qs↔q.2.2<4/\inD os q:=λq=>by rw[h.iff q,hi q]
theorem wF(h:a≠0):decide (0 < -a)=!decide (0<a):=by
 by_cases g:0<a
 ·rw[decide_eq_true g,decide_eq_false (by lia)];rfl
 rw[decide_eq_false g,decide_eq_true (by lia)];rfl
theorem xV{g:Qt->Qt}(hg:∀a b,a.2.2<4->b.2.2<4->g a=g b->a=b)(h:Wtn ps qs):(qs.map g).Nodup:=
 Nz.mpr ((List.Pairwise.and_mem.mp (vU h)).imp λ{a b} k e=>k.2.2 (hg a b ((h.iff a).mp k.1).1 ((h.iff b).mp k.2.1).1 e))
theorem v5:dnI q (p',p)=dnI q (p,p'):=iQ kx rfl rfl
theorem y4:dnI q ((a,b),(a,c))=0:=if_neg λh=>by unfold dnP at h;dsimp only at h;lia
theorem yK(h4:q.2.2<4)(hab:a<=b):dnI q ((a,c),(b,c))=if(a<=q.1/\q.1<b)/\c<=q.2.1 then 1 else 0:=by
 refine iQ ?_ rfl rfl;unfold dnP;dsimp only;have:1<=(inn q.2.2).2/\(inn q.2.2).2<=3:=by rcases uf h4 with e|e|e|e <;> rw[e] <;> decide
 lia
theorem zW(hw:0<w)(hh:0<h)(h4:q.2.2<4):inD [(0,0),(w,0),(w,h),(0,h)] q↔(0<=q.1/\q.1<w)/\0<=q.2.1/\q.2.1<h:=by unfold inD;show(dnI q ((0,0),(w,0))+(dnI q ((w,0),(w,h))+(dnI q ((w,h),(0,h))+(dnI q ((0,h),(0,0))+0))))%2=1↔_;rw[y4,y4,v5 (p:=(0,h)),yK h4 (Na hw),yK h4 (Na hw)];split <;> split <;> lia
theorem GK(hw:0<w)(ha:0<a)(hh:a<h)(h4:q.2.2<4):inD [(0,a),(w,a),(w,h),(0,h)] q↔(0<=q.1/\q.1<w)/\a<=q.2.1/\q.2.1<h:=by unfold inD;show(dnI q ((0,a),(w,a))+(dnI q ((w,a),(w,h))+(dnI q ((w,h),(0,h))+(dnI q ((0,h),(0,a))+0))))%2=1↔_;rw[y4,y4,v5 (p:=(0,h)),yK h4 (Na hw),yK h4 (Na hw)];split <;> split <;> lia
def blw(a:Int)(q:Qt):Prop:=4*(a-q.1)-(inn q.2.2).1<4*q.2.1+(inn q.2.2).2
theorem Kg(ha:0<a):dnI q ((a,0),(0,a))=@ite Int ((0<=q.1/\q.1<a)/\blw a q) (Ti _) 1 0:=by refine @iQ _ _ _ (Ti _) _ _ _ _ ?_ rfl rfl;unfold dnP blw;dsimp only;lia
theorem GY(ha:0<a)(h4:q.2.2<4):inD [(0,0),(a,0),(0,a)] q↔(0<=q.1/\q.1<a)/\0<=q.2.1/\¬blw a q:=by
 have b4:1<=(inn q.2.2).1/\(inn q.2.2).1<=3/\1<=(inn q.2.2).2/\(inn q.2.2).2<=3:=by rcases uf h4 with e|e|e|e <;> rw[e] <;> decide
 unfold inD;show(dnI q ((0,0),(a,0))+(dnI q ((a,0),(0,a))+(dnI q ((0,a),(0,0))+0)))%2=1↔_;rw[y4,yK h4 (Na ha),Kg ha];unfold blw;split <;> split <;> lia
theorem gxp{A B C:Prop}[Decidable A][Decidable B][Decidable C](h:A->C->False)(k:B->A\/C):((if A then 1 else 0)+(0+((if B then 1 else 0)+(0+((if C then 1 else 0)+(0:Int))))))%2=1↔(A\/C)/\¬B:=by
 by_cases a:A <;> by_cases b:B <;> by_cases c:C
 ·exact (h a c).elim
 ·rw[if_pos a,if_pos b,if_neg c];exact⟨λz=>absurd z (by decide),λz=>(z.2 b).elim⟩
 ·exact (h a c).elim
 ·rw[if_pos a,if_neg b,if_neg c];exact⟨λ_=>⟨.inl a,b⟩,λ_=>rfl⟩
 ·rw[if_neg a,if_pos b,if_pos c];exact⟨λz=>absurd z (by decide),λz=>(z.2 b).elim⟩
 ·exact ((k b).elim a c).elim
 ·rw[if_neg a,if_neg b,if_pos c];exact⟨λ_=>⟨.inr c,b⟩,λ_=>rfl⟩
 rw[if_neg a,if_neg b,if_neg c];exact⟨λz=>absurd z (by decide),λz=>(z.1.elim a c).elim⟩
theorem C9(ha:0<a)(hw:a<w)(hh:a<h)(h4:q.2.2<4):inD [(a,0),(w,0),(w,h),(0,h),(0,a)] q↔((0<=q.1/\q.1<w)/\0<=q.2.1/\q.2.1<h)/\(a<=q.1\/blw a q):=by
 have b4:1<=(inn q.2.2).1/\(inn q.2.2).1<=3/\1<=(inn q.2.2).2/\(inn q.2.2).2<=3:=by rcases uf h4 with e|e|e|e <;> rw[e] <;> decide
 unfold inD;show(dnI q ((a,0),(w,0))+(dnI q ((w,0),(w,h))+(dnI q ((w,h),(0,h))+(dnI q ((0,h),(0,a))+(dnI q ((0,a),(a,0))+0)))))%2=1↔_;rw[y4,y4,v5 (p:=(0,h)),v5 (p:=(a,0)),yK h4 (Na hw),yK h4 (by lia),Kg ha]
 have l1:q.1<a->blw a q->0<=q.2.1:=λg k=>by unfold blw at k;lia
 have l2:0<=q.1->h<=q.2.1->blw a q:=λg k=>by unfold blw;lia
 refine (@gxp _ _ _ _ _ (Ti _) (λ⟨⟨h1,_⟩,_⟩ ⟨⟨_,h2⟩,_⟩=>OA.mpr h2 h1) (λ⟨⟨x0,xw⟩,hy⟩=>?_)).trans ⟨?_,?_⟩
 ·rintro⟨⟨⟨a1,a2⟩,a3⟩|⟨⟨c1,c2⟩,c3⟩,nb⟩
  ·have x0:=Nj (Na ha) a1;exact⟨⟨⟨x0,a2⟩,a3,OA.mp λz=>nb ⟨⟨x0,a2⟩,z⟩⟩,.inl a1⟩
  have xw:=Ov c2 hw;exact⟨⟨⟨c1,xw⟩,l1 c2 c3,OA.mp λz=>nb ⟨⟨c1,xw⟩,z⟩⟩,.inr c3⟩
 ·rintro⟨⟨⟨x0,xw⟩,y0,yh⟩,g⟩;refine⟨?_,λz=>OA.mpr yh z.2⟩;by_cases c:a<=q.1
  ·exact .inl ⟨⟨c,xw⟩,y0⟩
  exact .inr ⟨⟨x0,OA.mp c⟩,g.resolve_left c⟩
 by_cases c:a<=q.1
 ·exact .inl ⟨⟨c,xw⟩,Nj (Na (Ov ha hh)) hy⟩
 exact .inr ⟨⟨x0,OA.mp c⟩,l2 x0 hy⟩
noncomputable def cellQ(f:Nat->Bool)(x y:Int):List Qt:=((B' 4).filter f).map λs=>(x,y,s)
theorem AE(f:Nat->Bool)(x y:Int):(cellQ f x y).length<=4:=by unfold cellQ;rw[a_];exact PN _ (B' 4)
def qbN(ls:List Pt)(x low:Int)(n:Nat):List Qt:=(B' n).flatMap λ(j:Nat)=>cellQ (λs=>oy (ls.countP (ja (x,low+j,s)))) x (low+j)
variable {low:Int}{ls:List Pt}
theorem wH{n:Nat}:qbN ls x low (n+1)=qbN ls x low n++cellQ (λs=>oy (ls.countP (ja (x,low+n,s)))) x (low+n):=by unfold qbN;rw[OZ,NI,Pn]
theorem zQ(n:Nat):(qbN ls x low n).length<=4*n:=by
 induction n with
 |zero=>exact e_ _
 |succ n ih=>
  rw[wH,c_];have:=AE (λs=>oy (ls.countP (ja (x,low+n,s)))) x (low+n);lia
theorem kK{ps:List α}{g:α->Int}:intsOf (ps.map λp=>T.int (g p))=some (ps.map g):=by
 induction ps with
 |nil=>rfl
 |cons p ps ih=>rw[f',intsOf,ih];rfl
theorem qI{f:Nat->Bool}(h:q∈cellQ f x y):q.1=x/\q.2.1=y/\q.2.2<4/\f q.2.2=true:=by obtain⟨s,m,rfl⟩:=s_.mp h;have:=N0.mp m;exact⟨rfl,rfl,K_.mp this.1,this.2⟩
theorem lg{q:Pt}(h:ii p q):(ck (p,q) x=[]/\¬(p.1<=x/\x<q.1)/\¬(q.1<=x/\x<p.1))\/∃y r,ck (p,q) x=[(y,r)]/\(p.1<=x/\x<q.1\/q.1<=x/\x<p.1)/\(r=0/\y=p.2/\y=q.2\/r=1/\y-p.2=x-p.1/\y-q.2=x-q.1\/r=-1/\y-p.2=p.1-x/\y-q.2=q.1-x):=by
 obtain⟨a,b⟩:=p;obtain⟨c,d⟩:=q;obtain⟨h0,h⟩:=h;unfold ck;dsimp only at *;have dv:∀u v:Int,v≠0->(u=0->u/v=0)/\(u=v->u/v=1)/\(u=-v->u/v=-1):=λu v hv=>⟨λe=>by rw[e,Int.zero_ediv],λe=>by rw[e,Int.ediv_self hv],λe=>by rw[e,Int.neg_ediv_self v hv]⟩
 by_cases h1:a<=x/\x<c
 ·rw[if_pos h1];refine .inr ⟨_,_,rfl,.inl h1,?_⟩;obtain⟨e1,e2,e3⟩:=dv (d-b) (c-a) (by lia);have:d-b=0\/d-b=c-a\/d-b=-(c-a):=by lia
  rcases this with e|e|e
  ·rw[e1 e];exact .inl ⟨rfl,by lia,by lia⟩
  ·rw[e2 e];exact .inr (.inl ⟨rfl,by lia,by lia⟩)
  rw[e3 e];exact .inr (.inr ⟨rfl,by lia,by lia⟩)
 rw[if_neg h1];by_cases h2:c<=x/\x<a
 ·rw[if_pos h2];refine .inr ⟨_,_,rfl,.inr h2,?_⟩;obtain⟨e1,e2,e3⟩:=dv (b-d) (a-c) (by lia);have:b-d=0\/b-d=a-c\/b-d=-(a-c):=by lia
  rcases this with e|e|e
  ·rw[e1 e];exact .inl ⟨rfl,by lia,by lia⟩
  ·rw[e2 e];exact .inr (.inl ⟨rfl,by lia,by lia⟩)
  rw[e3 e];exact .inr (.inr ⟨rfl,by lia,by lia⟩)
 rw[if_neg h2];exact .inl ⟨rfl,h1,h2⟩
noncomputable def Dt(f:Int->List α)(a:Int)(n:Nat):List α:=(B' n).flatMap λ(j:Nat)=>f (a+j)
theorem Cd{f:Int->List α}{n:Nat}{x:α}(h:x∈Dt f a n):∃j:Nat,j<n/\x∈f (a+j):=by obtain⟨j,m,e⟩:=OP.mp h;exact⟨j,K_.mp m,e⟩
def lsX(ps:List Pt)(x:Int):List Pt:=(aj ps).flatMap (ck · x)
theorem IC{q:Pt}(h:q∈es.flatMap (ck · x)):∃e∈es,q∈ck e x:=OP.mp h
theorem Ik(h:ii e.1 e.2):(((ck e q.1).countP (ja q):Nat):Int)=dnI q e:=by
 have key:∀{p p':Pt}{y r:Int},p.1<=q.1/\q.1<p'.1->(r=0/\y=p.2/\y=p'.2\/r=1/\y-p.2=q.1-p.1/\y-p'.2=q.1-p'.1\/r=-1/\y-p.2=p.1-q.1/\y-p'.2=p'.1-q.1)->(ja q (y,r)=true↔dnP q p p'):=λ{p p' y r} hr h2=>by
  have n:p.1<p'.1:=Int.lt_of_le_of_lt hr.1 hr.2;unfold ja;rw[decide_eq_true_iff];dsimp only;generalize hI:inn q.2.2=I at *;rcases h2 with⟨rfl,e1,e2⟩|⟨rfl,e1,e2⟩|⟨rfl,e1,e2⟩
  ·rw[Df (e1.symm.trans e2) n,and_iff_right hr,hI,Int.mul_zero,Int.add_zero,e1]
  ·rw[Cy (by lia) n,and_iff_right hr,hI,Int.mul_one,show p.2+q.1-p.1=y by lia]
  rw[DV (by lia) n,and_iff_right hr,hI,show p.2+p.1-q.1=y by lia,Int.mul_neg,Int.mul_one]
  rfl
 unfold dnI;rcases lg (x:=q.1) h with⟨g,h1,h2⟩|⟨y,r,g,h1,h2⟩
 ·have g:ck e q.1=[]:=g;rw[g,if_neg λ(k:dnP q e.1 e.2)=>k.1.elim h1 h2]
  rfl
 have g:ck e q.1=[(y,r)]:=g;rw[g,PQ];have k:ja q (y,r)=true↔dnP q e.1 e.2:=by
  rcases h1 with h1|h1
  ·exact key h1 h2
  refine(key (y:=y) (r:=r) h1 ?_).trans kx;rcases h2 with⟨a,b,c⟩|⟨a,b,c⟩|⟨a,b,c⟩
  ·exact .inl ⟨a,c,b⟩
  ·exact .inr (.inl ⟨a,c,b⟩)
  exact .inr (.inr ⟨a,c,b⟩)
 by_cases b:ja q (y,r)=true
 ·rw[if_pos b,if_pos (k.mp b)];rfl
 rw[if_neg b,if_neg λz=>b (k.mpr z)];rfl
theorem JO(h:∀e∈es,ii e.1 e.2):(((es.flatMap (ck · q.1)).countP (ja q):Nat):Int)=(es.map (dnI q)).sum:=by
 induction es with
 |nil=>rfl
 |cons e l ih=>
  have h1:=Ik (q:=q) (h e (.head _));have h2:=ih λe m=>h e (.tail _ m);rw[A_,Qi,f',F_];lia
theorem uI(h:∀e∈aj ps,ii e.1 e.2):oy ((lsX ps q.1).countP (ja q))=true↔inD ps q:=by unfold oy inD lsX;rw[decide_eq_true_iff,JO h]
theorem FJ:(((es.flatMap (ck · x)).length:Nat):Int)=(es.map λe=>((ck e x).length:Int)).sum:=by
 induction es with
 |nil=>rfl
 |cons e l ih=>
  rw[A_,c_,f',F_];lia
theorem Cw(h:∀e∈aj ps,ii e.1 e.2):(((lsX ps x).length:Nat):Int)%2=0:=by
 unfold lsX;rw[FJ];have ev:((aj ps).map λe=>((ck e x).length:Int)+((λp:Pt=>if p.1<=x then(1:Int)else 0) e.2-(λp:Pt=>if p.1<=x then(1:Int)else 0) e.1)).sum%2=0:=xc λe m=>by
  dsimp only;rcases lg (x:=x) (h e m)with⟨g,h1,h2⟩|⟨y,r,g,h1,h2⟩
  ·have g:ck e x=[]:=g;rw[g];show(((0:Nat):Int)+_)%2=0;split <;> split <;> lia
  have g:ck e x=[(y,r)]:=g;rw[g];show(((1:Nat):Int)+_)%2=0;split <;> split <;> lia
 rw[sum_add (G:=λe=>((ck e x).length:Int)) (H:=λe=>(λp:Pt=>if p.1<=x then(1:Int)else 0) e.2-(λp:Pt=>if p.1<=x then(1:Int)else 0) e.1) λ_ _=>rfl,mN (g:=λp:Pt=>if p.1<=x then(1:Int)else 0)]at ev;lia
theorem M8{l:Pt}(h:∀e∈aj ps,ii e.1 e.2)(m:l∈lsX ps x):l.2=0\/l.2=1\/l.2=-1:=by
 obtain⟨e,me,ml⟩:=IC m;rcases lg (x:=x) (h e me)with⟨g,h1,h2⟩|⟨y,r,g,h1,h2⟩
 ·have g:ck e x=[]:=g;rw[g]at ml;cases ml
 have g:ck e x=[(y,r)]:=g;rw[g]at ml;rw[x_.mp ml];dsimp only;lia
theorem Jg{high:Int}(h:∀e∈aj ps,ii e.1 e.2)(h4:q.2.2<4)(h1:∀l∈lsX ps q.1,low<=l.1+min l.2 0)(h2:∀l∈lsX ps q.1,l.1+max l.2 0<=high)(i:inD ps q):low<=q.2.1/\q.2.1<high:=by
 have i4:=tG h4;have o:=(uI h).mpr i;constructor
 ·refine Om.mp λk=>?_;have e:(lsX ps q.1).countP (ja q)=0:=by rw[List.countP_eq_zero];intro l ml g;have g:=of_decide_eq_true g;have g1:=h1 l ml;rcases M8 h ml with e|e|e <;> rw[e]at g g1 <;> lia
  rw[e]at o;exact absurd o (by decide)
 refine OA.mp λk=>?_;have e:(lsX ps q.1).countP (ja q)=(lsX ps q.1).length:=by rw[List.countP_eq_length];intro l ml;refine decide_eq_true ?_;have g1:=h2 l ml;rcases M8 h ml with e|e|e <;> rw[e]at g1 ⊢ <;> lia
 rw[e]at o;have:=Cw (x:=q.1) h;have o:=of_decide_eq_true o;lia
theorem xG{f:Nat->Bool}:q∈cellQ f x y↔q.1=x/\q.2.1=y/\q.2.2<4/\f q.2.2=true:=by refine⟨qI,λ⟨a,b,c,d⟩=>?_⟩;obtain⟨u,v,s⟩:=q;cases a;cases b;exact s_.mpr ⟨s,N0.mpr ⟨K_.mpr c,d⟩,rfl⟩
theorem DN{f:Int->List α}{x:α}:x∈Dt f a (b-a).toNat↔∃c,a<=c/\c<b/\x∈f c:=by
 constructor
 ·intro h;obtain⟨j,h1,h2⟩:=Cd h;exact⟨_,by lia,by lia,h2⟩
 rintro⟨c,h1,h2,h3⟩;exact OP.mpr ⟨(c-a).toNat,K_.mpr (by lia),by rw[show a+((c-a).toNat:Int)=c by lia];exact h3⟩
theorem Fo{R:Qt->Qt->Prop}{f:Int->List Qt}{n:Nat}(hp:∀y,a<=y->y<a+n->(f y).Pairwise R)(hR:∀y y',y<y'->∀u∈f y,∀v∈f y',R u v):(Dt f a n).Pairwise R:=by
 unfold Dt;rw[PK];refine⟨λj m=>?_,?_⟩
 ·have:=K_.mp m;exact hp _ (by lia) (by lia)
 exact QY.imp λ{j k} h=>hR _ _ (by lia)
theorem G8{f:Nat->Bool}:(cellQ f x y).Pairwise ltQ:=by unfold cellQ;rw[Nz];exact(QY.filter _).imp λ{a b} h=>.inr ⟨rfl,.inr ⟨rfl,h⟩⟩
theorem Ej{high:Int}(h:∀e∈aj ps,ii e.1 e.2)(h1:∀l∈lsX ps x,low<=l.1+min l.2 0)(h2:∀l∈lsX ps x,l.1+max l.2 0<=high):q∈qbN (lsX ps x) x low (high-low).toNat↔q.1=x/\q.2.2<4/\inD ps q:=by
 have e:qbN (lsX ps x) x low (high-low).toNat=Dt (λy=>cellQ (λs=>oy ((lsX ps x).countP (ja (x,y,s)))) x y) low (high-low).toNat:=rfl;rw[e,DN];constructor
 ·rintro⟨c,c1,c2,m⟩;obtain⟨a,b,d,g⟩:=xG.mp m;obtain⟨u,v,s⟩:=q;cases a;cases b;exact⟨rfl,d,(uI (q:=(u,v,s)) h).mp g⟩
 rintro⟨rfl,b,i⟩;obtain⟨c1,c2⟩:=Jg h b h1 h2 i;obtain⟨u,v,s⟩:=q;exact⟨_,c1,c2,xG.mpr ⟨rfl,rfl,b,(uI (q:=(u,v,s)) h).mpr i⟩⟩
theorem IZ{n:Nat}:(qbN ls x low n).Pairwise ltQ:=by refine Fo (f:=λy=>cellQ (λs=>oy (ls.countP (ja (x,y,s)))) x y) (λ_ _ _=>G8) λy y' hy u mu v mv=>?_;obtain⟨a,b,_⟩:=qI mu;obtain⟨c,d,_⟩:=qI mv;exact .inr ⟨a.trans c.symm,.inl (by rw[b,d];exact hy)⟩
theorem En{x0 x1:Int}(h:∀e∈aj ps,(x0<=e.1.1/\e.1.1<=x1)/\x0<=e.2.1/\e.2.1<=x1)(i:inD ps q):x0<=q.1/\q.1<x1:=by
 have z:¬(x0<=q.1/\q.1<x1)->((aj ps).map (dnI q)).sum=0:=λn=>by
  have go:∀es:List Ed,(∀e∈es,(x0<=e.1.1/\e.1.1<=x1)/\x0<=e.2.1/\e.2.1<=x1)->(es.map (dnI q)).sum=0:=by
   intro es;induction es with
   |nil=>intro _;rfl
   |cons e l ih=>
    intro g;have g1:=g e (.head _);rw[f',F_,ih λe m=>g e (.tail _ m)];have:dnI q e=0:=if_neg λk=>by have:=k.1;omega
    lia
  exact go _ h
 refine YO.mp λn=>?_;unfold inD at i;rw[z n]at i;exact absurd i (by decide)
structure Gdo (ps:List Pt):Prop where
 s:Spl ps
 n:npt ps<=160
 a:cZ ps≠0
theorem oX(h:Spl ps/\npt ps<=160)(a:0<cZ ps):Gdo ps:=⟨h.1,h.2,λz=>by lia⟩
structure Alk (ps qs:List Pt):Prop where
 a:cZ qs=cZ ps
 q:∀q,inD qs q↔inD ps q
theorem FD{k:Nat}(h:Gdo ps)(hk:k<=ps.length):Gdo (ps.drop k++ps.take k):=⟨A9 h.s hk,by rw[C0 (lT hk)];exact h.n,by rw[Ai hk];exact h.a⟩
theorem Et(h:Gdo ps):Gdo ps.reverse:=⟨yX h.s,by rw[Gu h.s];exact h.n,by rw[uL];exact λz=>h.a (by lia)⟩
structure Stq (l:List Pt) (z:Pt):Prop where
 s:Stp l z
 e:∃k,l=k++[z]
 b:∃r,l=(0,0)::r
 x:0<=z.1
 a:z.2<=xK l z
theorem KC:Stq ([]++[(0,0)]) (0,0):=⟨Kk,⟨[],rfl⟩,⟨[],rfl⟩,NZ _,NZ _⟩
theorem Iz{r:Int}(h:Stq (ps++[(x,y)]) (x,y))(hr:0<=r)(hu:0<=u):Stq ((ps++[(x,y),(x+1+r,y)])++[(x+1+r,y+1+u)]) (x+1+r,y+1+u):=by
 have s:=HV h.s (a:=1+r) (b:=1+u) (by lia) (by lia);have t:=JW (l:=ps) (x:=x) (y:=y) (a:=1+r) (b:=1+u);obtain⟨k,ek⟩:=h.b;have hx:0<=x:=h.x;have ha:y<=xK (ps++[(x,y)]) (x,y):=h.a;rw[g_ ps,<-Py,<-Py]at s;rw[g_ ps,<-Py,<-Py]at t;have m:1*(1+u)<=(x+1+r)*(1+u):=Int.mul_le_mul_of_nonneg_right (by lia) (by lia);exact⟨s,⟨_,rfl⟩,⟨k++[(x+1+r,y)]++[(x+1+r,y+1+u)],by
  show(ps++([(x,y)]++[(x+1+r,y)]))++_=_;rw[<-g_ ps,ek];rfl⟩,by show 0<=x+1+r;lia,by
  show y+1+u<=_;rw[show(ps++[(x,y),(x+1+r,y)])=(ps++([(x,y)]++[(x+1+r,y)]))from rfl,t];omega⟩
theorem HH(h:Stq (ps++[(x,y)]) (x,y))(hx:0<x)(hy:0<y)(x2:x<=20)(y2:y<=20):Gdo (ps++[(x,y),(0,y)]):=by have a:y<=xK (ps++[(x,y)]) (x,y):=h.a;have:=oX (yq h.s hx hy x2 y2) (by rw[yU h.b h.e];lia);rw[g_]at this;exact this
theorem IM(h:d<8):((st8 d).1=-1\/(st8 d).1=0\/(st8 d).1=1)/\((st8 d).2=-1\/(st8 d).2=0\/(st8 d).2=1):=by have:=uq d h;lia
theorem btw{D p r:Int}(ha:a=-1\/a=0\/a=1)(h0:bd D p)(h1:bd D (p+a*m))(r0:0<=r)(r1:r<=m):bd D (p+a*r):=by obtain⟨x0,x1⟩:=h0;obtain⟨y0,y1⟩:=h1;rcases ha with rfl|rfl|rfl <;> exact⟨by lia,by lia⟩
theorem JS(h:Spl ps){D:Int}(hb:bdL D ps)(e:ps[i]?=some p):(∀k,Rfn (ps.headD (0,0)) (ps.drop (i+1)) k->Rfn (ps.headD (0,0)) (ps.drop i) (p::k))/\
  ∀r,0<r->r<far p (ps.getD ((i+1)%ps.length) (0,0))->bdP D (p.1+((ps.getD ((i+1)%ps.length) (0,0)).1-p.1)/far p (ps.getD ((i+1)%ps.length) (0,0))*r,p.2+((ps.getD ((i+1)%ps.length) (0,0)).2-p.2)/far p (ps.getD ((i+1)%ps.length) (0,0))*r)/\
   ∀k,Rfn (ps.headD (0,0)) (ps.drop (i+1)) k->Rfn (ps.headD (0,0)) (ps.drop i) (p::(p.1+((ps.getD ((i+1)%ps.length) (0,0)).1-p.1)/far p (ps.getD ((i+1)%ps.length) (0,0))*r,p.2+((ps.getD ((i+1)%ps.length) (0,0)).2-p.2)/far p (ps.getD ((i+1)%ps.length) (0,0))*r)::k):=by
 have hi:i<ps.length:=(gV.mp e).1;have l1:(i+1)%ps.length<ps.length:=NT _ (by lia);have hp:ps.getD i (0,0)=p:=by rw[i_,e];rfl
 have dr:ps.drop i=p::ps.drop (i+1):=by rw[Ol hi];congr 1;rw[f_ hi]at e;exact L' e
 have hn:(ps.drop (i+1)).headD (ps.headD (0,0))=ps.getD ((i+1)%ps.length) (0,0):=by
  by_cases c:i+1<ps.length
  ·rw[Ol c,NF c,i_,f_ c]
   rfl
  have c:i+1=ps.length:=by lia
  rw[c,RE,O7];cases ps with
  |nil=>cases hi
  |cons a r=>rfl
 have ee:=iz (z:=(0,0)) hi;rw[hp]at ee;obtain⟨d,m,s⟩:=h.st _ (D_ ee);have hm:=qc s;have bq:bdP D (ps.getD ((i+1)%ps.length) (0,0)):=by rw[i_,f_ l1];exact bT hb (N_ l1)
 have bp:bdP D p:=bT hb (D_ e);rw[dr];refine⟨λk g=>Rfn.keep g,λr r0 r1=>?_⟩;rw[<-hn]at s hm bq r1 ⊢;generalize hq:(ps.drop (i+1)).headD (ps.headD (0,0))=q at s hm bq r1 ⊢;rw[hm]at r1 ⊢;have z:m≠0:=P4 s.mp;have eq:q=az p d m:=s.eq;obtain⟨o1,o2⟩:=IM s.dl;have e1:(q.1-p.1)/m=(st8 d).1:=by rw[eq];show(p.1+(st8 d).1*m-p.1)/m=_;rw[acl,OX _ z]
 have e2:(q.2-p.2)/m=(st8 d).2:=by rw[eq];show(p.2+(st8 d).2*m-p.2)/m=_;rw[acl,OX _ z]
 rw[e1,e2];rw[eq]at bq;exact⟨⟨btw o1 bp.1 bq.1 (by lia) (by lia),btw o2 bp.2 bq.2 (by lia) (by lia)⟩,λk g=>Rfn.put (by rw[hq];exact s) r0 r1 g⟩
theorem Ij{g:α->T}{l:List α}{z:α}(h:0<l.length):atI (l.map g) (((i:Int)+1)%(l.length:Int))=some (g (l.getD ((i+1)%l.length) z)):=by have hi:(i+1)%l.length<l.length:=NT _ h;have:=qC (xs:=l.map g) (j:=(i+1)%l.length) (by rw[u_,nW (z:=z) hi];rfl);rw[<-this];congr 1
theorem JQ{K:Sm}(h:Scr K t ns):er t=t/\isAny t=false:=by
 rcases h with rfl|⟨a,rfl,_⟩
 ·exact⟨by simp only[er,bX],rfl⟩
 exact⟨rfl,rfl⟩
theorem E8{c:Cells}{n:Nat}:eY (stT c n)=true:=by simp only[stT,eY,rN,aM,cV,Np,Qm]
theorem C8{o:Bool}:er (.lst o (ps.map ptP))=hdT false (ps.map (RW false)):=by
 show T.lst false (erL (ps.map ptP))=T.lst false ((ps.map (RW false)).map fpT);rw[qo,H_]
 rfl
theorem BK:(ps.map (RW false)).map (·.2)=ps:=by rw[H_];exact Qf ps
theorem yn:(ps.map (RW false)).length=ps.length:=a_ ..
noncomputable def smL(ps:List Pt):Prop:=∀p∈ps,-8388608<p.1/\p.1<8388608/\-8388608<p.2/\p.2<8388608
noncomputable def t4(q:Qt):List Int:=[q.1,q.2.1,(q.2.2:Int)]
def LF(qs:List Qt):Prop:=qs.Pairwise λa b=>ZS.ltL (t4 b) (t4 a)=false
theorem Bi{o:Bool}{k:T->Prop}(h:LF qs):sk [.lst o (qs.map qtT)] k=k (.lst true (qs.map qtT)):=by have e2:rowsOf (qs.map qtT)=some (qs.map t4):=xO _ t4 (λ_=>rfl) (λ_ z=>by cases z) _;show(got (rowsOf (qs.map qtT)) λks=>ks.Pairwise (λx y=>ZS.ltL y x=false)/\k (.lst true (ks.map iT)))=_;rw[e2,show qs.map qtT=(qs.map t4).map iT by rw[H_];rfl];exact propext ⟨λg=>g.2,λg=>⟨Nz.mpr h,g⟩⟩
theorem lt3{a b:Qt}(h:a.1<b.1\/a.1=b.1/\(a.2.1<b.2.1\/a.2.1=b.2.1/\a.2.2<b.2.2)):ZS.ltL (t4 b) (t4 a)=false:=by
 unfold t4;rw[ZS.ltL,ZS.ltL,ZS.ltL,ZS.ltL];split
 ·split
  ·split
   ·rfl
   exact decide_eq_false (by lia)
  exact decide_eq_false (by lia)
 exact decide_eq_false (by lia)
theorem II(h:qs.Pairwise ltQ):LF qs:=h.imp λg=>lt3 g
noncomputable def dV(f:Int->T)(xs:List Int):List (Key×T):=xs.map λx=>(UM x,f x)
theorem Cb{f:Int->T}(xs:List Int)(x:Int):pW (dV f xs) (UM x)=if x∈xs then some (f x)else none:=by
 unfold pW dV;induction xs with
 |nil=>rfl
 |cons a l ih=>
  rw[f',Nn];by_cases e:a=x
  ·subst e;rw[decide_eq_true rfl,if_pos (.head _)]
   rfl
  rw[decide_eq_false (λz=>e (W8 z))];show RK _ (List.find? _ (l.map λx=>((UM x:Key),f x)))=_;rw[ih];by_cases m:x∈l
  ·rw[if_pos m,if_pos (t_ _ m)]
  rw[if_neg m,if_neg λh=>(n_.mp h).elim (λz=>e z.symm) m]
theorem GN{f:Int->T}(xs:List Int):erK (dV f xs)=dV (λx=>er (f x)) xs:=by
 induction xs with
 |nil=>rfl
 |cons a l ih=>
  show erK ((UM a,f a)::dV f l)=(UM a,er (f a))::dV (λx=>er (f x)) l;rw[erK,ih]
variable {xs:List Int}
theorem J1{f:Int->T}(h:x ∉ xs):oz (dV f xs) (UM x) (f x)=dV f (xs++[x]):=by
 unfold oz dV;rw[if_neg,m_]
 ·rfl
 intro g;obtain⟨kv,m,e⟩:=ND.mp g;obtain⟨a,ma,rfl⟩:=s_.mp m;exact h (W8 (of_decide_eq_true e)▸ma)
def Dl(u:Bool)(oss:List (List Pt))(x:Int):T:=.lst u (oss.map λos=>T.lst u ((lsX os x).map ptP))
theorem Gn{u:Bool}{oss:List (List Pt)}:er (Dl u oss x)=Dl false oss x:=by show T.lst false (erL (oss.map λos=>T.lst u ((lsX os x).map ptP)))=_;rw[bX];refine congrArg (T.lst false) (Ni λos _=>?_);show T.lst false (erL _)=_;rw[qo]
theorem HJ{f:Int->T}:(dV f xs).length=xs.length:=a_ ..
def rJ(oss:List (List Pt))(q:Qt):Bool:=(oss.map λos=>oy ((lsX os q.1).countP (ja q))).any id
theorem Cn:(lsX ps x).length<=ps.length:=r_ (tQ _ _) (PV (gI ps))
def chn(R:Pt->Pt->Prop):Pt->List Pt->Prop
 | _,[]=>True
 |p,q::l=>R p q/\chn R q l
def cyc(R:Pt->Pt->Prop)(l:List Pt):Prop:=chn R (l.getLastD (0,0)) l
theorem lQ{R:Pt->Pt->Prop}{l:List Pt}(h:cyc R l):∀e∈aj l,R e.1 e.2:=by
 match l,h with
 | [],_=>intro e h;cases h
 |p::l,h=>
  unfold cyc at h;rw[Nv]at h;have g:∀(l:List Pt) (p z:Pt),R (l.getLastD p) z->chn R p l->∀e∈(p::l).zip (l++[z]),R e.1 e.2:=by
   intro l;induction l with
   |nil=>
    intro p z h1 _ e he;have:=x_.mp he;rw[this];exact h1
   |cons q l ih=>
    intro p z h1 h2 e he;rw[Nv]at h1;rcases n_.mp he with rfl|he
    ·exact h2.1
    exact ih q z h1 h2.2 e he
  exact g l p p h.1 h.2
variable {Q:Pt->Prop}
theorem wN{l:List Pt}:∀{p z:Pt},(∀e∈(p::l).zip (l++[z]),(Q e.1↔Q e.2))->∀p'∈p::l,(Q p↔Q p'):=by
 induction l with
 |nil=>intro p z _ p' m;rw[x_.mp m]
 |cons q l ih=>
  intro p z h p' m;rcases n_.mp m with rfl|m
  ·exact RU
  exact(h (p,q) (.head _)).trans (ih (p:=q) (z:=z) (λe me=>h e (.tail _ me)) p' m)
theorem DK(h:∀e∈aj ps,(Q e.1↔Q e.2))(m:p∈ps)(m':p'∈ps):Q p↔Q p':=by
 match ps,h,m,m' with
 |a::l,h,m,m'=>exact(wN (z:=a) h p m).symm.trans (wN (z:=a) h p' m')
theorem DQ{l:Pt}(hl:cyc ii ps)(h:l∈lsX ps x):(l.2=0\/l.2=1\/l.2=-1)/\∃e∈aj ps,min e.1.2 e.2.2<=l.1+min l.2 0/\l.1+max l.2 0<=max e.1.2 e.2.2:=by
 obtain⟨e,me,ml⟩:=OP.mp h;rcases lg (x:=x) (lQ hl e me)with⟨g,_⟩|⟨y,r,g,g1,g2⟩
 ·have g':ck e x=[]:=g;rw[g']at ml;cases ml
 have g':ck e x=[(y,r)]:=g;rw[g']at ml;rw[x_.mp ml];dsimp only;exact⟨by lia,e,me,by lia,by lia⟩
theorem IL{x0 x1:Int}(hl:cyc ii ps)(h0:tI (ps.map (·.1)) x0)(h1:uj (ps.map (·.1)) x1)(hx:x0<=x/\x<x1):0<(lsX ps x).length:=by
 refine Nm λz=>?_;have z:=I_ z;obtain⟨p,m,rfl⟩:=s_.mp h0.1;obtain⟨p',m',rfl⟩:=s_.mp h1.1;have:=DK (Q:=λp=>p.1<=x) (ps:=ps) (λe me=>by
  rcases lg (x:=x) (lQ hl e me)with⟨g,g1⟩|⟨y',r,g,g1,g2⟩
  ·lia
  have:(y',r)∈lsX ps x:=OP.mpr ⟨e,me,by show _∈ck (e.1,e.2) x;rw[g];exact .head _⟩;rw[z]at this;cases this) m m'
 lia
theorem Jx{cs:List Qt}(h1:rs.Pairwise ltQ)(h2:cs.Pairwise ltQ)(k1:∀q∈rs,q.1<x)(k2:∀q∈cs,q.1=x):(rs++cs).Pairwise ltQ:=
 J'.mpr ⟨h1,h2,λa ma b mb=>.inl (by rw[k2 b mb];exact k1 a ma)⟩
theorem CF{P:SD}{w:SI}{K:Sm}{mg:Str->Option Sl}{base:SJ}{k n:Nat}{f:Sn}{ps:List Str}(h:n=ps.length):FnOk P w K mg base CX0 k f fd ps (aG K n λ_ _=>False):=
 ⟨λ_ _ _ _ ⟨_,_,_,_,h2,_⟩=>h2.trans h,λ_ _ _ _ _ _ _ _ _ _ _ _ _ ⟨_,_,_,_,_,_,z,_⟩=>z.elim⟩
theorem hC{r:List Int}:er (iT r)=iT r:=by simp only[iT,er,bX]
theorem cP{r:List Int}:isAny (iT r)=false:=rfl
theorem cy{r:List Int}:aW (iT r)=true:=by have:=aN (iT r);rwa[hC]at this
def kB(qs:List Qt):List (List Int):=qs.map t4
theorem jZ(qs:List Qt):(kB qs).map iT=qs.map qtT:=by
 unfold kB;rw[H_]
 rfl
theorem Ab(qs:List Qt):∀q∈kB qs,q≠[]:=λq m=>by obtain⟨r,_,rfl⟩:=s_.mp m;exact QL _ _
theorem zo{o:Bool}(ks:List (List Int)){k:T->Prop}(e:t=.lst o (ks.map iT))(h:∀q∈ks,q≠[])(q:k (.lst true ((FH ks).map iT))):vk [t] k:=by subst e;show got (rowsOf (ks.map iT)) _;rw[qT h];exact q
theorem rW(qs:List Qt):(kB qs).length=qs.length:=a_ ..
theorem yI:∀r∈kB qs,r.length<=1000:=λr m=>by obtain⟨q,_,rfl⟩:=s_.mp m;exact B_ rfl
theorem DU(nd:rs.Nodup)(h:qs.Pairwise ltQ)(m:∀q,q∈rs↔q∈qs):FH (kB rs)=kB qs:=by
 have n2:qs.Nodup:=h.imp λg e=>by subst e;unfold ltQ at g;lia
 exact(Ar ZS.BY (((Qq n2 nd).mpr λq=>(m q).symm).map t4) (Nz.mpr (h.imp λg=>lt3 g))).symm
theorem DH(nd:rs.Nodup)(h:qs.Pairwise ltQ)(m:∀q,q∈rs↔q∈qs):qs.length=rs.length:=by
 have n2:qs.Nodup:=h.imp λg e=>by subst e;unfold ltQ at g;lia
 exact((Qq n2 nd).mpr λq=>(m q).symm).length_eq
theorem HD(s:Sg e d m):ii e.1 e.2:=by
 have hm:=s.mp;have hd:=s.dl;rw[s.eq];obtain⟨⟨x,y⟩,z⟩:=e;have:d=0\/d=1\/d=2\/d=3\/d=4\/d=5\/d=6\/d=7:=by lia
 have g:∀p q:Pt,(¬(p.1=q.1/\p.2=q.2))/\(p.1=q.1\/p.2=q.2\/q.1-p.1=q.2-p.2\/q.1-p.1=p.2-q.2)->ii p q:=λp q h=>⟨λe=>h.1 (by rw[e];exact⟨rfl,rfl⟩),h.2⟩
 refine g _ _ ?_;unfold az;rcases this with rfl|rfl|rfl|rfl|rfl|rfl|rfl|rfl <;> first|rw[oY]|rw[r9]|rw[oE]|rw[sS]|rw[ot]|rw[sr]|rw[oo]|rw[qE]
 all_goals dsimp only
 all_goals lia
theorem Du{R:Pt->Pt->Prop}:∀{l:List Pt}{p z:Pt},(∀e∈(p::l).zip (l++[z]),R e.1 e.2)->R (l.getLastD p) z/\chn R p l
 | [],p,z,h=>⟨h (p,z) (.head _),trivial⟩
 |q::l,p,z,h=>by have i:=Du (l:=l) (p:=q) (z:=z) λe m=>h e (.tail _ m);rw[Nv];exact⟨i.1,h (p,q) (.head _),i.2⟩
theorem DF(h:Spl ps):∀e∈aj ps,ii e.1 e.2:=λe m=>by obtain⟨d,k,s⟩:=h.st e m;exact HD s
theorem Al(h:Spl ps):cyc ii ps:=by
 have he:=DF h
 match ps,he with
 | [],_=>trivial
 |p::l,he=>
  obtain⟨a,b⟩:=Du (R:=ii) (l:=l) (p:=p) (z:=p) he;unfold cyc;rw[Nv];exact⟨a,b⟩
theorem pU(h:bdL M ps)(l:M<8388608):smL ps:=λp m=>by obtain⟨⟨g1,g2⟩,g3,g4⟩:=bT h m;exact⟨by lia,by lia,by lia,by lia⟩
theorem LC:qtT (tuQ q)=.tup [.int (-q.2.1-1),.int q.1,.int (((q.2.2:Int)+1)%4)]:=by
 unfold qtT tuQ;dsimp only;rw[Int.natCast_emod,Int.natCast_add]
 rfl
theorem LV{s:Nat}(h:s<4):atI [T.int 2,.int 1,.int 0,.int 3] (s:Int)=some (.int (([2,1,0,3].getD s 0:Nat):Int)):=by
 match s,h with
 |0,_=>rfl
 |1,_=>rfl
 |2,_=>rfl
 |3,_=>rfl
theorem JE(a b:Qt)(_:a.2.2<4)(_:b.2.2<4)(e:mvQ u v a=mvQ u v b):a=b:=by obtain⟨x,y,s⟩:=a;obtain⟨x',y',s'⟩:=b;have e1:x+u=x'+u:=congrArg Og e;have e2:y+v=y'+v:=congrArg (λq:Qt=>q.2.1) e;have e3:s=s':=congrArg (λq:Qt=>q.2.2) e;exact D' (by dsimp only;lia) (D' (by dsimp only;lia) e3)
theorem IK(a b:Qt)(ha:a.2.2<4)(hb:b.2.2<4)(e:tuQ a=tuQ b):a=b:=by obtain⟨x,y,s⟩:=a;obtain⟨x',y',s'⟩:=b;have e1:-y-1=-y'-1:=congrArg Og e;have e2:x=x':=congrArg (λq:Qt=>q.2.1) e;have e3:(s+1)%4=(s'+1)%4:=congrArg (λq:Qt=>q.2.2) e;dsimp only at ha hb;exact D' e2 (D' (by dsimp only;lia) (by dsimp only;lia))
theorem Jz(a b:Qt)(ha:a.2.2<4)(hb:b.2.2<4)(e:miQ a=miQ b):a=b:=by obtain⟨x,y,s⟩:=a;obtain⟨x',y',s'⟩:=b;have e1:-x-1=-x'-1:=congrArg Og e;have e2:y=y':=congrArg (λq:Qt=>q.2.1) e;have e3:[2,1,0,3].getD s 0=[2,1,0,3].getD s' 0:=congrArg (λq:Qt=>q.2.2) e;have e4:=(CA ha).2;dsimp only at e4;rw[e3,(CA hb).2]at e4;exact D' (by dsimp only;lia) (D' e2 e4.symm)
theorem gM{q:Pt}(h:(¬(p.1=q.1/\p.2=q.2))/\(p.1=q.1\/p.2=q.2\/q.1-p.1=q.2-p.2\/q.1-p.1=p.2-q.2)):ii p q:=⟨λe=>h.1 (by rw[e];exact⟨rfl,rfl⟩),h.2⟩
noncomputable def nT(w h:Int):List Pt:=[(0,0),(w,0),(w,h),(0,h)]
structure Cutd (w h:Int) (ps os:List Pt):Prop where
 n1:0<ps.length/\ps.length<1000
 n2:0<os.length/\os.length<1000
 b1:bdL 50 ps
 b2:bdL 50 os
 c1:cyc ii ps
 c2:cyc ii os
 u:∀q:Qt,q.2.2<4->(inD (nT w h) q↔inD ps q\/inD os q)
 d:∀q:Qt,q.2.2<4->¬(inD ps q/\inD os q)
 a:((cZ ps).natAbs:Int)+((cZ os).natAbs:Int)=((cZ (nT w h)).natAbs:Int)
theorem lZ(h:(-50<=x/\x<=50)/\-50<=y/\y<=50):bdP 50 (x,y):=h
theorem A0:cZ (nT w h)=2*(w*h):=by show(0*0-w*0)+((w*h-w*0)+((w*h-0*h)+((0*0-0*h)+0)))=_;lia
theorem Hk(hw:0<w)(hh:0<h):cyc ii (nT w h):=by show ii (0,h) (0,0)/\ii (0,0) (w,0)/\ii (w,0) (w,h)/\ii (w,h) (0,h)/\True;refine⟨gM ?_,gM ?_,gM ?_,gM ?_,trivial⟩ <;> dsimp only <;> lia
theorem L7(hw:0<w)(ha:0<a)(hh:a<h)(w1:w<=50)(h1:h<=50):Cutd w h [(0,0),(w,0),(w,a),(0,a)] [(0,a),(w,a),(w,h),(0,h)] where
 n1:=⟨B_ rfl,B_ rfl⟩
 n2:=⟨B_ rfl,B_ rfl⟩
 b1:=⟨lZ (by lia),lZ (by lia),lZ (by lia),lZ (by lia),trivial⟩
 b2:=⟨lZ (by lia),lZ (by lia),lZ (by lia),lZ (by lia),trivial⟩
 c1:=Hk hw ha
 c2:=by show ii (0,h) (0,a)/\ii (0,a) (w,a)/\ii (w,a) (w,h)/\ii (w,h) (0,h)/\True;refine⟨gM ?_,gM ?_,gM ?_,gM ?_,trivial⟩ <;> dsimp only <;> lia
 u q h4:=by unfold nT;rw[zW hw (by lia) h4,zW hw ha h4,GK hw ha hh h4];omega
 d q h4:=by rw[zW hw ha h4,GK hw ha hh h4];omega
 a:=by
  have e1:cZ [(0,0),(w,0),(w,a),(0,a)]=2*(w*a):=A0;have e2:cZ [(0,a),(w,a),(w,h),(0,h)]=2*(w*h)-2*(w*a):=by show(0*a-w*a)+((w*h-w*a)+((w*h-0*h)+((0*a-0*h)+0)))=_;lia
  rw[e1,e2,A0];have:=Int.mul_le_mul_of_nonneg_left (Na hh) (Na hw);have:=NG hw ha;lia
theorem L4(ha:0<a)(hw:a<w)(hh:a<h)(w1:w<=50)(h1:h<=50):Cutd w h [(0,0),(a,0),(0,a)] [(a,0),(w,0),(w,h),(0,h),(0,a)] where
 n1:=⟨B_ rfl,B_ rfl⟩
 n2:=⟨B_ rfl,B_ rfl⟩
 b1:=⟨lZ (by lia),lZ (by lia),lZ (by lia),trivial⟩
 b2:=⟨lZ (by lia),lZ (by lia),lZ (by lia),lZ (by lia),lZ (by lia),trivial⟩
 c1:=by show ii (0,a) (0,0)/\ii (0,0) (a,0)/\ii (a,0) (0,a)/\True;refine⟨gM ?_,gM ?_,gM ?_,trivial⟩ <;> dsimp only <;> lia
 c2:=by show ii (0,a) (a,0)/\ii (a,0) (w,0)/\ii (w,0) (w,h)/\ii (w,h) (0,h)/\ii (0,h) (0,a)/\True;refine⟨gM ?_,gM ?_,gM ?_,gM ?_,gM ?_,trivial⟩ <;> dsimp only <;> lia
 u q h4:=by
  have b4:1<=(inn q.2.2).1/\(inn q.2.2).1<=3/\1<=(inn q.2.2).2/\(inn q.2.2).2<=3:=by rcases uf h4 with e|e|e|e <;> rw[e] <;> decide
  unfold nT;rw[zW (Ov ha hw) (Ov ha hh) h4,GY ha h4,C9 ha hw hh h4];have g:¬blw a q->0<=q.1->q.2.1<a:=λn x=>by unfold blw at n;lia
  by_cases b:blw a q
  ·simp only[b,not_true,and_false,or_true,and_true,false_or]
  have g:=g b;simp only[b,not_false_eq_true,or_false,and_true];omega
 d q h4:=by rw[GY ha h4,C9 ha hw hh h4];rintro⟨⟨a1,_,n⟩,_,b⟩;exact b.elim (λb=>by lia) n
 a:=by
  have e1:cZ [(0,0),(a,0),(0,a)]=a*a:=by show(0*0-a*0)+((a*a-0*0)+((0*0-0*a)+0))=_;lia
  have e2:cZ [(a,0),(w,0),(w,h),(0,h),(0,a)]=2*(w*h)-a*a:=by show(a*0-w*0)+((w*h-w*0)+((w*h-0*h)+((0*a-0*h)+((0*0-a*a)+0))))=_;lia
  rw[e1,e2,A0];have:=Q7 (Na hw) (Na hh) (Na ha) (by lia);have:=NG ha ha;lia
variable {q1 q2:List Qt}
theorem Ip(c:Cutd w h ps os)(w1:Wtn ps q1)(w2:Wtn os q2):(q1++q2).Nodup:=
 Oi.mpr ⟨vU w1,vU w2,λa ma b mb e=>by subst e;have a1:=(w1.iff a).mp ma;exact c.d a a1.1 ⟨a1.2,((w2.iff a).mp mb).2⟩⟩
variable {qb:List Qt}
theorem FX(c:Cutd w h ps os)(wb:Wtn (nT w h) qb)(w1:Wtn ps q1)(w2:Wtn os q2):∀q,q∈q1++q2↔q∈qb:=λq=>by
 rw[C_,w1.iff,w2.iff,wb.iff];constructor
 ·rintro(⟨a,b⟩|⟨a,b⟩)
  ·exact⟨a,(c.u q a).mpr (.inl b)⟩
  exact⟨a,(c.u q a).mpr (.inr b)⟩
 rintro⟨a,b⟩;exact((c.u q a).mp b).imp (λg=>⟨a,g⟩) λg=>⟨a,g⟩
theorem Ey(c:Cutd w h ps os)(wb:Wtn (nT w h) qb)(w2:Wtn os q2):(qb.filter λq=>!rJ [ps] q)=q2:=by
 refine om (wb.up.filter _) w2.up λq=>?_;have e:rJ [ps] q=true↔inD ps q:=by rw[<-uI (lQ c.c1)];unfold rJ;rw[f',Po];exact⟨λh=>by rwa[NL,R9,Rc]at h,λh=>by rw[NL,R9,Rc];exact h⟩
 rw[N0,w2.iff,wb.iff];constructor
 ·rintro⟨⟨a,b⟩,d⟩;refine⟨a,((c.u q a).mp b).resolve_left λg=>?_⟩;rw[e.mpr g]at d;cases d
 rintro⟨a,b⟩;refine⟨⟨a,(c.u q a).mpr (.inr b)⟩,?_⟩;cases g:rJ [ps] q
 ·rfl
 exact absurd ⟨e.mp g,b⟩ (c.d q a)
variable {ks:List (List Int)}
theorem Aw:eY (.lst true (ks.map iT))=true:=by simp only[eY,aM,iT,cV,Qm]
theorem Gm{o:Bool}:er (.lst o (ks.map iT))=.lst false (ks.map iT):=by
 simp only[er,bX,iT]
 rfl
noncomputable def kI:=And.intro @Mp.Hv (@Mp.HL)
noncomputable def kH:=@PL.aN
end Mp
local macro_rules | `(tactic| walk_at "go")=>do
 let l<-("!PL.i9 !PL.gx !PL.il !PL.dC !PL.fT !PL.gd !PL.eC !PL.gq !PL.dP !PL.dY !PL.bG !PL.cn !PL.dB !PL.cM !PL.dR !PL.d6 !PL.fW !PL.dD !PL.cK !PL.dS !PL.eS !PL.fx !PL.dm !PL.dM !PL.eG !PL.ed !PL.cL !PL.cz !PL.fC !PL.d5 !PL.dq !PL.cQ !PL.e7 !PL.cD !PL.eP !PL.fE !PL.de !PL.dh !PL.fO !PL.dk !PL.dX !PL.ik !PL.eM !PL.cG !PL.eI !PL.cI !PL.dJ !PL.gp !PL.fR !PL.fN !PL.gu !PL.fD !PL.gm !PL.fU !PL.dZ !PL.dH !PL.eh !PL.dU !PL.eR !PL.dI !PL.gj !PL.gn !PL.fJ !PL.fG !PL.eQ !PL.cJ !PL.df !PL.d8 !PL.dg !PL.dN !PL.cq !PL.cH !PL.cR !PL.fY !PL.fP !PL.fI !PL.fM !PL.gy !PL.fF !PL.gh !PL.fq !PL.i7 !PL.fB !PL.aS !PL.aR !PL.aO !PL.cF PL.fA PL.dE PL.i8 PL.i6 PL.br PL.bZ PL.aY PL.eL PL.bX PL.eD PL.aU PL.aT PL.aN PL.aM PL.bg PL.cV PL.cu PL.bA PL.d7 PL.bQ PL.bE PL.dy PL.bD PL.ba PL.bP PL.d9 PL.bc PL.cO PL.eE PL.bL PL.bz PL.er PL.erL PL.aW PL.aZ PL.eY PL.d0 PL.lend PL.back PL.outs PL.frA PL.jV f' NL i' N1 a_ F' C' Rq Qg NW G' NJ List.zipWith_cons_cons List.zipWith_nil_left List.zipWith_nil_right decide_true Pp Qb Qm Np Bool.and_self MZ true_and and_true N2 O2 PySem.sizeLine_eq PL.Th.v if_true if_false Mp.eN Nat.reduceAdd Nat.reduceSub Nat.reduceLeDiff !PL.gv !PL.fv !PL.gw !PL.gc !PL.fS !PL.gf !PL.fZ !PL.cE Mp.fX Mp.cA Mp.bO Mp.bJ !Mp.eJ !Mp.dO !Mp.bK Mp.cj !Mp.eg !Mp.eO Mp.cw Mp.bC Mp.cS Mp.gF Mp.eU Mp.ij Mp.aL Mp.fL Mp.cN Mp.bB Mp.bj !Mp.e9 !Mp.dw Mp.kF Mp.i5 !Mp.cv Mp.ip Mp.fH !Mp.dF !Mp.eB !PL.du !PL.eA Mp.fV Mp.cB Mp.bo Mp.bF !Mp.eF !Mp.dQ !Mp.eK !Mp.bI !Mp.dA Mp.cx Mp.bN Mp.cp !PL.fu !PL.dW !PL.dc Mp.hC Mp.cP Mp.cy !Mp.kI Mp.kH".splitOn " ").toArray.mapM λs=>let i:Lean.Ident:=Lean.mkIdent (s.replace "!" "").toName;if s.front=='!' then `(Lean.Parser.Tactic.simpLemma|↓$i:ident) else `(Lean.Parser.Tactic.simpLemma|$i:ident)
 `(tactic| simp only[$l,*])
local macro_rules | `(tactic| nofun)=>`(tactic| walk_at "go")
local macro_rules | `(tactic| walk_at "take")=>`(tactic| refine⟨_,_,_,rfl,by lia,by first|decide|lia,by first|decide|lia,?_⟩)
namespace Mp
open PySem L2 PL
def uy:FP:=λts k=>∃(p:Pt) (d:Nat) (m:Int),ts=[ptP p,.int d,.int m]/\d<8/\k (ptP (az p d m)) ts
variable {f:Sn}{fd:SR}
section
variable{P:SD}{w:SI}{K:Sm}{mg:Str->Option Sl}{base:SJ}
theorem sJ:FnScope ["corner","direction","many","step"] ["corner","direction","many"] (ay oP):=⟨rfl,rfl,rfl,by rfl',rfl,by rfl',by rfl'⟩
theorem yG(F:Fun K "stepped" "stepped" oP f fd)(TX:Txt mg)(C_STEPS:Glb K mg "STEPS" uJ) :FnOk P w K mg base CX0 1 f fd ["corner","direction","many"] (aG K 3 uy):=by refine cC F sJ [true,true,true] rfl (λcdv A outer s H E hr=>?_);have sc:=@sJ;refine⟨_,(ah (aF (i:=3) sc.nd (by rfl) (b_ rfl) (by rfl) (aI (aD hr (Ir C_STEPS (by rfl)) (ae 1)))) (ak (aH (aI (aA (ab (ai aB (aD hr (ae 0) ge_int) (ai eW (aD hr (ae 3) ge_int) (ae 2))) (ab (ai aB (aD hr (ae 0) ge_int) (ai eW (aD hr (ae 3) ge_int) (ae 2))) af))))))),λts kk hl hp=>?_⟩;clear hl;obtain⟨p,d,m,rfl,hd,q⟩:=hp;nofun;refine b8 (BE hd) ?_;have:=uq d hd;nofun;exact⟨.inl (by lia),.inl (by lia),q⟩
end
def mV:FP:=λts k=>∃(p q:Pt),ts=[ptP p,ptP q]/\k (pH p q) ts
section
variable{P:SD}{w:SI}{K:Sm}{mg:Str->Option Sl}{base:SJ}
theorem pO:FnScope ["one","other","many","direction"] ["one","other"] (ay mI):=⟨rfl,rfl,rfl,by rfl',rfl,by rfl',by rfl'⟩
theorem xS(F:Fun K "straight" "straight" mI f fd)(TX:Txt mg)(C_STEPS:Glb K mg "STEPS" uJ)(Do:Cal P w K mg base 1 "stepped" ["corner","direction","many"] (aG K 3 uy)):FnOk P w K mg base CX0 2 f fd ["one","other"] (aG K 2 mV):=by
 refine cC F pO [true,true] rfl (λcdv A outer s H E hr=>?_);have sc:=@pO;refine⟨_,(ah (aF (i:=2) sc.nd (by rfl) (b_ rfl) (by rfl) (aI (av (iy rfl) (by rfl) TX.max (by rfl') (ab (av jx (by rfl) TX.abs (by rfl') (ab (ai aK (aD hr (ae 1) ge_int) (aD hr (ae 0) ge_int)) af)) (ab (av jx (by rfl) TX.abs (by rfl') (ab (ai aK (aD hr (ae 1) ge_int) (aD hr (ae 0) ge_int)) af)) af))))) (ah (f9 (gY (cX (dG hr) (ae 2) ge_int (aV _))) (ak (aH vY)) b9) (ah (jX T3 (by rfl) (jF (by rfl) TX.range (ab (aI (av eV (by rfl) TX.len (by rfl') (ab (Ir C_STEPS (by rfl)) af))) af)) (ax (i:=3) sc.nd (by rfl) (b_ rfl) (by rfl)) (ak (f9 (gY (cX (dG hr) (au Do hr (by rfl) (ag (ae 0) (ag (ae 3) (ag (ae 2) aq)))) (oV kT (by rfl) TX.tuple (by rfl') (ab (ae 1) af)) (aV _))) (ak (aH (aI (aA (ab (ae 3) (ab (ae 2) af)))))) b9))) (ak (aH vY))))),λts kk hl hp=>?_⟩;clear hl;obtain⟨a,b,rfl,q⟩:=hp;unfold pH lead far at q;nofun;refine cg (λh=>?_) (λh=>?_)
 ·nofun;rw[if_pos h]at q;exact q
 nofun;rw[if_neg h]at q;refine⟨by decide,iM (λi env=>(∀j,j<i->az a j (far a b)≠b)/\∃z,env=[ptP a,ptP b,.int (far a b),z]) ⟨λj hj=>by lia,_,rfl⟩ ?_ ?_⟩
 ·rintro i t _ ⟨hb,z,rfl⟩ ei;have hi:i<8:=kU ei;have et:=vg ei;subst et;nofun;refine⟨a,i,far a b,by rw[Ry],hi,?_⟩;nofun;refine cg (λh2=>?_) (λh2=>?_)
  ·nofun;have ef:(B' 8).find? (λd=>decide (az a d (far a b)=b))=some i:=by rw[List.find?_range_eq_some];exact⟨decide_eq_true h2,K_.mpr hi,λj hj=>by rw[decide_eq_false (hb j hj)];rfl⟩
   unfold far at ef ⊢;rw[ef]at q;rw[Ry];exact q
  nofun;refine⟨λj hj=>?_,_,rfl⟩;rcases O1.mp hj with hj|rfl
  ·exact hb j hj
  exact h2
 rintro _ ⟨hb,z,rfl⟩;nofun;have ef:(B' 8).find? (λd=>decide (az a d (far a b)=b))=none:=by rw[List.find?_range_eq_none];intro j hj;rw[decide_eq_false (hb j (by rw[gP];exact hj))];rfl
 unfold far at ef;rw[ef]at q;exact q
end
def pE:FP:=λts k=>∃t c,ts=[t]/\lY t=some c/\k (.bl (decide (c=.int))) ts
section
variable{P:SD}{w:SI}{K:Sm}{mg:Str->Option Sl}{base:SJ}
theorem nX:FnScope ["thing"] ["thing"] (ay kX):=⟨rfl,rfl,rfl,by rfl',rfl,by rfl',by rfl'⟩
theorem vo(F:Fun K "is_number" "is_number" kX f fd)(TX:Txt mg)  :FnOk P w K mg base CX0 1 f fd ["thing"] (aG K 1 pE):=by
 refine cC F nX [true] rfl (λcdv A outer s H E hr=>?_);have sc:=@nX;refine⟨_,(ak (aH (aI (gZ (av cf (by rfl) TX.isinstance (by rfl') (ab (ae 0) (ab (iW (n:="int") (by rfl) TX.int (by rfl')) af))) (kR (oN (av cf (by rfl) TX.isinstance (by rfl') (ab (ae 0) (ab (iW (n:="bool") (by rfl) TX.bool (by rfl')) af))))))))),λts kk hl hp=>?_⟩;clear hl;obtain⟨t,c,rfl,ht,q⟩:=hp;nofun;refine⟨iF ht,b8 ht ?_⟩;nofun;refine iX (λh=>?_) (λh=>?_)
 ·nofun;refine⟨iF ht,b8 ht ?_⟩;nofun;have e:(!isA c .bl)=decide (c=.int):=by cases c <;> first|rfl|exact absurd h (by decide)
  rw[e];exact q
 nofun;have e:false=decide (c=.int):=by cases c <;> first|rfl|exact absurd h (by decide)
 rw[e];exact q
end
def su:FP:=λts k=>∃t c,ts=[t]/\lY t=some c/\k (.bl (C5 c)) ts
section
variable{P:SD}{w:SI}{K:Sm}{mg:Str->Option Sl}{base:SJ}
theorem u6:FnScope ["thing"] ["thing"] (ay sN):=⟨rfl,rfl,rfl,by rfl',rfl,by rfl',by rfl'⟩
theorem Bu(F:Fun K "is_row" "is_row" sN f fd)(TX:Txt mg)  :FnOk P w K mg base CX0 1 f fd ["thing"] (aG K 1 su):=by refine cC F u6 [true] rfl (λcdv A outer s H E hr=>?_);have sc:=@u6;refine⟨_,(ak (aH (aI (av cf (by rfl) TX.isinstance (by rfl') (ab (ae 0) (ab (aA (ab (iW (n:="list") (by rfl) TX.list (by rfl')) (ab (iW (n:="tuple") (by rfl) TX.tuple (by rfl')) af))) af)))))),λts kk hl hp=>?_⟩;clear hl;obtain⟨t,c,rfl,ht,q⟩:=hp;nofun;refine⟨iF ht,b8 ht ?_⟩;nofun;exact q
end
def mE:FP:=λts k=>∃t n,ts=[t,.int (n:Nat)]/\Kd t/\(∀us,items t=some us->us.length<sizeLine)/\k (.bl (nums t n)) ts
section
variable{P:SD}{w:SI}{K:Sm}{mg:Str->Option Sl}{base:SJ}
theorem kN:FnScope ["thing","many"] ["thing","many"] (ay jn):=⟨rfl,rfl,rfl,by rfl',rfl,by rfl',by rfl'⟩
theorem rY(F:Fun K "are_numbers" "are_numbers" jn f fd)(TX:Txt mg)  (wf:Cal P w K mg base 1 "is_number" ["thing"] (aG K 1 pE))(wv:Cal P w K mg base 1 "is_row" ["thing"] (aG K 1 su)):FnOk P w K mg base CX0 2 f fd ["thing","many"] (aG K 2 mE):=by
 refine cC F kN [true,true] rfl (λcdv A outer s H E hr=>?_);have sc:=@kN;have nd1:(["part"]:List Str).Nodup:=by rfl'
 refine⟨_,(ak (aH (aI (gZ (au wv hr (by rfl) (ag (ae 0) aq)) (gZ (jh (dG hr) (av eV (by rfl) TX.len (by rfl') (ab (ae 0) af)) (ae 1) (aV _)) (kR (av (lL rfl) (by rfl) TX.all (by rfl') (ab (cc sc ["part"] [none] nd1 (by rfl') (cY (ae 0)) (λ_ _ _=>(ax (i:=0) nd1 (by rfl) (b_ rfl) (by rfl) (hf:=(d_ rfl)))) (λ_ _ _=>bV) (λ_ _ _=>(au wf hr (by rfl) (ag (ae 0) aq)))) af)))))))),λts kk hl hp=>?_⟩;clear hl;obtain⟨t,n,rfl,⟨⟨c,ht⟩,hu⟩,hz,q⟩:=hp;nofun;refine⟨iF ht,er t,c,rfl,by rw[cj];exact ht,?_⟩;nofun;have hr:=B8 ht;refine iX (λh=>?_) (λh=>?_)
 ·rw[h]at hr;obtain⟨us,eu⟩:=Ot.mp hr;have eu2:items (er t)=some (erL us):=by rw[Bf,eu];rfl
  nofun;refine⟨iF ht,A8 eu2 ?_⟩;nofun;have en:nums t n=(decide (us.length=n)&&us.all isI):=by unfold nums;rw[eu]
  rw[en]at q;refine cg (λh2=>?_) (λh2=>?_)
  ·have h2:us.length=n:=by rw[iL]at h2;lia
   rw[decide_eq_true h2,Np]at q;nofun;refine⟨iF ht,b8 eu2 ?_⟩;nofun;refine FQ (λu=>[.bl (isI u)]) (λie=>∃z,ie=[z]) (by rw[iL];exact hz us eu) ⟨_,rfl⟩ ?_ ?_
   ·rintro i u _ eu3 ⟨z,rfl⟩;obtain⟨u0,e0,rfl⟩:∃u0,us[i]?=some u0/\u=er u0:=by rw[mS]at eu3;exact cU eu3
    obtain⟨c0,hc0⟩:=hu us eu u0 (D_ e0);nofun;refine⟨iF hc0,er u0,c0,rfl,by rw[cj];exact hc0,?_⟩;nofun;refine⟨?_,_,rfl⟩;rw[Bl eu3,CY];unfold isI;rw[hc0];congr 3;simp only[Qs]
   rintro _ ⟨z,rfl⟩;nofun;have e:(NO isI (erL us)).all id=us.all isI:=by rw[mS,H_,Ou];congr 1;funext u;exact CY
   rw[e];exact q
  have h2:us.length≠n:=by rw[iL]at h2;lia
  rw[decide_eq_false h2,N9]at q;nofun;exact q
 rw[h]at hr;have en:nums t n=false:=by
  unfold nums;cases hi:items t with
  |none=>rfl
  |some us=>rw[hi]at hr;cases hr
 rw[en]at q;nofun;exact q
end
def nQ:FP:=λts k=>∃t c fs,ts=[t]/\er t=hdT c fs/\isAny t=false/\fs.length<sizeLine/\k (.lst true ((fs.map (·.2)).map ptP)) ts
section
variable{P:SD}{w:SI}{K:Sm}{mg:Str->Option Sl}{base:SJ}
theorem mx:FnScope ["outline"] ["outline"] (ay kz):=⟨rfl,rfl,rfl,by rfl',rfl,by rfl',by rfl'⟩
theorem t9(F:Fun K "corners_of" "corners_of" kz f fd)(TX:Txt mg)  :FnOk P w K mg base CX0 1 f fd ["outline"] (aG K 1 nQ):=by
 refine cC F mx [true] rfl (λcdv A outer s H E hr=>?_);have sc:=@mx;have nd1:(["corner"]:List Str).Nodup:=by rfl'
 refine⟨_,(ak (aH (aI (cc sc ["corner"] [none] nd1 (by rfl') (cY (ae 0)) (λ_ _ _=>(ax (i:=0) nd1 (by rfl) (b_ rfl) (by rfl) (hf:=(d_ rfl)))) (λ_ _ _=>bV) (λ_ _ _=>(oV kT (by rfl) TX.tuple (by rfl') (ab (ae 0) af))))))),λts kk hl hp=>?_⟩;clear hl;obtain⟨t,c,fs,rfl,et,ia,hz,q⟩:=hp;nofun;rw[et];refine⟨pf,b8 qG ?_⟩;nofun;refine aP (by rw[a_];exact hz) (λi acc ie=>∃z,acc=(fs.take i).map (λf=>ptP f.2)/\ie=[z]) ⟨_,rfl,rfl⟩ ?_ ?_
 ·rintro i u _ _ ⟨z,rfl,rfl⟩ eu;obtain⟨f,ef,rfl⟩:=cU eu;nofun;exact⟨_,by rw[map_take ef],rfl⟩
 rintro _ _ ⟨z,rfl,rfl⟩;rw[a_,z_];nofun;have e:fs.map (λf=>ptP f.2)=(fs.map (·.2)).map ptP:=by rw[H_];rfl
 rw[e];exact q
end
def jG:FP:=λts k=>∃t c fs,ts=[t]/\er t=hdT c fs/\isAny t=false/\fs.length<1000/\k (.lst true ((aj (fs.map (·.2))).map edT)) ts
section
variable{P:SD}{w:SI}{K:Sm}{mg:Str->Option Sl}{base:SJ}
theorem pN:FnScope ["outline","corners"] ["outline"] (ay mR):=⟨rfl,rfl,rfl,by rfl',rfl,by rfl',by rfl'⟩
theorem xm(F:Fun K "edges_of" "edges_of" mR f fd)(TX:Txt mg)  (re:Cal P w K mg base 1 "corners_of" ["outline"] (aG K 1 nQ)):FnOk P w K mg base CX0 2 f fd ["outline"] (aG K 1 jG):=by
 refine cC F pN [true] rfl (λcdv A outer s H E hr=>?_);have sc:=@pN;refine⟨_,(ah (aF (i:=1) sc.nd (by rfl) (b_ rfl) (by rfl) (aI (au re hr (by rfl) (ag (ae 0) aq)))) (ak (aH (aI (yM (by rfl) (by rfl) TX.list (by rfl) TX.zip (ab (ae 1) (ab (ai aB (iE (ae 1) (iO ge_int) jS) (iE (ae 1) jS (iO ge_int))) af))))))),λts kk hl hp=>?_⟩;clear hl;obtain⟨t,c,fs,rfl,et,ia,hz,q⟩:=hp;nofun;refine⟨by rw[et];exact pf,er t,c,fs,rfl,by rw[gF];exact et,by rw[et];exact pf,by rw[SX];lia,?_⟩;have hz:(fs.map (·.2)).length<1000:=by rw[a_];exact hz
 generalize fs.map (·.2)=ps at *;nofun;rw[<-N6,<-Of,qo,qo];have e:=Bt ps;rw[<-N6,<-Of]at e;refine⟨by rw[a_,a_,o_,p_];lia,by rw[c_,a_,a_,o_,p_];lia,?_,by rw[e];exact q⟩;rw[<-m_,Ru,Ou];exact cV _
end
def tT:FP:=λts k=>∃e c,ts=[edT e,ptP c]/\smE e/\sm c/\k (.int (kE e c)) ts
section
variable{P:SD}{w:SI}{K:Sm}{mg:Str->Option Sl}{base:SJ}
theorem qN:FnScope ["edge","corner","one","other"] ["edge","corner"] (ay pj):=⟨rfl,rfl,rfl,by rfl',rfl,by rfl',by rfl'⟩
theorem yC(F:Fun K "side_of" "side_of" pj f fd)(TX:Txt mg)  :FnOk P w K mg base CX0 1 f fd ["edge","corner"] (aG K 2 tT):=by refine cC F qN [true,true] rfl (λcdv A outer s H E hr=>?_);have sc:=@qN;refine⟨_,(ah (aF (i:=2) sc.nd (by rfl) (b_ rfl) (by rfl) (aI (aD hr (ae 0) ge_int))) (ah (aF (i:=3) sc.nd (by rfl) (b_ rfl) (by rfl) (aI (aD hr (ae 0) ge_int))) (ak (aH (aI (ai aK (ai eW (ai aK (aD hr (ae 3) ge_int) (aD hr (ae 2) ge_int)) (ai aK (aD hr (ae 1) ge_int) (aD hr (ae 2) ge_int))) (ai eW (ai aK (aD hr (ae 3) ge_int) (aD hr (ae 2) ge_int)) (ai aK (aD hr (ae 1) ge_int) (aD hr (ae 2) ge_int))))))))),λts kk hl hp=>?_⟩;clear hl;obtain⟨e,c,rfl,h,hc,q⟩:=hp;nofun;obtain⟨⟨a1,a2,a3,a4⟩,b1,b2,b3,b4⟩:=h;exact⟨.inl (by lia),.inl (by lia),q⟩
end
def mB:FP:=λts k=>∃e o,ts=[edT e,edT o]/\smE e/\smE o/\k (.bl (acr e o)) ts
section
variable{P:SD}{w:SI}{K:Sm}{mg:Str->Option Sl}{base:SJ}
theorem lA:FnScope ["edge","other"] ["edge","other"] (ay jl):=⟨rfl,rfl,rfl,by rfl',rfl,by rfl',by rfl'⟩
theorem qR(F:Fun K "lies_across" "lies_across" jl f fd)(TX:Txt mg)  (Da:Cal P w K mg base 1 "side_of" ["edge","corner"] (aG K 2 tT)):FnOk P w K mg base CX0 2 f fd ["edge","other"] (aG K 2 mB):=by refine cC F lA [true,true] rfl (λcdv A outer s H E hr=>?_);have sc:=@lA;refine⟨_,(ak (aH (aI (jh qP (ai eW (au Da hr (by rfl) (ag (ae 0) (ag (aD hr (ae 1) ge_int) aq))) (au Da hr (by rfl) (ag (ae 0) (ag (aD hr (ae 1) ge_int) aq)))) ge_int (aV _))))),λts kk hl hp=>?_⟩;clear hl;obtain⟨e,o,rfl,h,ho,q⟩:=hp;nofun;refine⟨e,o.1,rfl,h,ho.1,?_⟩;nofun;refine⟨e,o.2,rfl,h,ho.2,?_⟩;nofun;exact⟨.inl (wU h ho.1),q⟩
end
def jq:FP:=λts k=>∃e o a,ts=[edT e,edT o,.int a]/\(a=0/\k (.bl (ovl e.1.1 e.2.1 o.1.1 o.2.1)) ts\/a=1/\k (.bl (ovl e.1.2 e.2.2 o.1.2 o.2.2)) ts)
section
variable{P:SD}{w:SI}{K:Sm}{mg:Str->Option Sl}{base:SJ}
theorem jd:FnScope ["edge","other","axis"] ["edge","other","axis"] (ay iu):=⟨rfl,rfl,rfl,by rfl',rfl,by rfl',by rfl'⟩
theorem o7(F:Fun K "is_overlapping" "is_overlapping" iu f fd)(TX:Txt mg)  :FnOk P w K mg base CX0 1 f fd ["edge","other","axis"] (aG K 3 jq):=by
 refine cC F jd [true,true,true] rfl (λcdv A outer s H E hr=>?_);have sc:=@jd;refine⟨_,(ak (aH (aI (gZ (jh qP (av (gX rfl) (by rfl) TX.min (by rfl') (ab (aD hr (aD hr (ae 0) ge_int) (ae 2)) (ab (aD hr (aD hr (ae 0) ge_int) (ae 2)) af))) (av (iy rfl) (by rfl) TX.max (by rfl') (ab (aD hr (aD hr (ae 1) ge_int) (ae 2)) (ab (aD hr (aD hr (ae 1) ge_int) (ae 2)) af))) (aV _)) (kR (jh qP (av (gX rfl) (by rfl) TX.min (by rfl') (ab (aD hr (aD hr (ae 1) ge_int) (ae 2)) (ab (aD hr (aD hr (ae 1) ge_int) (ae 2)) af))) (av (iy rfl) (by rfl) TX.max (by rfl') (ab (aD hr (aD hr (ae 0) ge_int) (ae 2)) (ab (aD hr (aD hr (ae 0) ge_int) (ae 2)) af))) (aV _))))))),λts kk hl hp=>?_⟩;clear hl;obtain⟨e,o,a,rfl,⟨rfl,q⟩|⟨rfl,q⟩⟩:=hp
 all_goals
  nofun;unfold ovl at q;refine iX (λh=>?_) (λh=>?_)
  ·rw[h,Np]at q;nofun;exact q
  rw[h,N9]at q;nofun;exact q
end
def nE:FP:=λts k=>∃e o,ts=[edT e,edT o]/\smE e/\smE o/\k (.bl (com e o)) ts
section
variable{P:SD}{w:SI}{K:Sm}{mg:Str->Option Sl}{base:SJ}
theorem mj:FnScope ["edge","other"] ["edge","other"] (ay kc):=⟨rfl,rfl,rfl,by rfl',rfl,by rfl',by rfl'⟩
theorem tq(F:Fun K "has_common" "has_common" kc f fd)(TX:Txt mg)  (wp:Cal P w K mg base 1 "is_overlapping" ["edge","other","axis"] (aG K 3 jq))(wP:Cal P w K mg base 2 "lies_across" ["edge","other"] (aG K 2 mB)):FnOk P w K mg base CX0 3 f fd ["edge","other"] (aG K 2 nE):=by
 refine cC F mj [true,true] rfl (λcdv A outer s H E hr=>?_);have sc:=@mj;refine⟨_,(ak (aH (aI (gZ (au wp hr (by rfl) (ag (ae 0) (ag (ae 1) (ag ge_int aq)))) (gZ (au wp hr (by rfl) (ag (ae 0) (ag (ae 1) (ag ge_int aq)))) (gZ (au wP hr (by rfl) (ag (ae 0) (ag (ae 1) aq))) (kR (au wP hr (by rfl) (ag (ae 1) (ag (ae 0) aq)))))))))),λts kk hl hp=>?_⟩;clear hl;obtain⟨e,o,rfl,h,ho,q⟩:=hp;unfold com at q;nofun;refine⟨e,o,0,rfl,.inl ⟨rfl,?_⟩⟩;nofun;refine iX (λh1=>?_) (λh1=>?_)
 ·rw[h1,Np]at q;nofun;refine⟨e,o,1,rfl,.inr ⟨rfl,?_⟩⟩;nofun;refine iX (λh2=>?_) (λh2=>?_)
  ·rw[h2,Np]at q;nofun;refine⟨e,o,rfl,h,ho,?_⟩;nofun;refine iX (λh3=>?_) (λh3=>?_)
   ·rw[h3,Np]at q;nofun;refine⟨o,e,rfl,ho,h,?_⟩;nofun;exact q
   rw[h3,N9]at q;nofun;exact q
  rw[h2,N9]at q;nofun;exact q
 rw[h1,N9]at q;nofun;exact q
end
def kC:FP:=λts k=>∃(o:Bool) (es:List Ed),ts=[.lst o (es.map edT)]/\es.length<sizeLine/\k (.bl (rj es)) ts
section
variable{P:SD}{w:SI}{K:Sm}{mg:Str->Option Sl}{base:SJ}
theorem jt:FnScope ["edges"] ["edges"] (ay iH):=⟨rfl,rfl,rfl,by rfl',rfl,by rfl',by rfl'⟩
theorem oC(F:Fun K "goes_straight" "goes_straight" iH f fd)(TX:Txt mg)  (EQ:Cal P w K mg base 2 "straight" ["one","other"] (aG K 2 mV)):FnOk P w K mg base CX0 3 f fd ["edges"] (aG K 1 kC):=by
 refine cC F jt [true] rfl (λcdv A outer s H E hr=>?_);have sc:=@jt;have nd1:(["one","other"]:List Str).Nodup:=by rfl'
 refine⟨_,(ak (aH (aI (av (lL rfl) (by rfl) TX.all (by rfl') (ab (cc sc ["one","other"] [none,none] nd1 (by rfl') (cY (ae 0)) (λ_ _ _=>(eZ (n:=2) (by rfl) (aC (ax (i:=0) nd1 (by rfl) (b_ rfl) (by rfl) (hf:=(d_ rfl))) (aC (ax (i:=1) nd1 (by rfl) (b_ rfl) (by rfl) (hf:=(d_ rfl))) cT)))) (λ_ _ _=>bV) (λ_ _ _=>(jh CV (au EQ hr (by rfl) (ag (ae 0) (ag (ae 1) aq))) vY (aV _)))) af))))),λts kk hl hp=>?_⟩;clear hl;obtain⟨o,es,rfl,hz,q⟩:=hp;nofun;refine aP (by rw[a_];exact hz) (λi acc ie=>∃z1 z2,acc=(es.take i).map (λe=>T.bl (lead e.1 e.2).isSome)/\ie=[z1,z2]) ⟨_,_,rfl,rfl⟩ ?_ ?_
 ·rintro i u _ _ ⟨z1,z2,rfl,rfl⟩ eu;obtain⟨e,ee,rfl⟩:=cU eu;nofun;refine⟨e.1,e.2,rfl,?_⟩;nofun;refine⟨Bs,_,_,?_,rfl⟩;rw[map_take ee,xr,Bool.not_not]
 rintro _ _ ⟨z1,z2,rfl,rfl⟩;rw[a_,z_];nofun;rw[Ou];exact q
end
def pR:FP:=λts k=>∃(o:Bool) (es:List Ed),ts=[.lst o (es.map edT)]/\es.length<sizeLine/\rj es=true/\k (.bl (uF (es.map gC))) ts
section
variable{P:SD}{w:SI}{K:Sm}{mg:Str->Option Sl}{base:SJ}
theorem o9:FnScope ["edges","ways"] ["edges"] (ay l6):=⟨rfl,rfl,rfl,by rfl',rfl,by rfl',by rfl'⟩
theorem vO(F:Fun K "goes_back" "goes_back" l6 f fd)(TX:Txt mg)  (EQ:Cal P w K mg base 2 "straight" ["one","other"] (aG K 2 mV)):FnOk P w K mg base CX0 3 f fd ["edges"] (aG K 1 pR):=by
 refine cC F o9 [true] rfl (λcdv A outer s H E hr=>?_);have sc:=@o9;have nd1:(["one","other"]:List Str).Nodup:=by rfl'
 have nd2:(["at","way","ways"]:List Str).Nodup:=by rfl'
 refine⟨_,(ah (aF (i:=1) sc.nd (by rfl) (d_ rfl) (by rfl) (aI (cc sc ["one","other"] [none,none] nd1 (by rfl') (cY (ae 0)) (λ_ _ _=>(eZ (n:=2) (by rfl) (aC (ax (i:=0) nd1 (by rfl) (b_ rfl) (by rfl) (hf:=(d_ rfl))) (aC (ax (i:=1) nd1 (by rfl) (b_ rfl) (by rfl) (hf:=(d_ rfl))) cT)))) (λ_ _ _=>bV) (λ_ _ _=>(aD hr (au EQ hr (by rfl) (ag (ae 0) (ag (ae 1) aq))) ge_int))))) (ak (aH (aI (av (oH rfl) (by rfl) TX.any (by rfl') (ab (cc sc ["at","way","ways"] [none,none,some 1] nd2 (by rfl') (qh (by rfl) TX.enumerate (ab (ae 1) af)) (λ_ _ _=>(eZ (n:=2) (by rfl) (aC (ax (i:=0) nd2 (by rfl) (b_ rfl) (by rfl) (hf:=(d_ rfl))) (aC (ax (i:=1) nd2 (by rfl) (b_ rfl) (by rfl) (hf:=(d_ rfl))) cT)))) (λ_ _ _=>bV) (λ_ _ _=>(jh (dG hr) (ai qa (ai aK (ae 1) (aD hr (ae 2) (ai aK (ae 0) ge_int))) ge_int) ge_int (aV _)))) af)))))),λts kk hl hp=>?_⟩;clear hl;obtain⟨o,es,rfl,hz,hs,q⟩:=hp;nofun;refine aP (by rw[a_];exact hz) (λi acc ie=>∃z1 z2,acc=(es.take i).map (λe=>T.int (gC e:Nat))/\ie=[z1,z2]) ⟨_,_,rfl,rfl⟩ ?_ ?_
 ·rintro i u _ _ ⟨z1,z2,rfl,rfl⟩ eu;obtain⟨e,ee,rfl⟩:=cU eu;nofun;refine⟨e.1,e.2,rfl,?_⟩;have h1:(lead e.1 e.2).isSome=true:=NU.mp hs e (D_ ee);obtain⟨d,hd⟩:=Ot.mp h1;have hw:gC e=d:=by unfold gC;rw[hd];rfl
  have hl:pH e.1 e.2=.tup [.int (d:Int),.int (far e.1 e.2)]:=by unfold pH;rw[hd]
  rw[hl];nofun;exact⟨_,_,by rw[map_take ee,hw],rfl⟩
 rintro _ _ ⟨z1,z2,rfl,rfl⟩;rw[a_,z_];nofun;refine aP (by rw[jC rfl];exact hz) (λi acc ie=>∃z1 z2,acc=(B' i).map (λj=>T.bl (rX (es.map gC) j))/\ie=[z1,z2,.lst false (es.map λe=>T.int (gC e:Nat))]) ⟨_,_,rfl,rfl⟩ ?_ ?_
 ·rintro i u _ _ ⟨z1,z2,rfl,rfl⟩ eu;obtain⟨e,ee,rfl⟩:=qy rfl eu;have hi:i<es.length:=(gV.mp ee).1;nofun;have ea:=xP (g:=λ(n:Nat)=>T.int (n:Int)) (l:=es.map gC) (i:=i) (by rw[a_];exact hi) 0;rw[H_]at ea;refine b8 ea ?_;nofun;refine⟨by decide,_,_,?_,rfl⟩;rw[OZ,m_];have eb:rX (es.map gC) i=decide (((gC e:Int)-((es.map gC).getD (ig es.length i) 0:Int))%8=4):=by unfold rX;rw[show(es.map gC).getD i 0=gC e by rw[i_,u_,ee];rfl,a_]
  rw[<-eb]
  rfl
 rintro _ _ ⟨z1,z2,rfl,rfl⟩;rw[jC rfl];nofun;rw[PX];unfold uF at q;rw[a_]at q;exact q
end
def mG:FP:=λts k=>∃(es:List Ed),ts=[.lst false (es.map edT)]/\0<es.length/\es.length<1000/\(∀e∈es,smE e)/\k (.bl (pQ es)) ts
section
variable{P:SD}{w:SI}{K:Sm}{mg:Str->Option Sl}{base:SJ}
theorem l9:FnScope ["edges","last","at","edge","beyond"] ["edges"] (ay ji):=⟨rfl,rfl,rfl,by rfl',rfl,by rfl',by rfl'⟩
theorem sM(F:Fun K "is_touching" "is_touching" ji f fd)(TX:Txt mg)  (ul:Cal P w K mg base 3 "has_common" ["edge","other"] (aG K 2 nE)):FnOk P w K mg base CX0 4 f fd ["edges"] (aG K 1 mG):=by
 refine cC F l9 [true] rfl (λcdv A outer s H E hr=>?_);have sc:=@l9;have nd1:(["other","edge"]:List Str).Nodup:=by rfl'
 refine⟨_,(ah (aF (i:=1) sc.nd (by rfl) (b_ rfl) (by rfl) (aI (ai aK (av eV (by rfl) TX.len (by rfl') (ab (ae 0) af)) ge_int))) (ah (jX T3 (by rfl) (qh (by rfl) TX.enumerate (ab (gR 0) af)) (eZ (n:=2) (by rfl) (aC (ax (i:=2) sc.nd (by rfl) (b_ rfl) (by rfl)) (aC (ax (i:=3) sc.nd (by rfl) (d_ rfl) (by rfl)) cT))) (iP (aF (i:=4) sc.nd (by rfl) (b_ rfl) (by rfl) (aI (ge_if (cX (dG hr) (ae 2) ge_int (aV _)) (iE (ae 0) (iO (ai aB (ae 2) ge_int)) (iO (ae 1))) (iE (ae 0) (iO (ai aB (ae 2) ge_int)) jS)))) (ak (f9 (gY (fy (av (oH rfl) (by rfl) TX.any (by rfl') (ab (cc sc ["other","edge"] [none,some 3] nd1 (by rfl') (cY (ae 4)) (λ_ _ _=>(ax (i:=0) nd1 (by rfl) (b_ rfl) (by rfl) (hf:=(d_ rfl)))) (λ_ _ _=>bV) (λ_ _ _=>(au ul hr (by rfl) (ag (ae 1) (ag (ae 0) aq))))) af)))) (ak (aH iV)) b9)))) (ak (aH iV)))),λts kk hl hp=>?_⟩;clear hl;obtain⟨es,rfl,h0,hz,hs,q⟩:=hp;nofun;refine iM (λi env=>(∀j,j<i->nU es j=false)/\∃z1 z2 z3,env=[.lst false (es.map edT),.int ((es.length:Int)-1),z1,z2,z3]) ⟨λj hj=>by lia,_,_,_,rfl⟩ ?_ ?_
 ·rintro i u _ ⟨hb,z1,z2,z3,rfl⟩ eu;obtain⟨e,ee,rfl⟩:=qy rfl eu;have hi:i<es.length:=(gV.mp ee).1;have e1:(es.length:Int)-1=((es.length-1:Nat):Int):=by lia
  have e2:(i:Int)+2=((i+2:Nat):Int):=by lia
  have se:smE e:=hs e (D_ ee);have bm:∀b∈beyond es i,b∈es:=λb m=>by
   unfold beyond at m;split at m
   ·exact Nk (Nt m)
   exact Nt m
  have bl:(beyond es i).length<=es.length:=by
   unfold beyond;split
   ·rw[o_,p_];lia
   rw[o_];omega
  nofun;refine kg (λenv=>∃o,env=[.lst false (es.map edT),.int ((es.length:Int)-1),.int (i:Int),edT e,.lst o ((beyond es i).map edT)]) ?_ ?_
  ·nofun;refine cg (λh=>?_) (λh=>?_)
   ·have hi0:i=0:=by lia
    nofun;rw[e1,e2,Md (by rw[a_];lia),<-Of,<-N6,aM];refine⟨cV _,true,?_⟩;unfold beyond;rw[if_pos hi0,hi0]
   nofun;rw[e2,Kl,<-N6,aM];refine⟨cV _,true,?_⟩;unfold beyond;rw[if_neg (λz=>h (by rw[z];rfl))]
  rintro _ ⟨o,rfl⟩;nofun;refine aP (by rw[a_,SX];lia) (λj acc ie=>∃z1,acc=((beyond es i).take j).map (λb=>T.bl (com e b))/\ie=[z1,edT e]) ⟨_,rfl,rfl⟩ ?_ ?_
  ·rintro j u _ _ ⟨z1,rfl,rfl⟩ eu;obtain⟨b,eb,rfl⟩:=cU eu;nofun;refine⟨e,b,rfl,se,hs b (bm b (D_ eb)),?_⟩;nofun;exact⟨_,by rw[map_take eb],rfl⟩
  rintro _ _ ⟨z1,rfl,rfl⟩;rw[a_,z_];nofun;have et:nU es i=(beyond es i).any (com e):=by unfold nU;rw[ee]
  rw[PX];show kY ((beyond es i).any (com e)) (A:=_) (B:=_);rw[<-et];refine iX (λh=>?_) (λh=>?_)
  ·nofun;have:pQ es=true:=ND.mpr ⟨i,K_.mpr hi,h⟩;rw[this]at q;exact q
  nofun;refine⟨λj hj=>?_,_,_,_,rfl⟩;rcases O1.mp hj with hj|rfl
  ·exact hb j hj
  exact h
 rintro _ ⟨hb,z1,z2,z3,rfl⟩;rw[jC rfl]at hb;nofun;have:pQ es=false:=by
  unfold pQ;rw[List.any_eq_false];intro j hj;rw[hb j (K_.mp hj)]
  decide
 rw[this]at q;exact q
end
def nG:FP:=λts k=>∃t c fs,ts=[t]/\er t=hdT c fs/\isAny t=false/\fs.length<1000/\(∀f∈fs,sm f.2)/\k (.bl (yi (fs.map (·.2)))) ts
section
variable{P:SD}{w:SI}{K:Sm}{mg:Str->Option Sl}{base:SJ}
theorem m8:FnScope ["thing","edges"] ["thing"] (ay jO):=⟨rfl,rfl,rfl,by rfl',rfl,by rfl',by rfl'⟩
theorem tD(F:Fun K "is_outline" "is_outline" jO f fd)(TX:Txt mg)  (wv:Cal P w K mg base 1 "is_row" ["thing"] (aG K 1 su))(pc:Cal P w K mg base 2 "are_numbers" ["thing","many"] (aG K 2 mE))(sB:Cal P w K mg base 2 "edges_of" ["outline"] (aG K 1 jG))(u8:Cal P w K mg base 3 "goes_straight" ["edges"] (aG K 1 kC))(sK:Cal P w K mg base 3 "goes_back" ["edges"] (aG K 1 pR))(ww:Cal P w K mg base 4 "is_touching" ["edges"] (aG K 1 mG)):FnOk P w K mg base CX0 5 f fd ["thing"] (aG K 1 nG):=by
 refine cC F m8 [true] rfl (λcdv A outer s H E hr=>?_);have sc:=@m8;have nd1:(["part"]:List Str).Nodup:=by rfl'
 refine⟨_,(ah (f9 (gY (AW (ui (iI (fy (au wv hr (by rfl) (ag (ae 0) aq)))) (ui (cX ph (av eV (by rfl) TX.len (by rfl') (ab (ae 0) af)) ge_int (aV _)) (qD (iI (fy (av (lL rfl) (by rfl) TX.all (by rfl') (ab (cc sc ["part"] [none] nd1 (by rfl') (cY (ae 0)) (λ_ _ _=>(ax (i:=0) nd1 (by rfl) (b_ rfl) (by rfl) (hf:=(d_ rfl)))) (λ_ _ _=>bV) (λ_ _ _=>(au pc hr (by rfl) (ag (ae 0) (ag ge_int aq))))) af))))))))) (ak (aH iV)) b9) (ah (aF (i:=1) sc.nd (by rfl) (b_ rfl) (by rfl) (aI (au sB hr (by rfl) (ag (ae 0) aq)))) (ak (aH (aI (gZ (au u8 hr (by rfl) (ag (ae 1) aq)) (gZ (oN (au sK hr (by rfl) (ag (ae 1) aq))) (kR (oN (au ww hr (by rfl) (ag (ae 1) aq))))))))))),λts kk hl hp=>?_⟩;clear hl;obtain⟨t,c,fs,rfl,et,ia,hz,hs,q⟩:=hp;have ia2:isAny (er t)=false:=by rw[et];exact pf
 nofun;refine⟨ia2,er t,_,rfl,by rw[cj,<-cj,et];exact KW,?_⟩;nofun;refine lH HE ?_;nofun;refine⟨ia2,A8 (by rw[et];exact qG) ?_⟩;nofun;refine cg (λh2=>?_) (λh2=>?_)
 ·nofun;have e:yi (fs.map (·.2))=false:=by
   unfold yi;rw[a_,decide_eq_false (by lia)]
   rfl
  rw[<-e];exact q
 have h3:3<=(fs.map (·.2)).length:=by rw[a_];lia
 nofun;refine⟨ia2,b8 (by rw[et];exact qG) ?_⟩;nofun;refine aP (by rw[a_,SX];lia) (λi acc ie=>∃z,acc=(fs.take i).map (λ_=>T.bl true)/\ie=[z]) ⟨_,rfl,rfl⟩ ?_ ?_
 ·rintro i u _ _ ⟨z,rfl,rfl⟩ eu;obtain⟨f,ef,rfl⟩:=cU eu;nofun;refine⟨fpT f,2,rfl,Ls,λvs ev=>by rw[qF]at ev;cases ev;show 2<sizeLine;rw[SX];decide,?_⟩;nofun;rw[G2];exact⟨_,by rw[map_take ef],rfl⟩
 rintro _ _ ⟨z,rfl,rfl⟩;rw[a_,z_];nofun;refine lH (NU.mpr λx m=>by obtain⟨_,_,rfl⟩:=s_.mp m;rfl) ?_;nofun;refine⟨by rw[et];exact pf,er t,c,fs,rfl,by rw[gF];exact et,by rw[et];exact pf,hz,?_⟩;rw[<-C4 h3]at q;have hs:∀p∈fs.map (·.2),sm p:=λp m=>by obtain⟨f,mf,rfl⟩:=s_.mp m;exact hs f mf
 have lps:(fs.map (·.2)).length<1000:=by rw[a_];exact hz
 clear hz;generalize fs.map (·.2)=ps at *;have le:=gI ps;nofun;refine⟨false,aj ps,rfl,by rw[le,SX];lia,?_⟩;unfold J7 at q;nofun;refine iX (λg1=>?_) (λg1=>?_)
 ·rw[g1,Np]at q;nofun;refine⟨false,aj ps,rfl,by rw[le,SX];lia,g1,?_⟩;nofun;refine iX (λg2=>?_) (λg2=>?_)
  ·rw[g2,Pp,N9]at q;nofun;exact q
  rw[g2,Qb,Np]at q;nofun;refine⟨aj ps,rfl,by lia,by lia,λe m=>⟨hs _ (fg m).1,hs _ (fg m).2⟩,?_⟩;nofun;exact q
 rw[g1,N9]at q;nofun;exact q
end
def GQ:FP:=λts k=>∃x y w h,∃(o:Bool),∃a b c d,ts=[.int x,.int y,.int w,.int h,.lst o [.int a,.int b,.int c,.int d]]/\k (.lst true ((lW x y w h a b c d).map ptP)) [.int x,.int y,.int w,.int h,.lst false [.int a,.int b,.int c,.int d]]
section
variable{P:SD}{w:SI}{K:Sm}{mg:Str->Option Sl}{base:SJ}
theorem Ce:FnScope ["_law_x","_law_y","_law_wide","_law_high","_law_cuts","_law_a","_law_b","_law_c","_law_d","_law_corners"] ["_law_x","_law_y","_law_wide","_law_high","_law_cuts"] (ay DC):=⟨rfl,rfl,rfl,by rfl',rfl,by rfl',by rfl'⟩
theorem JU(F:Fun K "_law_box" "_law_box" DC f fd)(TX:Txt mg)  :FnOk P w K mg base CX0 1 f fd ["_law_x","_law_y","_law_wide","_law_high","_law_cuts"] (aG K 5 GQ):=by
 refine cC F Ce [true,true,true,true,true] rfl (λcdv A outer s H E hr=>?_);have sc:=@Ce;have nd1:(["_law_k","_law_corner","_law_corners"]:List Str).Nodup:=by rfl'
 refine⟨_,(ah (uG (gR 4) (A4 (n:=4) (by rfl) (aC (ax (i:=5) sc.nd (by rfl) (b_ rfl) (by rfl)) (aC (ax (i:=6) sc.nd (by rfl) (b_ rfl) (by rfl)) (aC (ax (i:=7) sc.nd (by rfl) (b_ rfl) (by rfl)) (aC (ax (i:=8) sc.nd (by rfl) (b_ rfl) (by rfl)) cT)))))) (ah (aF (i:=9) sc.nd (by rfl) (d_ rfl) (by rfl) (aI (cW (ab (aA (ab (ai aB (ae 0) (ae 5)) (ab (ae 1) af))) (ab (aA (ab (ai aK (ai aB (ae 0) (ae 2)) (ae 6)) (ab (ae 1) af))) (ab (aA (ab (ai aB (ae 0) (ae 2)) (ab (ai aB (ae 1) (ae 6)) af))) (ab (aA (ab (ai aB (ae 0) (ae 2)) (ab (ai aK (ai aB (ae 1) (ae 3)) (ae 7)) af))) (ab (aA (ab (ai aK (ai aB (ae 0) (ae 2)) (ae 7)) (ab (ai aB (ae 1) (ae 3)) af))) af)))))))) (ah (aF (i:=9) sc.nd (by rfl) (d_ rfl) (by rfl) (aI (ai aB (ae 9) (cW (ab (aA (ab (ai aB (ae 0) (ae 8)) (ab (ai aB (ae 1) (ae 3)) af))) (ab (aA (ab (ae 0) (ab (ai aK (ai aB (ae 1) (ae 3)) (ae 8)) af))) (ab (aA (ab (ae 0) (ab (ai aB (ae 1) (ae 5)) af))) af))))))) (ak (aH (aI (cc sc ["_law_k","_law_corner","_law_corners"] [none,none,some 9] nd1 (by rfl') (qh (by rfl) TX.enumerate (ab (ae 9) af)) (λ_ _ _=>(A4 (n:=2) (by rfl) (aC (ax (i:=0) nd1 (by rfl) (b_ rfl) (by rfl) (hf:=(d_ rfl))) (aC (ax (i:=1) nd1 (by rfl) (b_ rfl) (by rfl) (hf:=(d_ rfl))) cT)))) (λ_ _ _=>(uT (cX (qr hr) (ae 1) (aD hr (ae 2) (ai aK (ae 0) ge_int)) (aV _)))) (λ_ _ _=>(ae 1))))))))),λts kk hl hp=>?_⟩;clear hl;obtain⟨x,y,w,h,o,a,b,c,d,rfl,q⟩:=hp;nofun;have el:[T.tup [T.int (x+a),T.int y],T.tup [T.int (x+w-b),T.int y],T.tup [T.int (x+w),T.int (y+b)],T.tup [T.int (x+w),T.int (y+h-c)],T.tup [T.int (x+w-c),T.int (y+h)],T.tup [T.int (x+d),T.int (y+h)],T.tup [T.int x,T.int (y+h-d)],T.tup [T.int x,T.int (y+a)]]=(pX x y w h a b c d).map ptP:=rfl;rw[el];have hl:8=(pX x y w h a b c d).length:=rfl;have hp:(pX x y w h a b c d).getD ((pX x y w h a b c d).length-1) (0,0)=(x,y+a):=rfl;unfold lW at q;generalize pX x y w h a b c d=ps at *;generalize (x,y+a)=p at *;refine aP (by rw[jC hl,<-hl];decide) (λi acc ie=>∃z1 z2,acc=(ddl p (ps.take i)).map ptP/\ie=[z1,z2,.lst false (ps.map ptP)]) ⟨_,_,rfl,rfl⟩ ?_ ?_
 ·rintro i u _ _ ⟨z1,z2,rfl,rfl⟩ eu;obtain⟨c,ec,rfl⟩:=qy hl eu;have hi:i<ps.length:=(gV.mp ec).1;nofun;refine b8 (xP (g:=ptP) (l:=ps) hi (0,0)) ?_;nofun;rw[D5 hp ec];refine cg (λh=>?_) (λh=>?_)
  ·nofun;rw[if_neg h];exact⟨_,_,by rw[m_];rfl,rfl⟩
  nofun;rw[if_pos (Yx h),Nb];exact⟨_,_,rfl,rfl⟩
 rintro _ _ ⟨z1,z2,rfl,rfl⟩;rw[jC hl,z_];nofun;exact q
end
def xR:FP:=λts k=>∃x y w h m,ts=[.int x,.int y,.int w,.int h,.int m]/\bd 30 x/\bd 30 y/\5<=w/\w<=14/\5<=h/\h<=14/\∀(ps:List Pt),0<ps.length->ps.length<=12->bdL 50 ps->Gdo ps->k (.lst true (ps.map ptP)) ts
section
variable{P:SD}{w:SI}{K:Sm}{mg:Str->Option Sl}{base:SJ}
theorem uA:FnScope ["_law_x","_law_y","_law_wide","_law_high","_law_way","_law_u","_law_v","_law_rows","_law_p","_law_q"] ["_law_x","_law_y","_law_wide","_law_high","_law_way"] (ay qU):=⟨rfl,rfl,rfl,by rfl',rfl,by rfl',by rfl'⟩
theorem AA(F:Fun K "_law_angled" "_law_angled" qU f fd)(TX:Txt mg)  :FnOk P w K mg base CX0 1 f fd ["_law_x","_law_y","_law_wide","_law_high","_law_way"] (aG K 5 xR):=by
 refine cC F uA [true,true,true,true,true] rfl (λcdv A outer s H E hr=>?_);have sc:=@uA;have nd1:(["_law_one","_law_other","_law_y","_law_x"]:List Str).Nodup:=by rfl'
 refine⟨_,(ah (mZ (i:=5) (j:=6) (by rfl) sc.nd (by rfl) (by rfl) (by decide) (by rfl) (by rfl) (by rfl) (by rfl) (ab (aI (ai aB ge_int (ai jf (ae 2) ge_int))) (ab (aI (ai aB ge_int (ai jf (ae 3) ge_int))) af)) (by rfl)) (iP (f9 (gY (cX (dG hr) (ae 4) ge_int (aV _))) (ak (aF (i:=7) sc.nd (by rfl) (b_ rfl) (by rfl) (aI (cW (ab (aA (ab ge_int (ab ge_int af))) (ab (aA (ab (ae 2) (ab ge_int af))) (ab (aA (ab (ae 2) (ab (ae 6) af))) (ab (aA (ab (ae 5) (ab (ae 6) af))) (ab (aA (ab (ae 5) (ab (ae 3) af))) (ab (aA (ab ge_int (ab (ae 3) af))) af)))))))))) (ak (f9 (gY (cX (dG hr) (ae 4) ge_int (aV _))) (ak (aF (i:=7) sc.nd (by rfl) (b_ rfl) (by rfl) (aI (cW (ab (aA (ab ge_int (ab ge_int af))) (ab (aA (ab (ae 2) (ab ge_int af))) (ab (aA (ab (ae 2) (ab (ae 3) af))) (ab (aA (ab (ai aK (ae 2) (ae 5)) (ab (ae 3) af))) (ab (aA (ab (ai aK (ae 2) (ae 5)) (ab (ae 6) af))) (ab (aA (ab (ae 5) (ab (ae 6) af))) (ab (aA (ab (ae 5) (ab (ae 3) af))) (ab (aA (ab ge_int (ab (ae 3) af))) af)))))))))))) (ah (mZ (i:=8) (j:=9) (by rfl) sc.nd (by rfl) (by rfl) (by decide) (by rfl) (by rfl) (by rfl) (by rfl) (ab (aI (ai jf (ae 3) ge_int)) (ab (aI (ai aK (ae 3) (ai jf (ae 3) ge_int))) af)) (by rfl)) (ah (aF (i:=7) sc.nd (by rfl) (b_ rfl) (by rfl) (aI (cW (ab (aA (ab ge_int (ab ge_int af))) (ab (aA (ab (ae 5) (ab ge_int af))) (ab (aA (ab (ae 5) (ab (ae 8) af))) (ab (aA (ab (ai aK (ae 2) (ae 5)) (ab (ae 8) af))) (ab (aA (ab (ai aK (ae 2) (ae 5)) (ab ge_int af))) (ab (aA (ab (ae 2) (ab ge_int af))) (ab (aA (ab (ae 2) (ab (ae 3) af))) (ab (aA (ab (ai aK (ae 2) (ae 5)) (ab (ae 3) af))) af))))))))))) (ak (aF (i:=7) sc.nd (by rfl) (b_ rfl) (by rfl) (aI (ai aB (ae 7) (cW (ab (aA (ab (ai aK (ae 2) (ae 5)) (ab (ae 9) af))) (ab (aA (ab (ae 5) (ab (ae 9) af))) (ab (aA (ab (ae 5) (ab (ae 3) af))) (ab (aA (ab ge_int (ab (ae 3) af))) af)))))))))))))) (ak (aH (aI (cc sc ["_law_one","_law_other","_law_y","_law_x"] [none,none,some 1,some 0] nd1 (by rfl') (cY (ae 7)) (λ_ _ _=>(eZ (n:=2) (by rfl) (aC (ax (i:=0) nd1 (by rfl) (b_ rfl) (by rfl) (hf:=(d_ rfl))) (aC (ax (i:=1) nd1 (by rfl) (b_ rfl) (by rfl) (hf:=(d_ rfl))) cT)))) (λ_ _ _=>bV) (λ_ _ _=>(aA (ab (ai aB (ae 3) (ae 0)) (ab (ai aB (ae 2) (ae 1)) af)))))))))),λts kk hl hp=>?_⟩;clear hl;obtain⟨x,y,w,h,m,rfl,⟨x0,x1⟩,⟨y0,y1⟩,w0,w1,h0,h1,q⟩:=hp;nofun;refine⟨⟨by decide,by decide⟩,⟨by decide,by decide⟩,?_⟩;have b0:bd 20 0:=⟨by decide,by decide⟩;have bw:bd 20 w:=⟨by lia,by lia⟩;have bh:bd 20 h:=⟨by lia,by lia⟩;have bu:bd 20 (1+w/4):=⟨by lia,by lia⟩;have bv:bd 20 (1+h/3):=⟨by lia,by lia⟩;have bwu:bd 20 (w-(1+w/4)):=⟨by lia,by lia⟩;have bp:bd 20 (h/3):=⟨by lia,by lia⟩;have bq:bd 20 (h-h/3):=⟨by lia,by lia⟩;refine kg (λenv=>∃(rs:List Pt) (z8 z9:T),0<rs.length/\rs.length<=12/\bdL 20 rs/\Gdo (rs.map λp=>(x+p.1,y+p.2))/\env=[.int x,.int y,.int w,.int h,.int m,.int (1+w/4),.int (1+h/3),.lst true (rs.map ptP),z8,z9]) ?_ ?_
 ·nofun;refine cg (λg=>?_) (λg=>?_)
  ·nofun;exact⟨[(0,0),(w,0),(w,1+h/3),(1+w/4,1+h/3),(1+w/4,h),(0,h)],_,_,N3 _,B_ rfl,⟨⟨b0,b0⟩,⟨bw,b0⟩,⟨bw,bv⟩,⟨bu,bv⟩,⟨bu,bh⟩,⟨b0,bh⟩,trivial⟩,oX (Lg (by lia) (by lia) (by lia) (by lia) w1 h1) (Ku (by lia) (by lia) (by lia) (by lia)),rfl⟩
  nofun;refine cg (λg=>?_) (λg=>?_)
  ·nofun;exact⟨[(0,0),(w,0),(w,h),(w-(1+w/4),h),(w-(1+w/4),1+h/3),(1+w/4,1+h/3),(1+w/4,h),(0,h)],_,_,N3 _,B_ rfl,⟨⟨b0,b0⟩,⟨bw,b0⟩,⟨bw,bh⟩,⟨bwu,bh⟩,⟨bwu,bv⟩,⟨bu,bv⟩,⟨bu,bh⟩,⟨b0,bh⟩,trivial⟩,oX (M6 (by lia) (by lia) (by lia) (by lia) (by lia) w1 h1) (LG (by lia) (by lia) (by lia) (by lia)),rfl⟩
  nofun;refine⟨⟨by decide,by decide⟩,⟨by decide,by decide⟩,?_⟩;exact⟨[(0,0),(1+w/4,0),(1+w/4,h/3),(w-(1+w/4),h/3),(w-(1+w/4),0),(w,0),(w,h),(w-(1+w/4),h),(w-(1+w/4),h-h/3),(1+w/4,h-h/3),(1+w/4,h),(0,h)],_,_,N3 _,B_ rfl,⟨⟨b0,b0⟩,⟨bu,b0⟩,⟨bu,bp⟩,⟨bwu,bp⟩,⟨bwu,b0⟩,⟨bw,b0⟩,⟨bw,bh⟩,⟨bwu,bh⟩,⟨bwu,bq⟩,⟨bu,bq⟩,⟨bu,bh⟩,⟨b0,bh⟩,trivial⟩,oX (KL (by lia) (by lia) (by lia) (by lia) (by lia) (by lia) w1 h1) (Mg (by lia) (by lia) (by lia) (by lia) (by lia)),rfl⟩
 rintro _ ⟨rs,z8,z9,l0,l1,hb,hg,rfl⟩;nofun;refine aP (by rw[a_,SX];lia) (λi acc ie=>∃z1 z2,acc=(rs.take i).map (λp=>ptP (x+p.1,y+p.2))/\ie=[z1,z2,.int y,.int x]) ⟨_,_,rfl,rfl⟩ ?_ ?_
 ·rintro i u _ _ ⟨z1,z2,rfl,rfl⟩ eu;obtain⟨p,ep,rfl⟩:=cU eu;nofun;exact⟨_,_,by rw[map_take ep];rfl,rfl⟩
 rintro _ _ ⟨z1,z2,rfl,rfl⟩;rw[a_,z_];nofun;have e:rs.map (λp=>ptP (x+p.1,y+p.2))=(rs.map λp=>((x+p.1,y+p.2):Pt)).map ptP:=by rw[H_];rfl
 rw[e];refine q _ (by rw[a_];exact l0) (by rw[a_];exact l1) (kS λp m=>?_) hg;obtain⟨r,mr,rfl⟩:=s_.mp m;obtain⟨⟨r1,r2⟩,r3,r4⟩:=bT hb mr;exact⟨⟨by dsimp only;lia,by dsimp only;lia⟩,by dsimp only;lia,by dsimp only;lia⟩
end
def uh:FP:=λts k=>∃c n x y w h,ts=[stT c n,.int x,.int y,.int w,.int h]/\n<2 ^ 39/\bd 30 x/\bd 30 y/\5<=w/\w<=14/\5<=h/\h<=14/\∀(c':Cells) (n':Nat) (ps:List Pt),n<=n'->n'<=n+20->0<ps.length->ps.length<=12->bdL 50 ps->Gdo ps->k (.lst true (ps.map ptP)) [stT c' n',.int x,.int y,.int w,.int h]
section
variable{P:SD}{w:SI}{K:Sm}{mg:Str->Option Sl}{base:SJ}
theorem qJ:FnScope ["_law_state","_law_x","_law_y","_law_wide","_law_high","_law_way","_law_most","_law_cuts","_law_corners","_law_least","_law_first"] ["_law_state","_law_x","_law_y","_law_wide","_law_high"] (ay oJ):=⟨rfl,rfl,rfl,by rfl',rfl,by rfl',by rfl'⟩
theorem yt(F:Fun K "_law_outline" "_law_outline" oJ f fd)(TX:Txt mg)  (rc:Cal P w K mg base 1 "_law_box" ["_law_x","_law_y","_law_wide","_law_high","_law_cuts"] (aG K 5 GQ))(nw:Cal P w K mg base 1 "_law_angled" ["_law_x","_law_y","_law_wide","_law_high","_law_way"] (aG K 5 xR))(Fa:Cal P w K mg base 1 "_law_take" ["_law_state","_law_many"] (aG K 2 kj)):FnOk P w K mg base CX0 2 f fd ["_law_state","_law_x","_law_y","_law_wide","_law_high"] (aG K 5 uh):=by
 refine cC F qJ [true,true,true,true,true] rfl (λcdv A outer s H E hr=>?_);have sc:=@qJ;have nd1:(["_law_turn","_law_most","_law_state"]:List Str).Nodup:=by rfl'
 refine⟨_,(ah (aF (i:=5) sc.nd (by rfl) (b_ rfl) (by rfl) (au Fa hr (by rfl) (bS 0 (ag ge_int aq)))) (ah (aF (i:=6) sc.nd (by rfl) (d_ rfl) (by rfl) (aI (ai jf (av (gX rfl) (by rfl) TX.min (by rfl') (ab (ae 3) (ab (ae 4) af))) ge_int))) (ah (F5 sc (i:=7) ["_law_turn","_law_most","_law_state"] [none,some 6,some 0] nd1 (by rfl') (by rfl) (b_ rfl) (by rfl) (jF (by rfl) TX.range (ab ge_int af)) (λ_ _ _=>(ax (i:=0) nd1 (by rfl) (b_ rfl) (by rfl) (hf:=(d_ rfl)))) (λ_ _ _=>bV) (λ_ _ _=>(au Fa hr (by rfl) (bS 2 (ag (aD hr (aI (cW (ab ge_int (ab ge_int (ab (ai aB (ae 1) ge_int) af))))) (au Fa hr (by rfl) (bS 2 (ag ge_int aq)))) aq)))) (by rfl)) (ah (aF (i:=8) sc.nd (by rfl) (b_ rfl) (by rfl) (aI (au rc hr (by rfl) (ag (ae 1) (ag (ae 2) (ag (ae 3) (ag (ae 4) (ag (ae 7) aq)))))))) (iP (f9 (gY (cX ph (ae 5) ge_int (aV _))) (ak (aF (i:=8) sc.nd (by rfl) (b_ rfl) (by rfl) (aI (au nw hr (by rfl) (ag (ae 1) (ag (ae 2) (ag (ae 3) (ag (ae 4) (ag (ae 5) aq))))))))) b9) (iP (f9 (gY (cX (dG hr) (ae 5) ge_int (aV _))) (ah (aF (i:=9) sc.nd (by rfl) (b_ rfl) (by rfl) (aI (av (gX rfl) (by rfl) TX.min (by rfl') (ab (ae 3) (ab (ae 4) af))))) (ak (aF (i:=8) sc.nd (by rfl) (b_ rfl) (by rfl) (aI (cW (ab (aA (ab (ae 1) (ab (ae 2) af))) (ab (aA (ab (ai aB (ae 1) (ae 9)) (ab (ae 2) af))) (ab (aA (ab (ae 1) (ab (ai aB (ae 2) (ae 9)) af))) af)))))))) b9) (ah (aF (i:=10) sc.nd (by rfl) (b_ rfl) (by rfl) (au Fa hr (by rfl) (bS 0 (ag (aI (av eV (by rfl) TX.len (by rfl') (ab (ae 8) af))) aq)))) (ah (aF (i:=8) sc.nd (by rfl) (b_ rfl) (by rfl) (aI (ai aB (iE (ae 8) (iO (ae 10)) jS) (iE (ae 8) jS (iO (ae 10)))))) (iP (f9 (cX (dG hr) (au Fa hr (by rfl) (bS 0 (ag ge_int aq))) ge_int (aV _)) (ak (jL (Dg 8 PySem.F.slot_list_reverse PySem.F.type_list_reverse wV))) b9) (ak (aH (qL 8)))))))))))),λts kk hl hp=>?_⟩;clear hl;obtain⟨c,n,x,y,w,h,rfl,hn,⟨x0,x1⟩,⟨y0,y1⟩,w0,w1,h0,h1,q⟩:=hp;nofun;walk_at "take";intro way c1 a1 b1;nofun;refine⟨⟨by decide,by decide⟩,by decide,aP (by rw[gP,SX];decide) (λi acc ie=>∃c' n' cs z,n+1<=n'/\n'<=n+1+2*i/\acc=NO T.int cs/\cs.length=i/\(∀v∈cs,0<=v/\v<=min w h/2)/\ie=[z,.int (min w h/2),stT c' n']) ⟨c1,n+1,[],_,e_ _,by lia,rfl,rfl,(λ_ m=>by cases m),rfl⟩ ?_ ?_⟩
 ·rintro i t _ _ ⟨c',n',cs,z,l1,l2,rfl,hl,hv,rfl⟩ ei;have hi:i<4:=kU ei;nofun;walk_at "take";intro r c2 a2 b2;nofun;obtain⟨v,ev,v0,v1⟩:=B0 (λv=>1<=v/\v<=min w h/2+1) (ns:=[1,2,min w h/2+1]) (i:=r) (by omega) (by show r<3;omega) (by intro v hv;simp only[n_,Nx,or_false]at hv;lia)
  refine b8 ev ?_;nofun;walk_at "take";intro r2 c3 a3 b3;nofun;refine⟨c3,n'+1+1,cs++[r2],_,by lia,by lia,by rw[m_];rfl,by rw[c_,hl];rfl,λv m=>?_,rfl⟩;rcases C_.mp m with m|m
  ·exact hv v m
  rw[x_.mp m];lia
 rintro _ _ ⟨c2,n2,cs,z,l1,l2,rfl,hl,hv,rfl⟩;rw[gP]at l2 hl;obtain⟨a,b,c',d,rfl,ha,hb,hc,hd⟩:=four (P:=λv=>0<=v/\v<=min w h/2) hl hv;nofun;refine⟨x,y,w,h,false,a,b,c',d,rfl,?_⟩;have bx:bd 50 x:=A2 ⟨x0,x1⟩ (by decide);have pg:Gdo (lW x y w h a b c' d):=oX (FZ (M:=min w h/2) (by lia) (by lia) (by lia) (by lia) ha hb hc hd (rZ (by lia)) w1 h1) (EU (M:=min w h/2) (by lia) (by lia) (by lia) (by lia) ha hb hc hd (rZ (by lia)));have by_:bd 50 y:=A2 ⟨y0,y1⟩ (by decide);have pb:bdL 50 (lW x y w h a b c' d):=JM bx by_ ⟨by lia,by lia⟩ ⟨by lia,by lia⟩ (by lia) (by lia) ha hb hc hd;have pl:(lW x y w h a b c' d).length<=8:=Er;have p0:0<(lW x y w h a b c' d).length:=rZ (by lia);generalize lW x y w h a b c' d=ps at *;nofun;refine kg (λenv=>∃(ps:List Pt) (z9 z10:T),0<ps.length/\ps.length<=12/\bdL 50 ps/\Gdo ps/\env=[stT c2 n2,.int x,.int y,.int w,.int h,.int way,.int (min w h/2),.lst true [.int a,.int b,.int c',.int d],.lst true (ps.map ptP),z9,z10]) ?_ ?_
 ·nofun;refine cg (λg=>?_) (λg=>?_)
  ·nofun;refine⟨x,y,w,h,way,rfl,⟨x0,x1⟩,⟨y0,y1⟩,w0,w1,h0,h1,λps' g1 g2 g3 g4=>?_⟩;nofun;exact⟨ps',_,_,g1,g2,g3,g4,rfl⟩
  nofun;exact⟨ps,_,_,p0,by lia,pb,pg,rfl⟩
 clear pb pl p0 pg ps;rintro _ ⟨ps,z9,z10,p0,pl,pb,pg,rfl⟩;refine kg (λenv=>∃(ps:List Pt) (z9 z10:T),0<ps.length/\ps.length<=12/\bdL 50 ps/\Gdo ps/\env=[stT c2 n2,.int x,.int y,.int w,.int h,.int way,.int (min w h/2),.lst true [.int a,.int b,.int c',.int d],.lst true (ps.map ptP),z9,z10]) ?_ ?_
 ·nofun;refine cg (λg=>?_) (λg=>?_)
  ·nofun;exact⟨[(x,y),(x+min w h,y),(x,y+min w h)],_,_,N3 _,B_ rfl,Jl bx by_ ⟨by lia,by lia⟩ ⟨by lia,by lia⟩,oX (Ga (by lia) (by lia)) (Eu (by lia)),rfl⟩
  nofun;exact⟨ps,_,_,p0,pl,pb,pg,rfl⟩
 clear pb pl p0 pg ps;rintro _ ⟨ps,z9,z10,p0,pl,pb,pg,rfl⟩;nofun;walk_at "take";intro first c3 a3 b3
 nofun;obtain⟨e1,e2⟩:=Hh (ts:=ps.map ptP) (m:=first) a3 (by rw[a_];exact b3);rw[e1,e2,<-N6,<-Of,aM,aM,<-m_];have l1:(ps.drop first.toNat++ps.take first.toNat).length=ps.length:=by rw[c_,o_,p_];lia
 have g1:Gdo (ps.drop first.toNat++ps.take first.toNat):=FD pg (by lia);have m1:bdL 50 (ps.drop first.toNat++ps.take first.toNat):=nk pb λp m=>(C_.mp m).elim Nt Nk;refine⟨by rw[a_,a_,o_,p_];lia,by rw[show((ps.drop first.toNat).all λx=>eY (ptP x))=true from cV _,show((ps.take first.toNat).all λx=>eY (ptP x))=true from cV _];rfl,?_⟩;generalize ps.drop first.toNat++ps.take first.toNat=qs at *;refine kg (λenv=>∃(c4:Cells) (qs:List Pt),qs.length=ps.length/\bdL 50 qs/\Gdo qs/\env=[stT c4 (n2+1+1),.int x,.int y,.int w,.int h,.int way,.int (min w h/2),.lst true [.int a,.int b,.int c',.int d],.lst true (qs.map ptP),z9,.int first]) ?_ ?_
 ·nofun;walk_at "take";intro r c4 a4 b4;nofun;refine cg (λg=>?_) (λg=>?_)
  ·nofun;exact⟨c4,qs.reverse,by rw[A',l1],nk m1 λp m=>Pz.mp m,Et g1,by rw[RF]⟩
  nofun;exact⟨c4,qs,l1,m1,g1,rfl⟩
 rintro _ ⟨c4,qs,l2,m2,g2,rfl⟩;nofun;exact q c4 (n2+1+1) qs (by lia) (by lia) (by lia) (by lia) m2 g2
end
def jy:FP:=λts k=>∃c n,ts=[stT c n]/\n<2 ^ 38/\∀(c':Cells) (n':Nat) (ps:List Pt),n<=n'->n'<=n+30->0<ps.length->ps.length<=12->bdL 50 ps->Gdo ps->k (.lst true (ps.map ptP)) [stT c' n']
section
variable{P:SD}{w:SI}{K:Sm}{mg:Str->Option Sl}{base:SJ}
theorem jc:FnScope ["_law_state","_law_most","_law_x","_law_y"] ["_law_state"] (ay iq):=⟨rfl,rfl,rfl,by rfl',rfl,by rfl',by rfl'⟩
theorem nC(F:Fun K "_law_placed_outline" "_law_placed_outline" iq f fd)(TX:Txt mg)  (xL:Cal P w K mg base 2 "_law_outline" ["_law_state","_law_x","_law_y","_law_wide","_law_high"] (aG K 5 uh))(Fa:Cal P w K mg base 1 "_law_take" ["_law_state","_law_many"] (aG K 2 kj)):FnOk P w K mg base CX0 3 f fd ["_law_state"] (aG K 1 jy):=by
 refine cC F jc [true] rfl (λcdv A outer s H E hr=>?_);have sc:=@jc;refine⟨_,(ah (aF (i:=1) sc.nd (by rfl) (b_ rfl) (by rfl) (ge_if (cX (dG hr) (au Fa hr (by rfl) (bS 0 (ag ge_int aq))) ge_int (aV _)) ge_int ge_int)) (ah (mZ (i:=2) (j:=3) (by rfl) sc.nd (by rfl) (by rfl) (by decide) (by rfl) (by rfl) (by rfl) (by rfl) (ab (ai aK (au Fa hr (by rfl) (bS 0 (ag ge_int aq))) ge_int) (ab (ai aK (au Fa hr (by rfl) (bS 0 (ag ge_int aq))) ge_int) af)) (by rfl)) (ak (aH (au xL hr (by rfl) (bS 0 (ag (gR 2) (ag (gR 3) (ag (ai aB ge_int (au Fa hr (by rfl) (bS 0 (ag (gR 1) aq)))) (ag (ai aB ge_int (au Fa hr (by rfl) (bS 0 (ag (gR 1) aq)))) aq)))))))))),λts kk hl hp=>?_⟩;clear hl;obtain⟨c,n,rfl,hn,q⟩:=hp;nofun;walk_at "take";intro r c1 a1 b1;nofun;refine cg (λg=>?_) (λg=>?_)
 all_goals
  nofun;walk_at "take";intro x c2 a2 b2;nofun;walk_at "take";intro y c3 a3 b3;nofun;walk_at "take";intro w c4 a4 b4;nofun;walk_at "take";intro h c5 a5 b5;nofun;refine⟨c5,n+1+1+1+1+1,x-8,y-8,5+w,5+h,rfl,by lia,⟨by lia,by lia⟩,⟨by lia,by lia⟩,by lia,by lia,by lia,by lia,λc' n' ps l1 l2 p0 p1 pb pg=>?_⟩;nofun;exact q c' n' ps (by lia) (by lia) p0 p1 pb pg
end
def wd:FP:=λts k=>∃c n,ts=[stT c n]/\n<2 ^ 38/\∀(c':Cells) (n':Nat) (ps:List Pt),n<=n'->n'<=n+30->0<ps.length->ps.length<=30->bdL 50 ps->Gdo ps->k (.lst true (ps.map ptP)) [stT c' n']
section
variable{P:SD}{w:SI}{K:Sm}{mg:Str->Option Sl}{base:SJ}
theorem uu:FnScope ["_law_state","_law_many","_law_made","_law_turn","_law_x","_law_y"] ["_law_state"] (ay sh):=⟨rfl,rfl,rfl,by rfl',rfl,by rfl',by rfl'⟩
theorem AR(F:Fun K "_law_stairs" "_law_stairs" sh f fd)(TX:Txt mg)  (Fa:Cal P w K mg base 1 "_law_take" ["_law_state","_law_many"] (aG K 2 kj)):FnOk P w K mg base CX0 2 f fd ["_law_state"] (aG K 1 wd):=by
 refine cC F uu [true] rfl (λcdv A outer s H E hr=>?_);have sc:=@uu;refine⟨_,(ah (aF (i:=1) sc.nd (by rfl) (b_ rfl) (by rfl) (ai aB ge_int (au Fa hr (by rfl) (bS 0 (ag ge_int aq))))) (ah (aF (i:=2) sc.nd (by rfl) (b_ rfl) (by rfl) (aI (cW (ab (aA (ab ge_int (ab ge_int af))) af)))) (ah (jX T3 (by rfl) (jF (by rfl) TX.range (ab (gR 1) af)) (ax (i:=3) sc.nd (by rfl) (b_ rfl) (by rfl)) (ah (uG (aI (aD hr (ae 2) (mT ge_int))) (eZ (n:=2) (by rfl) (aC (ax (i:=4) sc.nd (by rfl) (b_ rfl) (by rfl)) (aC (ax (i:=5) sc.nd (by rfl) (b_ rfl) (by rfl)) cT)))) (ah (aF (i:=2) sc.nd (by rfl) (b_ rfl) (by rfl) (ai aB (gR 2) (cW (ab (aA (ab (ai aB (aI (ai aB (ae 4) ge_int)) (au Fa hr (by rfl) (bS 0 (ag ge_int aq)))) (ab (gR 5) af))) af)))) (ak (aF (i:=2) sc.nd (by rfl) (b_ rfl) (by rfl) (ai aB (gR 2) (cW (ab (aA (ab (aI (aD hr (aD hr (ae 2) (mT ge_int)) ge_int)) (ab (ai aB (aI (ai aB (ae 5) ge_int)) (au Fa hr (by rfl) (bS 0 (ag ge_int aq)))) af))) af)))))))) (ak (aH (aI (ai aB (ae 2) (cW (ab (aA (ab ge_int (ab (aD hr (aD hr (ae 2) (mT ge_int)) ge_int) af))) af))))))))),λts kk hl hp=>?_⟩;clear hl;obtain⟨c,n,rfl,hn,q⟩:=hp;nofun;walk_at "take";intro many c1 a1 b1;nofun;refine⟨by lia,iM (λi env=>∃(c':Cells) (n':Nat) (ps:List Pt) (x y:Int) (z3 z4 z5:T),n<=n'/\n'<=n+1+2*i/\ps.length=2*i/\bdL 50 ps/\Stq (ps++[(x,y)]) (x,y)/\(0<i->0<x/\0<y)/\0<=x/\x<=2*i/\0<=y/\y<=2*i/\env=[stT c' n',.int (2+many),.lst true (ps.map ptP++[ptP (x,y)]),z3,z4,z5]) ⟨c1,n+1,[],0,0,_,_,_,by lia,by lia,rfl,trivial,KC,(λz=>absurd z (NR 0)),by lia,by lia,by lia,by lia,rfl⟩ ?_ ?_⟩
 ·rintro i t _ ⟨c',n',ps,x,y,z3,z4,z5,l1,l2,lp,pb,sp,sq,x0,x1,y0,y1,rfl⟩ ei;have hi:=kU ei;nofun;refine b8 (qQ _ _) ?_;nofun;walk_at "take";intro r c2 a2 b2;nofun;refine⟨by simp only[c_,a_,i',N1];lia,b8 (qQ _ _) ?_⟩;nofun;walk_at "take";intro r2 c3 a3 b3;nofun;refine⟨by simp only[c_,a_,i',N1];lia,c3,n'+1+1,ps++[(x,y),(x+1+r,y)],x+1+r,y+1+r2,_,_,_,by lia,by lia,by rw[c_,lp];rfl,qw pb ⟨⟨⟨by dsimp only;lia,by dsimp only;lia⟩,by dsimp only;lia,by dsimp only;lia⟩,⟨⟨by dsimp only;lia,by dsimp only;lia⟩,by dsimp only;lia,by dsimp only;lia⟩,trivial⟩,Iz sp (by omega) (by omega),(λ_=>⟨by lia,by lia⟩),by lia,by lia,by lia,by lia,by simp only[m_,g_,f',NL,G',NJ];rfl⟩
 rintro _ ⟨c',n',ps,x,y,z3,z4,z5,l1,l2,lp,pb,sp,sq,x0,x1,y0,y1,rfl⟩;rw[gP]at l2 lp x1 y1 sq;nofun;refine b8 (qQ _ _) ?_;nofun;refine⟨by simp only[c_,a_,i',N1];lia,?_⟩;have e:NO (λx=>ptP x) ps++[ptP (x,y)]++[T.tup [T.int 0,T.int y]]=(ps++[(x,y),(0,y)]).map ptP:=by simp only[m_,g_,f',NL,G',NJ];rfl
 rw[e];refine q c' n' _ (by omega) (by lia) ?_ ?_ (qw pb ⟨⟨⟨by dsimp only;lia,by dsimp only;lia⟩,by dsimp only;lia,by dsimp only;lia⟩,⟨⟨by dsimp only;lia,by dsimp only;lia⟩,by dsimp only;lia,by dsimp only;lia⟩,trivial⟩) (HH sp (sq (by lia)).1 (sq (by lia)).2 (by lia) (by lia))
 all_goals simp only[c_,i',N1];lia
end
def p8:FP:=λts k=>∃(c:Cells) (n:Nat) (o:Bool) (ps:List Pt),ts=[stT c n,.lst o (ps.map ptP)]/\n<2 ^ 38/\0<ps.length/\ps.length<=30/\bdL 50 ps/\Gdo ps/\∀(c':Cells) (n':Nat) (o':Bool) (qs:List Pt) (z:T),n<=n'->n'<=n+100->0<qs.length->qs.length<=30->bdL 50 qs->Gdo qs->Alk ps qs->k (.lst o' (qs.map ptP)) [stT c' n',z]
section
variable{P:SD}{w:SI}{K:Sm}{mg:Str->Option Sl}{base:SJ}
theorem si:FnScope ["_law_state","_law_corners","_law_made","_law_k","_law_corner","_law_other","_law_across","_law_up","_law_many","_law_turn"] ["_law_state","_law_corners"] (ay oQ):=⟨rfl,rfl,rfl,by rfl',rfl,by rfl',by rfl'⟩
theorem xZ(F:Fun K "_law_refined" "_law_refined" oQ f fd)(TX:Txt mg)  (Fa:Cal P w K mg base 1 "_law_take" ["_law_state","_law_many"] (aG K 2 kj)):FnOk P w K mg base CX0 2 f fd ["_law_state","_law_corners"] (aG K 2 p8):=by
 refine cC F si [true,true] rfl (λcdv A outer s H E hr=>?_);have sc:=@si;refine⟨_,(ah (aF (i:=2) sc.nd (by rfl) (b_ rfl) (by rfl) (aI (cW af))) (ah (jX T3 (by rfl) (qh (by rfl) TX.enumerate (ab (gR 1) af)) (eZ (n:=2) (by rfl) (aC (ax (i:=3) sc.nd (by rfl) (b_ rfl) (by rfl)) (aC (ax (i:=4) sc.nd (by rfl) (b_ rfl) (by rfl)) cT))) (ah (jL (lP 2 Uu Uv k8 (ab (gR 4) af))) (ah (aF (i:=5) sc.nd (by rfl) (b_ rfl) (by rfl) (aI (aD hr (ae 1) (ai qa (ai aB (ae 3) ge_int) (av eV (by rfl) TX.len (by rfl') (ab (ae 1) af)))))) (ah (mZ (i:=6) (j:=7) (by rfl) sc.nd (by rfl) (by rfl) (by decide) (by rfl) (by rfl) (by rfl) (by rfl) (ab (aI (ai aK (aD hr (ae 5) ge_int) (aD hr (ae 4) ge_int))) (ab (aI (ai aK (aD hr (ae 5) ge_int) (aD hr (ae 4) ge_int))) af)) (by rfl)) (ah (aF (i:=8) sc.nd (by rfl) (b_ rfl) (by rfl) (aI (av (iy rfl) (by rfl) TX.max (by rfl') (ab (av jx (by rfl) TX.abs (by rfl') (ab (ae 6) af)) (ab (av jx (by rfl) TX.abs (by rfl') (ab (ae 7) af)) af))))) (ak (f9 (AW (C1 (gY (cX BU (ae 8) ge_int (aV _))) (C1 (gY (cX ph (av eV (by rfl) TX.len (by rfl') (ab (ae 1) af)) ge_int (aV _))) (Fu (cX (dG hr) (au Fa hr (by rfl) (bS 0 (ag ge_int aq))) ge_int (aV _)))))) (ah (aF (i:=9) sc.nd (by rfl) (b_ rfl) (by rfl) (ai aB ge_int (au Fa hr (by rfl) (bS 0 (ag (aI (ai aK (ae 8) ge_int)) aq))))) (ak (jL (lP 2 Uu Uv k8 (ab (aI (aA (ab (ai aB (aD hr (ae 4) ge_int) (ai eW (ai jf (ae 6) (ae 8)) (ae 9))) (ab (ai aB (aD hr (ae 4) ge_int) (ai eW (ai jf (ae 7) (ae 8)) (ae 9))) af)))) af))))) b9))))))) (ak (aH (ge_if (gY (cX qP (av eV (by rfl) TX.len (by rfl') (ab (ae 2) af)) ge_int (aV _))) (qL 2) (gR 1)))))),λts kk hl hp=>?_⟩;clear hl;obtain⟨c,n,o,ps,rfl,hn,l0,l1,hb,hg,q⟩:=hp;nofun;refine iM (λi env=>∃(c':Cells) (n':Nat) (qs:List Pt) (z3 z4 z5 z6 z7 z8 z9:T),n<=n'/\n'<=n+2*i/\i<=qs.length/\qs.length<=2*i/\bdL 50 qs/\(∀k,Rfn (ps.headD (0,0)) (ps.drop i) k->Rfn (ps.headD (0,0)) ps (qs++k))/\env=[stT c' n',.lst false (ps.map ptP),.lst true (qs.map ptP),z3,z4,z5,z6,z7,z8,z9]) ⟨c,n,[],_,_,_,_,_,_,_,e_ _,e_ _,e_ _,e_ _,trivial,(λk g=>g),rfl⟩ ?_ ?_
 ·rintro i t _ ⟨c',n',qs,z3,z4,z5,z6,z7,z8,z9,m1,m2,m3,m4,mb,mr,rfl⟩ ei;obtain⟨p,ep,rfl⟩:=qy rfl ei;have hi:i<ps.length:=(gV.mp ep).1;have ep':=Ij (g:=ptP) (l:=ps) (i:=i) (z:=(0,0)) l0;have mp':ps.getD ((i+1)%ps.length) (0,0)∈ps:=by rw[i_,f_ (NT _ l0)];exact N_ _
  obtain⟨rk,rp⟩:=JS hg.s hb ep;unfold far at rp;generalize ps.getD ((i+1)%ps.length) (0,0)=p' at *;have bp:=bT hb (D_ ep);have bp':=bT hb mp';nofun;refine⟨by lia,by lia,b8 ep' ?_⟩;obtain⟨⟨u1,u2⟩,u3,u4⟩:=id bp;obtain⟨⟨v1,v2⟩,v3,v4⟩:=id bp';have mb1:bdL 50 (qs++[p]):=qw mb ⟨bp,trivial⟩;have mr1:∀k,Rfn (ps.headD (0,0)) (ps.drop (i+1)) k->Rfn (ps.headD (0,0)) ps ((qs++[p])++k):=λk g=>by rw[g_];exact mr _ (rk k g)
  have skip:∀(c'':Cells) (n'':Nat) (w3 w4 w5 w6 w7 w8 w9:T),n<=n''->n''<=n+2*(i+1)->∃(c':Cells) (n':Nat) (qs':List Pt) (z3 z4 z5 z6 z7 z8 z9:T),n<=n'/\n'<=n+2*(i+1)/\i+1<=qs'.length/\qs'.length<=2*(i+1)/\bdL 50 qs'/\(∀k,Rfn (ps.headD (0,0)) (ps.drop (i+1)) k->Rfn (ps.headD (0,0)) ps (qs'++k))/\[stT c'' n'',.lst false (ps.map ptP),.lst true (qs.map ptP++[ptP p]),w3,w4,w5,w6,w7,w8,w9]=[stT c' n',.lst false (ps.map ptP),.lst true (qs'.map ptP),z3,z4,z5,z6,z7,z8,z9]:=λc'' n'' w3 w4 w5 w6 w7 w8 w9 g1 g2=>
   ⟨c'',n'',qs++[p],_,_,_,_,_,_,_,g1,g2,by rw[c_];show i+1<=qs.length+1;lia,by rw[c_];show qs.length+1<=_;lia,mb1,mr1,by rw[m_];rfl⟩
  nofun;refine cg (λg1=>?_) (λg1=>?_)
  ·nofun;refine cg (λg2=>?_) (λg2=>?_)
   ·nofun;walk_at "take";intro r c2 a2 b2;nofun;refine cg (λg3=>?_) (λg3=>?_)
    ·nofun;walk_at "take";intro r2 c3 a3 b3;nofun;obtain⟨b5,r5⟩:=rp (1+r2) (by lia) (by lia);have hm:max ((p'.1-p.1).natAbs:Int) ((p'.2-p.2).natAbs:Int)<=600:=by lia
     generalize max ((p'.1-p.1).natAbs:Int) ((p'.2-p.2).natAbs:Int)=m at *;have w1:=LJ (a:=p'.1-p.1) (b:=m) (c:=1+r2) ⟨by lia,by lia⟩ ⟨by lia,by lia⟩ (by lia);have w2:=LJ (a:=p'.2-p.2) (b:=m) (c:=1+r2) ⟨by lia,by lia⟩ ⟨by lia,by lia⟩ (by lia);generalize (p'.1-p.1)/m*(1+r2)=s1 at *;generalize (p'.2-p.2)/m*(1+r2)=s2 at *;obtain⟨w3,w4⟩:=w1;obtain⟨w5,w6⟩:=w2;refine⟨⟨by lia,by lia⟩,.inr ⟨by lia,by lia⟩,⟨by lia,by lia⟩,.inr ⟨by lia,by lia⟩,by rw[c_,a_];show qs.length+1<_;lia,c3,n'+1+1,qs++[p]++[(p.1+s1,p.2+s2)],_,_,_,_,_,_,_,by lia,by lia,by rw[c_,c_];show i+1<=qs.length+1+1;lia,by rw[c_,c_];show qs.length+1+1<=_;lia,qw mb1 ⟨b5,trivial⟩,(λk g=>by rw[g_,g_];exact mr _ (r5 k g)),by rw[m_,m_];rfl⟩
    nofun;exact skip c2 (n'+1) _ _ _ _ _ _ _ (by lia) (by lia)
   nofun;exact skip c' n' _ _ _ _ _ _ _ (by omega) (by lia)
  nofun;exact skip c' n' _ _ _ _ _ _ _ (by omega) (by lia)
 rintro _ ⟨c',n',qs,z3,z4,z5,z6,z7,z8,z9,m1,m2,m3,m4,mb,mr,rfl⟩;rw[jC rfl]at m2 m3 m4 mr;have rf:=mr [] (by rw[RE];exact Rfn.nil);rw[Nb]at rf;nofun;refine cg (λg1=>?_) (λg1=>?_)
 ·nofun;exact q c' n' true qs _ (by omega) (by lia) (by lia) (by lia) mb ⟨Fy hg.s rf,by rw[FI hg.s rf];exact hg.n,by rw[z0 rf];exact hg.a⟩ ⟨z0 rf,λ_=>JJ rf⟩
 nofun;exact q c' n' false ps _ (by omega) (by lia) l0 (by omega) hb hg ⟨rfl,λ_=>RU⟩
end
def mF:FP:=λts k=>∃c n,ts=[stT c n]/\n<2 ^ 37/\∀(c':Cells) (n':Nat) (o:Bool) (ps:List Pt),n<=n'->n'<=n+200->0<ps.length->ps.length<=30->bdL 50 ps->Gdo ps->k (.lst o (ps.map ptP)) [stT c' n']
section
variable{P:SD}{w:SI}{K:Sm}{mg:Str->Option Sl}{base:SJ}
theorem kJ:FnScope ["_law_state","_law_way","_law_corners"] ["_law_state"] (ay jm):=⟨rfl,rfl,rfl,by rfl',rfl,by rfl',by rfl'⟩
theorem rn(F:Fun K "_law_any_outline" "_law_any_outline" jm f fd)(TX:Txt mg)  (Fa:Cal P w K mg base 1 "_law_take" ["_law_state","_law_many"] (aG K 2 kj))(At:Cal P w K mg base 3 "_law_placed_outline" ["_law_state"] (aG K 1 jy))(BT:Cal P w K mg base 2 "_law_refined" ["_law_state","_law_corners"] (aG K 2 p8))(Db:Cal P w K mg base 2 "_law_stairs" ["_law_state"] (aG K 1 wd)):FnOk P w K mg base CX0 4 f fd ["_law_state"] (aG K 1 mF):=by
 refine cC F kJ [true] rfl (λcdv A outer s H E hr=>?_);have sc:=@kJ;refine⟨_,(ah (aF (i:=1) sc.nd (by rfl) (b_ rfl) (by rfl) (au Fa hr (by rfl) (bS 0 (ag ge_int aq)))) (iP (aF (i:=2) sc.nd (by rfl) (b_ rfl) (by rfl) (ge_if (gY (cX (dG hr) (ae 1) ge_int (aV _))) (au Db hr (by rfl) (bS 0 aq)) (au At hr (by rfl) (bS 0 aq)))) (ak (aH (ge_if (gY (cX ph (ae 1) ge_int (aV _))) (au BT hr (by rfl) (bS 0 (ag (qL 2) aq))) (qL 2)))))),λts kk hl hp=>?_⟩;clear hl;obtain⟨c,n,rfl,hn,q⟩:=hp;nofun;walk_at "take";intro way c1 a1 b1;nofun;refine kg (λenv=>∃(c2:Cells) (n2:Nat) (ps:List Pt),n<=n2/\n2<=n+50/\0<ps.length/\ps.length<=30/\bdL 50 ps/\Gdo ps/\env=[stT c2 n2,.int way,.lst true (ps.map ptP)]) ?_ ?_
 ·nofun;refine cg (λg=>?_) (λg=>?_)
  ·nofun;refine⟨c1,n+1,rfl,by lia,λc' n' ps l1 l2 p0 p1 pb pg=>?_⟩;nofun;exact⟨c',n',ps,by lia,by lia,p0,p1,pb,pg,rfl⟩
  nofun;refine⟨c1,n+1,rfl,by lia,λc' n' ps l1 l2 p0 p1 pb pg=>?_⟩;nofun;exact⟨c',n',ps,by lia,by lia,p0,by lia,pb,pg,rfl⟩
 rintro _ ⟨c2,n2,ps,l1,l2,p0,p1,pb,pg,rfl⟩;nofun;refine cg (λg=>?_) (λg=>?_)
 ·nofun;refine⟨c2,n2,true,ps,rfl,by lia,p0,p1,pb,pg,λc' n' o qs z m1 m2 m3 m4 m5 m6 m7=>?_⟩;nofun;exact q c' n' o qs (by lia) (by lia) m3 m4 m5 m6
 nofun;exact q c2 n2 true ps (by omega) (by lia) p0 (by omega) pb pg
end
def j6:FP:=λts k=>∃(o:Bool) (ps:List Pt),ts=[.lst o (ps.map ptP)]/\ps.length<1000/\smL ps/\k (.int (cZ ps)) ts
section
variable{P:SD}{w:SI}{K:Sm}{mg:Str->Option Sl}{base:SJ}
theorem kA:FnScope ["outline"] ["outline"] (ay j7):=⟨rfl,rfl,rfl,by rfl',rfl,by rfl',by rfl'⟩
theorem pY(F:Fun K "turning_area" "turning_area" j7 f fd)(TX:Txt mg)  (sB:Cal P w K mg base 2 "edges_of" ["outline"] (aG K 1 jG)):FnOk P w K mg base CX0 3 f fd ["outline"] (aG K 1 j6):=by
 refine cC F kA [true] rfl (λcdv A outer s H E hr=>?_);have sc:=@kA;have nd1:(["one","other"]:List Str).Nodup:=by rfl'
 refine⟨_,(ak (aH (aI (av (Bp rfl) (by rfl) TX.sum (by rfl') (ab (cc sc ["one","other"] [none,none] nd1 (by rfl') (cY (au sB hr (by rfl) (ag (ae 0) aq))) (λ_ _ _=>(eZ (n:=2) (by rfl) (aC (ax (i:=0) nd1 (by rfl) (b_ rfl) (by rfl) (hf:=(d_ rfl))) (aC (ax (i:=1) nd1 (by rfl) (b_ rfl) (by rfl) (hf:=(d_ rfl))) cT)))) (λ_ _ _=>bV) (λ_ _ _=>(ai aK (ai eW (aD hr (ae 0) ge_int) (aD hr (ae 1) ge_int)) (ai eW (aD hr (ae 1) ge_int) (aD hr (ae 0) ge_int))))) af))))),λts kk hl hp=>?_⟩;clear hl;obtain⟨o,ps,rfl,hz,hs,q⟩:=hp;nofun;refine⟨_,false,_,rfl,C8,rfl,by rw[yn];exact hz,?_⟩;rw[BK];nofun;refine aP (by rw[a_,gI,SX];lia) (λi acc ie=>∃z1 z2,acc=((aj ps).take i).map (λe=>T.int (b6 e))/\ie=[z1,z2]) ⟨_,_,rfl,rfl⟩ ?_ ?_
 ·rintro i t _ _ ⟨z1,z2,rfl,rfl⟩ ei;obtain⟨e,ee,rfl⟩:=cU ei;have me:=fg (D_ ee);have s1:=hs _ me.1;have s2:=hs _ me.2;nofun;exact⟨.inr ⟨by lia,by lia⟩,.inr ⟨by lia,by lia⟩,_,_,by rw[map_take ee];rfl,rfl⟩
 rintro _ _ ⟨z1,z2,rfl,rfl⟩;rw[a_,z_];nofun;refine b8 kK ?_;nofun;exact q
end
def jM:FP:=λts k=>∃(o:Bool) (ps:List Pt),ts=[.lst o (ps.map ptP)]/\ps.length<1000/\smL ps/\k (.int ((cZ ps).natAbs:Int)) ts
section
variable{P:SD}{w:SI}{K:Sm}{mg:Str->Option Sl}{base:SJ}
theorem mq:FnScope ["outline"] ["outline"] (ay kh):=⟨rfl,rfl,rfl,by rfl',rfl,by rfl',by rfl'⟩
theorem tj(F:Fun K "twice_area" "twice_area" kh f fd)(TX:Txt mg)  (Fk:Cal P w K mg base 3 "turning_area" ["outline"] (aG K 1 j6)):FnOk P w K mg base CX0 4 f fd ["outline"] (aG K 1 jM):=by refine cC F mq [true] rfl (λcdv A outer s H E hr=>?_);have sc:=@mq;refine⟨_,(ak (aH (aI (av jx (by rfl) TX.abs (by rfl') (ab (au Fk hr (by rfl) (ag (ae 0) aq)) af))))),λts kk hl hp=>?_⟩;clear hl;obtain⟨o,ps,rfl,hz,hs,q⟩:=hp;nofun;refine⟨_,ps,rfl,hz,hs,?_⟩;nofun;exact q
end
def lu:FP:=λts k=>∃(o:Bool) (ps:List Pt),ts=[.lst o (ps.map ptP)]/\ps.length<1000/\smL ps/\k (.bl (decide (0<cZ ps))) ts
section
variable{P:SD}{w:SI}{K:Sm}{mg:Str->Option Sl}{base:SJ}
theorem o8:FnScope ["outline"] ["outline"] (ay lh):=⟨rfl,rfl,rfl,by rfl',rfl,by rfl',by rfl'⟩
theorem uM(F:Fun K "goes_left" "goes_left" lh f fd)(TX:Txt mg)  (Fk:Cal P w K mg base 3 "turning_area" ["outline"] (aG K 1 j6)):FnOk P w K mg base CX0 4 f fd ["outline"] (aG K 1 lu):=by refine cC F o8 [true] rfl (λcdv A outer s H E hr=>?_);have sc:=@o8;refine⟨_,(ak (aH (aI (jh BU (au Fk hr (by rfl) (ag (ae 0) aq)) ge_int (aV _))))),λts kk hl hp=>?_⟩;clear hl;obtain⟨o,ps,rfl,hz,hs,q⟩:=hp;nofun;refine⟨_,ps,rfl,hz,hs,?_⟩;nofun;exact q
end
def mD:FP:=λts k=>∃q:Qt,ts=[qtT q]/\q.2.2<4/\k (ptP (FG q)) ts
section
variable{P:SD}{w:SI}{K:Sm}{mg:Str->Option Sl}{base:SJ}
theorem l7:FnScope ["quarter","inner"] ["quarter"] (ay jo):=⟨rfl,rfl,rfl,by rfl',rfl,by rfl',by rfl'⟩
theorem sD(F:Fun K "inner_point" "inner_point" jo f fd)(TX:Txt mg)(C_INNER:Glb K mg "INNER" zj) :FnOk P w K mg base CX0 1 f fd ["quarter"] (aG K 1 mD):=by refine cC F l7 [true] rfl (λcdv A outer s H E hr=>?_);have sc:=@l7;refine⟨_,(ah (aF (i:=1) sc.nd (by rfl) (b_ rfl) (by rfl) (aI (aD hr (Ir C_INNER (by rfl)) (aD hr (ae 0) ge_int)))) (ak (aH (aI (aA (ab (ai aB (ai eW ge_int (aD hr (ae 0) ge_int)) (aD hr (ae 1) ge_int)) (ab (ai aB (ai eW ge_int (aD hr (ae 0) ge_int)) (aD hr (ae 1) ge_int)) af))))))),λts kk hl hp=>?_⟩;clear hl;obtain⟨p,rfl,hs,q⟩:=hp;nofun;refine b8 (Jt hs) ?_;nofun;exact⟨c4 _,c4 _,q⟩
end
def jU:FP:=λts k=>∃(o:Bool) (ls:List Pt) (q:Qt),ts=[.lst o (ls.map ptP),qtT q]/\ls.length<sizeLine/\q.2.2<4/\k (.bl (oy (ls.countP (ja q)))) ts
section
variable{P:SD}{w:SI}{K:Sm}{mg:Str->Option Sl}{base:SJ}
theorem my:FnScope ["lines","quarter","point","along"] ["lines","quarter"] (ay jK):=⟨rfl,rfl,rfl,by rfl',rfl,by rfl',by rfl'⟩
theorem tF(F:Fun K "is_between" "is_between" jK f fd)(TX:Txt mg)  (ut:Cal P w K mg base 1 "inner_point" ["quarter"] (aG K 1 mD)):FnOk P w K mg base CX0 2 f fd ["lines","quarter"] (aG K 2 jU):=by
 refine cC F my [true,true] rfl (λcdv A outer s H E hr=>?_);have sc:=@my;have nd1:(["y","rise","along","point"]:List Str).Nodup:=by rfl'
 refine⟨_,(ah (aF (i:=2) sc.nd (by rfl) (d_ rfl) (by rfl) (aI (au ut hr (by rfl) (ag (ae 1) aq)))) (ah (aF (i:=3) sc.nd (by rfl) (d_ rfl) (by rfl) (aI (ai aK (aD hr (ae 2) ge_int) (ai eW ge_int (aD hr (ae 1) ge_int))))) (ak (aH (aI (jh (dG hr) (ai qa (av eV (by rfl) TX.len (by rfl') (ab (cc sc ["y","rise","along","point"] [none,none,some 3,some 2] nd1 (by rfl') (cY (ae 0)) (λ_ _ _=>(eZ (n:=2) (by rfl) (aC (ax (i:=0) nd1 (by rfl) (b_ rfl) (by rfl) (hf:=(d_ rfl))) (aC (ax (i:=1) nd1 (by rfl) (b_ rfl) (by rfl) (hf:=(d_ rfl))) cT)))) (λ_ _ _=>(uT (cX ph (ai aB (ai eW ge_int (ae 0)) (ai eW (ae 2) (ae 1))) (aD hr (ae 3) ge_int) (aV _)))) (λ_ _ _=>iV)) af)) ge_int) ge_int (aV _))))))),λts kk hl hp=>?_⟩;clear hl;obtain⟨o,ls,p,rfl,hz,h4,q⟩:=hp;nofun;refine⟨p,rfl,h4,?_⟩;nofun;have i4:=tG h4;refine⟨c4 _,aP (by rw[a_];exact hz) (λi acc ie=>∃z1 z2,acc=NW ((ls.take i).countP (ja p)) (T.bl true)/\ie=[z1,z2,.int ((FG p).1-4*p.1),ptP (FG p)]) ⟨_,_,rfl,rfl⟩ ?_ ?_⟩
 ·rintro i t acc _ ⟨z1,z2,rfl,rfl⟩ ei;obtain⟨v,ev,rfl⟩:=cU ei;nofun;have e3:(FG p).1-4*p.1=(inn p.2.2).1:=by show 4*p.1+(inn p.2.2).1-4*p.1=_;lia
  rw[e3];have et:ls.take (i+1)=ls.take i++[v]:=by rw[NN,ev];rfl
  refine⟨c4 _,.inl ⟨by lia,by lia⟩,cg (λh=>?_) (λh=>?_)⟩
  ·nofun;have hb:ja p v=true:=decide_eq_true h;exact⟨_,_,by rw[et,Qi,PQ,if_pos hb,List.replicate_succ'],rfl⟩
  nofun;have hb:¬ja p v=true:=λh2=>h (of_decide_eq_true h2);exact⟨_,_,by rw[et,Qi,PQ,if_neg hb];rfl,rfl⟩
 rintro _ _ ⟨z1,z2,rfl,rfl⟩;rw[a_,z_];nofun;rw[QZ];exact⟨by decide,q⟩
end
def jH:FP:=λts k=>∃(o:Bool) (ps:List Pt) (x:Int),ts=[.lst o (ps.map ptP),.int x]/\ps.length<1000/\(∀p∈ps,sm p)/\k (.lst true ((lsX ps x).map ptP)) ts
section
variable{P:SD}{w:SI}{K:Sm}{mg:Str->Option Sl}{base:SJ}
theorem m9:FnScope ["outline","x","lines","edge","west","east","rise"] ["outline","x"] (ay jN):=⟨rfl,rfl,rfl,by rfl',rfl,by rfl',by rfl'⟩
theorem t7(F:Fun K "lines_over" "lines_over" jN f fd)(TX:Txt mg)  (sB:Cal P w K mg base 2 "edges_of" ["outline"] (aG K 1 jG)):FnOk P w K mg base CX0 3 f fd ["outline","x"] (aG K 2 jH):=by
 refine cC F m9 [true,true] rfl (λcdv A outer s H E hr=>?_);have sc:=@m9;refine⟨_,(ah (aF (i:=2) sc.nd (by rfl) (b_ rfl) (by rfl) (aI (cW af))) (ah (jX T3 (by rfl) (cY (aI (au sB hr (by rfl) (ag (ae 0) aq)))) (ax (i:=3) sc.nd (by rfl) (b_ rfl) (by rfl)) (ah (aF (i:=4) sc.nd (by rfl) (b_ rfl) (by rfl) (aI (av (Bj hr rfl) (by rfl) TX.min (by rfl') (ab (ae 3) af)))) (ah (aF (i:=5) sc.nd (by rfl) (b_ rfl) (by rfl) (aI (av (AS hr rfl) (by rfl) TX.max (by rfl') (ab (ae 3) af)))) (ak (f9 (gY (Cm qP ph (aD hr (ae 4) ge_int) (ae 1) (aD hr (ae 5) ge_int))) (ah (aF (i:=6) sc.nd (by rfl) (b_ rfl) (by rfl) (aI (ai jf (ai aK (aD hr (ae 5) ge_int) (aD hr (ae 4) ge_int)) (ai aK (aD hr (ae 5) ge_int) (aD hr (ae 4) ge_int))))) (ak (jL (lP 2 Uu Uv k8 (ab (aI (aA (ab (ai aB (aD hr (ae 4) ge_int) (ai eW (ae 6) (ai aK (ae 1) (aD hr (ae 4) ge_int)))) (ab (ae 6) af)))) af))))) b9))))) (ak (aH (qL 2))))),λts kk hl hp=>?_⟩;clear hl;obtain⟨o,ps,x,rfl,hz,hs,q⟩:=hp;nofun;refine⟨_,false,_,rfl,C8,rfl,by rw[yn];exact hz,?_⟩;rw[BK];nofun;refine iM (λi env=>∃z1 z2 z3 z4,env=[T.lst o (ps.map ptP),T.int x,T.lst true ((((aj ps).take i).flatMap (ck · x)).map ptP),z1,z2,z3,z4]) ⟨_,_,_,_,rfl⟩ ?_ ?_
 ·rintro i t _ ⟨z1,z2,z3,z4,rfl⟩ ei;obtain⟨e,ee,rfl⟩:=cU ei;have hm:=fg (D_ ee);have s1:=hs _ hm.1;have s2:=hs _ hm.2;have et:(aj ps).take (i+1)=(aj ps).take i++[e]:=by rw[NN,ee];rfl
  rw[et,NI,m_,Pn];nofun;refine⟨QL _ _,λi1 u m1 e1 e1' h1=>?_⟩;obtain⟨a,ea,rfl,a1,a2⟩:∃a:Pt,(i1=0/\a=e.1\/i1=1/\a=e.2)/\u=ptP a/\a.1<=e.1.1/\a.1<=e.2.1:=by
   match i1,e1,e1' with
   |0,e1,e1'=>cases e1;cases e1';exact⟨_,.inl ⟨rfl,rfl⟩,rfl,NZ _,lx2 (h1 _ (.tail _ (.head _)))⟩
   |1,e1,e1'=>cases e1;cases e1';exact⟨_,.inr ⟨rfl,rfl⟩,rfl,lx2 (h1 _ (.head _)),NZ _⟩
  nofun;refine⟨QL _ _,λi2 u m2 e2 e2' h2=>?_⟩;obtain⟨b,eb,rfl,b1,b2⟩:∃a:Pt,(i2=0/\a=e.1\/i2=1/\a=e.2)/\u=ptP a/\e.1.1<=a.1/\e.2.1<=a.1:=by
   match i2,e2,e2' with
   |0,e2,e2'=>cases e2;cases e2';exact⟨_,.inl ⟨rfl,rfl⟩,rfl,NZ _,lx2 (h2 _ (.tail _ (.head _)))⟩
   |1,e2,e2'=>cases e2;cases e2';exact⟨_,.inr ⟨rfl,rfl⟩,rfl,lx2 (h2 _ (.head _)),NZ _⟩
  nofun;obtain⟨s11,s12,s13,s14⟩:=s1;obtain⟨s21,s22,s23,s24⟩:=s2;have no:¬(a.1<=x/\x<b.1)->ck e x=[]:=by intro hn;unfold ck;rw[if_neg (by omega),if_neg (by omega)]
  refine cg (λg1=>?_) (λg1=>?_)
  ·nofun;refine cg (λg2=>?_) (λg2=>?_)
   ·nofun;have hv:ck e x=[(a.2+(b.2-a.2)/(b.1-a.1)*(x-a.1),(b.2-a.2)/(b.1-a.1))]:=by
     unfold ck;rcases ea with⟨_,rfl⟩|⟨_,rfl⟩ <;> rcases eb with⟨_,rfl⟩|⟨_,rfl⟩
     ·omega
     ·rw[if_pos ⟨g1,g2⟩]
     ·rw[if_neg (by lia),if_pos ⟨g1,g2⟩]
     omega
    rw[hv];have a3:a.1=e.1.1\/a.1=e.2.1:=by rcases ea with⟨_,rfl⟩|⟨_,rfl⟩ <;> simp
    have b3:b.1=e.1.1\/b.1=e.2.1:=by rcases eb with⟨_,rfl⟩|⟨_,rfl⟩ <;> simp
    refine⟨⟨by lia,by omega⟩,.inr ⟨by lia,by lia⟩,?_,_,_,_,_,rfl⟩;have l1:=tQ ((aj ps).take i) x;have l2:=gI ps;rw[p_]at l1;omega
   nofun;rw[no (λh=>g2 h.2),NL,Nb];exact⟨_,_,_,_,rfl⟩
  nofun;rw[no (λh=>g1 h.1),NL,Nb];exact⟨_,_,_,_,rfl⟩
 rintro _ ⟨z1,z2,z3,z4,rfl⟩;rw[a_,z_];nofun;exact q
end
def j5:FP:=λts k=>∃(o:Bool) (ls:List Pt) (x:Int),ts=[.lst o (ls.map ptP),.int x]/\0<ls.length/\ls.length<1000/\(∀l∈ls,-1000<=l.1/\l.1<=1000/\-1<=l.2/\l.2<=1)/\∀low high,tI (ls.map λl=>l.1+min l.2 0) low->uj (ls.map λl=>l.1+max l.2 0) high->k (.lst true ((qbN ls x low (high-low).toNat).map qtT)) ts
section
variable{P:SD}{w:SI}{K:Sm}{mg:Str->Option Sl}{base:SJ}
theorem iK:FnScope ["lines","x","y","low","high","found"] ["lines","x"] (ay gS):=⟨rfl,rfl,rfl,by rfl',rfl,by rfl',by rfl'⟩
theorem lX(F:Fun K "quarters_between" "quarters_between" gS f fd)(TX:Txt mg)  (v6:Cal P w K mg base 2 "is_between" ["lines","quarter"] (aG K 2 jU)):FnOk P w K mg base CX0 3 f fd ["lines","x"] (aG K 2 j5):=by
 refine cC F iK [true,true] rfl (λcdv A outer s H E hr=>?_);have sc:=@iK;have nd1:(["y","rise"]:List Str).Nodup:=by rfl'
 have nd2:(["y","rise"]:List Str).Nodup:=by rfl'
 have nd3:(["side","y","x","lines"]:List Str).Nodup:=by rfl'
 refine⟨_,(ah (aF (i:=3) sc.nd (by rfl) (b_ rfl) (by rfl) (aI (av (gX rfl) (by rfl) TX.min (by rfl') (ab (cc sc ["y","rise"] [none,none] nd1 (by rfl') (cY (ae 0)) (λ_ _ _=>(eZ (n:=2) (by rfl) (aC (ax (i:=0) nd1 (by rfl) (b_ rfl) (by rfl) (hf:=(d_ rfl))) (aC (ax (i:=1) nd1 (by rfl) (b_ rfl) (by rfl) (hf:=(d_ rfl))) cT)))) (λ_ _ _=>bV) (λ_ _ _=>(ai aB (ae 0) (av (gX rfl) (by rfl) TX.min (by rfl') (ab (ae 1) (ab ge_int af)))))) af)))) (ah (aF (i:=4) sc.nd (by rfl) (b_ rfl) (by rfl) (aI (av (iy rfl) (by rfl) TX.max (by rfl') (ab (cc sc ["y","rise"] [none,none] nd2 (by rfl') (cY (ae 0)) (λ_ _ _=>(eZ (n:=2) (by rfl) (aC (ax (i:=0) nd2 (by rfl) (b_ rfl) (by rfl) (hf:=(d_ rfl))) (aC (ax (i:=1) nd2 (by rfl) (b_ rfl) (by rfl) (hf:=(d_ rfl))) cT)))) (λ_ _ _=>bV) (λ_ _ _=>(ai aB (ae 0) (av (iy rfl) (by rfl) TX.max (by rfl') (ab (ae 1) (ab ge_int af)))))) af)))) (ah (aF (i:=5) sc.nd (by rfl) (b_ rfl) (by rfl) (aI (cW af))) (ah (jX T3 (by rfl) (tV (by rfl) TX.range (ab (gR 3) (ab (gR 4) af))) (ax (i:=2) sc.nd (by rfl) (d_ rfl) (by rfl)) (ak (jL (lP 5 V2 V3 sF (ab (aI (cc sc ["side","y","x","lines"] [none,some 2,some 1,some 0] nd3 (by rfl') (jF (by rfl) TX.range (ab ge_int af)) (λ_ _ _=>(ax (i:=0) nd3 (by rfl) (b_ rfl) (by rfl) (hf:=(d_ rfl)))) (λ_ _ _=>(uT (fy (au v6 hr (by rfl) (ag (ae 3) (ag (aA (ab (ae 2) (ab (ae 1) (ab (ae 0) af)))) aq)))))) (λ_ _ _=>(aA (ab (ae 2) (ab (ae 1) (ab (ae 0) af))))))) af))))) (ak (aH (qL 5))))))),λts kk hl hp=>?_⟩;clear hl;obtain⟨o,ls,x,rfl,h0,h1,hb,q⟩:=hp;nofun;refine aP (by rw[a_,SX];lia) (λi acc ie=>∃z1 z2,acc=(ls.take i).map (λl=>T.int (l.1+min l.2 0))/\ie=[z1,z2]) ⟨_,_,rfl,rfl⟩ ?_ ?_
 ·rintro i t _ _ ⟨z1,z2,rfl,rfl⟩ ei;obtain⟨l,el,rfl⟩:=cU ei;nofun;exact⟨_,_,by rw[map_take el],rfl⟩
 rintro _ _ ⟨z1,z2,rfl,rfl⟩;rw[a_,z_];nofun;refine b8 kK ⟨λz=>by rw[Qa]at z;rw[z]at h0;exact absurd h0 (by decide),λlow hlow=>?_⟩;nofun;refine aP (by rw[a_,SX];lia) (λi acc ie=>∃z1 z2,acc=(ls.take i).map (λl=>T.int (l.1+max l.2 0))/\ie=[z1,z2]) ⟨_,_,rfl,rfl⟩ ?_ ?_
 ·rintro i t _ _ ⟨z1,z2,rfl,rfl⟩ ei;obtain⟨l,el,rfl⟩:=cU ei;nofun;exact⟨_,_,by rw[map_take el],rfl⟩
 rintro _ _ ⟨z1,z2,rfl,rfl⟩;rw[a_,z_];nofun;refine b8 kK ⟨λz=>by rw[Qa]at z;rw[z]at h0;exact absurd h0 (by decide),λhigh hhigh=>?_⟩;have q:=q low high hlow hhigh;have b1:-1001<=low/\low<=1001:=by obtain⟨l,ml,rfl⟩:=s_.mp hlow.1;have:=hb l ml;omega
 have b2:-1001<=high/\high<=1001:=by obtain⟨l,ml,rfl⟩:=s_.mp hhigh.1;have:=hb l ml;omega
 nofun;refine⟨by lia,iM (λi env=>∃z,env=[.lst o (ls.map ptP),.int x,z,.int low,.int high,.lst true ((qbN ls x low i).map qtT)]) ⟨_,rfl⟩ ?_ ?_⟩
 ·rintro i t _ ⟨z,rfl⟩ ei;have hi:=kU ei;have et:=vg ei;subst et;nofun;refine⟨by decide,aP (by rw[gP];decide) (λj acc ie=>∃z1,acc=(((B' j).filter λs=>oy (ls.countP (ja (x,low+i,s)))).map λs=>(x,low+(i:Int),s)).map qtT/\ie=[z1,.int (low+i),.int x,.lst false (ls.map ptP)]) ⟨_,rfl,rfl⟩ ?_ ?_⟩
  ·rintro j t _ _ ⟨z1,rfl,rfl⟩ ej;have hj:j<4:=kU ej;have et:=vg ej;subst et;nofun;rw[Ry];refine⟨false,ls,(x,low+i,j),rfl,by rw[SX];lia,hj,?_⟩;nofun;rw[OZ,Qj,m_,m_];refine iX (λh=>?_) (λh=>?_)
   ·nofun;exact⟨_,by rw[NV,h];rfl,rfl⟩
   nofun;exact⟨_,by rw[NV,h];exact(Nb _).symm,rfl⟩
  rintro _ _ ⟨z1,rfl,rfl⟩;rw[gP];nofun;have l1:=zQ (ls:=ls) (x:=x) (low:=low) i;have l2:=PN (λs=>oy (ls.countP (ja (x,low+i,s)))) (B' (Si 4));rw[MX]at l2;have l3:Si 4=4:=rfl;exact⟨by lia,_,by rw[wH,m_];rfl⟩
 rintro _ ⟨z,rfl⟩;rw[gP];nofun;exact q
end
def uo:FP:=λts k=>∃(o o2 u:Bool) (qs:List Qt) (oss:List (List Pt)),ts=[.lst o (qs.map qtT),.lst o2 (oss.map λos=>T.lst u (os.map ptP))]/\qs.Pairwise ltQ/\(∀q∈qs,q.2.2<4)/\qs.length<10000000/\oss.length<10/\(∀os∈oss,os.length<1000/\∀p∈os,sm p)/\k (.lst true ((qs.filter λq=>!rJ oss q).map qtT)) ts
section
variable{P:SD}{w:SI}{K:Sm}{mg:Str->Option Sl}{base:SJ}
theorem sR:FnScope ["region","outlines","found","lines_at","quarter","x"] ["region","outlines"] (ay ox):=⟨rfl,rfl,rfl,by rfl',rfl,by rfl',by rfl'⟩
theorem yk(F:Fun K "outside" "outside" ox f fd)(TX:Txt mg)  (wT:Cal P w K mg base 3 "lines_over" ["outline","x"] (aG K 2 jH))(v6:Cal P w K mg base 2 "is_between" ["lines","quarter"] (aG K 2 jU)):FnOk P w K mg base CX0 4 f fd ["region","outlines"] (aG K 2 uo):=by
 refine cC F sR [true,true] rfl (λcdv A outer s H E hr=>?_);have sc:=@sR;have nd1:(["quarter"]:List Str).Nodup:=by rfl'
 have nd2:(["outline","x"]:List Str).Nodup:=by rfl'
 have nd3:(["lines","quarter"]:List Str).Nodup:=by rfl'
 refine⟨_,(ah (aF (i:=2) sc.nd (by rfl) (b_ rfl) (by rfl) (aI (cW af))) (ah (aF (i:=3) sc.nd (by rfl) (b_ rfl) (by rfl) (aI HF)) (ah (jX T3 (by rfl) (cY (aI (av sW (by rfl) TX.sorted (by rfl') (ab (cc sc ["quarter"] [none] nd1 (by rfl') (cY (ae 0)) (λ_ _ _=>(ax (i:=0) nd1 (by rfl) (b_ rfl) (by rfl) (hf:=(d_ rfl)))) (λ_ _ _=>bV) (λ_ _ _=>(oV kT (by rfl) TX.tuple (by rfl') (ab (ae 0) af)))) af)))) (ax (i:=4) sc.nd (by rfl) (d_ rfl) (by rfl)) (ah (aF (i:=5) sc.nd (by rfl) (d_ rfl) (by rfl) (aI (aD hr (ae 4) ge_int))) (iP (f9 (gY (cX (BN hr) (ae 5) (ae 3) (by with_unfolding_all rfl))) (ak (uG (aI (cc sc ["outline","x"] [none,some 5] nd2 (by rfl') (cY (ae 1)) (λ_ _ _=>(ax (i:=0) nd2 (by rfl) (b_ rfl) (by rfl) (hf:=(d_ rfl)))) (λ_ _ _=>bV) (λ_ _ _=>(au wT hr (by rfl) (ag (ae 0) (ag (ae 1) aq)))))) (HW (i:=3) hr (gR 5)))) b9) (ak (f9 (gY (iI (fy (av (oH rfl) (by rfl) TX.any (by rfl') (ab (cc sc ["lines","quarter"] [none,some 4] nd3 (by rfl') (cY (aD hr (ae 3) (ae 5))) (λ_ _ _=>(ax (i:=0) nd3 (by rfl) (b_ rfl) (by rfl) (hf:=(d_ rfl)))) (λ_ _ _=>bV) (λ_ _ _=>(au v6 hr (by rfl) (ag (ae 0) (ag (ae 1) aq))))) af))))) (ak (jL (lP 2 Uu Uv k8 (ab (gR 4) af)))) b9))))) (ak (aH (qL 2)))))),λts kk hl hp=>?_⟩;clear hl;obtain⟨o,o2,u,qs,oss,rfl,hq,h4,hl,ho,hs,q⟩:=hp;nofun;refine⟨rfl,aP (by rw[a_,SX];lia) (λi acc ie=>∃z,acc=(qs.take i).map qtT/\ie=[z]) ⟨_,rfl,rfl⟩ ?_ ?_⟩
 ·rintro i t _ _ ⟨z,rfl,rfl⟩ ei;obtain⟨p,ep,rfl⟩:=cU ei;nofun;exact⟨_,by rw[map_take ep],rfl⟩
 rintro _ _ ⟨z,rfl,rfl⟩;rw[a_,z_];nofun;rw[Bi (II hq)];nofun;refine iM (λi env=>∃(xs:List Int) (z4 z5:T),xs.length<=i/\env=[.lst o (qs.map qtT),.lst o2 (oss.map λos=>T.lst u (os.map ptP)),.lst true (((qs.take i).filter λq=>!rJ oss q).map qtT),.dK true (dV (Dl true oss) xs),z4,z5]) ⟨[],_,_,e_ _,rfl⟩ ?_ ?_
 ·rintro i t _ ⟨xs,z4,z5,hx,rfl⟩ ei;obtain⟨p,ep,rfl⟩:=cU ei;have hi:i<qs.length:=(gV.mp ep).1;nofun;refine kg (λenv=>∃(xs:List Int),xs.length<=i+1/\p.1∈xs/\env=[.lst o (qs.map qtT),.lst o2 (oss.map λos=>T.lst u (os.map ptP)),.lst true (((qs.take i).filter λq=>!rJ oss q).map qtT),.dK true (dV (Dl true oss) xs),qtT p,.int p.1]) ?_ ?_
  ·nofun;refine⟨lI _,b8 rfl ?_⟩;nofun;rw[GN,Cb];by_cases hm:p.1∈xs
   ·rw[if_pos hm,Rm];nofun;exact⟨xs,by lia,hm,rfl⟩
   rw[if_neg hm,Option.isSome_none];nofun;refine aP (by rw[a_,SX];lia) (λj acc ie=>acc=(oss.take j).map (λos=>T.lst true ((lsX os p.1).map ptP))/\∃z,ie=[z,.int p.1]) ⟨rfl,_,rfl⟩ ?_ ?_
   ·rintro j t _ _ ⟨rfl,z,rfl⟩ ej;obtain⟨os,eo,rfl⟩:=cU ej;have so:=hs os (D_ eo);nofun;refine⟨_,os,p.1,rfl,so.1,so.2,?_⟩;nofun;exact⟨by rw[map_take eo],_,rfl⟩
   rintro _ _ ⟨rfl,z,rfl⟩;rw[a_,z_];nofun;exact⟨by rw[HJ];lia,xs++[p.1],by rw[c_];show xs.length+1<=i+1;lia,q_ _ (.head _),by rw[<-J1 hm];rfl⟩
  rintro _ ⟨xs,hx,hm,rfl⟩;nofun;refine⟨lI _,?_⟩;rw[GN,Cb,if_pos hm,Gn];nofun;unfold Dl;nofun;refine aP (by rw[a_,SX];lia) (λj acc ie=>acc=(oss.take j).map (λos=>T.bl (oy ((lsX os p.1).countP (ja p))))/\∃z,ie=[z,qtT p]) ⟨rfl,_,rfl⟩ ?_ ?_
  ·rintro j t _ _ ⟨rfl,z,rfl⟩ ej;obtain⟨os,eo,rfl⟩:=cU ej;have so:=hs os (D_ eo);have ll:=Cn (ps:=os) (x:=p.1);nofun;refine⟨_,lsX os p.1,p,rfl,by rw[SX];lia,h4 p (D_ ep),?_⟩;nofun;exact⟨by rw[map_take eo],_,rfl⟩
  rintro _ _ ⟨rfl,z,rfl⟩;rw[a_,z_];nofun;rw[show((oss.map λos=>oy ((lsX os p.1).countP (ja p))).any id)=rJ oss p from rfl];have et:qs.take (i+1)=qs.take i++[p]:=by rw[NN,ep];rfl
  have lt:=PN (λq=>!rJ oss q) (qs.take i);rw[p_]at lt;refine iX (λg=>?_) (λg=>?_)
  ·nofun;exact⟨xs,_,_,hx,by rw[et,Qj,NV,g];simp only[Pp,MZ,if_false,List.filter_nil,Nb];rfl⟩
  nofun;exact⟨by lia,xs,_,_,hx,by rw[et,Qj,NV,g,m_];rfl⟩
 rintro _ ⟨xs,z4,z5,hx,rfl⟩;rw[a_,z_];nofun;exact q
end
def uZ:FP:=λts k=>∃(o o2 u:Bool) (ps:List Pt) (oss:List (List Pt)),ts=[.lst o (ps.map ptP),.lst o2 (oss.map λos=>T.lst u (os.map ptP))]/\0<ps.length/\ps.length<1000/\bdL 300 ps/\cyc ii ps/\oss.length<10/\(∀os∈oss,os.length<1000/\∀p∈os,sm p)/\∀qs,Wtn ps qs->(bdL 50 ps->qs.length<=40000)->k (.lst true ((qs.filter λq=>!rJ oss q).map qtT)) ts
section
variable{P:SD}{w:SI}{K:Sm}{mg:Str->Option Sl}{base:SJ}
theorem wQ:FnScope ["outline","islands","region","x"] ["outline","islands"] (ay uH):=⟨rfl,rfl,rfl,by rfl',rfl,by rfl',by rfl'⟩
theorem CH(F:Fun K "shape" "shape" uH f fd)(TX:Txt mg)  (zn:Cal P w K mg base 4 "outside" ["region","outlines"] (aG K 2 uo))(wT:Cal P w K mg base 3 "lines_over" ["outline","x"] (aG K 2 jH))(AC:Cal P w K mg base 3 "quarters_between" ["lines","x"] (aG K 2 j5)):FnOk P w K mg base CX0 5 f fd ["outline","islands"] (aG K 2 uZ):=by
 refine cC F wQ [true,true] rfl (λcdv A outer s H E hr=>?_);have sc:=@wQ;have nd1:(["corner"]:List Str).Nodup:=by rfl'
 have nd2:(["corner"]:List Str).Nodup:=by rfl'
 refine⟨_,(ah (aF (i:=2) sc.nd (by rfl) (b_ rfl) (by rfl) (aI (cW af))) (ah (jX T3 (by rfl) (tV (by rfl) TX.range (ab (aI (av (gX rfl) (by rfl) TX.min (by rfl') (ab (cc sc ["corner"] [none] nd2 (by rfl') (cY (ae 0)) (λ_ _ _=>(ax (i:=0) nd2 (by rfl) (b_ rfl) (by rfl) (hf:=(d_ rfl)))) (λ_ _ _=>bV) (λ_ _ _=>(aD hr (ae 0) ge_int))) af))) (ab (aI (av (iy rfl) (by rfl) TX.max (by rfl') (ab (cc sc ["corner"] [none] nd1 (by rfl') (cY (ae 0)) (λ_ _ _=>(ax (i:=0) nd1 (by rfl) (b_ rfl) (by rfl) (hf:=(d_ rfl)))) (λ_ _ _=>bV) (λ_ _ _=>(aD hr (ae 0) ge_int))) af))) af))) (ax (i:=3) sc.nd (by rfl) (b_ rfl) (by rfl)) (ak (jL (lP 2 V2 V3 sF (ab (aI (au AC hr (by rfl) (ag (au wT hr (by rfl) (ag (ae 0) (ag (ae 3) aq))) (ag (ae 3) aq)))) af))))) (ak (aH (aI (au zn hr (by rfl) (ag (ae 2) (ag (ae 1) aq)))))))),λts kk hl hp=>?_⟩;clear hl;obtain⟨o,o2,u,ps,oss,rfl,h0,h1,hb,hc,ho,hs,q⟩:=hp;have io:∀f:Pt->Int,ps.map f≠[]:=λf z=>by rw[Qa]at z;rw[z]at h0;exact absurd h0 (by decide)
 nofun;refine aP (by rw[a_,SX];lia) (λi acc ie=>∃z1,acc=(ps.take i).map (λp=>T.int p.1)/\ie=[z1]) ⟨_,rfl,rfl⟩ ?_ ?_
 ·rintro i t _ _ ⟨z1,rfl,rfl⟩ ei;obtain⟨l,el,rfl⟩:=cU ei;nofun;exact⟨_,by rw[map_take el],rfl⟩
 rintro _ _ ⟨z1,rfl,rfl⟩;rw[a_,z_];nofun;refine b8 kK ⟨io _,λx0 hx0=>?_⟩;nofun;refine aP (by rw[a_,SX];lia) (λi acc ie=>∃z1,acc=(ps.take i).map (λp=>T.int p.1)/\ie=[z1]) ⟨_,rfl,rfl⟩ ?_ ?_
 ·rintro i t _ _ ⟨z1,rfl,rfl⟩ ei;obtain⟨l,el,rfl⟩:=cU ei;nofun;exact⟨_,by rw[map_take el],rfl⟩
 rintro _ _ ⟨z1,rfl,rfl⟩;rw[a_,z_];nofun;refine b8 kK ⟨io _,λx1 hx1=>?_⟩;have he:=lQ hc;have hbx:∀p∈ps,x0<=p.1/\p.1<=x1:=λp m=>⟨hx0.2 _ (s_.mpr ⟨p,m,rfl⟩),hx1.2 _ (s_.mpr ⟨p,m,rfl⟩)⟩;have hb0:(-300<=x0/\x0<=300)/\-300<=x1/\x1<=300:=by obtain⟨p,m,rfl⟩:=s_.mp hx0.1;obtain⟨p',m',rfl⟩:=s_.mp hx1.1;obtain⟨⟨g1,g2⟩,_⟩:=bT hb m;obtain⟨⟨g3,g4⟩,_⟩:=bT hb m';exact⟨⟨g1,g2⟩,g3,g4⟩
 nofun;refine⟨by lia,iM (λi env=>∃(rs:List Qt) (z:T),rs.Pairwise ltQ/\(∀q,q∈rs↔(x0<=q.1/\q.1<x0+i)/\q.2.2<4/\inD ps q)/\rs.length<=2400*i/\(bdL 50 ps->rs.length<=400*i)/\env=[.lst o (ps.map ptP),.lst o2 (oss.map λos=>T.lst u (os.map ptP)),.lst true (rs.map qtT),z]) ⟨[],_,.nil,(λq=>⟨λh=>(nomatch h),λh=>absurd h.1 (by lia)⟩),e_ _,(λ_=>e_ _),rfl⟩ ?_ ?_⟩
 ·rintro i t _ ⟨rs,z,up,mem,len,len2,rfl⟩ ei;have hi:=kU ei;have et:=vg ei;subst et;nofun;refine⟨_,ps,x0+i,rfl,h1,λp m=>?_,?_⟩
  ·obtain⟨⟨g1,g2⟩,g3,g4⟩:=bT hb m;exact⟨by lia,by lia,by lia,by lia⟩
  nofun;have c2:=Cn (ps:=ps) (x:=x0+i);have c3:=IL hc hx0 hx1 (x:=x0+i) ⟨by lia,by lia⟩;have lb:∀l∈lsX ps (x0+i),(-300<=l.1+min l.2 0/\l.1+max l.2 0<=300)/\(l.2=0\/l.2=1\/l.2=-1):=λl m=>by obtain⟨g1,e,me,g2,g3⟩:=DQ hc m;obtain⟨g4,g5⟩:=fg me;obtain⟨_,g6,g7⟩:=bT hb g4;obtain⟨_,g8,g9⟩:=bT hb g5;exact⟨by lia,g1⟩
  refine⟨true,lsX ps (x0+i),x0+i,rfl,c3,NB c2 h1,λl m=>?_,λlow high hlo hhi=>?_⟩
  ·have:=lb l m;lia
  have bM:∀M:Int,bdL M ps->-M<=low/\high<=M:=λM hM=>by obtain⟨l,m,e⟩:=s_.mp hlo.1;obtain⟨l',m',e'⟩:=s_.mp hhi.1;obtain⟨g1,o,me,g2,g3⟩:=DQ hc m;obtain⟨g1',o',me',g2',g3'⟩:=DQ hc m';obtain⟨_,a1,a2⟩:=bT hM (fg me).1;obtain⟨_,a3,a4⟩:=bT hM (fg me).2;obtain⟨_,a5,a6⟩:=bT hM (fg me').1;obtain⟨_,a7,a8⟩:=bT hM (fg me').2;exact⟨by lia,by omega⟩
  obtain⟨b1,b2⟩:=bM 300 hb;have b3:=bM 50;clear bM;have qm:=λq=>Ej (x:=x0+i) (q:=q) he (low:=low) (high:=high) (λl m=>hlo.2 _ (s_.mpr ⟨l,m,rfl⟩)) (λl m=>hhi.2 _ (s_.mpr ⟨l,m,rfl⟩));have ql:=zQ (ls:=lsX ps (x0+i)) (x:=x0+i) (low:=low) (high-low).toNat;have qu:=IZ (ls:=lsX ps (x0+i)) (x:=x0+i) (low:=low) (n:=(high-low).toNat);generalize qbN (lsX ps (x0+i)) (x0+i) low (high-low).toNat=cs at *;nofun;refine⟨by omega,rs++cs,_,Jx up qu (λq m=>((mem q).mp m).1.2) (λq m=>((qm q).mp m).1),λq=>?_,by rw[c_];lia,(λh5=>by have:=b3 h5;have:=len2 h5;rw[c_];lia),by rw[m_]⟩;rw[C_,mem q,qm q];constructor
  ·rintro(⟨a,b⟩|⟨a,b⟩)
   ·exact⟨by lia,b⟩
   exact⟨by lia,b⟩
  rintro⟨a,b⟩;rcases R8 q.1 (x0+i)with g|g
  ·exact .inl ⟨⟨a.1,g⟩,b⟩
  exact .inr ⟨by lia,b⟩
 rintro _ ⟨rs,z,up,mem,len,len2,rfl⟩;rw[gP]at mem len len2;have w:Wtn ps rs:=⟨up,λq=>by rw[mem q];refine⟨λh=>h.2,λh=>⟨?_,h⟩⟩;have:=En (λe m=>⟨hbx _ (fg m).1,hbx _ (fg m).2⟩) h.2;lia⟩
 nofun;refine⟨_,_,false,rs,oss,rfl,up,(λq m=>((w.iff q).mp m).1),by lia,ho,hs,?_⟩;nofun;refine q rs w λh5=>?_;have:=len2 h5;obtain⟨p,m,e1⟩:=s_.mp hx0.1;obtain⟨p',m',e2⟩:=s_.mp hx1.1;obtain⟨⟨g1,g2⟩,_⟩:=bT h5 m;obtain⟨⟨g3,g4⟩,_⟩:=bT h5 m';lia
end
def gB:FP:=λts k=>∃(o:Bool) (ps:List Pt),ts=[.lst o (ps.map ptP)]/\0<ps.length/\ps.length<1000/\bdL 300 ps/\cyc ii ps/\∀qs,Wtn ps qs->(bdL 50 ps->qs.length<=40000)->k (.lst true (qs.map qtT)) ts
section
variable{P:SD}{w:SI}{K:Sm}{mg:Str->Option Sl}{base:SJ}
theorem iZ:FnScope ["outline"] ["outline"] (ay hZ):=⟨rfl,rfl,rfl,by rfl',rfl,by rfl',by rfl'⟩
theorem mK(F:Fun K "quarters_within" "quarters_within" hZ f fd)(TX:Txt mg)  (Cl:Cal P w K mg base 5 "shape" ["outline","islands"] (aG K 2 uZ)):FnOk P w K mg base CX0 6 f fd ["outline"] (aG K 1 gB):=by refine cC F iZ [true] rfl (λcdv A outer s H E hr=>?_);have sc:=@iZ;refine⟨_,(ak (aH (aI (au Cl hr (by rfl) (ag (ae 0) (ag (cW af) aq)))))),λts kk hl hp=>?_⟩;clear hl;obtain⟨o,ps,rfl,h0,h1,hb,hc,q⟩:=hp;nofun;refine⟨false,true,false,ps,[],rfl,h0,h1,hb,hc,by decide,(λos m=>nomatch m),λqs w l5=>?_⟩;rw[show(qs.filter λq=>!rJ [] q)=qs from Rk.mpr λ_ _=>rfl];nofun;exact q qs w l5
end
def p9:Nat->FP
 |0=>λ_ _=>False
 |n+1=>λts k=>(∃a:Int,ts=[.int a,.int a]/\k (.bl true) ts)\/(∃ns:List Int,1<=n/\ts=[iT ns,iT ns]/\ns.length<=1000/\k (.bl true) ts)\/∃(o o':Bool) (rs:List (List Int)),2<=n/\ts=[.lst o (rs.map iT),.lst o' (rs.map iT)]/\rs.length<=3000000/\(∀r∈rs,r.length<=1000)/\∀z1 z2,k (.bl true) [z1,z2]
section
variable{P:SD}{w:SI}{K:Sm}{mg:Str->Option Sl}{base:SJ}
theorem zG:FnScope ["_law_found","_law_due"] ["_law_found","_law_due"] (ay s_same):=⟨rfl,rfl,rfl,by rfl',rfl,by rfl',by rfl'⟩
theorem Fs(n:Nat)(F:Fun K "_law_same" "_law_same" s_same f fd)(TX:Txt mg)(Ch:Cal P w K mg base (1+n) "_law_same" ["_law_found","_law_due"] (aG K 2 (p9 n))):FnOk P w K mg base CX0 (1+(n+1)) f fd ["_law_found","_law_due"] (aG K 2 (p9 (n+1))):=by
 refine cC (k:=1+n) F zG [true,true] rfl (λcdv A outer s H E hr=>?_);have sc:=@zG;have nd1:(["_law_one","_law_other"]:List Str).Nodup:=by rfl'
 refine⟨_,(ah (f9 (gY (cX Fq (ae 1) vY (aV _))) (ak qf) b9) (ah (f9 (gY (fy (av cf (by rfl) TX.isinstance (by rfl') (ab (ae 1) (ab (iW (n:="dict") (by rfl) TX.dict (by rfl')) af))))) (ah qf (ak qf)) b9) (ah (f9 (gY (AW (ui (fy (av cf (by rfl) TX.isinstance (by rfl') (ab (ae 1) (ab (iW (n:="list") (by rfl) TX.list (by rfl')) af)))) (qD (fy (av cf (by rfl) TX.isinstance (by rfl') (ab (ae 1) (ab (iW (n:="tuple") (by rfl) TX.tuple (by rfl')) af)))))))) (ah (f9 (gY (cX (qr hr) (av cf (by rfl) TX.isinstance (by rfl') (ab (ae 0) (ab (iW (n:="list") (by rfl) TX.list (by rfl')) af))) (av cf (by rfl) TX.isinstance (by rfl') (ab (ae 1) (ab (iW (n:="list") (by rfl) TX.list (by rfl')) af))) (aV _))) (ak (aH iV)) b9) (ah (f9 (gY (AW (ui (cX (qr hr) (av cf (by rfl) TX.isinstance (by rfl') (ab (ae 0) (ab (iW (n:="tuple") (by rfl) TX.tuple (by rfl')) af))) (av cf (by rfl) TX.isinstance (by rfl') (ab (ae 1) (ab (iW (n:="tuple") (by rfl) TX.tuple (by rfl')) af))) (aV _)) (qD (cX (qr hr) (av eV (by rfl) TX.len (by rfl') (ab (ae 0) af)) (av eV (by rfl) TX.len (by rfl') (ab (ae 1) af)) (aV _)))))) (ak (aH iV)) b9) (ak (aH (aI (av (lL rfl) (by rfl) TX.all (by rfl') (ab (cc sc ["_law_one","_law_other"] [none,none] nd1 (by rfl') (IX (by rfl) TX.zip (ab (ae 0) (ab (ae 1) af))) (λ_ _ _=>(eZ (n:=2) (by rfl) (aC (ax (i:=0) nd1 (by rfl) (b_ rfl) (by rfl) (hf:=(d_ rfl))) (aC (ax (i:=1) nd1 (by rfl) (b_ rfl) (by rfl) (hf:=(d_ rfl))) cT)))) (λ_ _ _=>bV) (λ_ _ _=>(au Ch hr (by rfl) (ag (ae 0) (ag (ae 1) aq))))) af))))))) b9) (ah (f9 (gY (fy (av cf (by rfl) TX.isinstance (by rfl') (ab (ae 1) (ab (iW (n:="str") (by rfl) TX.str (by rfl')) af))))) (ak qf) b9) (ak (aH (aI (gZ (av cf (by rfl) TX.isinstance (by rfl') (ab (ae 0) (ab (iW (n:="int") (by rfl) TX.int (by rfl')) af))) (gZ (oN (av cf (by rfl) TX.isinstance (by rfl') (ab (ae 0) (ab (iW (n:="bool") (by rfl) TX.bool (by rfl')) af)))) (kR (jh (dG hr) (ae 0) (ae 1) (aV _)))))))))))),λts kk hl hp=>?_⟩;clear hl;rcases hp with⟨a,rfl,q⟩|⟨ns,hn,rfl,hl,q⟩|⟨o,o',rs,hn,rfl,hl,hrs,q⟩
 ·nofun
  repeat first|(refine b8 rfl ?_;nofun)|(refine vA rfl ?_;nofun)|(refine lH rfl ?_;nofun)
  exact q
 ·cases n with
  |zero=>exact absurd hn (by decide)
  |succ m=>
  rw[iT]at q ⊢;nofun
  repeat first|(refine b8 rfl ?_;nofun)|(refine vA rfl ?_;nofun)|(refine lH rfl ?_;nofun)
  rw[RZ,H_];refine aP (by rw[a_,SX];lia) (λi acc ie=>∃z1 z2,acc=(ns.take i).map (λ_=>T.bl true)/\ie=[z1,z2]) ⟨_,_,rfl,rfl⟩ ?_ ?_
  ·rintro i u _ _ ⟨z1,z2,rfl,rfl⟩ ei;obtain⟨x,ex,rfl⟩:=cU ei;rw[X5];nofun;refine .inl ⟨x,rfl,?_⟩;nofun;exact⟨_,_,by rw[map_take ex],rfl⟩
  rintro _ _ ⟨z1,z2,rfl,rfl⟩;rw[a_,z_];nofun;rw[Ou,show ns.all (id ∘ λ_=>true)=true from NU.mpr λ_ _=>rfl];exact q
 cases n with
 |zero=>exact absurd hn (by decide)
 |succ m=>
 nofun
 repeat first|(refine b8 rfl ?_;nofun)|(refine vA rfl ?_;nofun)|(refine lH rfl ?_;nofun)
 rw[RZ,H_];refine aP (by rw[a_,SX];lia) (λi acc ie=>∃z1 z2,acc=(rs.take i).map (λ_=>T.bl true)/\ie=[z1,z2]) ⟨_,_,rfl,rfl⟩ ?_ ?_
 ·rintro i u _ _ ⟨z1,z2,rfl,rfl⟩ ei;obtain⟨x,ex,rfl⟩:=cU ei;rw[X5];nofun;refine .inr (.inl ⟨x,by lia,rfl,hrs x (D_ ex),?_⟩);nofun;exact⟨_,_,by rw[map_take ex],rfl⟩
 rintro _ _ ⟨z1,z2,rfl,rfl⟩;rw[a_,z_];nofun;rw[Ou,show rs.all (id ∘ λ_=>true)=true from NU.mpr λ_ _=>rfl];exact q _ _
end
def Aj:FP:=λts k=>∃(o1 o2 o3 b:Bool) (ps os:List Pt) (rs:List Qt),ts=[.lst o1 (ps.map ptP),.lst o2 (os.map ptP),.lst o3 (rs.map qtT),.bl b]/\(ps.length<1000/\smL ps)/\(0<os.length/\os.length<1000/\bdL 300 os/\Spl os)/\(cZ os).natAbs=(cZ ps).natAbs/\decide (0<cZ os)=b/\rs.Nodup/\(∀q,q∈rs↔q.2.2<4/\inD os q)/\rs.length<=40000/\k (.bl true) ts
section
variable{P:SD}{w:SI}{K:Sm}{mg:Str->Option Sl}{base:SJ}
theorem xw:FnScope ["_law_corners","_law_others","_law_quarters","_law_left","_law_found"] ["_law_corners","_law_others","_law_quarters","_law_left"] (ay uY):=⟨rfl,rfl,rfl,by rfl',rfl,by rfl',by rfl'⟩
theorem Cg(F:Fun K "_law_alike" "_law_alike" uY f fd)(TX:Txt mg)  (wn:Cal P w K mg base 5 "is_outline" ["thing"] (aG K 1 nG))(FB:Cal P w K mg base 4 "twice_area" ["outline"] (aG K 1 jM))(tz:Cal P w K mg base 4 "goes_left" ["outline"] (aG K 1 lu))(AT:Cal P w K mg base 6 "quarters_within" ["outline"] (aG K 1 gB))(Ch:Cal P w K mg base 4 "_law_same" ["_law_found","_law_due"] (aG K 2 (p9 3))):FnOk P w K mg base CX0 7 f fd ["_law_corners","_law_others","_law_quarters","_law_left"] (aG K 4 Aj):=by
 refine cC F xw [true,true,true,true] rfl (λcdv A outer s H E hr=>?_);have sc:=@xw;refine⟨_,(ah (f9 (gY (AW (ui (cX CJ (au wn hr (by rfl) (ag (ae 1) aq)) iV (aV _)) (qD (iI (fy (au Ch hr (by rfl) (ag (au FB hr (by rfl) (ag (ae 1) aq)) (ag (au FB hr (by rfl) (ag (ae 0) aq)) aq))))))))) (ak (aH iV)) b9) (ah (aF (i:=4) sc.nd (by rfl) (b_ rfl) (by rfl) (aI (au tz hr (by rfl) (ag (ae 1) aq)))) (ak (aH (aI (gZ (au Ch hr (by rfl) (ag (au AT hr (by rfl) (ag (ae 1) aq)) (ag (av mC (by rfl) TX.sorted (by rfl') (ab (ae 2) af)) aq))) (gZ (av cf (by rfl) TX.isinstance (by rfl') (ab (ae 4) (ab (iW (n:="bool") (by rfl) TX.bool (by rfl')) af))) (kR (jh (dG hr) (ae 4) (ae 3) (aV _)))))))))),λts kk hl hp=>?_⟩;clear hl;obtain⟨o1,o2,o3,b,ps,os,rs,rfl,⟨p1,p2⟩,⟨h0,h1,hb,hs⟩,ea,eb,nd,mem,len,q⟩:=hp;nofun;refine⟨_,false,_,rfl,C8,rfl,by rw[yn];exact h1,λf m=>?_,?_⟩
 ·obtain⟨p,mp,rfl⟩:=s_.mp m;exact pU hb (by decide) p mp
 rw[BK,Ex hs];nofun;rw[show(true != true)=false from rfl];nofun;refine⟨_,os,rfl,h1,pU hb (by decide),?_⟩;nofun;refine⟨_,ps,rfl,p1,p2,?_⟩;rw[ea];nofun;refine .inl ⟨_,rfl,?_⟩;nofun;refine⟨_,os,rfl,h1,pU hb (by decide),?_⟩;rw[eb];nofun;refine⟨_,os,rfl,h0,h1,hb,Al hs,λqs w _=>?_⟩;have mem:=λq=>(mem q).trans (w.iff q).symm;nofun;refine zo (o:=false) (kB rs) (by rw[jZ]) (Ab rs) ?_;rw[DU nd w.up mem,jZ];have le:=DH nd w.up mem;refine .inr (.inr ⟨_,_,kB qs,by decide,by rw[jZ],by rw[rW];lia,yI,λ_ _=>?_⟩);nofun;refine b8 rfl ?_;nofun;refine lH rfl ?_;nofun;rw[show(b == b)=true by cases b <;> rfl];exact q
end
def pG:FP:=λts k=>∃(c:Cells) (n:Nat) (o:Bool) (ps:List Pt),ts=[stT c n,.lst o (ps.map ptP)]/\n<2 ^ 37/\0<ps.length/\ps.length<=30/\bdL 50 ps/\Gdo ps/\∀(c':Cells) (n':Nat) (z:T),n<=n'->n'<=n+200->k (.bl true) [stT c' n',z]
section
variable{P:SD}{w:SI}{K:Sm}{mg:Str->Option Sl}{base:SJ}
theorem nv:FnScope ["_law_state","_law_corners","_law_quarters","_law_left","_law_first","_law_dx","_law_dy","_law_there"] ["_law_state","_law_corners"] (ay lj):=⟨rfl,rfl,rfl,by rfl',rfl,by rfl',by rfl'⟩
theorem vG(F:Fun K "_law_one_right" "_law_one_right" lj f fd)(TX:Txt mg)  (tz:Cal P w K mg base 4 "goes_left" ["outline"] (aG K 1 lu))(AT:Cal P w K mg base 6 "quarters_within" ["outline"] (aG K 1 gB))(Fa:Cal P w K mg base 1 "_law_take" ["_law_state","_law_many"] (aG K 2 kj))(BT:Cal P w K mg base 2 "_law_refined" ["_law_state","_law_corners"] (aG K 2 p8))(np:Cal P w K mg base 7 "_law_alike" ["_law_corners","_law_others","_law_quarters","_law_left"] (aG K 4 Aj)):FnOk P w K mg base CX0 8 f fd ["_law_state","_law_corners"] (aG K 2 pG):=by
 refine cC F nv [true,true] rfl (λcdv A outer s H E hr=>?_);have sc:=@nv;have nd1:(["_law_x","_law_y","_law_side","_law_dy","_law_dx"]:List Str).Nodup:=by rfl'
 have nd2:(["_law_x","_law_y","_law_dy","_law_dx"]:List Str).Nodup:=by rfl'
 have nd3:(["_law_x","_law_y","_law_side"]:List Str).Nodup:=by rfl'
 have nd4:(["_law_x","_law_y"]:List Str).Nodup:=by rfl'
 have nd5:(["_law_x","_law_y","_law_side"]:List Str).Nodup:=by rfl'
 have nd6:(["_law_x","_law_y"]:List Str).Nodup:=by rfl'
 refine⟨_,(ah (aF (i:=2) sc.nd (by rfl) (b_ rfl) (by rfl) (aI (au AT hr (by rfl) (ag (ae 1) aq)))) (ah (aF (i:=3) sc.nd (by rfl) (b_ rfl) (by rfl) (aI (au tz hr (by rfl) (ag (ae 1) aq)))) (ah (aF (i:=4) sc.nd (by rfl) (b_ rfl) (by rfl) (au Fa hr (by rfl) (bS 0 (ag (aI (av eV (by rfl) TX.len (by rfl') (ab (ae 1) af))) aq)))) (ah (f9 (gY (iI (fy (au np hr (by rfl) (ag (ae 1) (ag (ai aB (iE (ae 1) (iO (ae 4)) jS) (iE (ae 1) jS (iO (ae 4)))) (ag (ae 2) (ag (ae 3) aq)))))))) (ak (aH iV)) b9) (ah (f9 (gY (iI (fy (au np hr (by rfl) (ag (ae 1) (ag (y3 (by rfl) (by rfl) TX.list (by rfl) TX.reversed (ae 1)) (ag (ae 2) (ag (oN (ae 3)) aq)))))))) (ak (aH iV)) b9) (ah (uG (aA (ab (ai aK (au Fa hr (by rfl) (bS 0 (ag ge_int aq))) ge_int) (ab (ai aK (au Fa hr (by rfl) (bS 0 (ag ge_int aq))) ge_int) af))) (eZ (n:=2) (by rfl) (aC (ax (i:=5) sc.nd (by rfl) (d_ rfl) (by rfl)) (aC (ax (i:=6) sc.nd (by rfl) (d_ rfl) (by rfl)) cT)))) (ah (rh sc (i:=7) ["_law_x","_law_y","_law_side","_law_dy","_law_dx"] [none,none,none,some 6,some 5] nd1 (by rfl') (by rfl) (b_ rfl) (by rfl) (cY (ae 2)) (λ_ _ _=>(eZ (n:=3) (by rfl) (aC (ax (i:=0) nd1 (by rfl) (b_ rfl) (by rfl) (hf:=(d_ rfl))) (aC (ax (i:=1) nd1 (by rfl) (b_ rfl) (by rfl) (hf:=(d_ rfl))) (aC (ax (i:=2) nd1 (by rfl) (b_ rfl) (by rfl) (hf:=(d_ rfl))) cT))))) (λ_ _ _=>bV) (λ_ _ _=>(aA (ab (ai aB (ae 0) (ae 4)) (ab (ai aB (ae 1) (ae 3)) (ab (ae 2) af))))) (by rfl)) (ah (f9 (gY (iI (fy (au np hr (by rfl) (ag (ae 1) (ag (cc sc ["_law_x","_law_y","_law_dy","_law_dx"] [none,none,some 6,some 5] nd2 (by rfl') (cY (ae 1)) (λ_ _ _=>(eZ (n:=2) (by rfl) (aC (ax (i:=0) nd2 (by rfl) (b_ rfl) (by rfl) (hf:=(d_ rfl))) (aC (ax (i:=1) nd2 (by rfl) (b_ rfl) (by rfl) (hf:=(d_ rfl))) cT)))) (λ_ _ _=>bV) (λ_ _ _=>(aA (ab (ai aB (ae 0) (ae 3)) (ab (ai aB (ae 1) (ae 2)) af))))) (ag (ae 7) (ag (ae 3) aq)))))))) (ak (aH iV)) b9) (ah (rh sc (i:=7) ["_law_x","_law_y","_law_side"] [none,none,none] nd3 (by rfl') (by rfl) (b_ rfl) (by rfl) (cY (ae 2)) (λ_ _ _=>(eZ (n:=3) (by rfl) (aC (ax (i:=0) nd3 (by rfl) (b_ rfl) (by rfl) (hf:=(d_ rfl))) (aC (ax (i:=1) nd3 (by rfl) (b_ rfl) (by rfl) (hf:=(d_ rfl))) (aC (ax (i:=2) nd3 (by rfl) (b_ rfl) (by rfl) (hf:=(d_ rfl))) cT))))) (λ_ _ _=>bV) (λ_ _ _=>(aA (ab (ai aK (mT (ae 1)) ge_int) (ab (ae 0) (ab (ai qa (ai aB (ae 2) ge_int) ge_int) af))))) (by rfl)) (ah (f9 (gY (iI (fy (au np hr (by rfl) (ag (ae 1) (ag (cc sc ["_law_x","_law_y"] [none,none] nd4 (by rfl') (cY (ae 1)) (λ_ _ _=>(eZ (n:=2) (by rfl) (aC (ax (i:=0) nd4 (by rfl) (b_ rfl) (by rfl) (hf:=(d_ rfl))) (aC (ax (i:=1) nd4 (by rfl) (b_ rfl) (by rfl) (hf:=(d_ rfl))) cT)))) (λ_ _ _=>bV) (λ_ _ _=>(aA (ab (mT (ae 1)) (ab (ae 0) af))))) (ag (ae 7) (ag (ae 3) aq)))))))) (ak (aH iV)) b9) (ah (rh sc (i:=7) ["_law_x","_law_y","_law_side"] [none,none,none] nd5 (by rfl') (by rfl) (b_ rfl) (by rfl) (cY (ae 2)) (λ_ _ _=>(eZ (n:=3) (by rfl) (aC (ax (i:=0) nd5 (by rfl) (b_ rfl) (by rfl) (hf:=(d_ rfl))) (aC (ax (i:=1) nd5 (by rfl) (b_ rfl) (by rfl) (hf:=(d_ rfl))) (aC (ax (i:=2) nd5 (by rfl) (b_ rfl) (by rfl) (hf:=(d_ rfl))) cT))))) (λ_ _ _=>bV) (λ_ _ _=>(aA (ab (ai aK (mT (ae 0)) ge_int) (ab (ae 1) (ab (aD hr (cW (ab ge_int (ab ge_int (ab ge_int (ab ge_int af))))) (ae 2)) af))))) (by rfl)) (ah (f9 (gY (iI (fy (au np hr (by rfl) (ag (ae 1) (ag (cc sc ["_law_x","_law_y"] [none,none] nd6 (by rfl') (cY (ae 1)) (λ_ _ _=>(eZ (n:=2) (by rfl) (aC (ax (i:=0) nd6 (by rfl) (b_ rfl) (by rfl) (hf:=(d_ rfl))) (aC (ax (i:=1) nd6 (by rfl) (b_ rfl) (by rfl) (hf:=(d_ rfl))) cT)))) (λ_ _ _=>bV) (λ_ _ _=>(aA (ab (mT (ae 0)) (ab (ae 1) af))))) (ag (ae 7) (ag (oN (ae 3)) aq)))))))) (ak (aH iV)) b9) (ak (aH (au np hr (by rfl) (ag (gR 1) (ag (au BT hr (by rfl) (bS 0 (ag (gR 1) aq))) (ag (gR 2) (ag (gR 3) aq))))))))))))))))))),λts kk hl hp=>?_⟩;clear hl;obtain⟨c,n,o,ps,rfl,hn,l0,l1,hb,hg,q⟩:=hp;have hs:=hg.s;have he:=DF hs;have sml:smL ps:=pU hb (by decide);have hb3:bdL 300 ps:=oj hb (by decide);nofun;refine⟨_,ps,rfl,l0,by lia,hb3,Al hs,λqs w len=>?_⟩;have len:=len hb;have nd:=vU w;nofun;refine⟨_,ps,rfl,by lia,sml,?_⟩;nofun;walk_at "take";intro r c1 a1 b1;nofun;obtain⟨e1,e2⟩:=Hh (ts:=ps.map ptP) (m:=r) a1 (by rw[a_];exact b1);rw[e1,e2,<-N6,<-Of,<-m_];have rl:(ps.drop r.toNat++ps.take r.toNat).length=ps.length:=by rw[c_,o_,p_];lia
 have rb:bdL 50 (ps.drop r.toNat++ps.take r.toNat):=nk hb λp m=>(C_.mp m).elim Nt Nk;have rs:=A9 hs (k:=r.toNat) (by lia);have ra:=Ai (ps:=ps) (k:=r.toNat) (by lia);have rq:=λq=>Es (q:=q) (lT (ps:=ps) (k:=r.toNat) (by lia))
 generalize ps.drop r.toNat++ps.take r.toNat=os at *;refine⟨by rw[a_,a_,o_,p_];lia,_,_,_,_,ps,os,qs,rfl,⟨by lia,sml⟩,⟨by lia,by lia,oj rb (by decide),rs⟩,by rw[ra],by rw[ra],nd,sL w rq,len,?_⟩;clear rl rb rs ra rq;nofun;refine⟨_,true,_,_,ps,ps.reverse,qs,by rw[RF],⟨by lia,sml⟩,⟨by rw[A'];omega,by rw[A'];lia,nk hb3 λp m=>Pz.mp m,yX hs⟩,by rw[uL];lia,by rw[uL];exact wF hg.a,nd,sL w (λq=>IH),len,?_⟩;nofun;walk_at "take";intro u c2 a2 b2;nofun;walk_at "take";intro v c3 a3 b3;nofun;refine aP (by rw[a_,SX];lia) (λi acc ie=>∃z1 z2 z3,acc=((qs.take i).map (mvQ (u-30) (v-30))).map qtT/\ie=[z1,z2,z3,.int (v-30),.int (u-30)]) ⟨_,_,_,rfl,rfl⟩ ?_ ?_
 ·rintro i t _ _ ⟨z1,z2,z3,rfl,rfl⟩ ei;obtain⟨l,el,rfl⟩:=cU ei;nofun;exact⟨_,_,_,by rw[map_take el,m_];rfl,rfl⟩
 rintro _ _ ⟨z1,z2,z3,rfl,rfl⟩;rw[show(qs.map λx=>qtT x).length=qs.length from a_ ..,z_];nofun;refine aP (by rw[a_,SX];lia) (λi acc ie=>∃z1 z2,acc=((ps.take i).map (mvP (u-30) (v-30))).map ptP/\ie=[z1,z2,.int (v-30),.int (u-30)]) ⟨_,_,rfl,rfl⟩ ?_ ?_
 ·rintro i t _ _ ⟨z1,z2,rfl,rfl⟩ ei;obtain⟨l,el,rfl⟩:=cU ei;nofun;exact⟨_,_,by rw[map_take el,m_];rfl,rfl⟩
 rintro _ _ ⟨z1,z2,rfl,rfl⟩;rw[show(ps.map λx=>ptP x).length=ps.length from a_ ..,z_];nofun;refine⟨_,true,_,_,ps,ps.map (mvP (u-30) (v-30)),qs.map (mvQ (u-30) (v-30)),rfl,⟨by lia,sml⟩,⟨by rw[a_];omega,by rw[a_];lia,kS λp m=>?_,xY Iw hs⟩,by rw[Ds],by rw[Ds],xV JE w,HR w,by rw[a_];exact len,?_⟩
 ·obtain⟨p',mp,rfl⟩:=s_.mp m;obtain⟨⟨g1,g2⟩,g3,g4⟩:=bT hb mp;exact⟨⟨by show -300<=p'.1+(u-30);lia,by show p'.1+(u-30)<=300;lia⟩,by show -300<=p'.2+(v-30);lia,by show p'.2+(v-30)<=300;lia⟩
 nofun;refine aP (by rw[a_,SX];lia) (λi acc ie=>∃z1 z2 z3,acc=((qs.take i).map tuQ).map qtT/\ie=[z1,z2,z3]) ⟨_,_,_,rfl,rfl⟩ ?_ ?_
 ·rintro i t _ _ ⟨z1,z2,z3,rfl,rfl⟩ ei;obtain⟨l,el,rfl⟩:=cU ei;nofun;exact⟨by decide,_,_,_,by rw[map_take el,m_,<-LC];rfl,rfl⟩
 rintro _ _ ⟨z1,z2,z3,rfl,rfl⟩;rw[show(qs.map λx=>qtT x).length=qs.length from a_ ..,z_];nofun;refine aP (by rw[a_,SX];lia) (λi acc ie=>∃z1 z2,acc=((ps.take i).map tuP).map ptP/\ie=[z1,z2]) ⟨_,_,rfl,rfl⟩ ?_ ?_
 ·rintro i t _ _ ⟨z1,z2,rfl,rfl⟩ ei;obtain⟨l,el,rfl⟩:=cU ei;nofun;exact⟨_,_,by rw[map_take el,m_];rfl,rfl⟩
 rintro _ _ ⟨z1,z2,rfl,rfl⟩;rw[show(ps.map λx=>ptP x).length=ps.length from a_ ..,z_];nofun;refine⟨_,true,_,_,ps,ps.map tuP,qs.map tuQ,rfl,⟨by lia,sml⟩,⟨by rw[a_];omega,by rw[a_];lia,kS λp m=>?_,xY Ii hs⟩,by rw[DT],by rw[DT],xV IK w,Iy he w,by rw[a_];exact len,?_⟩
 ·obtain⟨p',mp,rfl⟩:=s_.mp m;obtain⟨⟨g1,g2⟩,g3,g4⟩:=bT hb mp;exact⟨⟨by show -300<=-p'.2;lia,by show -p'.2<=300;lia⟩,by show -300<=p'.1;lia,by show p'.1<=300;lia⟩
 nofun;refine aP (by rw[a_,SX];lia) (λi acc ie=>∃z1 z2 z3,acc=((qs.take i).map miQ).map qtT/\ie=[z1,z2,z3]) ⟨_,_,_,rfl,rfl⟩ ?_ ?_
 ·rintro i t _ _ ⟨z1,z2,z3,rfl,rfl⟩ ei;obtain⟨l,el,rfl⟩:=cU ei;nofun;refine b8 (LV ((w.iff l).mp (D_ el)).1) ?_;nofun;exact⟨_,_,_,by rw[map_take el,m_];rfl,rfl⟩
 rintro _ _ ⟨z1,z2,z3,rfl,rfl⟩;rw[show(qs.map λx=>qtT x).length=qs.length from a_ ..,z_];nofun;refine aP (by rw[a_,SX];lia) (λi acc ie=>∃z1 z2,acc=((ps.take i).map miP).map ptP/\ie=[z1,z2]) ⟨_,_,rfl,rfl⟩ ?_ ?_
 ·rintro i t _ _ ⟨z1,z2,rfl,rfl⟩ ei;obtain⟨l,el,rfl⟩:=cU ei;nofun;exact⟨_,_,by rw[map_take el,m_];rfl,rfl⟩
 rintro _ _ ⟨z1,z2,rfl,rfl⟩;rw[show(ps.map λx=>ptP x).length=ps.length from a_ ..,z_];nofun;refine⟨_,true,_,_,ps,ps.map miP,qs.map miQ,rfl,⟨by lia,sml⟩,⟨by rw[a_];omega,by rw[a_];lia,kS λp m=>?_,xY HN hs⟩,by rw[DP];lia,by rw[DP];exact wF hg.a,xV Jz w,Ju w,by rw[a_];exact len,?_⟩
 ·obtain⟨p',mp,rfl⟩:=s_.mp m;obtain⟨⟨g1,g2⟩,g3,g4⟩:=bT hb mp;exact⟨⟨by show -300<=-p'.1;lia,by show -p'.1<=300;lia⟩,by show -300<=p'.2;lia,by show p'.2<=300;lia⟩
 nofun;refine⟨c3,n+1+1+1,_,ps,rfl,by lia,l0,l1,hb,hg,λc' n' o' rs z m1 m2 m3 m4 m5 m6 m7=>?_⟩;nofun;refine⟨_,o',_,_,ps,rs,qs,rfl,⟨by lia,sml⟩,⟨m3,by lia,oj m5 (by decide),m6.s⟩,by rw[m7.a],by rw[m7.a],nd,sL w m7.q,len,?_⟩;nofun;exact q c' n' _ (by lia) (by lia)
end
def pC:FP:=λts k=>∃(c:Cells) (n:Nat),ts=[stT c n]/\n<2 ^ 37/\∀(c':Cells) (n':Nat),n<=n'->n'<=n+200->k (.bl true) [stT c' n']
section
variable{P:SD}{w:SI}{K:Sm}{mg:Str->Option Sl}{base:SJ}
theorem nN:FnScope ["_law_state","_law_wide","_law_high","_law_box_here","_law_at","_law_one","_law_other","_law_both"] ["_law_state"] (ay kL):=⟨rfl,rfl,rfl,by rfl',rfl,by rfl',by rfl'⟩
theorem vc(F:Fun K "_law_cut_right" "_law_cut_right" kL f fd)(TX:Txt mg)  (FB:Cal P w K mg base 4 "twice_area" ["outline"] (aG K 1 jM))(AT:Cal P w K mg base 6 "quarters_within" ["outline"] (aG K 1 gB))(Cl:Cal P w K mg base 5 "shape" ["outline","islands"] (aG K 2 uZ))(Fa:Cal P w K mg base 1 "_law_take" ["_law_state","_law_many"] (aG K 2 kj))(Ch:Cal P w K mg base 4 "_law_same" ["_law_found","_law_due"] (aG K 2 (p9 3))):FnOk P w K mg base CX0 7 f fd ["_law_state"] (aG K 1 pC):=by
 refine cC F nN [true] rfl (λcdv A outer s H E hr=>?_);have sc:=@nN;refine⟨_,(ah (@mZ _ _ _ 1 2 _ _ _ _ _ _ _ _ _ _ _ (by rfl) sc.nd (by rfl) (by rfl) (by decide) (by rfl) (by rfl) (by rfl) (by rfl) (ab (ai aB ge_int (au Fa hr (by rfl) (bS 0 (ag ge_int aq)))) (ab (ai aB ge_int (au Fa hr (by rfl) (bS 0 (ag ge_int aq)))) af)) (by rfl) (by rfl)) (ah (@aF _ _ _ _ _ 3 _ _ sc.nd (by rfl) (b_ rfl) (by rfl) (aI (cW (ab (aA (ab ge_int (ab ge_int af))) (ab (aA (ab (ae 1) (ab ge_int af))) (ab (aA (ab (ae 1) (ab (ae 2) af))) (ab (aA (ab ge_int (ab (ae 2) af))) af)))))) (by rfl) (by first|exact .inl rfl|exact .inr rfl)) (ah (@aF _ _ _ _ _ 4 _ _ sc.nd (by rfl) (b_ rfl) (by rfl) (ai aB ge_int (au Fa hr (by rfl) (bS 0 (ag (aI (ai aK (@av _ _ _ _ _ _ _ _ _ (gX rfl) (by rfl) TX.min (by rfl') (ab (ae 1) (ab (ae 2) af)) (by decide) (by decide) (by rfl) (by rfl)) ge_int)) aq)))) (by rfl) (by first|exact .inl rfl|exact .inr rfl)) (ah (@mZ _ _ _ 5 6 _ _ _ _ _ _ _ _ _ _ _ (by rfl) sc.nd (by rfl) (by rfl) (by decide) (by rfl) (by rfl) (by rfl) (by rfl) (ab (aI (cW (ab (aA (ab ge_int (ab ge_int af))) (ab (aA (ab (ae 1) (ab ge_int af))) (ab (aA (ab (ae 1) (ab (ae 4) af))) (ab (aA (ab ge_int (ab (ae 4) af))) af)))))) (ab (aI (cW (ab (aA (ab ge_int (ab (ae 4) af))) (ab (aA (ab (ae 1) (ab (ae 4) af))) (ab (aA (ab (ae 1) (ab (ae 2) af))) (ab (aA (ab ge_int (ab (ae 2) af))) af)))))) af)) (by rfl) (by rfl)) (iP (f9 (@cX _ _ _ _ _ _ _ _ (dG hr) (au Fa hr (by rfl) (bS 0 (ag ge_int aq))) ge_int (aV _)) (ak (@mZ _ _ _ 5 6 _ _ _ _ _ _ _ _ _ _ _ (by rfl) sc.nd (by rfl) (by rfl) (by decide) (by rfl) (by rfl) (by rfl) (by rfl) (ab (aI (cW (ab (aA (ab ge_int (ab ge_int af))) (ab (aA (ab (ae 4) (ab ge_int af))) (ab (aA (ab ge_int (ab (ae 4) af))) af))))) (ab (aI (cW (ab (aA (ab (ae 4) (ab ge_int af))) (ab (aA (ab (ae 1) (ab ge_int af))) (ab (aA (ab (ae 1) (ab (ae 2) af))) (ab (aA (ab ge_int (ab (ae 2) af))) (ab (aA (ab ge_int (ab (ae 4) af))) af))))))) af)) (by rfl) (by rfl))) (@b9 _ _)) (ah (@aF _ _ _ _ _ 7 _ _ sc.nd (by rfl) (b_ rfl) (by rfl) (aI (@av _ _ _ _ _ _ _ _ _ mC (by rfl) TX.sorted (by rfl') (ab (ai aB (au AT hr (by rfl) (ag (ae 5) aq)) (au AT hr (by rfl) (ag (ae 6) aq))) af) (by decide) (by decide) (by rfl) (by rfl))) (by rfl) (by first|exact .inl rfl|exact .inr rfl)) (ah (f9 (@gY _ _ _ (@AW _ _ _ (@ui _ _ _ _ _ _ _ (iI (@fy _ _ _ (au Ch hr (by rfl) (ag (ae 7) (ag (au AT hr (by rfl) (ag (ae 3) aq)) aq))) (by intro _;rfl))) (@qD _ _ _ _ (iI (@fy _ _ _ (au Ch hr (by rfl) (ag (au Cl hr (by rfl) (ag (ae 3) (ag (cW (ab (ae 5) af)) aq))) (ag (au AT hr (by rfl) (ag (ae 6) aq)) aq))) (by intro _;rfl))))))) (ak (aH (@iV _ _ _ _))) (@b9 _ _)) (ak (aH (aI (@BC _ _ _ _ _ _ _ _ _ _ _ _ (dG hr) (dG hr) (ai aB (au FB hr (by rfl) (ag (ae 5) aq)) (au FB hr (by rfl) (ag (ae 6) aq))) (au FB hr (by rfl) (ag (ae 3) aq)) (ai eW (ai eW ge_int (ae 1)) (ae 2)) (by with_unfolding_all rfl)))))))))))),λts kk hl hp=>?_⟩;clear hl;obtain⟨c,n,rfl,hn,q⟩:=hp;nofun;walk_at "take";intro w' c1 w0 w1;nofun;walk_at "take";intro h' c2 h0 h1;nofun;refine⟨c2,n+1+1,_,rfl,by lia,by lia,by lia,?_⟩;intro a' c3 a0 a1;nofun;refine kg (λenv=>∃(c4:Cells) (ps os:List Pt),Cutd (4+w') (4+h') ps os/\env=[stT c4 (n+4),.int (4+w'),.int (4+h'),.lst true ((nT (4+w') (4+h')).map ptP),.int (1+a'),.lst true (ps.map ptP),.lst true (os.map ptP),.any]) ?_ ?_
 ·nofun;walk_at "take";intro y c4 y0 y1;nofun;refine cg (λg=>?_) (λg=>?_)
  ·nofun;exact⟨c4,_,_,L4 (a:=1+a') (by lia) (by lia) (by lia) (by lia) (by lia),rfl⟩
  nofun;exact⟨c4,_,_,L7 (a:=1+a') (by lia) (by lia) (by lia) (by lia) (by lia),rfl⟩
 rintro _ ⟨c4,ps,os,hc,rfl⟩;generalize hW:4+w'=W at *;generalize hH:4+h'=H at *;have bW:0<W/\W<=50:=by lia
 have bH:0<H/\H<=50:=by lia
 have bb:bdL 300 (nT W H):=⟨⟨⟨by dsimp only;lia,by dsimp only;lia⟩,by dsimp only;lia,by dsimp only;lia⟩,⟨⟨by dsimp only;lia,by dsimp only;lia⟩,by dsimp only;lia,by dsimp only;lia⟩,⟨⟨by dsimp only;lia,by dsimp only;lia⟩,by dsimp only;lia,by dsimp only;lia⟩,⟨⟨by dsimp only;lia,by dsimp only;lia⟩,by dsimp only;lia,by dsimp only;lia⟩,trivial⟩;have cb:=Hk bW.1 bH.1;nofun;refine⟨_,ps,rfl,hc.n1.1,hc.n1.2,oj hc.b1 (by decide),hc.c1,λq1 w1 l1=>?_⟩;have l1:=l1 hc.b1;nofun;refine⟨_,os,rfl,hc.n2.1,hc.n2.2,oj hc.b2 (by decide),hc.c2,λq2 w2 l2=>?_⟩;have l2:=l2 hc.b2;nofun;refine⟨by lia,zo (o:=true) (kB (q1++q2)) (by rw[jZ,m_]) (Ab _) ⟨Aw,?_⟩⟩;rw[Gm];refine⟨rfl,false,nT W H,rfl,B_ rfl,B_ rfl,bb,cb,λqb wb _=>?_⟩;have nd:=Ip hc w1 w2;have mem:=FX hc wb w1 w2;have lb:=DH nd wb.up mem;rw[c_]at lb;rw[DU nd wb.up mem,jZ];nofun;refine .inr (.inr ⟨_,_,kB qb,by decide,by rw[jZ],by rw[rW];lia,yI,λ_ _=>?_⟩);nofun;refine⟨_,_,false,nT W H,[ps],rfl,B_ rfl,B_ rfl,bb,cb,B_ rfl,λr m=>?_,λrb vb _=>?_⟩
 ·rw[x_.mp m];exact⟨hc.n1.2,pU hc.b1 (by decide)⟩
 rw[An vb wb,Ey hc wb w2];nofun;refine⟨_,os,rfl,hc.n2.1,hc.n2.2,oj hc.b2 (by decide),hc.c2,λq3 w3 l3=>?_⟩;rw[An w3 w2];nofun;refine .inr (.inr ⟨_,_,kB q2,by decide,by rw[jZ],by rw[rW];lia,yI,λ_ _=>?_⟩);nofun;refine⟨_,ps,rfl,hc.n1.2,pU hc.b1 (by decide),?_⟩;nofun;refine⟨_,os,rfl,hc.n2.2,pU hc.b2 (by decide),?_⟩;nofun;refine⟨_,nT W H,rfl,B_ rfl,pU bb (by decide),?_⟩;nofun;refine cg (λ_=>?_) (λg=>absurd hc.a g);nofun;rw[show decide (((cZ (nT W H)).natAbs:Int)=2*W*H)=true from decide_eq_true (by rw[A0,Int.mul_assoc];have:=NG bW.1 bH.1;lia)]
 exact⟨.inl ⟨by decide,by decide⟩,.inr ⟨by lia,by lia⟩,q c4 (n+4) (by lia) (by lia)⟩
theorem BD:FnScope ["_law_script","_law_state","_law_turn"] ["_law_script"] (ay kW):=⟨rfl,rfl,rfl,by rfl',rfl,by rfl',by rfl'⟩
theorem IG(F:Fun K "law" "law" kW f fd)(TX:Txt mg)  (pp:Cal P w K mg base 1 "_law_begin" ["_law_script"] (aG K 1 (vV K)))(on:Cal P w K mg base 4 "_law_any_outline" ["_law_state"] (aG K 1 mF))(xz:Cal P w K mg base 8 "_law_one_right" ["_law_state","_law_corners"] (aG K 2 pG))(sn:Cal P w K mg base 7 "_law_cut_right" ["_law_state"] (aG K 1 pC)):FnOk P w K mg base CX0 9 f fd ["_law_script"] (aG K 1 (CI K)):=by
 refine cC F BD [true] rfl (λcdv A outer s H E hr=>?_);have sc:=@BD;refine⟨_,(iP (@aF _ _ _ _ _ 1 _ _ sc.nd (by rfl) (b_ rfl) (by rfl) (aI (au pp hr (by rfl) (ag (ae 0) aq))) (by rfl) (by first|exact .inl rfl|exact .inr rfl)) (ah (@jX _ _ _ _ _ _ _ _ _ T3 (by rfl) (@jF _ _ _ _ _ _ (by rfl) TX.range (ab ge_int af) (by rfl)) (@ax _ _ _ 2 _ sc.nd (by rfl) (b_ rfl) (by rfl) (by first|exact .inl rfl|exact .inr rfl)) (ak (f9 (iI (@fy _ _ _ (au xz hr (by rfl) (bS 1 (ag (au on hr (by rfl) (bS 1 aq)) aq))) (by intro _;rfl))) (ak (aH (@iV _ _ _ _))) (@b9 _ _))) (by intro _;rfl)) (ak (aH (@gZ _ _ _ _ _ _ _ (au sn hr (by rfl) (bS 1 aq)) (@kR _ _ _ _ _ (au sn hr (by rfl) (bS 1 aq)))))))),λts kk hl hp=>?_⟩;clear hl;obtain⟨t,ns,rfl,hs,hn,q⟩:=hp;refine kg (λenv=>∃z c,env=[z,stT c 0,.any]) ?_ ?_
 ·nofun;obtain⟨e,i⟩:=JQ hs;rw[e];exact⟨i,t,ns,rfl,hs,hn,λc=>⟨E8,_,c,rfl⟩⟩
 rintro _ ⟨z,c,rfl⟩;nofun;refine⟨by decide,iM (λi env=>∃(c:Cells) (n:Nat) (z2:T),n<=400*i/\env=[z,stT c n,z2]) ⟨c,0,_,by lia,rfl⟩ ?_ ?_⟩
 ·rintro i t _ ⟨c,n,z2,hn,rfl⟩ ei;have hi:i<2:=kU ei;nofun;refine⟨c,n,rfl,by lia,λc1 n1 o ps l1 l2 p0 p1 pb pg=>?_⟩;nofun;refine⟨c1,n1,o,ps,rfl,by lia,p0,p1,pb,pg,λc2 n2 z3 m1 m2=>?_⟩;nofun;exact⟨c2,n2,_,by lia,rfl⟩
 rintro _ ⟨c,n,z2,hn,rfl⟩;rw[gP]at hn;have hn:n<=800:=hn;nofun;refine⟨c,n,rfl,by lia,λc1 n1 m1 m2=>?_⟩;nofun;refine⟨c1,n1,rfl,by lia,λc2 n2 m3 m4=>?_⟩;nofun;exact q _
end
variable {α:Type}
theorem ar0{P:List α->Prop}(h:P []):∀us:List α,us.length=0->P us:=λus e=>by
 cases us with
 |nil=>exact h
 |cons a r=>cases e
theorem ar1{P:List α->Prop}(h:∀a0,P [a0]):∀us:List α,us.length=1->P us:=λus e=>by
 cases us with
 |nil=>cases e
 |cons a0 r=>exact ar0 (P:=λr=>P (a0::r)) (h a0) r (NQ e)
theorem ar2{P:List α->Prop}(h:∀a0 a1,P [a0,a1]):∀us:List α,us.length=2->P us:=λus e=>by
 cases us with
 |nil=>cases e
 |cons a0 r=>exact ar1 (P:=λr=>P (a0::r)) (h a0) r (NQ e)
theorem ar3{P:List α->Prop}(h:∀a0 a1 a2,P [a0,a1,a2]):∀us:List α,us.length=3->P us:=λus e=>by
 cases us with
 |nil=>cases e
 |cons a0 r=>exact ar2 (P:=λr=>P (a0::r)) (h a0) r (NQ e)
theorem ar4{P:List α->Prop}(h:∀a0 a1 a2 a3,P [a0,a1,a2,a3]):∀us:List α,us.length=4->P us:=λus e=>by
 cases us with
 |nil=>cases e
 |cons a0 r=>exact ar3 (P:=λr=>P (a0::r)) (h a0) r (NQ e)
theorem ar5{P:List α->Prop}(h:∀a0 a1 a2 a3 a4,P [a0,a1,a2,a3,a4]):∀us:List α,us.length=5->P us:=λus e=>by
 cases us with
 |nil=>cases e
 |cons a0 r=>exact ar4 (P:=λr=>P (a0::r)) (h a0) r (NQ e)
theorem walk{l:Wa}{q:SD}{loose:List Str}{XP:(Str->Option Sl)->SJ->Prop}{YP:SI->SJ->Prop}{d:DefRec}{K:VZ->Sm}(hn:l.most=some 63)(hdf:d.params.defaults=[])
  (hY:∀(w:SI) (h:SJ),YP w h->(K w.params).In h)
  (F:∀(w:SI) (mg:Str->Option Sl) (fa:Sn) (h:SJ),(K w.params).In h->h.Ns Tr mg->mg d.name=some (.ref fa)->
   ∃fd:SR,(∀(s:So) (u:Sl),Wl s fd ⟨[u],[]⟩ [("_law_script",u)])/\∀base:SJ,(K w.params).In base->base.Ns Tr mg->FnOk l.prog w (K w.params) mg base CX0 9 fa fd ["_law_script"] (zJ (K w.params))) :
  X0 q loose XP YP l.row.toRowW d [] (λf vs=>Xo f vs):=
 L2.FF (n:=63) (k:=9) (x:="_law_script") (CX:=λ_=>CX0) (sp:=λw=>zJ (K w.params)) hn (by decide) hdf ⟨rfl,by decide,by decide,rfl⟩ hY F (λ_ _ a ns hl _ hS=>⟨a,ns,rfl,hS,hl,λ_=>rfl⟩) λ_ _ _ _ _ z=>z
noncomputable def kd(P:VZ) (x:Str) (t:Tok) (v:Sl):XS:=⟨PyData.keyHash P x,.str x t,v⟩
def kf(n:Str) (s:S5) (m:Sl) (c:Sn):Obj:=⟨.type "function",none,.func (Ud n n (je s) (iA s) (ay s) .none .none .none m none (.ref c) .none),#[]⟩
def KK(P:VZ):Sm:=[(3,⟨.type "dict",none,.dict #[kd P "__name__" 165 (.str "law_millpath_k16_outlines_moved_and_turned" 410),kd P "__doc__" 166 (.none),kd P "__package__" 167 (.none),kd P "__loader__" 168 (.builtin "__main__.__loader__#opaque"),kd P "__spec__" 169 (.none),kd P "__annotations__" 170 (.ref 6),kd P "__builtins__" 171 (.ref 4),kd P "__file__" 173 (.str "/claim/cut.py" 172),kd P "__cached__" 174 (.none),kd P "STEPS" 211 (.ref 23),kd P "INNER" 220 (.ref 28),kd P "stepped" 230 (.ref 35),kd P "straight" 240 (.ref 42),kd P "inner_point" 248 (.ref 49),kd P "is_number" 257 (.ref 56),kd P "is_row" 264 (.ref 63),kd P "are_numbers" 270 (.ref 68),kd P "is_outline" 278 (.ref 73),kd P "corners_of" 284 (.ref 78),kd P "edges_of" 292 (.ref 85),kd P "goes_straight" 298 (.ref 90),kd P "goes_back" 304 (.ref 95),kd P "is_touching" 310 (.ref 100),kd P "has_common" 318 (.ref 107),kd P "is_overlapping" 327 (.ref 114),kd P "lies_across" 335 (.ref 121),kd P "side_of" 345 (.ref 128),kd P "turning_area" 351 (.ref 133),kd P "twice_area" 358 (.ref 140),kd P "goes_left" 365 (.ref 147),kd P "quarters_within" 372 (.ref 154),kd P "shape" 378 (.ref 159),kd P "outside" 384 (.ref 164),kd P "lines_over" 397 (.ref 171),kd P "quarters_between" 403 (.ref 176),kd P "is_between" 409 (.ref 181),kd P "_law_box" 417 (.ref 186),kd P "_law_angled" 423 (.ref 191),kd P "_law_outline" 429 (.ref 196),kd P "_law_begin" 437 (.ref 203),kd P "_law_take" 450 (.ref 210),kd P "_law_same" 456 (.ref 215),kd P "_law_placed_outline" 466 (.ref 222),kd P "_law_refined" 482 (.ref 229),kd P "_law_stairs" 494 (.ref 236),kd P "_law_any_outline" 503 (.ref 243),kd P "_law_alike" 514 (.ref 250),kd P "_law_one_right" 520 (.ref 255),kd P "_law_cut_right" 534 (.ref 262),kd P "law" 543 (.ref 269)] 50,#[]⟩),(35,kf "stepped" oP (.str "millpath.corners" 187) 34),(34,⟨.type "code",none,.fields #[.str "stepped" 221,.str "stepped" 222,.str "/claim/cut.py" 223,.int (4) 0,.int (3) 0,.int (0) 0,.int (0) 0,.int (3) 0,.ref 29,.bool true,.int (181) 0,.ref 30,.none,.ref 31,.ref 32,.ref 33,.int (228) 0,.int (4) 0,.str "/claim/cut.py" 229],#[]⟩),(42,kf "straight" mI (.str "millpath.corners" 187) 41),(41,⟨.type "code",none,.fields #[.str "straight" 231,.str "straight" 232,.str "/claim/cut.py" 233,.int (7) 0,.int (2) 0,.int (0) 0,.int (0) 0,.int (3) 0,.ref 36,.bool true,.int (181) 0,.ref 37,.none,.ref 38,.ref 39,.ref 40,.int (238) 0,.int (7) 0,.str "/claim/cut.py" 239],#[]⟩),(49,kf "inner_point" jo (.str "millpath.corners" 187) 48),(48,⟨.type "code",none,.fields #[.str "inner_point" 241,.str "inner_point" 242,.str "/claim/cut.py" 243,.int (15) 0,.int (1) 0,.int (0) 0,.int (0) 0,.int (3) 0,.ref 43,.bool true,.int (181) 0,.ref 44,.none,.ref 45,.ref 46,.ref 47,.int (246) 0,.int (15) 0,.str "/claim/cut.py" 247],#[]⟩),(56,kf "is_number" kX (.str "millpath.kinds" 249) 55),(55,⟨.type "code",none,.fields #[.str "is_number" 251,.str "is_number" 252,.str "/claim/cut.py" 253,.int (19) 0,.int (1) 0,.int (0) 0,.int (0) 0,.int (3) 0,.ref 50,.bool true,.int (181) 0,.ref 51,.none,.ref 52,.ref 53,.ref 54,.int (255) 0,.int (19) 0,.str "/claim/cut.py" 256],#[]⟩),(63,kf "is_row" sN (.str "millpath.kinds" 249) 62),(62,⟨.type "code",none,.fields #[.str "is_row" 258,.str "is_row" 259,.str "/claim/cut.py" 260,.int (21) 0,.int (1) 0,.int (0) 0,.int (0) 0,.int (3) 0,.ref 57,.bool true,.int (181) 0,.ref 58,.none,.ref 59,.ref 60,.ref 61,.int (262) 0,.int (21) 0,.str "/claim/cut.py" 263],#[]⟩),(68,kf "are_numbers" jn (.str "millpath.kinds" 249) 67),(67,⟨.type "code",none,.fields #[.str "are_numbers" 265,.str "are_numbers" 266,.str "/claim/cut.py" 267,.int (23) 0,.int (2) 0,.int (0) 0,.int (0) 0,.int (3) 0,.ref 64,.bool true,.int (181) 0,.ref 65,.none,.none,.none,.ref 66,.int (268) 0,.int (23) 0,.str "/claim/cut.py" 269],#[]⟩),(73,kf "is_outline" jO (.str "millpath.outlines" 271) 72),(72,⟨.type "code",none,.fields #[.str "is_outline" 273,.str "is_outline" 274,.str "/claim/cut.py" 275,.int (26) 0,.int (1) 0,.int (0) 0,.int (0) 0,.int (3) 0,.ref 69,.bool true,.int (181) 0,.ref 70,.none,.none,.none,.ref 71,.int (276) 0,.int (26) 0,.str "/claim/cut.py" 277],#[]⟩),(78,kf "corners_of" kz (.str "millpath.outlines" 271) 77),(77,⟨.type "code",none,.fields #[.str "corners_of" 279,.str "corners_of" 280,.str "/claim/cut.py" 281,.int (31) 0,.int (1) 0,.int (0) 0,.int (0) 0,.int (3) 0,.ref 74,.bool true,.int (181) 0,.ref 75,.none,.none,.none,.ref 76,.int (282) 0,.int (31) 0,.str "/claim/cut.py" 283],#[]⟩),(85,kf "edges_of" mR (.str "millpath.outlines" 271) 84),(84,⟨.type "code",none,.fields #[.str "edges_of" 285,.str "edges_of" 286,.str "/claim/cut.py" 287,.int (33) 0,.int (1) 0,.int (0) 0,.int (0) 0,.int (3) 0,.ref 79,.bool true,.int (181) 0,.ref 80,.none,.ref 81,.ref 82,.ref 83,.int (290) 0,.int (33) 0,.str "/claim/cut.py" 291],#[]⟩),(90,kf "goes_straight" iH (.str "millpath.outlines" 271) 89),(89,⟨.type "code",none,.fields #[.str "goes_straight" 293,.str "goes_straight" 294,.str "/claim/cut.py" 295,.int (36) 0,.int (1) 0,.int (0) 0,.int (0) 0,.int (3) 0,.ref 86,.bool true,.int (181) 0,.ref 87,.none,.none,.none,.ref 88,.int (296) 0,.int (36) 0,.str "/claim/cut.py" 297],#[]⟩),(95,kf "goes_back" l6 (.str "millpath.outlines" 271) 94),(94,⟨.type "code",none,.fields #[.str "goes_back" 299,.str "goes_back" 300,.str "/claim/cut.py" 301,.int (38) 0,.int (1) 0,.int (0) 0,.int (0) 0,.int (3) 0,.ref 91,.bool true,.int (181) 0,.ref 92,.none,.none,.none,.ref 93,.int (302) 0,.int (38) 0,.str "/claim/cut.py" 303],#[]⟩),(100,kf "is_touching" ji (.str "millpath.outlines" 271) 99),(99,⟨.type "code",none,.fields #[.str "is_touching" 305,.str "is_touching" 306,.str "/claim/cut.py" 307,.int (41) 0,.int (1) 0,.int (0) 0,.int (0) 0,.int (3) 0,.ref 96,.bool true,.int (181) 0,.ref 97,.none,.none,.none,.ref 98,.int (308) 0,.int (41) 0,.str "/claim/cut.py" 309],#[]⟩),(107,kf "has_common" kc (.str "millpath.outlines" 271) 106),(106,⟨.type "code",none,.fields #[.str "has_common" 311,.str "has_common" 312,.str "/claim/cut.py" 313,.int (48) 0,.int (2) 0,.int (0) 0,.int (0) 0,.int (3) 0,.ref 101,.bool true,.int (181) 0,.ref 102,.none,.ref 103,.ref 104,.ref 105,.int (316) 0,.int (48) 0,.str "/claim/cut.py" 317],#[]⟩),(114,kf "is_overlapping" iu (.str "millpath.outlines" 271) 113),(113,⟨.type "code",none,.fields #[.str "is_overlapping" 319,.str "is_overlapping" 320,.str "/claim/cut.py" 321,.int (50) 0,.int (3) 0,.int (0) 0,.int (0) 0,.int (3) 0,.ref 108,.bool true,.int (181) 0,.ref 109,.none,.ref 110,.ref 111,.ref 112,.int (325) 0,.int (50) 0,.str "/claim/cut.py" 326],#[]⟩),(121,kf "lies_across" jl (.str "millpath.outlines" 271) 120),(120,⟨.type "code",none,.fields #[.str "lies_across" 328,.str "lies_across" 329,.str "/claim/cut.py" 330,.int (52) 0,.int (2) 0,.int (0) 0,.int (0) 0,.int (3) 0,.ref 115,.bool true,.int (181) 0,.ref 116,.none,.ref 117,.ref 118,.ref 119,.int (333) 0,.int (52) 0,.str "/claim/cut.py" 334],#[]⟩),(128,kf "side_of" pj (.str "millpath.outlines" 271) 127),(127,⟨.type "code",none,.fields #[.str "side_of" 336,.str "side_of" 337,.str "/claim/cut.py" 338,.int (54) 0,.int (2) 0,.int (0) 0,.int (0) 0,.int (3) 0,.ref 122,.bool true,.int (181) 0,.ref 123,.none,.ref 124,.ref 125,.ref 126,.int (343) 0,.int (54) 0,.str "/claim/cut.py" 344],#[]⟩),(133,kf "turning_area" j7 (.str "millpath.outlines" 271) 132),(132,⟨.type "code",none,.fields #[.str "turning_area" 346,.str "turning_area" 347,.str "/claim/cut.py" 348,.int (58) 0,.int (1) 0,.int (0) 0,.int (0) 0,.int (3) 0,.ref 129,.bool true,.int (181) 0,.ref 130,.none,.none,.none,.ref 131,.int (349) 0,.int (58) 0,.str "/claim/cut.py" 350],#[]⟩),(140,kf "twice_area" kh (.str "millpath.outlines" 271) 139),(139,⟨.type "code",none,.fields #[.str "twice_area" 352,.str "twice_area" 353,.str "/claim/cut.py" 354,.int (60) 0,.int (1) 0,.int (0) 0,.int (0) 0,.int (3) 0,.ref 134,.bool true,.int (181) 0,.ref 135,.none,.ref 136,.ref 137,.ref 138,.int (356) 0,.int (60) 0,.str "/claim/cut.py" 357],#[]⟩),(147,kf "goes_left" lh (.str "millpath.outlines" 271) 146),(146,⟨.type "code",none,.fields #[.str "goes_left" 359,.str "goes_left" 360,.str "/claim/cut.py" 361,.int (62) 0,.int (1) 0,.int (0) 0,.int (0) 0,.int (3) 0,.ref 141,.bool true,.int (181) 0,.ref 142,.none,.ref 143,.ref 144,.ref 145,.int (363) 0,.int (62) 0,.str "/claim/cut.py" 364],#[]⟩),(154,kf "quarters_within" hZ (.str "millpath.outlines" 271) 153),(153,⟨.type "code",none,.fields #[.str "quarters_within" 366,.str "quarters_within" 367,.str "/claim/cut.py" 368,.int (64) 0,.int (1) 0,.int (0) 0,.int (0) 0,.int (3) 0,.ref 148,.bool true,.int (181) 0,.ref 149,.none,.ref 150,.ref 151,.ref 152,.int (370) 0,.int (64) 0,.str "/claim/cut.py" 371],#[]⟩),(159,kf "shape" uH (.str "millpath.outlines" 271) 158),(158,⟨.type "code",none,.fields #[.str "shape" 373,.str "shape" 374,.str "/claim/cut.py" 375,.int (66) 0,.int (2) 0,.int (0) 0,.int (0) 0,.int (3) 0,.ref 155,.bool true,.int (181) 0,.ref 156,.none,.none,.none,.ref 157,.int (376) 0,.int (66) 0,.str "/claim/cut.py" 377],#[]⟩),(164,kf "outside" ox (.str "millpath.outlines" 271) 163),(163,⟨.type "code",none,.fields #[.str "outside" 379,.str "outside" 380,.str "/claim/cut.py" 381,.int (71) 0,.int (2) 0,.int (0) 0,.int (0) 0,.int (3) 0,.ref 160,.bool true,.int (181) 0,.ref 161,.none,.none,.none,.ref 162,.int (382) 0,.int (71) 0,.str "/claim/cut.py" 383],#[]⟩),(171,kf "lines_over" jN (.str "millpath.outlines" 271) 170),(170,⟨.type "code",none,.fields #[.str "lines_over" 385,.str "lines_over" 386,.str "/claim/cut.py" 387,.int (81) 0,.int (2) 0,.int (0) 0,.int (0) 0,.int (3) 0,.ref 165,.bool true,.int (181) 0,.ref 166,.none,.ref 167,.ref 168,.ref 169,.int (395) 0,.int (81) 0,.str "/claim/cut.py" 396],#[]⟩),(176,kf "quarters_between" gS (.str "millpath.outlines" 271) 175),(175,⟨.type "code",none,.fields #[.str "quarters_between" 398,.str "quarters_between" 399,.str "/claim/cut.py" 400,.int (90) 0,.int (2) 0,.int (0) 0,.int (0) 0,.int (3) 0,.ref 172,.bool true,.int (181) 0,.ref 173,.none,.none,.none,.ref 174,.int (401) 0,.int (90) 0,.str "/claim/cut.py" 402],#[]⟩),(181,kf "is_between" jK (.str "millpath.outlines" 271) 180),(180,⟨.type "code",none,.fields #[.str "is_between" 404,.str "is_between" 405,.str "/claim/cut.py" 406,.int (97) 0,.int (2) 0,.int (0) 0,.int (0) 0,.int (3) 0,.ref 177,.bool true,.int (181) 0,.ref 178,.none,.none,.none,.ref 179,.int (407) 0,.int (97) 0,.str "/claim/cut.py" 408],#[]⟩),(186,kf "_law_box" DC (.str "law_millpath_k16_outlines_moved_and_turned" 410) 185),(185,⟨.type "code",none,.fields #[.str "_law_box" 412,.str "_law_box" 413,.str "/claim/cut.py" 414,.int (102) 0,.int (5) 0,.int (0) 0,.int (0) 0,.int (3) 0,.ref 182,.bool true,.int (181) 0,.ref 183,.none,.none,.none,.ref 184,.int (415) 0,.int (102) 0,.str "/claim/cut.py" 416],#[]⟩),(191,kf "_law_angled" qU (.str "law_millpath_k16_outlines_moved_and_turned" 410) 190),(190,⟨.type "code",none,.fields #[.str "_law_angled" 418,.str "_law_angled" 419,.str "/claim/cut.py" 420,.int (107) 0,.int (5) 0,.int (0) 0,.int (0) 0,.int (3) 0,.ref 187,.bool true,.int (181) 0,.ref 188,.none,.none,.none,.ref 189,.int (421) 0,.int (107) 0,.str "/claim/cut.py" 422],#[]⟩),(196,kf "_law_outline" oJ (.str "law_millpath_k16_outlines_moved_and_turned" 410) 195),(195,⟨.type "code",none,.fields #[.str "_law_outline" 424,.str "_law_outline" 425,.str "/claim/cut.py" 426,.int (118) 0,.int (5) 0,.int (0) 0,.int (0) 0,.int (3) 0,.ref 192,.bool true,.int (181) 0,.ref 193,.none,.none,.none,.ref 194,.int (427) 0,.int (118) 0,.str "/claim/cut.py" 428],#[]⟩),(203,kf "_law_begin" qt (.str "law_millpath_k16_outlines_moved_and_turned" 410) 202),(202,⟨.type "code",none,.fields #[.str "_law_begin" 430,.str "_law_begin" 431,.str "/claim/cut.py" 432,.int (133) 0,.int (1) 0,.int (0) 0,.int (0) 0,.int (3) 0,.ref 197,.bool true,.int (181) 0,.ref 198,.none,.ref 199,.ref 200,.ref 201,.int (435) 0,.int (133) 0,.str "/claim/cut.py" 436],#[]⟩),(210,kf "_law_take" vi (.str "law_millpath_k16_outlines_moved_and_turned" 410) 209),(209,⟨.type "code",none,.fields #[.str "_law_take" 438,.str "_law_take" 439,.str "/claim/cut.py" 440,.int (138) 0,.int (2) 0,.int (0) 0,.int (0) 0,.int (3) 0,.ref 204,.bool true,.int (181) 0,.ref 205,.none,.ref 206,.ref 207,.ref 208,.int (448) 0,.int (138) 0,.str "/claim/cut.py" 449],#[]⟩),(215,kf "_law_same" s_same (.str "law_millpath_k16_outlines_moved_and_turned" 410) 214),(214,⟨.type "code",none,.fields #[.str "_law_same" 451,.str "_law_same" 452,.str "/claim/cut.py" 453,.int (149) 0,.int (2) 0,.int (0) 0,.int (0) 0,.int (3) 0,.ref 211,.bool true,.int (181) 0,.ref 212,.none,.none,.none,.ref 213,.int (454) 0,.int (149) 0,.str "/claim/cut.py" 455],#[]⟩),(222,kf "_law_placed_outline" iq (.str "law_millpath_k16_outlines_moved_and_turned" 410) 221),(221,⟨.type "code",none,.fields #[.str "_law_placed_outline" 457,.str "_law_placed_outline" 458,.str "/claim/cut.py" 459,.int (165) 0,.int (1) 0,.int (0) 0,.int (0) 0,.int (3) 0,.ref 216,.bool true,.int (181) 0,.ref 217,.none,.ref 218,.ref 219,.ref 220,.int (464) 0,.int (165) 0,.str "/claim/cut.py" 465],#[]⟩),(229,kf "_law_refined" oQ (.str "law_millpath_k16_outlines_moved_and_turned" 410) 228),(228,⟨.type "code",none,.fields #[.str "_law_refined" 467,.str "_law_refined" 468,.str "/claim/cut.py" 469,.int (169) 0,.int (2) 0,.int (0) 0,.int (0) 0,.int (3) 0,.ref 223,.bool true,.int (181) 0,.ref 224,.none,.ref 225,.ref 226,.ref 227,.int (480) 0,.int (169) 0,.str "/claim/cut.py" 481],#[]⟩),(236,kf "_law_stairs" sh (.str "law_millpath_k16_outlines_moved_and_turned" 410) 235),(235,⟨.type "code",none,.fields #[.str "_law_stairs" 483,.str "_law_stairs" 484,.str "/claim/cut.py" 485,.int (180) 0,.int (1) 0,.int (0) 0,.int (0) 0,.int (3) 0,.ref 230,.bool true,.int (181) 0,.ref 231,.none,.ref 232,.ref 233,.ref 234,.int (492) 0,.int (180) 0,.str "/claim/cut.py" 493],#[]⟩),(243,kf "_law_any_outline" jm (.str "law_millpath_k16_outlines_moved_and_turned" 410) 242),(242,⟨.type "code",none,.fields #[.str "_law_any_outline" 495,.str "_law_any_outline" 496,.str "/claim/cut.py" 497,.int (188) 0,.int (1) 0,.int (0) 0,.int (0) 0,.int (3) 0,.ref 237,.bool true,.int (181) 0,.ref 238,.none,.ref 239,.ref 240,.ref 241,.int (501) 0,.int (188) 0,.str "/claim/cut.py" 502],#[]⟩),(250,kf "_law_alike" uY (.str "law_millpath_k16_outlines_moved_and_turned" 410) 249),(249,⟨.type "code",none,.fields #[.str "_law_alike" 504,.str "_law_alike" 505,.str "/claim/cut.py" 506,.int (192) 0,.int (4) 0,.int (0) 0,.int (0) 0,.int (3) 0,.ref 244,.bool true,.int (181) 0,.ref 245,.none,.ref 246,.ref 247,.ref 248,.int (512) 0,.int (192) 0,.str "/claim/cut.py" 513],#[]⟩),(255,kf "_law_one_right" lj (.str "law_millpath_k16_outlines_moved_and_turned" 410) 254),(254,⟨.type "code",none,.fields #[.str "_law_one_right" 515,.str "_law_one_right" 516,.str "/claim/cut.py" 517,.int (197) 0,.int (2) 0,.int (0) 0,.int (0) 0,.int (3) 0,.ref 251,.bool true,.int (181) 0,.ref 252,.none,.none,.none,.ref 253,.int (518) 0,.int (197) 0,.str "/claim/cut.py" 519],#[]⟩),(262,kf "_law_cut_right" kL (.str "law_millpath_k16_outlines_moved_and_turned" 410) 261),(261,⟨.type "code",none,.fields #[.str "_law_cut_right" 521,.str "_law_cut_right" 522,.str "/claim/cut.py" 523,.int (216) 0,.int (1) 0,.int (0) 0,.int (0) 0,.int (3) 0,.ref 256,.bool true,.int (181) 0,.ref 257,.none,.ref 258,.ref 259,.ref 260,.int (532) 0,.int (216) 0,.str "/claim/cut.py" 533],#[]⟩),(269,kf "law" kW (.str "law_millpath_k16_outlines_moved_and_turned" 410) 268),(268,⟨.type "code",none,.fields #[.str "law" 535,.str "law" 536,.str "/claim/cut.py" 537,.int (227) 0,.int (1) 0,.int (0) 0,.int (0) 0,.int (3) 0,.ref 263,.bool true,.int (181) 0,.ref 264,.none,.ref 265,.ref 266,.ref 267,.int (541) 0,.int (227) 0,.str "/claim/cut.py" 542],#[]⟩),(23,⟨.type "tuple",none,.seq #[.ref 15,.ref 16,.ref 17,.ref 18,.ref 19,.ref 20,.ref 21,.ref 22] 0,#[]⟩),(15,⟨.type "tuple",none,.seq #[.int (1) 189,.int (0) 190] 0,#[]⟩),(16,⟨.type "tuple",none,.seq #[.int (1) 191,.int (1) 192] 0,#[]⟩),(17,⟨.type "tuple",none,.seq #[.int (0) 193,.int (1) 194] 0,#[]⟩),(18,⟨.type "tuple",none,.seq #[.int (-1) 196,.int (1) 197] 0,#[]⟩),(19,⟨.type "tuple",none,.seq #[.int (-1) 199,.int (0) 200] 0,#[]⟩),(20,⟨.type "tuple",none,.seq #[.int (-1) 202,.int (-1) 204] 0,#[]⟩),(21,⟨.type "tuple",none,.seq #[.int (0) 205,.int (-1) 207] 0,#[]⟩),(22,⟨.type "tuple",none,.seq #[.int (1) 208,.int (-1) 210] 0,#[]⟩),(28,⟨.type "tuple",none,.seq #[.ref 24,.ref 25,.ref 26,.ref 27] 0,#[]⟩),(24,⟨.type "tuple",none,.seq #[.int (3) 212,.int (2) 213] 0,#[]⟩),(25,⟨.type "tuple",none,.seq #[.int (2) 214,.int (3) 215] 0,#[]⟩),(26,⟨.type "tuple",none,.seq #[.int (1) 216,.int (2) 217] 0,#[]⟩),(27,⟨.type "tuple",none,.seq #[.int (2) 218,.int (1) 219] 0,#[]⟩)]
noncomputable def kas:List Sn:=[3,35,34,42,41,49,48,56,55,63,62,68,67,73,72,78,77,85,84,90,89,95,94,100,99,107,106,114,113,121,120,128,127,133,132,140,139,147,146,154,153,159,158,164,163,171,170,176,175,181,180,186,185,191,190,196,195,203,202,210,209,215,214,222,221,229,228,236,235,243,242,250,249,255,254,262,261,269,268,23,15,16,17,18,19,20,21,22,28,24,25,26,27]
theorem yo(P:VZ):kas=(KK P).map (·.1):=by kernel_rfl
noncomputable def VW:SD:=PySem.W.view PySem.Challenge.pw_millpath_k16_outlines_moved_and_turned [1,2,3,4,5,7,8,9,11,12,13,14,15,16,17,18,19,20,21,22,23,24,25,26,27,28,29,31,32,33,34,35,36,37,38,39,40,41,42,43,44]
noncomputable def Jk(s:S5):Pos:=match s with
 | .FunctionDef _ _ _ _ _ _ _ _ _ p=>p
 | _=>⟨0,0,0,0⟩
variable {mg:Str->Option Sl}
theorem dfn{h:SJ}{P:VZ}{x:Str}{st:S5}{ps:List Str}(X:(KK P).In h)(G:h.Ns Tr mg)(f c:Sn)(m:Sl)(l:(KK P).lookup f=some (kf x st m c):=by kernel_rfl)(a:Vp (KK P) Tr x=some (some (.ref f)):=by kernel_rfl)(cd:Vq (KK P) (.ref c) x=true:=by kernel_rfl)(kp:U3 (KK P) (.ref f)=true:=by kernel_rfl)
  (hb:∀(kV doc pm:Sl) (an:Option Sn) (cdv ct:Sl) (us:List Sl),us.length=ps.length->X9 (Ud x x (je st) (iA st) (ay st) .none kV doc pm an cdv ct) ⟨us,[]⟩=pure (ps.zip us):=by intro _ _ _ _ _ _ us;revert us;first|(apply ar1;intros;rfl)|(apply ar2;intros;rfl)|(apply ar3;intros;rfl)|(apply ar4;intros;rfl)|(apply ar5;intros;rfl)):Dfn (KK P) mg x st ps:=⟨f,_,xX (st:=st) l cd kp,VN X G a,(xX (st:=st) l cd kp).binds hb⟩
noncomputable def mo0:Sl:=.str "millpath.corners" 187
noncomputable def mo1:Sl:=.str "millpath.kinds" 249
noncomputable def mo2:Sl:=.str "millpath.outlines" 271
noncomputable def mo3:Sl:=.str "law_millpath_k16_outlines_moved_and_turned" 410
set_option maxHeartbeats 0 in
theorem all_mk{l:Wa}{w:SI}{h:SJ}{fa:Sn}(X:(KK w.params).In h)(G:h.Ns Tr mg)(hfa:mg "law"=some (.ref fa)):∃fd:SR,(∀(s:So) (v:Sl),Wl s fd ⟨[v],[]⟩ [("_law_script",v)])/\∀base:SJ,(KK w.params).In base->base.Ns Tr mg->FnOk l.prog w (KK w.params) mg base CX0 9 fa fd ["_law_script"] (zJ (KK w.params)):=by
 have e:=hfa.symm.trans (VN X G (show Vp (KK w.params) Tr "law"=some (some (.ref 269)) by kernel_rfl));cases e;have z:∀{x:Str},Vp (KK w.params) Tr x=some none->mg x=none:=λh=>PySem.W.mg_none_of X G h;have T:Txt mg:=⟨z (by kernel_rfl),z (by kernel_rfl),z (by kernel_rfl),z (by kernel_rfl),z (by kernel_rfl),z (by kernel_rfl),z (by kernel_rfl),z (by kernel_rfl),z (by kernel_rfl),z (by kernel_rfl),z (by kernel_rfl),z (by kernel_rfl),z (by kernel_rfl),z (by kernel_rfl),z (by kernel_rfl),z (by kernel_rfl),z (by kernel_rfl),z (by kernel_rfl),z (by kernel_rfl),z (by kernel_rfl),z (by kernel_rfl)⟩;have F:=xX (st:=kW) (K:=KK w.params) (x:="law") (qual:="law") (f:=269) (oc:=.type "function") (od:=none) (an:=none) (osl:=#[]) (kV:=.none) (doc:=.none) (pm:=mo3) (cdv:=.ref 268) (ct:=.none) (by kernel_rfl) (by kernel_rfl) (by kernel_rfl);refine⟨Ud "law" "law" (je kW) (iA kW) (ay kW) .none .none .none mo3 none (.ref 268) .none,λs v=>.of_eq rfl,λbase _ _=>?_⟩;have cl1:(KK w.params).lookup 23=some ⟨.type "tuple",none,.seq #[.ref 15,.ref 16,.ref 17,.ref 18,.ref 19,.ref 20,.ref 21,.ref 22] 0,#[]⟩:=by kernel_rfl
 have cl2:(KK w.params).lookup 15=some ⟨.type "tuple",none,.seq #[.int (1) 189,.int (0) 190] 0,#[]⟩:=by kernel_rfl
 have cl3:(KK w.params).lookup 16=some ⟨.type "tuple",none,.seq #[.int (1) 191,.int (1) 192] 0,#[]⟩:=by kernel_rfl
 have cl4:(KK w.params).lookup 17=some ⟨.type "tuple",none,.seq #[.int (0) 193,.int (1) 194] 0,#[]⟩:=by kernel_rfl
 have cl5:(KK w.params).lookup 18=some ⟨.type "tuple",none,.seq #[.int (-1) 196,.int (1) 197] 0,#[]⟩:=by kernel_rfl
 have cl6:(KK w.params).lookup 19=some ⟨.type "tuple",none,.seq #[.int (-1) 199,.int (0) 200] 0,#[]⟩:=by kernel_rfl
 have cl7:(KK w.params).lookup 20=some ⟨.type "tuple",none,.seq #[.int (-1) 202,.int (-1) 204] 0,#[]⟩:=by kernel_rfl
 have cl8:(KK w.params).lookup 21=some ⟨.type "tuple",none,.seq #[.int (0) 205,.int (-1) 207] 0,#[]⟩:=by kernel_rfl
 have cl9:(KK w.params).lookup 22=some ⟨.type "tuple",none,.seq #[.int (1) 208,.int (-1) 210] 0,#[]⟩:=by kernel_rfl
 have cl10:(KK w.params).lookup 28=some ⟨.type "tuple",none,.seq #[.ref 24,.ref 25,.ref 26,.ref 27] 0,#[]⟩:=by kernel_rfl
 have cl11:(KK w.params).lookup 24=some ⟨.type "tuple",none,.seq #[.int (3) 212,.int (2) 213] 0,#[]⟩:=by kernel_rfl
 have cl12:(KK w.params).lookup 25=some ⟨.type "tuple",none,.seq #[.int (2) 214,.int (3) 215] 0,#[]⟩:=by kernel_rfl
 have cl13:(KK w.params).lookup 26=some ⟨.type "tuple",none,.seq #[.int (1) 216,.int (2) 217] 0,#[]⟩:=by kernel_rfl
 have cl14:(KK w.params).lookup 27=some ⟨.type "tuple",none,.seq #[.int (2) 218,.int (1) 219] 0,#[]⟩:=by kernel_rfl
 have gt_STEPS:Vp (KK w.params) Tr "STEPS"=some (some (.ref 23)):=by kernel_rfl
 have gt_INNER:Vp (KK w.params) Tr "INNER"=some (some (.ref 28)):=by kernel_rfl
 have C_STEPS:Glb (KK w.params) mg "STEPS" uJ:=⟨.ref 23,_,VN X G gt_STEPS,rfl,λ_ _=>(.cst (.inr ⟨_,_,0,cl1,rfl,rfl,(by show 8<=sizeLine;decide),(.cons (show RelV (.ref 15) (.ref 15)from rfl) (.cons (show RelV (.ref 16) (.ref 16)from rfl) (.cons (show RelV (.ref 17) (.ref 17)from rfl) (.cons (show RelV (.ref 18) (.ref 18)from rfl) (.cons (show RelV (.ref 19) (.ref 19)from rfl) (.cons (show RelV (.ref 20) (.ref 20)from rfl) (.cons (show RelV (.ref 21) (.ref 21)from rfl) (.cons (show RelV (.ref 22) (.ref 22)from rfl) .nil))))))))⟩) (.cons rfl (.cst (.inr ⟨_,_,0,cl2,rfl,rfl,(by show 2<=sizeLine;decide),(.cons (show RelV (.int (1)) (.int (1) 189)from⟨_,rfl⟩) (.cons (show RelV (.int (0)) (.int (0) 190)from⟨_,rfl⟩) .nil))⟩) (.cons rfl .int (.cons rfl .int .nil))) (.cons rfl (.cst (.inr ⟨_,_,0,cl3,rfl,rfl,(by show 2<=sizeLine;decide),(.cons (show RelV (.int (1)) (.int (1) 191)from⟨_,rfl⟩) (.cons (show RelV (.int (1)) (.int (1) 192)from⟨_,rfl⟩) .nil))⟩) (.cons rfl .int (.cons rfl .int .nil))) (.cons rfl (.cst (.inr ⟨_,_,0,cl4,rfl,rfl,(by show 2<=sizeLine;decide),(.cons (show RelV (.int (0)) (.int (0) 193)from⟨_,rfl⟩) (.cons (show RelV (.int (1)) (.int (1) 194)from⟨_,rfl⟩) .nil))⟩) (.cons rfl .int (.cons rfl .int .nil))) (.cons rfl (.cst (.inr ⟨_,_,0,cl5,rfl,rfl,(by show 2<=sizeLine;decide),(.cons (show RelV (.int (-1)) (.int (-1) 196)from⟨_,rfl⟩) (.cons (show RelV (.int (1)) (.int (1) 197)from⟨_,rfl⟩) .nil))⟩) (.cons rfl .int (.cons rfl .int .nil))) (.cons rfl (.cst (.inr ⟨_,_,0,cl6,rfl,rfl,(by show 2<=sizeLine;decide),(.cons (show RelV (.int (-1)) (.int (-1) 199)from⟨_,rfl⟩) (.cons (show RelV (.int (0)) (.int (0) 200)from⟨_,rfl⟩) .nil))⟩) (.cons rfl .int (.cons rfl .int .nil))) (.cons rfl (.cst (.inr ⟨_,_,0,cl7,rfl,rfl,(by show 2<=sizeLine;decide),(.cons (show RelV (.int (-1)) (.int (-1) 202)from⟨_,rfl⟩) (.cons (show RelV (.int (-1)) (.int (-1) 204)from⟨_,rfl⟩) .nil))⟩) (.cons rfl .int (.cons rfl .int .nil))) (.cons rfl (.cst (.inr ⟨_,_,0,cl8,rfl,rfl,(by show 2<=sizeLine;decide),(.cons (show RelV (.int (0)) (.int (0) 205)from⟨_,rfl⟩) (.cons (show RelV (.int (-1)) (.int (-1) 207)from⟨_,rfl⟩) .nil))⟩) (.cons rfl .int (.cons rfl .int .nil))) (.cons rfl (.cst (.inr ⟨_,_,0,cl9,rfl,rfl,(by show 2<=sizeLine;decide),(.cons (show RelV (.int (1)) (.int (1) 208)from⟨_,rfl⟩) (.cons (show RelV (.int (-1)) (.int (-1) 210)from⟨_,rfl⟩) .nil))⟩) (.cons rfl .int (.cons rfl .int .nil))) .nil)))))))))⟩;have C_INNER:Glb (KK w.params) mg "INNER" zj:=⟨.ref 28,_,VN X G gt_INNER,rfl,λ_ _=>(.cst (.inr ⟨_,_,0,cl10,rfl,rfl,(by show 4<=sizeLine;decide),(.cons (show RelV (.ref 24) (.ref 24)from rfl) (.cons (show RelV (.ref 25) (.ref 25)from rfl) (.cons (show RelV (.ref 26) (.ref 26)from rfl) (.cons (show RelV (.ref 27) (.ref 27)from rfl) .nil))))⟩) (.cons rfl (.cst (.inr ⟨_,_,0,cl11,rfl,rfl,(by show 2<=sizeLine;decide),(.cons (show RelV (.int (3)) (.int (3) 212)from⟨_,rfl⟩) (.cons (show RelV (.int (2)) (.int (2) 213)from⟨_,rfl⟩) .nil))⟩) (.cons rfl .int (.cons rfl .int .nil))) (.cons rfl (.cst (.inr ⟨_,_,0,cl12,rfl,rfl,(by show 2<=sizeLine;decide),(.cons (show RelV (.int (2)) (.int (2) 214)from⟨_,rfl⟩) (.cons (show RelV (.int (3)) (.int (3) 215)from⟨_,rfl⟩) .nil))⟩) (.cons rfl .int (.cons rfl .int .nil))) (.cons rfl (.cst (.inr ⟨_,_,0,cl13,rfl,rfl,(by show 2<=sizeLine;decide),(.cons (show RelV (.int (1)) (.int (1) 216)from⟨_,rfl⟩) (.cons (show RelV (.int (2)) (.int (2) 217)from⟨_,rfl⟩) .nil))⟩) (.cons rfl .int (.cons rfl .int .nil))) (.cons rfl (.cst (.inr ⟨_,_,0,cl14,rfl,rfl,(by show 2<=sizeLine;decide),(.cons (show RelV (.int (2)) (.int (2) 218)from⟨_,rfl⟩) (.cons (show RelV (.int (1)) (.int (1) 219)from⟨_,rfl⟩) .nil))⟩) (.cons rfl .int (.cons rfl .int .nil))) .nil)))))⟩;have Fa:Cal l.prog w (KK w.params) mg base 1 "_law_take" ["_law_state","_law_many"] (aG (KK w.params) 2 kj):=DL (dfn X G 210 209 mo3) T;have pp:Cal l.prog w (KK w.params) mg base 1 "_law_begin" ["_law_script"] (aG (KK w.params) 1 (vV (KK w.params))):=Bh (dfn X G 203 202 mo3) T;have Do:=(dfn X G 35 34 mo0).cal (base:=base) (P:=l.prog) (w:=w) λ_ _ F=>yG F T C_STEPS;have EQ:=(dfn X G 42 41 mo0).cal (base:=base) (P:=l.prog) (w:=w) λ_ _ F=>xS F T C_STEPS Do;have wf:=(dfn X G 56 55 mo1).cal (base:=base) (P:=l.prog) (w:=w) λ_ _ F=>vo F T;have wv:=(dfn X G 63 62 mo1).cal (base:=base) (P:=l.prog) (w:=w) λ_ _ F=>Bu F T;have pc:=(dfn X G 68 67 mo1).cal (base:=base) (P:=l.prog) (w:=w) λ_ _ F=>rY F T wf wv;have re:=(dfn X G 78 77 mo2).cal (base:=base) (P:=l.prog) (w:=w) λ_ _ F=>t9 F T;have sB:=(dfn X G 85 84 mo2).cal (base:=base) (P:=l.prog) (w:=w) λ_ _ F=>xm F T re;have Da:=(dfn X G 128 127 mo2).cal (base:=base) (P:=l.prog) (w:=w) λ_ _ F=>yC F T;have wP:=(dfn X G 121 120 mo2).cal (base:=base) (P:=l.prog) (w:=w) λ_ _ F=>qR F T Da;have wp:=(dfn X G 114 113 mo2).cal (base:=base) (P:=l.prog) (w:=w) λ_ _ F=>o7 F T;have ul:=(dfn X G 107 106 mo2).cal (base:=base) (P:=l.prog) (w:=w) λ_ _ F=>tq F T wp wP;have u8:=(dfn X G 90 89 mo2).cal (base:=base) (P:=l.prog) (w:=w) λ_ _ F=>oC F T EQ;have sK:=(dfn X G 95 94 mo2).cal (base:=base) (P:=l.prog) (w:=w) λ_ _ F=>vO F T EQ;have ww:=(dfn X G 100 99 mo2).cal (base:=base) (P:=l.prog) (w:=w) λ_ _ F=>sM F T ul;have wn:=(dfn X G 73 72 mo2).cal (base:=base) (P:=l.prog) (w:=w) λ_ _ F=>tD F T wv pc sB u8 sK ww;have rc:=(dfn X G 186 185 mo3).cal (base:=base) (P:=l.prog) (w:=w) λ_ _ F=>JU F T;have nw:=(dfn X G 191 190 mo3).cal (base:=base) (P:=l.prog) (w:=w) λ_ _ F=>AA F T;have xL:=(dfn X G 196 195 mo3).cal (base:=base) (P:=l.prog) (w:=w) λ_ _ F=>yt F T rc nw Fa;have At:=(dfn X G 222 221 mo3).cal (base:=base) (P:=l.prog) (w:=w) λ_ _ F=>nC F T xL Fa;have Db:=(dfn X G 236 235 mo3).cal (base:=base) (P:=l.prog) (w:=w) λ_ _ F=>AR F T Fa;have BT:=(dfn X G 229 228 mo3).cal (base:=base) (P:=l.prog) (w:=w) λ_ _ F=>xZ F T Fa;have on:=(dfn X G 243 242 mo3).cal (base:=base) (P:=l.prog) (w:=w) λ_ _ F=>rn F T Fa At BT Db;have Fk:=(dfn X G 133 132 mo2).cal (base:=base) (P:=l.prog) (w:=w) λ_ _ F=>pY F T sB;have FB:=(dfn X G 140 139 mo2).cal (base:=base) (P:=l.prog) (w:=w) λ_ _ F=>tj F T Fk;have tz:=(dfn X G 147 146 mo2).cal (base:=base) (P:=l.prog) (w:=w) λ_ _ F=>uM F T Fk;have ut:=(dfn X G 49 48 mo0).cal (base:=base) (P:=l.prog) (w:=w) λ_ _ F=>sD F T C_INNER;have v6:=(dfn X G 181 180 mo2).cal (base:=base) (P:=l.prog) (w:=w) λ_ _ F=>tF F T ut;have wT:=(dfn X G 171 170 mo2).cal (base:=base) (P:=l.prog) (w:=w) λ_ _ F=>t7 F T sB;have AC:=(dfn X G 176 175 mo2).cal (base:=base) (P:=l.prog) (w:=w) λ_ _ F=>lX F T v6;have zn:=(dfn X G 164 163 mo2).cal (base:=base) (P:=l.prog) (w:=w) λ_ _ F=>yk F T wT v6;have Cl:=(dfn X G 159 158 mo2).cal (base:=base) (P:=l.prog) (w:=w) λ_ _ F=>CH F T zn wT AC;have AT:=(dfn X G 154 153 mo2).cal (base:=base) (P:=l.prog) (w:=w) λ_ _ F=>mK F T Cl;have Ch:Cal l.prog w (KK w.params) mg base 4 "_law_same" ["_law_found","_law_due"] (aG (KK w.params) 2 (p9 3)):=Nat.rec (motive:=λn=>Cal l.prog w (KK w.params) mg base (1+n) "_law_same" ["_law_found","_law_due"] (aG (KK w.params) 2 (p9 n))) ((dfn X G 215 214 mo3).cal λf fd (_:Fun (KK w.params) "_law_same" "_law_same" s_same f fd)=>CF rfl) (λn ih=>(dfn X G 215 214 mo3).cal λ_ _ F=>Fs n F T ih) 3;have np:=(dfn X G 250 249 mo3).cal (base:=base) (P:=l.prog) (w:=w) λ_ _ F=>Cg F T wn FB tz AT Ch;have xz:=(dfn X G 255 254 mo3).cal (base:=base) (P:=l.prog) (w:=w) λ_ _ F=>vG F T tz AT Fa BT np;have sn:=(dfn X G 262 261 mo3).cal (base:=base) (P:=l.prog) (w:=w) λ_ _ F=>vc F T FB AT Cl Fa Ch;exact JA (IG F T pp on xz sn)
end Mp
open PySem PySem.W PyProof.Rows
set_option maxRecDepth 100000 in
set_option maxHeartbeats 0 in
theorem Mp.Jb:PySem.Challenge.rw_millpath_k16_outlines_moved_and_turned.wellSaid=true:=by kernel_rfl
set_option maxRecDepth 100000 in
theorem Mp.left:PySem.W.LeftO PySem.Challenge.rw_millpath_k16_outlines_moved_and_turned.row.prog Mp.VW [] (λs=>PySem.W.xlAt Mp.VW [] s&&PySem.W.recOk (PySem.Challenge.rw_millpath_k16_outlines_moved_and_turned.row.toRowW.records) s) (YT (WG Mp.KK Mp.kas Mp.yo)) (YU (WG Mp.KK Mp.kas Mp.yo)) 6000:=λw=>by kernel_rfl
set_option maxRecDepth 100000 in
set_option maxHeartbeats 0 in
theorem PySem.Challenge.cw_millpath_k16_outlines_moved_and_turned_holds : PySem.Challenge.rw_millpath_k16_outlines_moved_and_turned.Holds := by
 refine PySem.W.holds_law Mp.Jb λJb=>?_;refine PySem.W.holds_open (r:=PySem.Challenge.rw_millpath_k16_outlines_moved_and_turned.row) (XP:=PySem.W.XL Mp.VW []) (YP:=YQ (WG Mp.KK Mp.kas Mp.yo)) (d:=⟨"law",L2.je Mp.kW,L2.iA Mp.kW,L2.ay Mp.kW,Mp.Jk Mp.kW⟩) (kwd:=[]) Mp.left (YY _) (YM _) (λs e=>PySem.W.xl_of s (Rb.mp e).1) YV (by kernel_rfl) (by kernel_rfl) (by kernel_rfl) (λs e=>PySem.W.recFacts_of (Rb.mp e).2) (by kernel_rfl) Jb (by kernel_rfl) ⟨rfl,rfl,rfl,rfl,rfl,by rfl'⟩ ?hw ?hc
 case hw=>w_witness2
 case hc=>
  refine Mp.walk (l:=PySem.Challenge.rw_millpath_k16_outlines_moved_and_turned) rfl (by kernel_rfl) (λw h Y=>PySem.W.kIn_of Y) ?F
  case F=>
  intro w mg fa h KX G hmg;exact Mp.all_mk KX G hmg
