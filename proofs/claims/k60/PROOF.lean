import PyProof.Rows.All
import Wide.All
import OpenK.AllK
import Wide.FinOn
import Lean
import PyProof.EqAt
import PyProof.EqKinds
import PyProof.TupleCall
import PyProof.ZipIter
import PyProof.NeKinds
import PyProof.SeqI3
import PyProof.MaxThree
import PyProof.CompUse
import PyProof.EnumMake
import PyProof.Draws
import PyProof.EnumFor
import PyProof.Rows.EnumRows
import PyProof.DictFindH
import PyProof.DictRoadsH
import PyProof.TupleKey
import PyProof.DictWalks
import PyProof.AttrMissHeap
import KE.KDictOf
import KE.KDictList
import KE.KSortTup
import PyProof.ListRange
import PyProof.Rows.SetFrom
import OpenK.KRaise
import PyProof.Rows.TopTwo
import KE.KIsAll
import PyProof.ExcArgsOwn
import PyProof.ExcAttrAll.ValueError
import PyProof.NsDelKeeps
import PyProof.RulesAs
import PyProof.Rows.Catch
import OpenK.KOwn
import PySem.Challenge.RW_millpath_k60_needs_in_a_ring
set_option maxHeartbeats 4000000
set_option Elab.async false
set_option linter.all false
set_option maxRecDepth 100000
set_option genSizeOf false
set_option bootstrap.genMatcherCode false
local macro_rules | `(tactic| rfl')=>`(tactic| decide +kernel)
noncomputable section
open List renaming length_map->a_,getElem?_eq_some_iff->b_,getElem?_eq_getElem->d_,perm_middle->e_,map_cons->f',length_cons->g_,size_toArray->h_,mem_cons_of_mem->i_,length_append->j_,mem_cons->k_,mem_append_right->l_,perm_append_comm_assoc->m_,append_assoc->n_,length_range->o_,replicate->p_,mem_cons_self->q_,mem_of_getElem?->s_,range->u_,map_append->x_,nodup_cons->y_,mem_singleton->z_,getElem?_map->A_,getD_eq_getElem?_getD->B',Perm.trans->C_,length_set->D_,mem_append_left->EL,mem_append->EO,append_nil->ET,take_length->EU,mem_map->EV,eq_nil_of_length_eq_zero->EW,find?_cons->EY,cons_append->E_,replicate_succ->Fb,length_take->Fd,mem_filter->Ff,length_drop->Fi,map_map->Fp,mem_range->Fq,map_congr_left->Ft,getElem?_set_self->Fu,take_append_drop->Fy,exists_mem_of_ne_nil->FA,getElem?_set_ne->FC,getElem?_take_of_lt->FD,set_eq_of_length_le->FE,mem_iff_getElem->FF,nodup_append->FG,any_cons->FI,filterMap_cons->FJ,zip_cons_cons->FL,mem_iff_getElem?->FO,take_add_one->FQ,getElem?_append_left->FR,pairwise_iff_getElem->FT,length_reverse->FW,getElem?_cons_succ->FX,cons.inj->FY,cons.injEq->FZ,map->F0,flatten_cons->F1,pairwise_map->F2,length_replicate->F3,map_nil->F4,length_singleton->F5,nodup_nil->F6,perm_append_comm->F7,Perm.append_left->F8,getElem?_eq_none->F9,lookup_cons->F',getElem_mem->Ga,mem_of_mem_take->Gb,any_eq_true->Gg,getElem?_range->Gm,nil_append->Gn,Perm.cons->Gv,getElem?_cons_zero->Gx,pairwise_singleton->Gy,pairwise_lt_range->GC,all_eq_true->GF,countP_cons->GH,not_mem_nil->GJ,getElem?_toArray->GK,length_filter_le->GL,length_nil->GP,of_mem_zip->GQ,mem_of_mem_drop->GU,set_set->GX,zipWith->GZ,Perm.swap->G2,length->G3,set_cons_succ->G4,filter_append->G5,getElem?_append_right->G9,all_cons->lf,length_eraseIdx_of_lt->Ha,exists_cons_of_ne_nil->Hb,mem_or_eq_of_mem_set->Hf,mem_reverse->Hi,all_map->Hj,Pairwise.imp_of_mem->Hl,length_erase_of_mem->Hm,map_set->Hn,filter_cons->Ho,nodup_range->Hq,eraseIdx_cons_succ->Hr,foldl_cons->Hs,Perm->Hu,range_succ->Hv,take_of_length_le->HB,length_pos_of_mem->HC,singleton_append->HD,getElem?_zipWith->HE,pairwise_append->HI,length_eraseIdx->HJ,mem_erase_of_ne->HK,map_drop->HM,length_zipWith->HP,mem_filterMap->HS,any_map->HW,pairwise_cons->HX,ne_nil_of_mem->H0,getElem_range->H_,mapM_toArray->Ih,ext_getElem?->Ij,reverse_cons->Ik,map_id->Il,isEmpty_iff->Iq,foldl->Ir,zip_append->Iv,filter_nil->Iy,take_nil->IC,drop_nil->ID,map_take->IF,take->IW,drop->IX
open Nat renaming le_refl->c_,ne_of_lt->t_,lt_of_lt_of_le->w_,le_trans->ER,zero_le->ES,le_of_lt->Fc,two_pow_pos->Fh,le_of_not_lt->Fj,lt_of_le_of_ne->Fo,zero_add->Fv,lt_of_le_of_lt->Fx,lt_irrefl->FH,zero_testBit->FK,pow_le_pow_right->FU,succ.inj->FV,max_eq_right->Ge,lt_succ_self->Gh,eq_of_testBit_eq->Gi,le_succ->Gk,le_antisymm->Gp,testBit_and->Gq,testBit_or->Gw,succ_le_succ->GD,ne_of_gt->GN,le_sub_one_of_lt->GV,add_le_add_left->G0,add_lt_add_left->G1,testBit_two_pow_sub_one->G6,lt_succ_of_lt->Hc,sub_le->He,lt_trans->Hg,le_of_eq->Hh,not_lt_of_le->Hk,not_lt_zero->Hx,left_le_or->HG,not_lt->HH,testBit_two_pow->HR,min_self->HV,pos_of_ne_zero->HY,eq_or_lt_of_le->HZ,le_succ_of_le->Ib,le_of_lt_succ->Ic,add_sub_assoc->Ie,le_add_right->Io,le_add_left->Iu,mod_lt->Iw,lt_or_ge->IJ,add_zero->IK,sub_self->IL,one_pos->IT,sub_lt->IV
open Int renaming toNat_natCast->B_,natCast_nonneg->Gs,emod_lt_of_pos->Gu,eq_ofNat_of_zero_le->Gz,emod_nonneg->GY,fdiv_eq_ediv_of_nonneg->G7,fmod_eq_emod_of_nonneg->G8,toNat_of_nonneg->HQ,ediv_one->II,sub_zero->IM,ne_of_lt->IQ,mul_one->IS,le_refl->IU
open Option renaming some.inj->EM,map->Gf,map_eq_some_iff->GB,some->HA,isSome_some->HU,isSome_map->Ia,some.injEq->Ig,getD_none->Im
open Bool renaming and_eq_true->EN,false_ne_true->EZ,false_eq_true->Fl,eq_false_iff->Fs,beq_eq_decide_eq->Fz,or_eq_true->FN,true_and->Gj,not_eq_true'->Hd,eq_iff_iff->Hw,not_false->HF,and_eq_true_iff->HL,and_self->HN,and_false->Iz,or_false->IA,false_or->IB,not_true->IE,and_true->IG,or_true->IP
open Array renaming getElem?_eq_getElem->j',length_toList->r_,getElem?_toList->v_,getElem?_eq_none->Fe,getD_eq_getD_getElem?->F_,perm_iff_toList_perm->G',Perm.refl->Ht,toList_push->Ii,toList_map->Ip,toList->IH
open Or renaming inl->f_,inr->gV
open Classical renaming byContradiction->PU
open False renaming elim->Jq
open ForInStep renaming yield->Kb,done->Kr
open Ne renaming symm->Kg
open PyProof renaming noPylong_small->M9
open PyProof.Rows renaming arrOf->Jg,wpS_bind->Jv,SortSt->Jw,Keyed->JJ,pendingOf->JL,wpS_pure->JM,envOfC->Kn,wpS_forRange->Ku,failedOf->KD,seqObj->KJ,slot_tuple_getitem->K2,callWith_type1->Le,SortKind->Lj,wpS_mono->Lk,reverseSlice'->Lo,AllBare->Lp,subscriptTail->LY,countRun'->Mm,subscriptTail_builtinR->M_,minRun'->Nn,getElem?_mirror_all->NQ,wpS_get->N5,wpS_lift->Ot,oneType'->Ou,boot_range->OB,callWith_builtin1->OC,Subscript_->OD,bubble->OK,getElem?_bubble->OL,ltAt'->OM,wpS_modify->ON,get?_update_seq->OU,slicePart_none->O0,listUpdate_at->PC,IsTup->PH,isTrue_plain->PX,minRun'_succ->P7,keyKind'->P8,binarySort'->Qo,seqEpoch_at->Qr,bitAnd_nn->Qs,bitAnd_pp->Qt
open PyProof.Rows.F renaming plain_set_update_loop->LM,entry_set_update_loop->MZ
open PyProof.Rows.IsTup renaming new->Pc
open PyProof.Rows.SortSt renaming mk'->MM
open PySem renaming Value->IY,wpAny_bind->IZ,Addr->I_,Shared->Jc,wpAny_pure->Jd,wpAny->Jf,model->Jh,Program->Ji,World->Jm,Expr->Jn,starEach->Jo,Heap->Jp,Around->Jr,wpAny_mono->Js,FuncData->Jt,wpAny_newObj_type->Ju,wpAny_holding->Jy,Stmt->JA,eval->JC,mainGlobals->JD,sizeLine_eq->JG,wpAny_Call_Name_kw->JN,binaryOp->JQ,wpAny_callSpecial?_slot->JR,SetTable->JS,wpAny_call_entry->JV,Scope->JX,foldedSetIterable->JY,codeAny_builtin->J2,compareOp->J8,sysModules->J9,wpAny_setField->Kd,rawInt->Kf,codeAny->Kh,mem_of_lookup->Ki,argBest->Kj,Builtin->Kq,codeAny_mono->Kt,swapsWith->Kv,plainId_quiet->Kx,wpAny_typeNameOfWhole_keyiter->Ky,firstArgMember->KC,assignEach->KG,backTo->KH,wpAny_passesOwn->KL,wpAny_attempt->KO,pyNext->KP,wpAny_setState_of->KQ,bootBuiltins->KU,NameKind->KW,intKind->K5,DictEntry->K8,wpAny_pyIter_tuple->K9,wpAny_ite_split->K_,wpAny_of_eq->K',fits_of_scanBound->Lc,wpAny_seqItems->Ld,Model->Lg,wpAny_execs_cons->Lh,codeAny_call_builtin->Ll,behindInMarks->Lm,holding->Lq,wpAny_field->Lr,sliceBounds->Lu,wpAny_execs_nil->Lx,wpAny_updateSeq->Lz,seqItems?->LD,wpAny_rule->LI,wpAny_tryCatch->LJ,wpAny_truthy_bool->LN,wpAny_dictEntries->LO,assign->LQ,pyIter->LR,wpAny_standAt->LX,comprehension->LZ,wpAny_isInstance->L6,checkBuiltinCall->L7,letOwnedTupleGo->L9,wpAny_setEntries_of->Mb,getItem->Md,wpAny_fieldsOf->Mf,subscripted->Mh,wpAny_letGo->Mi,tupleKind_room_in1->Mk,wpAny_newFunctionEnv_cells->Mt,wpAny_handled->Mw,Comprehension->Mx,wpAny_newList->My,wpAny_pyIter_list->MC,wpAny_pyIter_slot->MD,wpAny_setEpoch_of->ME,wpAny_loadPart_at->MF,wpAny_call->MG,typeIs_int->MH,call_meets->MI,valueAt->MN,callerA->MO,Operator->MP,noFill_tuple_add->MQ,IsPart->MR,Params->MS,newExc->MT,relayAll->MU,argsOk->MV,wpAny_askSetting->MW,tupleKind->M0,atKey->M1,wpAny_specialOf->M3,wpAny_dictEpoch->M5,IsRangeIter->M6,wpAny_pyNext_range_end->M7,wpAny_pyIter_rangeiter->M8,wpAny_throw->Na,codeAny_compStart_list->Nb,Paired->Nc,isTrue->Nd,wpAny_Expr_any->Nf,Result->Ng,BindsTo->Nh,codeAny_call_function->Ni,getitemInPython_of_ne->Nj,wpAny_isOneOf_keyiter->Nl,isSubtype_stop->Nm,builtinLookup_eq_fast->Nq,isSubtype_type->Nr,builtinsNs->Nz,GenState->NA,wpAny_loadName_local->NB,bindL->NC,bindC->ND,wpAny_letTemporaryGo->NH,wpAny_newFunctionEnv->NI,intKind_is->NJ,seq_tuple_add->NK,ExceptHandler->NL,wpAny_loadName_cell->NN,wpAny_Tuple_spliced->NO,wpAny_Constant_int->NS,PassesOwn->NT,wpAny_pyIter_range->NU,wpAny_List_spliced->NV,cellsFrom->NW,concat_meets->NY,wpAny_typeOf->NZ,seqIndex_neg->N0,updateSeq->N2,standAt->N4,Walks->N7,wpAny_assign_Name->N8,wpAny_pyIter_enum->N_,wpAny_storeSet_of->Ob,seqIndex_of->Oh,wpAny_Dict_empty->Oj,newTuple->Ol,raiseNew->Om,wpAny_comp_letGo->Oo,entryFor->Ov,wpAny_Try_except->Ow,Drawn->Oy,wpAny_Name->Oz,wpAny_load->OA,call_tuple_same->OE,wpAny_operating->OG,call->OH,typeLookup_type->OP,codeAny_of_tree->OR,isInstance->OV,setItem->OY,Keyword->O1,fitsIndex_both->O2,letTemporaryGo->O3,ItemsOf->O4,entryFor_alias->O5,setNext->O6,wpAny_runValue->O7,wpAny_loadPart->O_,storeName->Pa,seqIndex?->Pd,noteFrame->Pe,swapsWithSole->Ph,swappedStores->Pj,intBits_le_64->Pl,evalPart_none->Pn,call_list_seq->Po,attributeBase->Pp,wpAny_standIf->Pt,signature?_of->Py,CmpOp->PJ,truthy->PV,call_range_1->PY,bindArgs->PZ,codeAny_func->P0,IsEnum->P6,setAddHashed->P',ExcBaseFacts->Qc,wpAny_mkInt->Qi,interactive->Qj,keywordEach->Ql,richCompare->Qp,builtinKind->Qq,operate->Qu,field->Qx,table->Qy
open PySem.Around renaming under_plainId->JU,frames_deeper->NF
open PySem.AutoListH renaming list___mul___list_int_3->Oi
open PySem.AutoSeq1 renaming wpAny_loadPart'->KZ,list_insert_list_int_val_1->N6
open PySem.Builtin renaming bitOr->Kw,bitAnd->LH,bitNot->LK
open PySem.Builtin.Builtins renaming bindParams->Mr
open PySem.Builtin.Dict renaming showsAll->Nk,dictSlotNone->PN,pendingCount->PQ
open PySem.Builtin.Dict_items renaming ownsTuple->Mg
open PySem.Builtin.Frozenset renaming updateFrom->O8,newClass->Pz,sizeOf->Qb,slot0->Qe
open PySem.Builtin.List renaming listTooLong->LC,listLengthHint->Mn,listExtendWith->Mq,listFitsIndex->Mv,listSameRef->MX,listUpdate->Qf
open PySem.Builtin.Range renaming rangeSize->K3,small->NP,rangeFitsLong->Pf
open PySem.Builtin.Slice renaming slicePlaces->KR,sliceAdjust->Ly,sliceApplied->Mu,slicePartIndex->OZ,sliceFields->PK
open PySem.Builtin.SmallTypes renaming nextOf->J_
open PySem.Builtin.Str renaming occurrences->MY
open PySem.Builtin.Tuple renaming tupleExact->KY,tupleItemsOf->Pm
open PySem.Calls renaming spliced_cons->K7,Name_function_global->Ms,call_function_entry->MK,evalArgs_plain->NG,spliced_nil->N9
open PySem.Code renaming quiet_builtin->N3
open PySem.Data renaming fields->Of,cell->Pb
open PySem.Env renaming kindOf->OI
open PySem.F renaming plain_min_loop->JW,slot_dict_keyiterator_next->Ke,slot_tuple_iterator_next->KN,called_set->K0,entry_min_loop->La,args_tuple_add_2->LB,slot_list_append->LF,type_list_append->LG,entry_tuple_add->LL,slot_tuple_add->LV,args_dict_keyiterator_next_1->L',entry_dict_keyiterator_next->Ma,args_tuple_iterator_next_1->Me,entry_tuple_iterator_next->Ml,excBase_ValueError->MA,slot_dict_getitem->MJ,plain_extend_loop->ML,slot_dict_len->Np,typeOf_object_class->Nt,slot_list_pop->Nw,type_list_pop->Ny,plain_list_iadd->Oc,attr_ValueError->Od,slot_dict_iter->Oq,slot_int_rmul->OF,slot_set_iter->OQ,plain_set_new->OS
open PySem.Heap renaming get?_push_of_some->Je,get?_push_size->Jj,lt_size->Jl,get?_update_other->Jz,get?_update_self->JE,SameBut->JO,size_push->J3,ExtBut->Lw,get?_update_ne->NR,MadeExcOf->O9
open PySem.Heap.DictOf renaming new->Q0
open PySem.Heap.IsList renaming extBut->QJ
open PySem.Heap.IsListIter renaming extBut->Qn
open PySem.Heap.IsSliceOf renaming new->QI
open PySem.Heap.IsTuple renaming extBut->QD
open PySem.Heap.IsTupleIter renaming extBut->Qd
open PySem.Heap.SameBut renaming update->JI,refl->QS
open PySem.Heap.UpToSlots renaming of_keeps->Qg
open PySem.IsL renaming update->QU
open PySem.IsRange renaming new->Og
open PySem.Manifest renaming sig_set_iterator->PR,signature?->QF,owners->Q2
open PySem.MeetsSeq renaming list_pop_at->Qw
open PySem.NameKind renaming free->Kl,cell->Q5
open PySem.Obj renaming data_mapFields->JF,mapSeq->Kc,isFreed_of_fields->Ko,cls_mapFields->Lb,mapFields->Ln,putSet->OO
open PySem.Paired renaming length->LW,snoc->Qm
open PySem.PassesOwn renaming never->JK
open PySem.SeqAt renaming EqAt->Li,RcAt->OJ,RcNeAt->P4
open PySem.SeqAt.EqAt renaming same->Ox,int_none->Qz,str_none->QA,none_int->QB,none_str->QC,int_str->QG,str_int->QH,of_refs->QK
open PySem.SeqAt.RcAt renaming lists_lengths->P5,tuples->QO,lists->QV
open PySem.SeqAt.RcNeAt renaming lists_lengths->Pu,tuples->QE,lists->QL
open PySem.SetTable renaming below->JB,grown->KS,sizeAbove->N1,slot->Pw,toList_insertAt->P9,has->P_,orStandIn->QM,insertAt->QP,freeSlot->QQ,layClean->QR,advance->QW,relaid->Q1,Probe->Q4,laid->Q6,fits->Q7
open PySem.SetTable.below renaming go->LP
open PySem.SetTable.probe renaming go->Oa
open PySem.Str renaming ofString->JZ
open PySem.StrLaws renaming seqIndex_nonneg->OX
open PySem.Value renaming ref->JH,none->JT,type->Ks,builtin->L5,int->L8,str->O',isStrOf->Pg,isInt->Qh,bool->Qv
open PySem.Value.ref renaming inj->Q8
open PySem.W renaming Frag->Ja,nsIn->Kk,mg_of->Km,hideAll_get->Kz,keepIn->KA,fnOf->KI,hideAll->K6,hideAll_none->Lf,callWith_K->LA,cellsFrom_some->LU,codeIn->Mc,of_hideAll->Mj,mroIn->Mz,methodObj->MB,OpenLaw->M4,findIn->Nu,kitOne->Nv,kHook->NM,codeRec_of->NX,kia_one->OW,WalkO->Pq,clsIn->PD
open PySem.W.Hook renaming keeps->QN,says->QT,obs->QX,val->QY,of->Q3
open PySem.W.XL renaming keeps->QZ
open PySem.Walks renaming list->OT,range->Qk
open PySem.pickOrder renaming go->Qa
open Sum renaming inr->Jx,inl->K4
open Sum.inl renaming inj->Oe
open True renaming intro->L_
namespace L2
open PySem PySem.Spec PyProof.Rows
abbrev Key:=Sum Int (Option Str)
noncomputable def mE:Key->IY->Bool
 | .inl k,v=>Qh k v
 | .inr (some x),v=>Pg x v
 | .inr none,.none=>true
 | .inr none,_=>false
noncomputable def EJ(w:Jm):Key->Int
 | .inl k=>hashInt k
 | .inr (some x)=>hashStr w x
 | .inr none=>4238894112
theorem aV:∀{k:Key}{v:IY},mE k v=true->(∃i t,k=K4 i/\v=L8 i t)\/(∃x t,k=Jx (some x)/\v=O' x t)\/(k=Jx none/\v=JT)
 | .inl i,v,h=>by obtain⟨t,e⟩:=Value.isInt_shape (k:=i) (v:=v) h;exact .inl ⟨i,t,rfl,e⟩
 | .inr (some x),v,h=>by obtain⟨t,e⟩:=Value.isStrOf_shape (x:=x) (v:=v) h;exact .inr (.inl ⟨x,t,rfl,e⟩)
 | .inr none,v,h=>by cases v <;> first|exact .inr (.inr ⟨rfl,rfl⟩)|cases h
theorem uF(i:Int)(t:Tok):mE (.inl i) (.int i t)=true:=by simp[mE,Qh]
theorem uz(x:Str)(t:Tok):mE (.inr x) (.str x t)=true:=by simp[mE,Pg]
theorem Aw(a b:Int):decide ((K4 a:Key)=K4 b)=(a == b):=by
 by_cases e:a=b
 ·subst e;simp
 have h:¬(K4 a:Key)=K4 b:=λq=>e (Oe q);rw[decide_eq_false h];exact(beq_eq_false_iff_ne.mpr e).symm
theorem Cj(a b:Str):decide ((Jx (some a):Key)=Jx (some b))=decide (a=b):=by
 by_cases e:a=b
 ·subst e;simp
 have h:¬(Jx (some a):Key)=Jx (some b):=λq=>e (EM (Sum.inr.inj q));rw[decide_eq_false h,decide_eq_false e]
variable {A:Jr}{E:IY->Jc->Prop}{s:Jc}{w:Jm}
theorem vN{prog:Ji}{Q:Int->Jc->Prop}(h:Q 4238894112 {s with toks:=s.toks+1}):Jf (Jh prog w) A (PySem.pyHash .none) Q E s:=
 PySem.W.pyHash_slot (T:="NoneType") rfl F.slot_NoneType_hash F.entry_NoneType_hash (F.args_NoneType_hash_1 _) (beq_builtin_none _) (.inl rfl) (IZ (Jd (IZ (Qi (Jd ⟨_,_,rfl,h⟩)))))
def aL(prog:Ji)(w:Jm):PySem.KeyKind prog w Key where
 is:=mE
 hash:=EJ w
 inj:=λv a b ha hb=>by rcases aV ha with⟨i,t,rfl,rfl⟩|⟨x,t,rfl,rfl⟩|⟨rfl,rfl⟩ <;> rcases aV hb with⟨j,u,rfl,e⟩|⟨y,u,rfl,e⟩|⟨rfl,e⟩ <;> cases e <;> rfl
 byValue:=λk v h=>by rcases aV h with⟨i,t,rfl,rfl⟩|⟨x,t,rfl,rfl⟩|⟨rfl,rfl⟩ <;> rfl
 pyHash:=λhv h=>by
  rcases aV hv with⟨i,t,rfl,rfl⟩|⟨x,t,rfl,rfl⟩|⟨rfl,rfl⟩
  ·exact wpAny_pyHash_int h
  ·exact wpAny_pyHash_str h
  exact vN h
 eqBool:=λhu hv h=>by
  rcases aV hu with⟨i,t,rfl,rfl⟩|⟨x,t,rfl,rfl⟩|⟨rfl,rfl⟩ <;> rcases aV hv with⟨j,u,rfl,rfl⟩|⟨y,u,rfl,rfl⟩|⟨rfl,rfl⟩
  ·rw[Aw]at h;exact wpAny_eqBool_int h
  ·exact QG i t y u _ _ _ _ h
  ·exact Qz i t _ _ _ _ h
  ·exact QH x t j u _ _ _ _ h
  ·rw[Cj]at h;exact wpAny_eqBool_str h
  ·exact QA x t _ _ _ _ h
  ·exact QB j u _ _ _ _ h
  ·exact QC y u _ _ _ _ h
  exact Ox _ _ _ _ _ h
 «strs»:=λk x t v h=>by
  rcases aV h with⟨i,u,rfl,e⟩|⟨y,u,rfl,e⟩|⟨rfl,e⟩
  ·exact nomatch e
  ·injection e with e1 _
   subst e1;cases v <;> rfl
  exact nomatch e
theorem pR(prog:Ji)(w:Jm)(i:Int)(t:Tok):(aL prog w).is (.inl i) (.int i t)=true:=uF i t
theorem qP(prog:Ji)(w:Jm)(x:Str)(t:Tok):(aL prog w).is (.inr x) (.str x t)=true:=uz x t
inductive V where
 |non|bl (b:Bool)|int (i:Int)|str (x:Str)|byt (b:Array UInt8)|flt (b:UInt64)|ref (a:I_)|ty (n:String)
 deriving DecidableEq
set_option genInjectivity false
noncomputable def RelV:V->IY->Prop
 | .non,u=>u=JT
 | .bl b,u=>u=Qv b
 | .int i,u=>∃t,u=L8 i t
 | .str x,u=>∃t,u=O' x t
 | .byt b,u=>∃t,u=Value.bytes b t
 | .flt b,u=>∃t,u=Value.float b t
 | .ref a,u=>u=JH a
 | .ty n,u=>u=Ks n
abbrev Vals:List V->List IY->Prop:=Nc RelV
variable {us:List IY}{xs:List V}
theorem Vals.length (r:Vals xs us):xs.length=us.length:=LW r
theorem Vals.get:∀{xs:List V}{us:List IY}{i:Nat}{x:V},Vals xs us->xs[i]?=some x->∃u,us[i]?=some u/\RelV x u
 | _,_,_,_,.nil,e=>by simp at e
 | _,_,0,_,.cons r _,e=>by simp at e;subst e;exact⟨_,rfl,r⟩
 | _,_,i+1,x,.cons _ t,e=>by obtain⟨u,h1,h2⟩:=Vals.get (i:=i) (x:=x) t (by simpa using e);exact⟨u,by simpa using h1,h2⟩
variable {u:IY}
theorem Vals.set {x:V}(r:RelV x u):∀{xs:List V}{us:List IY} (i:Nat),Vals xs us->Vals (xs.set i x) (us.set i u)
 | _,_,_,.nil=>.nil
 | _,_,0,.cons _ t=>.cons r t
 | _,_,i+1,.cons q t=>.cons q (Vals.set r i t)
theorem Vals.append:∀{xs ys:List V}{us ws:List IY},Vals xs us->Vals ys ws->Vals (xs++ys) (us++ws):=by
 intro xs ys us ws x s;induction x with
 |nil=>exact s
 |cons r t ih=>exact .cons r ih
theorem Vals.take:∀{xs:List V}{us:List IY} (n:Nat),Vals xs us->Vals (xs.take n) (us.take n)
 | _,_,0,_=>.nil
 | _,_,_+1,.nil=>.nil
 | _,_,n+1,.cons r t=>.cons r (Vals.take n t)
theorem Vals.drop:∀{xs:List V}{us:List IY} (n:Nat),Vals xs us->Vals (xs.drop n) (us.drop n)
 | _,_,0,r=>r
 | _,_,_+1,.nil=>.nil
 | _,_,n+1,.cons _ t=>Vals.drop n t
def mS:Option V->Option IY->Prop
 |some v,some u=>RelV v u
 |none,none=>True
 | _,_=>False
def KV{κ:Type}:List (κ×V)->List (κ×IY)->Prop:=Nc λ(p:κ×V) (q:κ×IY)=>p.1=q.1/\RelV p.2 q.2
noncomputable def kV:Key->V
 | .inl i=>.int i
 | .inr (some x)=>.str x
 | .inr none=>.non
inductive HO where
 |lst (xs:List V)
 |tup (xs:List V)
 |dK (am:List (Key×V))|dT (am:List (List Key×V))
 |set (S:Int->Bool) (n:Nat)
 |ins (C dx:I_) (fs:List (Str×V))
 |own (x:I_)
 |xd (fs:List (Str×V))
 |met (f x:I_)
 |rng (lo hi:Int)
 |frz (o:Obj) (u:HO)
 |tbl (ps:Array IY)
 |ext (φ:Jp->Prop)
abbrev Hp:=I_->Option HO
noncomputable def upd(H:Hp)(a:I_)(o:HO):Hp:=λb=>if b=a then some o else H b
variable {H:Hp}{a:I_}{o:HO}
theorem aq:upd H a o a=some o:=by unfold upd;rw[if_pos rfl]
variable {b:I_}
theorem av(h:b≠a):upd H a o b=H b:=by unfold upd;rw[if_neg h]
theorem zQ{u:HO}:upd (upd H a o) a u=upd H a u:=by funext b;unfold upd;split <;> rfl
theorem zZ{u:HO}(h:H a=some o)(h':H b=some u)(d:o≠u):a≠b:=by intro e;subst e;rw[h]at h';exact d (EM h')
theorem aS(h:H a=some o)(h':H b=none):a≠b:=by intro e;subst e;rw[h]at h';cases h'
section
variable(P:Ji)(w:Jm)
def aR(H:Hp)(h:Jp)(a:I_):HO->Prop
 | .lst xs=>xs.length<=sizeLine/\∃(bd:List IY) (n:Nat),Vals xs bd/\h.get? a=some { cls:=.type "list",data:=.seq bd.toArray n}
 | .tup xs=>xs.length<=sizeLine/\∃bd:List IY,Vals xs bd/\PH h a bd.toArray
 | .dK am=>am.length<=sizeLine/\(a == J9)=false/\∃vs,KV am vs/\h.DictOf (aL P w) a vs
 | .dT am=>am.length<=sizeLine/\(a == J9)=false/\∃xs:List (List Key×I_×IY),
   Nc (λ(p:List Key×V) (q:List Key×I_×IY)=>p.1=q.1/\H q.2.1=some (.tup (p.1.map kV))/\RelV p.2 q.2.2) am xs/\
   ∃o es ep,h.get? a=some o/\o.ExactDict/\o.data=.dict es ep/\es.toList=xs.map (entryOfKey (M0 (aL P w)))/\(xs.map (·.1)).Nodup
 | .set S n=>h.SetOf (K5 P w) a S n
 | .ins C dx fs=>H dx=some (.own a)/\fs.length<=1000/\dx≠a/\h.get? a=some (PySem.W.instObj C dx)/\
   ∃mA,h.Ns1 dx mA/\(∀f,mS (fs.lookup f) (mA f))/\PySem.Within mA (fs.map (·.1))
 | .own _=>∃o,h.get? a=some o
 | .xd fs=>∃mA,h.Ns1 a mA/\∀f,mS (fs.lookup f) (mA f)
 | .rng lo hi=>∃t u v,h.get? a=some { cls:=.type "range",data:=.fields #[.int lo t,.int hi u,.int 1 v] }
 | .frz o u=>h.get? a=some o/\aR H h a u
 | .tbl ps=>h.get? a=some { cls:=.none,data:=.fields ps}
 | .met f x=>h.get? a=some (MB (.ref f) (.ref x))
 | .ext φ=>φ h/\(∃o,h.get? a=some o)/\∀h1 h2:Jp,φ h1->(∀o,h1.get? a=some o->h2.get? a=some o)->φ h2
def HOk(H:Hp)(h:Jp):Prop:=∀a o,H a=some o->aR P w H h a o
end
section
variable{P:Ji}{w:Jm}{H H':Hp}{h h':Jp}{a:I_}{o:HO}
theorem aR.lt (x:aR P w H h a o):a<h.objs.size:=by
 cases o with
 |lst xs=>obtain⟨_,_,_,_,e⟩:=x;exact Jl e
 |tup xs=>obtain⟨_,_,_,p⟩:=x;exact p.lt
 |dK am=>obtain⟨_,_,_,_,o,_,_,e,_⟩:=x;exact Jl e
 |dT am=>obtain⟨_,_,_,_,o,_,_,e,_⟩:=x;exact Jl e
 |set S n=>obtain⟨o,_,_,_,e,_⟩:=x;exact Jl e
 |ins C dx fs=>obtain⟨_,_,_,e,_⟩:=x;exact Jl e
 |own y=>obtain⟨_,e⟩:=x;exact Jl e
 |xd fs=>obtain⟨_,⟨_,_,_,e,_⟩,_⟩:=x;exact Jl e
 |rng lo hi=>obtain⟨_,_,_,e⟩:=x;exact Jl e
 |frz ob u=>obtain⟨e,_⟩:=x;exact Jl e
 |tbl ps=>exact Jl (show h.get? a=some _ from x)
 |met f y=>exact Jl (show h.get? a=some _ from x)
 |ext φ=>obtain⟨_,⟨_,e⟩,_⟩:=x;exact Jl e
theorem Paired.DC {α β:Type}{F G:α->β->Prop}:∀{l₁:List α}{l₂:List β},Nc F l₁ l₂->(∀a b,F a b->G a b)->Nc G l₁ l₂:=by
 intro l₁ l₂ x f;induction x with
 |nil=>exact .nil
 |cons r t ih=>exact .cons (f _ _ r) ih
theorem aR.mV (x:aR P w H h a o)(k:∀b u,(b=a\/H b=some (.own a))->h.get? b=some u->h'.get? b=some u)
  (ho:∀b,H b=some (.own a)->H' b=some (.own a)) (ht:∀b xs,H b=some (.tup xs)->H' b=some (.tup xs)):aR P w H' h' a o:=by
 induction o with
 |lst xs=>obtain⟨z,bd,n,r,e⟩:=x;exact⟨z,bd,n,r,k _ _ (.inl rfl) e⟩
 |tup xs=>obtain⟨z,bd,r,ob,e,c⟩:=x;exact⟨z,bd,r,ob,k _ _ (.inl rfl) e,c⟩
 |dK am=>obtain⟨z,y,vs,r,ob,es,ep,e,c⟩:=x;exact⟨z,y,vs,r,ob,es,ep,k _ _ (.inl rfl) e,c⟩
 |dT am=>
  obtain⟨z,y,xs,r,ob,es,ep,e,c⟩:=x;exact⟨z,y,xs,Paired.DC r λp q z=>⟨z.1,ht _ _ z.2.1,z.2.2⟩,ob,es,ep,k _ _ (.inl rfl) e,c⟩
 |set S n=>obtain⟨ob,es,ep,t,e,c⟩:=x;exact⟨ob,es,ep,t,k _ _ (.inl rfl) e,c⟩
 |ins C dx fs=>
  obtain⟨d,z,ne,e,mA,⟨od,es,ep,e2,c⟩,r⟩:=x;exact⟨ho _ d,z,ne,k _ _ (.inl rfl) e,mA,⟨od,es,ep,k _ _ (.inr d) e2,c⟩,r⟩
 |own y=>obtain⟨ob,e⟩:=x;exact⟨ob,k _ _ (.inl rfl) e⟩
 |xd fs=>obtain⟨mA,⟨od,es,ep,e,c⟩,r⟩:=x;exact⟨mA,⟨od,es,ep,k _ _ (.inl rfl) e,c⟩,r⟩
 |rng lo hi=>obtain⟨t,u,v,e⟩:=x;exact⟨t,u,v,k _ _ (.inl rfl) e⟩
 |frz ob u ih=>obtain⟨e,q⟩:=x;exact⟨k _ _ (.inl rfl) e,ih q⟩
 |tbl ps=>
  have e:h.get? a=some { cls:=.none,data:=.fields ps}:=x;show h'.get? a=some { cls:=.none,data:=.fields ps};exact k a _ (.inl rfl) e
 |met f y=>
  have e:h.get? a=some (MB (.ref f) (.ref y)):=x;show h'.get? a=some (MB (.ref f) (.ref y));exact k a _ (.inl rfl) e
 |ext φ=>obtain⟨p,⟨o,e⟩,st⟩:=x;exact⟨st _ _ p λo q=>k _ _ (.inl rfl) q,⟨o,k _ _ (.inl rfl) e⟩,st⟩
theorem HOk.lt (x:HOk P w H h)(e:H a=some o):a<h.objs.size:=(x a o e).lt
theorem HOk.fresh (x:HOk P w H h)(e:h.objs.size<=a):H a=none:=by
 cases q:H a with
 |none=>rfl
 |some u=>exact absurd (w_ (x.lt q) e) (FH _)
theorem HOk.kept (x:HOk P w H h)(k:∀b u,h.get? b=some u->h'.get? b=some u):HOk P w H h':=λa o e=>
 (x a o e).mV (λb u _ q=>k b u q) (λ_ q=>q) λ_ _ q=>q
theorem HOk.laid (x:HOk P w H h)(k:∀b u,h.get? b=some u->h'.get? b=some u)(hp:h.objs.size<=a)(new:aR P w (upd H a o) h' a o):HOk P w (upd H a o) h':=λb u e=>by
 have hn:=x.fresh hp;by_cases hb:b=a
 ·subst hb;rw[aq]at e;cases e;exact new
 rw[av hb]at e;exact(x b u e).mV (λc v _ q=>k c v q) (λc q=>by rw[av (aS q hn)];exact q) λc xs q=>by rw[av (aS q hn)];exact q
end
noncomputable def Rd(H:Hp)(a:I_)(u:HO):Prop:=H a=some u\/∃o,H a=some (.frz o u)
variable {P:Ji}{h:Jp}
theorem Rd.ok {u:HO}(r:Rd H a u)(x:HOk P w H h):aR P w H h a u:=by
 rcases r with r|⟨o,r⟩
 ·exact x a u r
 obtain⟨_,q⟩:=x a _ r;exact q
noncomputable def Mut:Option HO->Prop
 |some (.lst _)=>True
 |some (.dK _)=>True
 |some (.dT _)=>True
 |some (.set _ _)=>True
 |some (.ins _ _ _)=>True
 |some (.ext _)=>True
 | _=>False
section
variable{P:Ji}{w:Jm}{H:Hp}{h h':Jp}{x e:I_}{o':HO}
theorem HOk.write (ok:HOk P w H h)(mu:Mut (H x))(he:e=x\/H e=some (.own x))(k:∀b u,b≠e->h.get? b=some u->h'.get? b=some u)(heo:∃u,h'.get? e=some u)
  (new:aR P w (upd H x o') h' x o'):HOk P w (upd H x o') h':=λb u q=>by
 have nown:∀c y,H c=some (.own y)->c≠x:=λc y r z=>by subst z;rw[r]at mu;exact mu
 have ntup:∀c xs,H c=some (.tup xs)->c≠x:=λc xs r z=>by subst z;rw[r]at mu;exact mu
 by_cases hb:b=x
 ·subst hb;rw[aq]at q;cases q;exact new
 rw[av hb]at q;by_cases hbe:b=e
 ·have q':H b=some (.own x):=by
   rcases he with z|z
   ·exact absurd (hbe.trans z) hb
   rw[hbe];exact z
  rw[q]at q';cases q';obtain⟨v,hv⟩:=heo;exact⟨v,by rw[hbe];exact hv⟩
 refine(ok b u q).mV (λc v hc r=>k c v ?_ r) (λc r=>by rw[av (nown c b r)];exact r) λc xs r=>by rw[av (ntup c xs r)];exact r
 rcases hc with rfl|hc
 ·exact hbe
 rintro rfl;rcases he with z|z
 ·exact nown c b hc z
 rw[hc]at z;cases z;exact hb rfl
end
structure Un (fs ex:List I_) (H H':Hp) (h h':Jp):Prop where
 keep:∀b o,h.get? b=some o->H b=none->b ∉ fs->b ∉ ex->h'.get? b=some o
 slot:∀b o,h.get? b=some o->H b=none->b∈fs->b ∉ ex->∃sl,h'.get? b=some {o with slots:=sl}
 free:∀b o,h.get? b=some o->H b=none->b ∉ ex->H' b=none
 there:∀b o,h.get? b=some o->b ∉ ex->∃o',h'.get? b=some o'
 tups:∀b xs,H b=some (.tup xs)->H' b=some (.tup xs)
 frzs:∀b o u,H b=some (.frz o u)->H' b=some (.frz o u)
 tbls:∀b ps,H b=some (.tbl ps)->∃more,H' b=some (.tbl (ps++more))
section
variable{fs fs' ex ex':List I_}{H H1 H2:Hp}{h h1 h2 h':Jp}{a x e:I_}{o:HO}
theorem Un.any (u:Un fs ex H H1 h h1){ob:Obj}(q:h.get? b=some ob)(n:H b=none)(hx:b ∉ ex):∃sl,h1.get? b=some {ob with slots:=sl}:=by
 by_cases hb:b∈fs
 ·exact u.slot b ob q n hb hx
 exact⟨ob.slots,u.keep b ob q n hb hx⟩
theorem Un.kept (k:∀b u,h.get? b=some u->h'.get? b=some u):Un fs ex H H h h':=
 ⟨λb ob q _ _ _=>k b ob q,λb ob q _ _ _=>⟨ob.slots,k b ob q⟩,λ_ _ _ n _=>n,λb ob q _=>⟨ob,k b ob q⟩,λ_ _ q=>q,λ_ _ _ q=>q,λ_ ps q=>⟨#[],by rw[q];simp⟩⟩
theorem Un.refl:Un fs ex H H h h:=Un.kept λ_ _ q=>q
theorem Un.laid (k:∀b u,h.get? b=some u->h'.get? b=some u)(hp:h.objs.size<=a)(hn:H a=none):Un fs ex H (upd H a o) h h' where
 keep:=λb u q _ _ _=>k b u q
 slot:=λb u q _ _ _=>⟨u.slots,k b u q⟩
 free:=λb u q n _=>by rw[av (t_ (w_ (Jl q) hp))];exact n
 there:=λb u q _=>⟨u,k b u q⟩
 tups:=λb xs q=>by rw[av (aS q hn)];exact q
 frzs:=λb u xs q=>by rw[av (aS q hn)];exact q
 tbls:=λb ps q=>⟨#[],by rw[av (aS q hn),q];simp⟩
theorem Un.write (mu:Mut (H x))(he:e=x\/H e=some (.own x))(k:∀b u,b≠e->h.get? b=some u->h'.get? b=some u)(heo:∃u,h'.get? e=some u):Un fs ex H (upd H x o) h h':=by
 have hx:∀b,H b=none->b≠x:=λb n z=>by subst z;rw[n]at mu;exact mu
 have hb:∀b,H b=none->b≠e:=λb n z=>by
  subst z;rcases he with r|r
  ·exact hx b n r
  rw[n]at r;cases r
 have hm:∀b u,H b=some u->¬Mut (some u)->b≠x:=λb u q nm z=>by subst z;rw[q]at mu;exact nm mu
 refine⟨λb u q n _ _=>k b u (hb b n) q,λb u q n _ _=>⟨u.slots,k b u (hb b n) q⟩,λb u q n _=>by rw[av (hx b n)];exact n,λb u q _=>?_,
  λb xs q=>by rw[av (hm b _ q λz=>z)];exact q,λb u xs q=>by rw[av (hm b _ q λz=>z)];exact q,λb ps q=>⟨#[],by rw[av (hm b _ q λz=>z),q];simp⟩⟩
 by_cases hbe:b=e
 ·subst hbe;exact heo
 exact⟨u,k b u hbe q⟩
end
noncomputable def trk(h:Jp)(H:Hp):List I_:=(u_ h.objs.size).filter λa=>(H a).isSome
def oK(h:Jp)(H:Hp):Jp:=K6 h (trk h H)
theorem uO(h:Jp)(H:Hp):(oK h H).objs.size=h.objs.size:=PySem.W.hideAll_size _ _
theorem xy{o:Obj}(e:h.get? b=some o)(n:H b=none):(oK h H).get? b=some o:=
 Kz _ e λhm=>by have q:(H b).isSome=true:=(Ff.mp hm).2;rw[n]at q;simp at q
theorem zx{o:Obj}(e:(oK h H).get? b=some o):h.get? b=some o/\H b=none:=by
 have e':h.get? b=some o:=Mj (trk h H) e;refine⟨e',?_⟩;cases q:H b with
 |none=>rfl
 |some x=>
  have hm:b∈trk h H:=Ff.mpr ⟨Fq.mpr (Jl e'),by simp[q]⟩;have z:(oK h H).get? b=none:=Lf (trk h H) hm;rw[z]at e;cases e
noncomputable def yo(g h:Jp)(L:I_):List (I_×Obj):=(u_ h.objs.size).filterMap λa=>if a=L\/(g.get? a).isSome=true then none else(h.get? a).map λo=>(a,o)
def rest(g h:Jp)(L d:I_):List (I_×Obj):=(yo g h L).filter λp=>decide (p.1≠d)
structure Mod (K:Ja) (mg:Str->Option IY) (base:Jp):Prop where
 kin:K.In base
 glob:base.Ns JD mg
 blt:∃mb,base.Ns Nz mb/\∀x:Str,x≠"__name__"->mb x=KU x
 nolimit:base.NoLimit
structure Cx where
 prog:Ji
 w:Jm
 K:Ja
 mg:Str->Option IY
 base:Jp
 A:Jr
 N:List Str
 s₀:Jc
 H₀:Hp
 env:Env
 outer:List Env
 stack:List Env
 ex:List I_
 fn:Str->Bool
 calm:Bool
 pn:List (I_×Obj)
 xe:IY->Jc->Prop
noncomputable def frs(l:List Env):List I_:=l.filterMap (·.frame)
abbrev Cx.fs (X:Cx):List I_:=frs X.outer
noncomputable def Vis(sc:JX)(x:Str):Prop:=sc.names.lookup x=some .local\/sc.names.lookup x=some .cell\/sc.names.lookup x=some .free
noncomputable def Loc(sc:JX)(x:Str):Prop:=sc.names.lookup x=some .local\/sc.names.lookup x=some .cell
noncomputable def Look(env:Env)(h:Jp)(m:Str->Option IY)(x:Str)(u:IY):Prop:=
 (env.kindOf x=some .local/\m x=some u)\/((env.kindOf x=some .cell\/env.kindOf x=some .free)/\∃c,env.cells.lookup x=some c/\h.IsCell c (some u))
structure Cx.Ok (X:Cx):Prop where
 mod:Mod X.K X.mg X.base
 kind:X.env.scope.kind=.function
 glob:X.env.globals=JD
 blt:X.env.builtins=Nz
 above:X.s₀.heap.objs.size<=X.env.locals
 inj:∀x y c,X.env.cells.lookup x=some c->X.env.cells.lookup y=some c->x=y
 has:∀x,(X.env.kindOf x=some .cell\/X.env.kindOf x=some .free)->∃c,X.env.cells.lookup x=some c
 cab:∀x c,X.fn x=true->X.env.cells.lookup x=some c->X.s₀.heap.objs.size<=c
 hd:X.calm=true->X.A.handled=none
 frames:X.A.frames=some X.stack
 stk:X.stack=X.outer\/(X.stack=X.env::X.outer/\X.env.frame=some X.env.locals)
 exf:∀b∈X.ex,b≠X.env.locals/\∀x c,X.env.cells.lookup x=some c->c≠b
 bs:∀b o,X.base.get? b=some o->X.s₀.heap.get? b=some o/\X.H₀ b=none
 bsz:X.base.objs.size<=X.s₀.heap.objs.size
 noex:∀b o,X.base.get? b=some o->b ∉ X.ex
 exfs:∀b∈X.ex,b ∉ X.fs
 i7:X.s₀.heap.FunFrames X.base X.outer
 frf:∀b∈X.fs,X.H₀ b=none
structure Inv (X:Cx) (ac:List (I_×Obj)) (σ:List (Option V)) (H:Hp) (s:Jc):Prop where
 ok:X.Ok
 os:s.os=X.s₀.os
 bare:Lp s.gens
 base:Un X.fs X.ex X.H₀ H X.s₀.heap s.heap
 loc:∃m,s.heap.Ns X.env.locals m/\∀(i:Nat) (x:Str) (v:V),X.N[i]?=some x->σ[i]?=some (some v)->Vis X.env.scope x->∃u,RelV v u/\Look X.env s.heap m x u
 cell:∀x c,X.env.cells.lookup x=some c->∃v,s.heap.IsCell c v
 free:H X.env.locals=none
 freeC:∀x c,X.env.cells.lookup x=some c->H c=none
 pin:∀p∈X.pn++ac,s.heap.get? p.1=some p.2/\H p.1=none/\p.1≠X.env.locals/\p.1 ∉ X.fs/\∀v,p.2.data≠.cell v
 hok:HOk X.prog X.w H s.heap
 len:σ.length=X.N.length
variable {M:Lg}{N:List Str}{Q:Unit->Jc->Prop}{ch:List I_}{g':Array NA}{i t':Nat}{v:V}{x:Str}
section
variable{X:Cx}{ac:List (I_×Obj)}{σ:List (Option V)}{H H':Hp}{s:Jc}{h':Jp}
theorem Cx.Ok.Ek (ok:X.Ok){o:Obj}(e:X.base.get? b=some o):b ∉ X.fs:=λhb=>by have:=(ok.i7.mem hb).1;rw[e]at this;cases this
theorem Inv.bs (I:Inv X ac σ H s):∀b o,X.base.get? b=some o->s.heap.get? b=some o/\H b=none:=λb o e=>
 ⟨I.base.keep b o (I.ok.bs b o e).1 (I.ok.bs b o e).2 (I.ok.Ek e) (I.ok.noex b o e),I.base.free b o (I.ok.bs b o e).1 (I.ok.bs b o e).2 (I.ok.noex b o e)⟩
theorem Inv.bk (I:Inv X ac σ H s):∀b o,X.base.get? b=some o->s.heap.get? b=some o:=λb o e=>(I.bs b o e).1
theorem Inv.mod (I:Inv X ac σ H s):Mod X.K X.mg X.base:=I.ok.mod
theorem Inv.kIn (I:Inv X ac σ H s):X.K.In s.heap:=I.ok.mod.kin.keeps I.bk
theorem Inv.lt (I:Inv X ac σ H s):X.env.locals<s.heap.objs.size:=let ⟨_,hn,_⟩:=I.loc;hn.lt
theorem Inv.sz (I:Inv X ac σ H s):X.s₀.heap.objs.size<=s.heap.objs.size:=ER I.ok.above (Fc I.lt)
theorem Inv.Ea (I:Inv X ac σ H s)(h:s.heap.objs.size<=a):a ∉ X.fs:=λhb=>by obtain⟨_,o,ho,_⟩:=I.ok.i7.mem hb;exact absurd (w_ (Jl ho) (ER I.sz h)) (FH _)
theorem Inv.cne (I:Inv X ac σ H s):∀x c,X.env.cells.lookup x=some c->c≠X.env.locals:=λx c e z=>by obtain⟨v,o,ho,hd⟩:=I.cell x c e;obtain⟨m,⟨o',es,ep,ho',hd',_⟩,_⟩:=I.loc;rw[z,ho']at ho;cases ho;rw[hd']at hd;cases hd
theorem Inv.i7 (I:Inv X ac σ H s):s.heap.FunFrames X.base X.outer:=by
 have all:∀(l:List Env),(∀b∈frs l,b∈X.fs)->X.s₀.heap.FunFrames X.base l->s.heap.FunFrames X.base l:=by
  intro l;induction l with
  |nil=>intro _ _;trivial
  |cons env r ih=>
   intro hs hl;obtain⟨hk,⟨L,o,hf,hn,ho,hd⟩,hr⟩:=hl;have hL:L∈X.fs:=hs L (by unfold frs;rw[FJ,hf];exact q_);obtain⟨sl,e⟩:=I.base.slot L o ho (I.ok.frf L hL) hL λz=>I.ok.exfs L z hL;exact⟨hk,⟨L,_,hf,hn,e,hd⟩,ih (λb hb=>hs b (by unfold frs;rw[FJ,hf];exact i_ _ hb)) hr⟩
 exact all X.outer (λ_ hb=>hb) I.ok.i7
theorem Inv.stack (I:Inv X ac σ H s):s.heap.FunFrames X.base X.stack:=by
 rcases I.ok.stk with e|⟨e,hf⟩
 ·rw[e];exact I.i7
 rw[e];obtain⟨m,hn,_⟩:=I.loc;refine .cons (by rw[I.ok.kind];decide) hf hn ?_ I.i7;exact Heap.get?_none_of_le (ER I.ok.bsz I.ok.above)
theorem Inv.rQ (I:Inv X ac σ H s):∀b∈frs X.stack,b∈X.env.locals::X.fs:=λb hb=>by
 rcases I.ok.stk with e|⟨e,hf⟩
 ·rw[e]at hb;exact i_ _ hb
 rw[e]at hb;unfold frs at hb;rw[FJ,hf]at hb;exact hb
theorem Inv.jy (I:Inv X ac σ H s):∀b∈frs X.stack,H b=none:=λb hb=>by
 rcases k_.mp (I.rQ b hb)with e|hb
 ·rw[e];exact I.free
 obtain⟨_,o,ho,_⟩:=I.ok.i7.mem hb;exact I.base.free b o ho (I.ok.frf b hb) λz=>I.ok.exfs b z hb
theorem Inv.step {d':Oy}(I:Inv X ac σ H s)
  (hch:∀b∈ch,(b∈X.ex\/X.s₀.heap.objs.size<=b)/\b≠X.env.locals/\(∀x c,X.env.cells.lookup x=some c->c≠b)/\∀p∈X.pn++ac,p.1≠b)
  (keep:∀b o,b≠X.env.locals->b ∉ X.fs->b ∉ ch->s.heap.get? b=some o->H b=none->h'.get? b=some o)
  (slot:∀b o,b≠X.env.locals->b∈X.fs->b ∉ ch->s.heap.get? b=some o->H b=none->∃sl,h'.get? b=some {o with slots:=sl}) (free:∀b o,b ∉ ch->s.heap.get? b=some o->H b=none->H' b=none)
  (there:∀b o,b ∉ ch->s.heap.get? b=some o->∃o',h'.get? b=some o')
  (tups:∀b xs,H b=some (.tup xs)->H' b=some (.tup xs)) (frzs:∀b o u,H b=some (.frz o u)->H' b=some (.frz o u)) (tbls:∀b ps,H b=some (.tbl ps)->∃more,H' b=some (.tbl (ps++more)))
  (ns:∀m,s.heap.Ns X.env.locals m->h'.Ns X.env.locals m) (hok:HOk X.prog X.w H' h') (hg:Lp g') :
  Inv X ac σ H' {s with heap:=h',gens:=g',drawn:=d',toks:=t'}:=by
 have neL:∀b o,X.s₀.heap.get? b=some o->b≠X.env.locals:=λb o e=>t_ (w_ (Jl e) I.ok.above);have neC:∀b o,X.s₀.heap.get? b=some o->b ∉ X.ex->b ∉ ch:=λb o e hx hb=>by
  rcases(hch b hb).1 with z|z
  ·exact hx z
  exact absurd (w_ (Jl e) z) (FH _)
 have cellK:∀x c,X.env.cells.lookup x=some c->∀v,s.heap.IsCell c v->h'.IsCell c v:=λx c e v ⟨o,ho,hd⟩=>by
  have nch:c ∉ ch:=λz=>(hch c z).2.2.1 x c e rfl;by_cases hc:c∈X.fs
  ·obtain⟨sl,q⟩:=slot c o (I.cne x c e) hc nch ho (I.freeC x c e);exact⟨_,q,hd⟩
  exact⟨o,keep c o (I.cne x c e) hc nch ho (I.freeC x c e),hd⟩
 refine⟨I.ok,I.os,hg,⟨λb o e n hb hx=>?_,λb o e n hb hx=>?_,λb o e n hx=>?_,λb o e hx=>?_,λb xs e=>tups b xs (I.base.tups b xs e),λb o xs e=>frzs b o xs (I.base.frzs b o xs e),λb ps e=>?_⟩,?_,λx c e=>?_,?_,λx c e=>?_,λp hp=>?_,hok,I.len⟩
 ·exact keep b o (neL b o e) hb (neC b o e hx) (I.base.keep b o e n hb hx) (I.base.free b o e n hx)
 ·obtain⟨sl,e1⟩:=I.base.slot b o e n hb hx;obtain⟨sl',e2⟩:=slot b _ (neL b o e) hb (neC b o e hx) e1 (I.base.free b o e n hx);exact⟨sl',e2⟩
 ·obtain⟨o',e1⟩:=I.base.there b o e hx;exact free b o' (neC b o e hx) e1 (I.base.free b o e n hx)
 ·obtain⟨o',e1⟩:=I.base.there b o e hx;exact there b o' (neC b o e hx) e1
 ·obtain⟨m1,e1⟩:=I.base.tbls b ps e;obtain⟨m2,e2⟩:=tbls b _ e1;exact⟨m1++m2,by rw[e2,Array.append_assoc]⟩
 ·obtain⟨m,hn,hl⟩:=I.loc;refine⟨m,ns m hn,λi x v e1 e2 e3=>?_⟩;obtain⟨u,r,l⟩:=hl i x v e1 e2 e3;refine⟨u,r,?_⟩;rcases l with l|⟨k,c,e,z⟩
  ·exact .inl l
  exact .inr ⟨k,c,e,cellK x c e _ z⟩
 ·obtain⟨v,z⟩:=I.cell x c e;exact⟨v,cellK x c e v z⟩
 ·obtain⟨m,⟨o,_,_,ho,_⟩,_⟩:=I.loc;exact free _ o (λz=>(hch _ z).2.1 rfl) ho I.free
 ·obtain⟨v,o,ho,hd⟩:=I.cell x c e;exact free c o (λz=>(hch c z).2.2.1 x c e rfl) ho (I.freeC x c e)
 obtain⟨e,n,ne,nf,d⟩:=I.pin p hp;have nch:p.1 ∉ ch:=λz=>(hch p.1 z).2.2.2 p hp rfl;exact⟨keep p.1 p.2 ne nf nch e n,free p.1 p.2 nch e n,ne,nf,d⟩
theorem Inv.un (I:Inv X ac σ H s)(u:Un X.fs [] H H' s.heap h')(hok:HOk X.prog X.w H' h'):Inv X ac σ H' {s with heap:=h',toks:=t'}:=by
 obtain⟨m,⟨o,es,ep,ho,r⟩,_⟩:=id I.loc;obtain⟨sl,hL⟩:=u.any ho I.free (by simp);exact I.step (g':=s.gens) (d':=s.drawn) (ch:=[]) (λ_ z=>nomatch z) (λb o _ hb _ e n=>u.keep b o e n hb (by simp)) (λb o _ hb _ e n=>u.slot b o e n hb (by simp)) (λb o _ e n=>u.free b o e n (by simp)) (λb o _ e=>u.there b o e (by simp)) u.tups u.frzs u.tbls (λm' hm=>by obtain⟨o',es',ep',ho',r'⟩:=hm;rw[ho]at ho';cases ho';exact⟨_,es',ep',hL,r'⟩) hok I.bare
theorem Inv.call {d':Oy}(I:Inv X ac σ H s)(u:Un (frs X.stack) ch H H' s.heap h')(hok:HOk X.prog X.w H' h')(hg:Lp g')
  (hch:∀b∈ch,(b∈X.ex\/X.s₀.heap.objs.size<=b)/\b≠X.env.locals/\(∀x c,X.env.cells.lookup x=some c->c≠b)/\∀p∈X.pn++ac,p.1≠b) :
  Inv X ac σ H' {s with heap:=h',gens:=g',drawn:=d',toks:=t'}:=by
 obtain⟨m,⟨o,es,ep,ho,r⟩,_⟩:=id I.loc;obtain⟨sl,hL⟩:=u.any ho I.free λz=>(hch _ z).2.1 rfl;exact I.step (ch:=ch) hch (λb o hL hb hc e n=>u.keep b o e n (λz=>(k_.mp (I.rQ b z)).elim hL hb) hc) (λb o _ _ hc e n=>u.any e n hc) (λb o hc e n=>u.free b o e n hc) (λb o hc e=>u.there b o e hc) u.tups u.frzs u.tbls (λm' hm=>by obtain⟨o',es',ep',ho',r'⟩:=hm;rw[ho]at ho';cases ho';exact⟨_,es',ep',hL,r'⟩) hok hg
theorem Inv.turned {it:I_}(I:Inv X ac σ H s)(k:∀b o,b≠it->s.heap.get? b=some o->h'.get? b=some o)(hn:H it=none)(hL:it≠X.env.locals)
  (h1:it∈X.ex\/X.s₀.heap.objs.size<=it) (h2:∀x c,X.env.cells.lookup x=some c->c≠it) (h3:∀p∈X.pn++ac,p.1≠it):Inv X ac σ H {s with heap:=h',toks:=t'}:=by
 have nit:∀b u,H b=some u->b≠it:=λb u e z=>by rw[z,hn]at e;cases e
 refine I.step (g':=s.gens) (d':=s.drawn) (ch:=[it]) (λb hb=>?_) (λb o _ _ hc e _=>k b o (λz=>hc (by simp[z])) e) (λb o _ _ hc e _=>⟨o.slots,k b o (λz=>hc (by simp[z])) e⟩) (λ_ _ _ _ n=>n)
  (λb o hc e=>⟨o,k b o (λz=>hc (by simp[z])) e⟩) (λ_ _ e=>e) (λ_ _ _ e=>e) (λb ps e=>⟨#[],by rw[e];simp⟩) (λm hm=>?_) (λb u e=>?_) I.bare
 ·have e:b=it:=by simpa using hb
  subst e;exact⟨h1,hL,h2,h3⟩
 ·obtain⟨o,es,ep,ho,r⟩:=hm;exact⟨o,es,ep,k _ o (Kg hL) ho,r⟩
 refine(I.hok b u e).mV (λc v hc q=>k c v ?_ q) (λ_ q=>q) λ_ _ q=>q;rcases hc with z|z
 ·rw[z];exact nit b u e
 exact nit c _ z
theorem Inv.tok (I:Inv X ac σ H s)(t:Nat):Inv X ac σ H {s with toks:=t}:=I.un (h':=s.heap) (t':=t) Un.refl I.hok
theorem Inv.kept (I:Inv X ac σ H s)(k:∀b u,s.heap.get? b=some u->h'.get? b=some u):Inv X ac σ H {s with heap:=h',toks:=t'}:=I.un (Un.kept k) (I.hok.kept k)
theorem Inv.laid (I:Inv X ac σ H s)(k:∀b u,s.heap.get? b=some u->h'.get? b=some u)(hp:s.heap.objs.size<=a)(new:aR X.prog X.w (upd H a o) h' a o) :
  Inv X ac σ (upd H a o) {s with heap:=h',toks:=t'}:=I.un (Un.laid k hp (I.hok.fresh hp)) (I.hok.laid k hp new)
theorem Inv.write {x e:I_}(I:Inv X ac σ H s)(mu:Mut (H x))(he:e=x\/H e=some (.own x))(k:∀b u,b≠e->s.heap.get? b=some u->h'.get? b=some u)(heo:∃u,h'.get? e=some u)
  (new:aR X.prog X.w (upd H x o) h' x o):Inv X ac σ (upd H x o) {s with heap:=h',toks:=t'}:=I.un (Un.write mu he k heo) (I.hok.write mu he k heo new)
theorem Inv.tJ {pins':List (I_×Obj)}(I:Inv X ac σ H s)(h:∀p∈pins',s.heap.get? p.1=some p.2/\H p.1=none/\p.1≠X.env.locals/\p.1 ∉ X.fs/\∀v,p.2.data≠.cell v):Inv X pins' σ H s:=
 ⟨I.ok,I.os,I.bare,I.base,I.loc,I.cell,I.free,I.freeC,λp hp=>(EO.mp hp).elim (λz=>I.pin p (EL _ z)) (h p),I.hok,I.len⟩
theorem pQ(hN:N.Nodup){j:Nat}(a:N[i]?=some x)(b:N[j]?=some x):i=j:=by obtain⟨h1,e1⟩:=b_.mp a;obtain⟨h2,e2⟩:=b_.mp b;exact(List.getElem_inj hN).mp (e1.trans e2.symm)
theorem nN(I:Inv X ac σ H s)(hN:X.N.Nodup)(hi:X.N[i]?=some x)(hx:Loc X.env.scope x)(r:RelV v u)
  (h:∀s',Inv X ac (σ.set i (some v)) H s'->(∃a,JO a s.heap s'.heap/\(a=X.env.locals\/X.env.cells.lookup x=some a))->Q () s') (hf:X.fn x=true\/X.env.scope.names.lookup x=some .local:=by first|exact .inl rfl|exact .inr rfl|assumption):Jf M A (Pa X.env x u) Q E s:=by
 obtain⟨m,hn,hl⟩:=id I.loc;have hcls:(X.env.scope.kind == .class || (X.env.scope.kind == .module&&X.env.locals != X.env.globals))=false:=by rw[I.ok.kind];rfl
 have hiσ:i<σ.length:=by rw[I.len];exact(b_.mp hi).1
 have cne:=I.cne;have tracked:∀{a:I_}{h':Jp},(∃o,s.heap.get? a=some o/\H a=none)->JO a s.heap h'->HOk X.prog X.w H h':=λ{a h'} ha hs b ob e=>by
  obtain⟨_,_,hfree⟩:=ha;refine(I.hok b ob e).mV (λc w' hc q=>(hs.2 c ?_).trans q) (λ_ q=>q) λ_ _ q=>q;rintro rfl;rcases hc with rfl|hc
  ·rw[hfree]at e;cases e
  rw[hfree]at hc;cases hc
 rcases hx with hk|hk
 ·refine wpAny_storeName_local hk hn (λh' hn' hs=>?_) hcls;obtain⟨oL,_,_,hoL,_⟩:=id hn;refine h _ ⟨I.ok,I.os,I.bare,⟨λb o e n hb hx=>?_,λb o e n hb hx=>?_,I.base.free,λb o e hx=>?_,I.base.tups,I.base.frzs,I.base.tbls⟩,⟨_,hn',λj y v' e1 e2 e3=>?_⟩,λy c e=>?_,I.free,I.freeC,λp hp=>?_,tracked ⟨oL,hoL,I.free⟩ hs,by simpa using I.len⟩ ⟨_,hs,.inl rfl⟩
  ·exact(hs.2 b (t_ (w_ (Jl e) I.ok.above))).trans (I.base.keep b o e n hb hx)
  ·obtain⟨sl,e1⟩:=I.base.slot b o e n hb hx;exact⟨sl,(hs.2 b (t_ (w_ (Jl e) I.ok.above))).trans e1⟩
  ·obtain⟨o',e1⟩:=I.base.there b o e hx;exact⟨o',(hs.2 b (t_ (w_ (Jl e) I.ok.above))).trans e1⟩
  ·by_cases hj:j=i
   ·subst hj;rw[hi]at e1;cases e1;rw[Fu hiσ]at e2;cases e2;exact⟨u,r,.inl ⟨hk,by simp⟩⟩
   rw[FC (Kg hj)]at e2;obtain⟨u',r',q⟩:=hl j y v' e1 e2 e3;refine⟨u',r',?_⟩;rcases q with⟨k,e⟩|⟨k,c,e,z⟩
   ·refine .inl ⟨k,?_⟩;have:y≠x:=λe=>hj (pQ hN e1 (e▸hi));simp[this,e]
   exact .inr ⟨k,c,e,z.sameBut hs (cne y c e)⟩
  ·obtain⟨w',z⟩:=I.cell y c e;exact⟨w',z.sameBut hs (cne y c e)⟩
  obtain⟨e,n,ne,nf,d⟩:=I.pin p hp;exact⟨(hs.2 p.1 ne).trans e,n,ne,nf,d⟩
 have hfn:X.fn x=true:=by
  rcases hf with z|z
  ·exact z
  rw[z]at hk;cases hk
 obtain⟨c,hc⟩:=I.ok.has x (.inl hk);obtain⟨w',z⟩:=I.cell x c hc;refine wpAny_storeName_cell I.ok.kind hk hc z (λh' hc' hs=>?_);obtain⟨oc,hoc,hocd⟩:=id z;refine h {s with heap:=h'} ⟨I.ok,I.os,I.bare,⟨λb o e n hb hx=>?_,λb o e n hb hx=>?_,I.base.free,λb o e hx=>?_,I.base.tups,I.base.frzs,I.base.tbls⟩,⟨m,hn.sameBut hs (Kg (cne x c hc)),λj y v' e1 e2 e3=>?_⟩,λy c' e=>?_,I.free,I.freeC,λp hp=>?_,tracked ⟨oc,hoc,I.freeC x c hc⟩ hs,by simpa using I.len⟩ ⟨c,hs,.inr hc⟩
 ·exact(hs.2 b (t_ (w_ (Jl e) (I.ok.cab x c hfn hc)))).trans (I.base.keep b o e n hb hx)
 ·obtain⟨sl,e1⟩:=I.base.slot b o e n hb hx;exact⟨sl,(hs.2 b (t_ (w_ (Jl e) (I.ok.cab x c hfn hc)))).trans e1⟩
 ·obtain⟨o',e1⟩:=I.base.there b o e hx;exact⟨o',(hs.2 b (t_ (w_ (Jl e) (I.ok.cab x c hfn hc)))).trans e1⟩
 ·by_cases hj:j=i
  ·subst hj;rw[hi]at e1;cases e1;rw[Fu hiσ]at e2;cases e2;exact⟨u,r,.inr ⟨.inl hk,c,hc,hc'⟩⟩
  rw[FC (Kg hj)]at e2;obtain⟨u',r',q⟩:=hl j y v' e1 e2 e3;refine⟨u',r',?_⟩;rcases q with q|⟨k,c',e,z'⟩
  ·exact .inl q
  refine .inr ⟨k,c',e,z'.sameBut hs ?_⟩;rintro rfl;exact hj (pQ hN e1 (I.ok.inj _ _ _ e hc▸hi))
 ·by_cases hcc:c'=c
  ·subst hcc;exact⟨_,hc'⟩
  obtain⟨w2,z2⟩:=I.cell y c' e;exact⟨w2,z2.sameBut hs hcc⟩
 obtain⟨e,n,ne,nf,d⟩:=I.pin p hp;refine⟨(hs.2 p.1 ?_).trans e,n,ne,nf,d⟩;intro q;rw[q,hoc]at e;have q':oc=p.2:=EM e;exact d w' (by rw[<-q'];exact hocd)
theorem ja(I:Inv X ac σ H s)(hN:X.N.Nodup)(hi:X.N[i]?=some x)(hx:Loc X.env.scope x)(r:RelV v u)
  (h:∀s',Inv X ac (σ.set i (some v)) H s'->Q () s') (hf:X.fn x=true\/X.env.scope.names.lookup x=some .local:=by first|exact .inl rfl|exact .inr rfl|assumption):Jf M A (Pa X.env x u) Q E s:=
 nN I hN hi hx r (λs' I' _=>h s' I') hf
theorem Inv.mw {s':Jc}(I:Inv X ac σ H s)(ho:s'.os=s.os)(u:Un (frs X.stack) ch H H' s.heap s'.heap)(hok:HOk X.prog X.w H' s'.heap)(hg:Lp s'.gens)
  (hch:∀b∈ch,(b∈X.ex\/X.s₀.heap.objs.size<=b)/\b≠X.env.locals/\(∀x c,X.env.cells.lookup x=some c->c≠b)/\∀p∈X.pn++ac,p.1≠b):Inv X ac σ H' s':=by
 obtain⟨h',g',d',t',o'⟩:=s';have e:o'=s.os:=ho;subst e;exact I.call (g':=g') (t':=t') (d':=d') u hok hg hch
end
abbrev XK:=IY->Option I_->Hp->Prop
abbrev St:=List (Option V)
abbrev VK:=V->Hp->Prop
abbrev TE:=St->Hp->VK->Prop
abbrev TT:=St->Hp->(Bool->Hp->Prop)->Prop
abbrev TA:=St->Hp->(List V->Hp->Prop)->Prop
structure Ends where
 nx:St->Hp->Prop
 rt:VK
 bk:St->Hp->Prop:=λ_ _=>False
 ct:St->Hp->Prop:=λ_ _=>False
abbrev TS:=Ends->St->Hp->Prop
def EP(X:Cx)(ac:List (I_×Obj))(σ:St)(Q:VK)(u:IY)(s':Jc):Prop:=∃v H',Inv X ac σ H' s'/\RelV v u/\Q v H'
noncomputable def TP(X:Cx)(ac:List (I_×Obj))(σ:St)(Q:Bool->Hp->Prop)(b:Bool)(s':Jc):Prop:=∃H',Inv X ac σ H' s'/\Q b H'
def AP(X:Cx)(ac:List (I_×Obj))(σ:St)(Q:List V->Hp->Prop)(us:List IY)(s':Jc):Prop:=∃vs H',Inv X ac σ H' s'/\Vals vs us/\Q vs H'
def SP(X:Cx)(ac:List (I_×Obj))(D:Ends)(f:Flow)(s':Jc):Prop:=
 match f with
 | .next=>∃ bv H',Inv X ac bv H' s'/\D.nx bv H'
 | .brk=>∃ bv H',Inv X ac bv H' s'/\D.bk bv H'
 | .cont=>∃ bv H',Inv X ac bv H' s'/\D.ct bv H'
 | .ret u=>∃v bv H',Inv X ac bv H' s'/\RelV v u/\D.rt v H'
def PE(X:Cx)(e:Jn)(t:TE):Prop:=
 ∀(ac:List (I_×Obj)) (s:Jc) (σ:St) (H:Hp) (Q:VK),Inv X ac σ H s->t σ H Q->Jf (Jh X.prog X.w) X.A (JC e X.env) (EP X ac σ Q) X.xe s
def PT(X:Cx)(e:Jn)(t:TT):Prop:=
 ∀(ac:List (I_×Obj)) (s:Jc) (σ:St) (H:Hp) (Q:Bool->Hp->Prop),Inv X ac σ H s->t σ H Q->Jf (Jh X.prog X.w) X.A (Nd e X.env (JC e X.env)) (TP X ac σ Q) X.xe s
def PW(X:Cx)(e:Jn)(t:TT):Prop:=
 ∀(whole:Sem IY) (ac:List (I_×Obj)) (s:Jc) (σ:St) (H:Hp) (Q:Bool->Hp->Prop),Inv X ac σ H s->t σ H Q->Jf (Jh X.prog X.w) X.A (Nd e X.env whole) (TP X ac σ Q) X.xe s
variable {X:Cx}{e:Jn}
theorem PW.pt {t:TT}(h:PW X e t):PT X e t:=h _
def PA(X:Cx)(es:List Jn)(t:TA):Prop:=
 ∀(pos:Pos) (ac:List (I_×Obj)) (s:Jc) (σ:St) (H:Hp) (Q:List V->Hp->Prop),Inv X ac σ H s->t σ H Q->Jf (Jh X.prog X.w) X.A (spliced (KH pos (Jo es X.env))) (AP X ac σ Q) X.xe s
def PS(X:Cx)(st:JA)(t:TS):Prop:=
 ∀(ac:List (I_×Obj)) (s:Jc) (σ:St) (H:Hp) (D:Ends),Inv X ac σ H s->t D σ H->Jf (Jh X.prog X.w) X.A (exec st X.env) (SP X ac D) X.xe s
def PSs(X:Cx)(st:List JA)(t:TS):Prop:=
 ∀(ac:List (I_×Obj)) (s:Jc) (σ:St) (H:Hp) (D:Ends),Inv X ac σ H s->t D σ H->Jf (Jh X.prog X.w) X.A (execs st X.env) (SP X ac D) X.xe s
theorem thn{α:Type}{t:Sem α}{Q Q':α->Jc->Prop}(h:Jf M A t Q E s)(hQ:∀a s,Q a s->Q' a s):Jf M A t Q' E s:=Js h hQ λ_ _ x=>x
variable {c:Jn}{ac:List (I_×Obj)}{pos:Pos}{σ:St}
section
variable{X:Cx}
noncomputable def BM(i:Nat):TE:=λσ H Q=>∃v,σ[i]?=some (some v)/\Q v H
noncomputable def tC(v:V):TE:=λ_ H Q=>Q v H
theorem cq(hN:X.N[i]?=some x)(hv:Vis X.env.scope x)(hd:(x ==("__debug__":Str))=false:=by decide)(hcd:(x ==("__classdict__":Str))=false:=by decide):PE X (.Name x pos) (BM i):=by
 intro ac s σ H Q I h;obtain⟨v,e,h⟩:=h;obtain⟨m,hn,hl⟩:=I.loc;obtain⟨u,r,l⟩:=hl i x v hN e hv;have fin:EP X ac σ Q u s:=⟨v,H,I,r,h⟩;rcases l with⟨hk,hm⟩|⟨hk,c,hc,hcell⟩
 ·exact Oz (NB I.ok.kind hk hn hm fin) hd
 rcases hk with hk|hk
 ·exact Oz (NN I.ok.kind hk hc hcell fin) hd
 exact Oz (wpAny_loadName_free I.ok.kind hk hc hcell fin hcd) hd
theorem aX{i j pos}:PE X (.Constant (.int i) j pos) (tC (.int i)):=λ_ _ _ H _ I h=>NS ⟨.int i,H,I.tok _,⟨_,rfl⟩,h⟩
theorem Dy{b j pos}:PE X (.Constant (.bool b) j pos) (tC (.bl b)):=λ_ _ _ H _ I h=>Constant_bool ⟨.bl b,H,I,rfl,h⟩
theorem Bv{j pos}:PE X (.Constant .none j pos) (tC .non):=λ_ _ _ H _ I h=>Constant_none ⟨.non,H,I,rfl,h⟩
theorem cH{x j pos}:PE X (.Constant (.str x) j pos) (tC (.str x)):=λ_ _ _ H _ I h=>Calls.Constant_str ⟨.str x,H,I.tok _,⟨_,rfl⟩,h⟩
noncomputable def Gl(X:Cx)(x:Str):Prop:=X.env.kindOf x=some .globalImplicit
theorem fC{Q:IY->Jc->Prop}(I:Inv X ac σ H s)(hg:Gl X x)(hm:X.mg x=some u)(h:Q u s)
  (hd:(x ==("__debug__":Str))=false:=by decide):Jf (Jh X.prog X.w) X.A (JC (.Name x pos) X.env) Q E s:=
 Ms I.ok.kind hg (Calls.loadGlobal_global (by rw[I.ok.glob];exact I.mod.glob.keeps I.bk) hm h) hd
theorem cU{Q:IY->Jc->Prop}(I:Inv X ac σ H s)(hg:Gl X x)(hm:X.mg x=none)(hv:KU x=some u)(h:Q u s)
  (hn:x≠"__name__":=by decide) (hd:(x ==("__debug__":Str))=false:=by decide):Jf (Jh X.prog X.w) X.A (JC (.Name x pos) X.env) Q E s:=by
 obtain⟨mb,h1,h2⟩:=I.mod.blt;exact Ms I.ok.kind hg (Calls.loadGlobal_builtin (by rw[I.ok.glob];exact I.mod.glob.keeps I.bk) hm (by rw[I.ok.blt];exact h1.keeps I.bk) ((h2 x hn).trans hv) h) hd
theorem dZ(hg:Gl X x)(hm:X.mg x=some u)(r:RelV v u)(hd:(x ==("__debug__":Str))=false:=by decide):PE X (.Name x pos) (tC v):=
 λ_ _ _ H _ I h=>fC I hg hm ⟨v,H,I,r,h⟩ hd
theorem yO(hg:Gl X x)(hm:X.mg x=none)(hv:KU x=some u)(r:RelV v u)(hn:x≠"__name__":=by decide)(hd:(x ==("__debug__":Str))=false:=by decide):PE X (.Name x pos) (tC v):=
 λ_ _ _ H _ I h=>cU I hg hm hv ⟨v,H,I,r,h⟩ hn hd
variable{a b:Jn}{ta tb:TE}{pos:Pos}
noncomputable def tB(t:TE):TT:=λσ H Q=>t σ H λx H1=>∃c,x=.bl c/\Q c H1
theorem sr{t:TE}(h:PE X e t)(he:∀whole,Nd e X.env whole=(do let v <-whole;N4 e.pos;Lq [v] (PV v)):=by intro _;rfl):PT X e (tB t):=by intro ac s σ H Q I hw;refine PX (thn (h ac s σ H _ I hw) λv s1 ⟨x,H1,I1,r1,q1⟩=>?_) (he _);obtain⟨d,rfl,q⟩:=q1;cases r1;exact LN ⟨H1,I1,q⟩
variable{tA tB':TT}{rest:List Jn}
noncomputable def Ew(t u:TT):TT:=λσ H Q=>t σ H λc H1=>if c=true then u σ H1 Q else Q false H1
noncomputable def tOr(t u:TT):TT:=λσ H Q=>t σ H λc H1=>if c=true then Q true H1 else u σ H1 Q
noncomputable def Eu(t:TT):TT:=λσ H Q=>t σ H λc H1=>Q (!c) H1
theorem zg(ha:PT X a tA):PW X (.BoolOp .And [a] pos) tA:=by
 intro wh ac s σ H Q I h;refine isTrue_and (thn (ha ac s σ H Q I h) λc s1 e=>?_);cases c with
 |true=>exact isTrue_and_nil e
 |false=>exact e
theorem ve(ha:PT X a tA):PW X (.BoolOp .Or [a] pos) tA:=by
 intro wh ac s σ H Q I h;refine isTrue_or (thn (ha ac s σ H Q I h) λc s1 e=>?_);cases c with
 |false=>exact isTrue_or_nil e
 |true=>exact e
theorem C3(ha:PT X a tA)(hb:PW X (.BoolOp .And (b::rest) pos) tB'):PW X (.BoolOp .And (a::b::rest) pos) (Ew tA tB'):=by
 intro wh ac s σ H Q I h;refine isTrue_and (thn (ha ac s σ H _ I h) ?_);rintro c s1 ⟨H1,I1,q1⟩;cases c with
 |true=>exact hb wh ac s1 σ H1 Q I1 q1
 |false=>exact⟨H1,I1,q1⟩
theorem xj(ha:PT X a tA)(hb:PW X (.BoolOp .Or (b::rest) pos) tB'):PW X (.BoolOp .Or (a::b::rest) pos) (tOr tA tB'):=by
 intro wh ac s σ H Q I h;refine isTrue_or (thn (ha ac s σ H _ I h) ?_);rintro c s1 ⟨H1,I1,q1⟩;cases c with
 |true=>exact⟨H1,I1,q1⟩
 |false=>exact hb wh ac s1 σ H1 Q I1 q1
theorem rX(ha:PT X a tA):PT X (.UnaryOp .Not a pos) (Eu tA):=by intro ac s σ H Q I h;exact isTrue_not (ha ac s σ H (λc H1=>Q (!c) H1) I h)
noncomputable def tIf(t:TT)(ta tb:TE):TE:=λσ H Q=>t σ H λc H1=>if c=true then ta σ H1 Q else tb σ H1 Q
theorem xv(hc:PT X c tA)(ha:PE X a ta)(hb:PE X b tb):PE X (.IfExp c a b pos) (tIf tA ta tb):=by
 intro ac s σ H Q I h;refine wpAny_IfExp (thn (hc ac s σ H _ I h) ?_);rintro d s1 ⟨H1,I1,q1⟩;cases d with
 |true=>exact ha ac s1 σ H1 Q I1 q1
 |false=>exact hb ac s1 σ H1 Q I1 q1
end
def SqL(K:Ja)(H:Hp)(a:I_)(xs:List V):Prop:=
 Rd H a (.lst xs)\/
  ∃(o:Obj) (bd:Array IY) (n:Nat),K.lookup a=some o/\o.cls=.type "list"/\o.dict=none/\o.data=.seq bd n/\bd.size<=sizeLine/\Vals xs bd.toList
def SqT(K:Ja)(H:Hp)(a:I_)(xs:List V):Prop:=
 Rd H a (.tup xs)\/
  ∃(o:Obj) (bd:Array IY) (n:Nat),K.lookup a=some o/\o.cls=.type "tuple"/\o.data=.seq bd n/\bd.size<=sizeLine/\Vals xs bd.toList
noncomputable def EE:IY->Option V
 | .none=>some .non
 | .bool b=>some (.bl b)
 | .int i _=>some (.int i)
 | .str x _=>some (.str x)
 | .bytes b _=>some (.byt b)
 | .float b _=>some (.flt b)
 | .ref a=>some (.ref a)
 | .type n=>some (.ty n)
 | _=>none
theorem RelV.abs {x:V}(r:RelV x u):EE u=some x:=by
 cases x with
 |non=>cases r;rfl
 |bl _=>cases r;rfl
 |int _=>obtain⟨t,rfl⟩:=r;rfl
 |str _=>obtain⟨t,rfl⟩:=r;rfl
 |byt _=>obtain⟨t,rfl⟩:=r;rfl
 |flt _=>obtain⟨t,rfl⟩:=r;rfl
 |ref _=>cases r;rfl
 |ty _=>cases r;rfl
theorem RelV.inj {x y:V}(r:RelV x u)(q:RelV y u):x=y:=EM (r.abs.symm.trans q.abs)
theorem Vals.inj:∀{xs ys:List V}{us:List IY},Vals xs us->Vals ys us->xs=ys:=by
 intro xs ys us x;induction x generalizing ys with
 |nil=>intro y;cases y;rfl
 |cons r t ih=>
  intro y;cases y with
  |cons r' t'=>rw[r.inj r',ih t']
variable {K:Ja}
section
variable{X:Cx}{ac:List (I_×Obj)}{σ:St}{H:Hp}{s:Jc}{a:I_}{xs ys:List V}
theorem SqL.of (h:H a=some (.lst xs)):SqL K H a xs:=.inl (.inl h)
theorem SqT.of (h:H a=some (.tup xs)):SqT K H a xs:=.inl (.inl h)
theorem Inv.list (I:Inv X ac σ H s)(h:SqL X.K H a xs):∃bd:List IY,Vals xs bd/\PlainL s.heap a bd.toArray/\xs.length<=sizeLine:=by
 rcases h with h|⟨o,bd,n,hk,hc,hd,hs,hz,r⟩
 ·obtain⟨z,bd,n,r,e⟩:=h.ok I.hok;exact⟨bd,r,⟨_,n,e,rfl,rfl,rfl⟩,z⟩
 refine⟨bd.toList,r,⟨o,n,I.kIn a o hk,hc,hd,by simpa using hs⟩,?_⟩;have e:=r.length;simp only[r_]at e;lia
theorem Inv.tuple (I:Inv X ac σ H s)(h:SqT X.K H a xs):∃bd:List IY,Vals xs bd/\PH s.heap a bd.toArray/\xs.length<=sizeLine:=by
 rcases h with h|⟨o,bd,n,hk,hc,hs,hz,r⟩
 ·obtain⟨z,bd,r,p⟩:=h.ok I.hok;exact⟨bd,r,p,z⟩
 refine⟨bd.toList,r,⟨o,I.kIn a o hk,hc,n,by simpa using hs⟩,?_⟩;have e:=r.length;simp only[r_]at e;lia
theorem Inv.lR (I:Inv X ac σ H s)(h:SqL X.K H a xs)(h':SqL X.K H a ys):xs=ys:=by
 obtain⟨bd,r,⟨o,n,e,_,_,d⟩,_⟩:=I.list h;obtain⟨its',r',⟨o',n',e',_,_,d'⟩,_⟩:=I.list h';rw[e]at e';cases e';rw[d]at d';injection d' with d1 _
 have:bd=its':=by simpa using congrArg IH d1
 subst this;exact r.inj r'
theorem Inv.jF (I:Inv X ac σ H s)(h:SqT X.K H a xs)(h':SqT X.K H a ys):xs=ys:=by
 obtain⟨bd,r,⟨o,e,_,n,d⟩,_⟩:=I.tuple h;obtain⟨its',r',⟨o',e',_,n',d'⟩,_⟩:=I.tuple h';rw[e]at e';cases e';rw[d]at d';injection d' with d1 _
 have:bd=its':=by simpa using congrArg IH d1
 subst this;exact r.inj r'
end
abbrev Cx.jQ (X:Cx)(E:IY->Jc->Prop):Cx:={ X with xe:=E}
abbrev Cx.nox (X:Cx):Cx:=X.jQ λ_ _=>False
theorem Cx.Ok.jQ (ok:X.Ok)(E:IY->Jc->Prop):(X.jQ E).Ok:=
 ⟨ok.mod,ok.kind,ok.glob,ok.blt,ok.above,ok.inj,ok.has,ok.cab,ok.hd,ok.frames,ok.stk,ok.exf,ok.bs,ok.bsz,ok.noex,ok.exfs,ok.i7,ok.frf⟩
theorem Cx.Ok.cR (ok:(X.jQ E).Ok):X.Ok:=
 ⟨ok.mod,ok.kind,ok.glob,ok.blt,ok.above,ok.inj,ok.has,ok.cab,ok.hd,ok.frames,ok.stk,ok.exf,ok.bs,ok.bsz,ok.noex,ok.exfs,ok.i7,ok.frf⟩
section
variable{X:Cx}{ac:List (I_×Obj)}{σ:St}{H:Hp}{s:Jc}{E:IY->Jc->Prop}
theorem Inv.jQ (I:Inv X ac σ H s)(E:IY->Jc->Prop):Inv (X.jQ E) ac σ H s:=⟨I.ok.jQ E,I.os,I.bare,I.base,I.loc,I.cell,I.free,I.freeC,I.pin,I.hok,I.len⟩
theorem Inv.cR (I:Inv (X.jQ E) ac σ H s):Inv X ac σ H s:=⟨I.ok.cR,I.os,I.bare,I.base,I.loc,I.cell,I.free,I.freeC,I.pin,I.hok,I.len⟩
theorem SP.cR {D:Ends}{f:Flow}{s':Jc}(h:SP (X.jQ E) ac D f s'):SP X ac D f s':=by
 cases f with
 |next=>obtain⟨bv,H',I,q⟩:=h;exact⟨bv,H',I.cR,q⟩
 |brk=>obtain⟨bv,H',I,q⟩:=h;exact⟨bv,H',I.cR,q⟩
 |cont=>obtain⟨bv,H',I,q⟩:=h;exact⟨bv,H',I.cR,q⟩
 |ret u=>obtain⟨v,bv,H',I,r,q⟩:=h;exact⟨v,bv,H',I.cR,r,q⟩
theorem PT.nox {t:TT}(h:PT X.nox e t):PT X e t:=λac s σ H Q I hw=>
 Js (h ac s σ H Q (I.jQ _) hw) (λ_ _ ⟨H',I',q⟩=>⟨H',I'.cR,q⟩) λ_ _ z=>Jq z
theorem PSs.nox {st:List JA}{t:TS}(h:PSs X.nox st t):PSs X st t:=λac s σ H D I hw=>
 Js (h ac s σ H D (I.jQ _) hw) (λ_ _ q=>q.cR) λ_ _ z=>Jq z
end
section
variable{X:Cx}{st:JA}{rest:List JA}{t u:TS}{e:Jn}{te:TE}{pos:Pos}
noncomputable def CV:TS:=λD σ H=>D.nx σ H
noncomputable def Es(t u:TS):TS:=λD σ H=>t { D with nx:=u D} σ H
theorem jr:PSs X [] CV:=λ_ _ σ H _ I h=>Lx ⟨σ,H,I,h⟩
theorem aN(h1:PS X st t)(h2:PSs X rest u):PSs X (st::rest) (Es t u):=by
 intro ac s σ H D I h;refine Lh (thn (h1 ac s σ H { D with nx:=u D} I h) λf s1 q=>?_);cases f with
 |next=>
  obtain⟨bv,H',I',q⟩:=q;exact h2 ac s1 bv H' D I' q
 |ret v=>exact q
 |brk=>exact q
 |cont=>exact q
theorem cw(h1:PS X st t):PSs X [st] t:=by
 intro ac s σ H D I h;refine Lh (thn (h1 ac s σ H D I h) λf s1 q=>?_);cases f with
 |next=>exact Lx q
 |ret v=>exact q
 |brk=>exact q
 |cont=>exact q
theorem Inv.quiet (I:Inv X ac σ H s):Qj X.env=false:=by simp[Qj,I.ok.kind]
noncomputable def D5(te:TE):TS:=λD σ H=>te σ H λ_ H1=>D.nx σ H1
theorem zq(he:PE X e te)(hs:Kv e none pos.line X.env=pure false:=by rfl):PS X (.Expr e pos) (D5 te):=by intro ac s σ H D I h;exact Nf (thn (he ac s σ H _ I h) λv s1 ⟨x,H1,I1,r1,q1⟩=>⟨σ,H1,I1,q1⟩) I.quiet hs
noncomputable def EK(te:TE):TS:=λD σ H=>te σ H D.rt
theorem jZ(he:PE X e te):PS X (.Return (some e) pos) (EK te):=by intro ac s σ H D I h;exact wpAny_Return_some (thn (he ac s σ H _ I h) λv s1 ⟨x,H1,I1,r1,q1⟩=>⟨x,σ,H1,I1,r1,q1⟩)
noncomputable def EA(c:TT)(t u:TS):TS:=λD σ H=>c σ H λb H1=>if b=true then t D σ H1 else u D σ H1
theorem pG{a b:List JA}{tc:TT}(hc:PT X c tc)(ha:PSs X a t)(hb:PSs X b u):PS X (.If c a b pos) (EA tc t u):=by
 intro ac s σ H D I h;refine wpAny_If (thn (hc ac s σ H _ I h) ?_);rintro d s1 ⟨H1,I1,q1⟩;cases d with
 |true=>exact ha ac s1 σ H1 D I1 q1
 |false=>exact hb ac s1 σ H1 D I1 q1
end
abbrev TG:=V->St->Hp->(St->Hp->Prop)->Prop
abbrev TGs:=List V->St->Hp->(St->Hp->Prop)->Prop
def PG(X:Cx)(target:Jn)(t:TG):Prop:=
 ∀(ac:List (I_×Obj)) (s:Jc) (σ:St) (H:Hp) (v:V) (u:IY) (Q:St->Hp->Prop),Inv X ac σ H s->RelV v u->t v σ H Q->
  Jf (Jh X.prog X.w) X.A (LQ target X.env u) (λ_ s'=>∃ bv H',Inv X ac bv H' s'/\Q bv H') X.xe s
def PGs(X:Cx)(ts:List Jn)(t:TGs):Prop:=
 ∀(ac:List (I_×Obj)) (s:Jc) (σ:St) (H:Hp) (vs:List V) (us:List IY) (Q:St->Hp->Prop),Inv X ac σ H s->Vals vs us->t vs σ H Q->
  Jf (Jh X.prog X.w) X.A (assignInOrder ((KG ts X.env).map (·.2)) us) (λ_ s'=>∃ bv H',Inv X ac bv H' s'/\Q bv H') X.xe s
abbrev zB:=V->V->V->Hp->(Hp->Prop)->Prop
def su(X:Cx)(t:zB):Prop:=
 ∀(ac:List (I_×Obj)) (s:Jc) (σ:St) (H:Hp) (o i v:V) (ov iv u:IY) (Q:Hp->Prop),Inv X ac σ H s->RelV o ov->RelV i iv->RelV v u->t o i v H Q->
  Jf (Jh X.prog X.w) X.A (OY ov iv u) (λ_ s'=>∃H',Inv X ac σ H' s'/\Q H') X.xe s
abbrev TIp:=V->V->Hp->VK->Prop
def PIp(X:Cx)(op:MP)(t:TIp):Prop:=
 ∀(ac:List (I_×Obj)) (s:Jc) (σ:St) (H:Hp) (x y:V) (v u:IY) (Q:VK),Inv X ac σ H s->RelV x v->RelV y u->t x y H Q->
  Jf (Jh X.prog X.w) X.A (inplaceOp op v u) (EP X ac σ Q) X.xe s
variable {body:List JA}{es:List Jn}{te:TE}{tg:Jn}
section
variable{X:Cx}{pos:Pos}
noncomputable def tS(i:Nat):TG:=λv σ H Q=>Q (σ.set i (some v)) H
theorem sN(hN:X.N.Nodup)(hi:X.N[i]?=some x)(hx:Loc X.env.scope x)(hf:X.fn x=true\/X.env.scope.names.lookup x=some .local:=by first|exact .inl rfl|exact .inr rfl|assumption):PG X (.Name x pos) (tS i):=by intro ac s σ H v u Q I r h;exact N8 (ja I hN hi hx r (λs' I'=>⟨_,H,I',h⟩) hf)
noncomputable def Em:TGs:=λvs σ H Q=>vs=[]/\Q σ H
noncomputable def CH(t:TG)(u:TGs):TGs:=λvs σ H Q=>∃v r,vs=v::r/\t v σ H λbv H'=>u r bv H' Q
theorem tj:PGs X [] Em:=by intro ac s σ H vs us Q I r h;obtain⟨e,h⟩:=h;subst e;cases r;exact assignInOrder_nil ⟨σ,H,I,h⟩
theorem lF{t:TG}{u:TGs}(h1:PG X e t)(h2:PGs X es u)
  (hs:(KG (e::es) X.env).map (·.2)=LQ e X.env::(KG es X.env).map (·.2):=by rfl):PGs X (e::es) (CH t u):=by
 intro ac s σ H vs us Q I r h;obtain⟨v,vr,e1,h⟩:=h;subst e1;cases r with
 |cons r rr=>
  rw[hs];refine assignInOrder_cons (thn (h1 ac s σ H _ _ _ I r h) ?_);rintro _ s1 ⟨σ1,H1,I1,q1⟩;exact h2 ac s1 σ1 H1 _ _ Q I1 rr q1
def Ez(K:Ja)(n:Nat)(t:TGs):TG:=λv σ H Q=>∃a xs,v=.ref a/\SqT K H a xs/\xs.length=n/\t xs σ H Q
theorem x4{k:Nat}{t:TGs}{n:Nat}(hc:X.calm=true)(h:PGs X es t)
  (hn:(KG es X.env).length=n:=by rfl) (hst:(KG es X.env).findIdx? (·.1)=none:=by rfl):PG X (.Tuple es k pos) (Ez X.K n t):=by
 intro ac s σ H v u Q I r hw;obtain⟨a,xs,e1,hq,hl,hw⟩:=hw;subst e1;cases r;obtain⟨bd,rv,ht,hz⟩:=I.tuple hq;refine assign_Tuple_tuple (I.ok.hd hc) ht (by simp[hn,<-hl,rv.length]) hst λh' hx=>?_
 have I1:Inv X ac σ H {s with heap:=h'}:=I.kept (t':=s.toks) λb o e=>hx b o (t_ (Jl e)) e;exact h ac _ σ H xs _ Q I1 (by simpa using rv) hw
noncomputable def E9(to ti:TE)(t:zB):TG:=λv σ H Q=>to σ H λo H1=>ti σ H1 λi H2=>t o i v H2 λH3=>Q σ H3
theorem vR{o i:Jn}{to ti:TE}{t:zB}(ho:PE X o to)(hi:PE X i ti)(hs:su X t)
  (ha:∀v,LQ (.Subscript o i pos) X.env v=(do
   let ov <-Lq [v] (JC o X.env)
   let iv <-Lq [v,ov] (JC i X.env)
   N4 pos
   Lq [v,ov,iv] (OY ov iv v)
   release [v,ov,iv] []):=by intro _;rfl):PG X (.Subscript o i pos) (E9 to ti t):=by
 intro ac s σ H v u Q I r h;rw[ha];refine IZ (Jy (thn (ho ac s σ H _ I h) ?_));rintro ov s1 ⟨x,H1,I1,r1,q1⟩;refine IZ (Jy (thn (hi ac s1 σ H1 _ I1 q1) ?_));rintro iv s2 ⟨y,H2,I2,r2,q2⟩;refine IZ (LX (IZ (Jy (thn (hs ac s2 σ H2 x y v ov iv u _ I2 r1 r2 r q2) ?_))));rintro _ s3 ⟨H3,I3,q3⟩;exact wpAny_release ⟨σ,H3,I3,q3⟩
noncomputable def zX(te:TE)(g:TG):TS:=λD σ H=>te σ H λx H1=>g x σ H1 D.nx
theorem xR{g:TG}(he:PE X e te)(hg:PG X tg g)(hs:Ph [tg] e pos.line X.env=pure false:=by rfl)(hw:Pj [tg] e X.env=pure none:=by rfl)
  (h1:(KG [tg] X.env).map (·.2)=[LQ tg X.env]:=by rfl):PS X (.Assign [tg] e pos) (zX te g):=by
 intro ac s σ H D I h;refine wpAny_Assign_stores (thn (he ac s σ H _ I h) λv s1 ⟨x,H1,I1,r1,q1⟩=>?_) hs hw;rw[h1];exact thn (hg ac s1 σ H1 x v _ I1 r1 q1) λ_ s2 q=>q
theorem dy{pos':Pos}(hN:X.N.Nodup)(hi:X.N[i]?=some x)(hx:Loc X.env.scope x)(he:PE X e te)(hs:Kv e (some (.Name x pos')) pos.line X.env=pure false:=by rfl)(hf:X.fn x=true\/X.env.scope.names.lookup x=some .local:=by first|exact .inl rfl|exact .inr rfl|assumption) :
  PS X (.Assign [.Name x pos'] e pos) (zX te (tS i)):=by
 intro ac s σ H D I h;refine wpAny_Assign_Name (thn (he ac s σ H _ I h) λv s1 ⟨y,H1,I1,r1,q1⟩=>?_) hs;exact ja I1 hN hi hx r1 (λs2 I2=>⟨_,H1,I2,q1⟩) hf
noncomputable def ED(i:Nat)(te:TE)(ti:TIp):TS:=λD σ H=>∃x,σ[i]?=some (some x)/\te σ H λy H1=>ti x y H1 λz H2=>D.nx (σ.set i (some z)) H2
theorem AG{op:MP}{ti:TIp}{pos':Pos}(hN:X.N.Nodup)(hi:X.N[i]?=some x)(hx:Loc X.env.scope x)(he:PE X e te)(ho:PIp X op ti)(hf:X.fn x=true\/X.env.scope.names.lookup x=some .local:=by first|exact .inl rfl|exact .inr rfl|assumption) :
  PS X (.AugAssign (.Name x pos') op e pos) (ED i te ti):=by
 intro ac s σ H D I h;obtain⟨v,e1,h⟩:=h;obtain⟨m,hn,hl⟩:=I.loc;have vis:Vis X.env.scope x:=by rcases hx with k|k;exact .inl k;exact .inr (.inl k)
 obtain⟨u,r,l⟩:=hl i x v hi e1 vis;refine wpAny_AugAssign_Name ?_;have go:Jf (Jh X.prog X.w) X.A (JC e X.env) (λw s₂=>Jf (Jh X.prog X.w) X.A (inplaceOp op u w) (λr s₃=>Jf (Jh X.prog X.w) X.A (Pa X.env x r) (λ_=>SP X ac D .next) X.xe s₃) X.xe s₂) X.xe s:=by refine thn (he ac s σ H _ I h) ?_;rintro w s1 ⟨y,H1,I1,r1,q1⟩;refine thn (ho ac s1 σ H1 v y u w _ I1 r r1 q1) ?_;rintro z s2 ⟨zv,H2,I2,r2,q2⟩;exact ja I2 hN hi hx r2 (λs3 I3=>⟨_,H2,I3,q2⟩) hf
 rcases l with⟨hk,hm⟩|⟨hk,c,hc,hcell⟩
 ·exact NB I.ok.kind hk hn hm go
 rcases hk with hk|hk
 ·exact NN I.ok.kind hk hc hcell go
 rcases hx with k|k
 ·have:X.env.scope.names.lookup x=some .free:=hk;rw[k]at this;cases this
 have:X.env.scope.names.lookup x=some .free:=hk;rw[k]at this;cases this
noncomputable def ipI(f:Int->Int->Int):TIp:=λx y H Q=>∃i j,x=.int i/\y=.int j/\Q (.int (f i j)) H
noncomputable def AL(c:TT)(tb:TS):TS:=λD σ H=>∃W:Nat->St->Hp->Prop,(∃m,W m σ H)/\∀m σ H,W m σ H->
 c σ H λb H1=>if b=true then ∃N:St->Hp->Prop,(∀ bv H',N bv H'->∃m',m'<m/\W m' bv H')/\tb { D with nx:=N,ct:=N,bk:=D.nx} σ H1 else D.nx σ H1
theorem wk{tc:TT}{tb:TS}(hp:NT (Jh X.prog X.w) X.A X.env X.xe)(hc:PT X c tc)(hb:PSs X body tb):PS X (.While c body [] pos) (AL tc tb):=by
 intro ac s σ H D I h;obtain⟨W,⟨m0,w0⟩,turn⟩:=h;refine wpAny_While (codeAny_whileLoop (λn s'=>∃ bv H',Inv X ac bv H' s'/\W n bv H') ?_ m0 ⟨σ,H,I,w0⟩);rintro n s1 ⟨σ1,H1,I1,w1⟩;refine KL hp (thn (hc ac s1 σ1 H1 _ I1 (turn n σ1 H1 w1)) ?_);rintro b s2 ⟨H2,I2,q2⟩;cases b with
 |true=>
  obtain⟨N,hN,q2⟩:=q2;rw[if_pos rfl];refine KL hp (thn (hb ac s2 σ1 H2 _ I2 q2) λf s3 q3=>?_);cases f with
  |next=>
   obtain⟨σ3,H3,I3,n3⟩:=q3;obtain⟨m',hm,w3⟩:=hN σ3 H3 n3;exact⟨m',hm,σ3,H3,I3,w3⟩
  |cont=>
   obtain⟨σ3,H3,I3,n3⟩:=q3;obtain⟨m',hm,w3⟩:=hN σ3 H3 n3;exact⟨m',hm,σ3,H3,I3,w3⟩
  |brk=>exact q3
  |ret v=>exact q3
 |false=>
  rw[if_neg EZ];exact Lx ⟨σ1,H2,I2,q2⟩
end
structure It where
 go:Nat->Hp->Prop
 yld:Nat->Hp->V->Hp->Prop
 stop:Nat->Hp->Prop
noncomputable def j6(X:Cx)(ac:List (I_×Obj))(H:Hp)(b:I_):Prop:=
 H b=none/\b≠X.env.locals/\b ∉ X.fs/\(b∈X.ex\/X.s₀.heap.objs.size<=b)/\(∀x c,X.env.cells.lookup x=some c->c≠b)/\∀p∈X.pn++ac,p.1≠b
theorem Inv.vF {H':Hp}(I:Inv X ac σ H s)(hb:s.heap.objs.size<=b)(hn:H' b=none):j6 X ac H' b:=by
 refine⟨hn,GN (w_ I.lt hb),I.Ea hb,.inr (ER I.sz hb),λx c e z=>?_,λp hp z=>?_⟩
 ·obtain⟨v,q⟩:=I.cell x c e;exact absurd (w_ q.lt (by rw[z];exact hb)) (FH _)
 exact absurd (w_ (Jl (I.pin p hp).1) (by rw[z];exact hb)) (FH _)
structure Turn (P:Ji) (w:Jm) (K:Ja) (tg:Jn) (J:It) (fp:List I_) (it:I_) (tn:Nat->Jp->Prop):Prop where
 mem:it∈fp
 obj:∀i h,tn i h->∀b∈fp,∃o,h.get? b=some o/\∀v,o.data≠.cell v
 keep:∀i h h',tn i h->(∀b∈fp,∀o,h.get? b=some o->h'.get? b=some o)->tn i h'
 item:∀(X:Cx),X.prog=P->X.w=w->X.K=K->X.calm=true->∀(i:Nat) (ac:List (I_×Obj)) (s:Jc) (σ:St) (H:Hp) (E:IY->Jc->Prop),Inv X ac σ H s->(∀b∈fp,j6 X ac H b)->tn i s.heap->J.go i H->
  Jf (Jh P w) X.A (KP (.ref it)) (λr s1=>∃u,r=some u/\
   Jf (Jh P w) X.A (L9 tg (.ref it) u) (λ_ s2=>∃x H',Inv X ac σ H' s2/\RelV x u/\J.yld i H x H'/\tn (i+1) s2.heap/\∀b∈fp,H' b=none) E s1) E s
 done:∀(X:Cx),X.prog=P->X.w=w->X.K=K->X.calm=true->∀(i:Nat) (ac:List (I_×Obj)) (s:Jc) (σ:St) (H:Hp) (E:IY->Jc->Prop),Inv X ac σ H s->(∀b∈fp,j6 X ac H b)->tn i s.heap->J.stop i H->
  Jf (Jh P w) X.A (KP (.ref it)) (λr s1=>r=none/\Inv X ac σ H s1) E s
 self:∀(A:Jr) (i:Nat) (s:Jc) (Q:IY->Jc->Prop) (E:IY->Jc->Prop),tn i s.heap->Q (.ref it) s->Jf (Jh P w) A (LR (.ref it)) Q E s
abbrev TI:=St->Hp->(It->Hp->Prop)->Prop
def PIE(X:Cx)(ac:List (I_×Obj))(σ:St)(tg:Jn)(R:It->Hp->Prop)(itv:IY)(s2:Jc):Prop:=
 ∃(it:I_) (fp:List I_) (tn:Nat->Jp->Prop) (J:It) (H':Hp),itv=.ref it/\Inv X ac σ H' s2/\Turn X.prog X.w X.K tg J fp it tn/\tn 0 s2.heap/\(∀b∈fp,j6 X ac H' b)/\R J H'
def PI(X:Cx)(tg iter:Jn)(wi:TI):Prop:=
 ∀(ac:List (I_×Obj)) (s:Jc) (σ:St) (H:Hp) (R:It->Hp->Prop),Inv X ac σ H s->wi σ H R->
  Jf (Jh X.prog X.w) X.A (JC iter X.env) (λv s1=>Jf (Jh X.prog X.w) X.A (LR v) (PIE X ac σ tg R) X.xe s1) X.xe s
theorem tR{it:I_}{o:Obj}{n:String}{vs:Array IY}(ho:s.heap.get? it=some o)(hc:o.cls=.type n)(hd:o.data=.fields vs)
    (hn:["enumerate","zip","dict_itemiterator","dict_reverseitemiterator","odict_iterator","itertools.zip_longest","itertools.pairwise"].contains n=false) (hQ:Q () s):Jf M A (L9 tg (.ref it) u) Q E s:=by
  unfold L9;cases tg <;> first
    |exact Jd hQ
    | (cases u <;> first
        |exact Jd hQ
        | (refine IZ (OA ho ?_)
           rw[hc,hd];show Jf M A (if(["enumerate","zip","dict_itemiterator","dict_reverseitemiterator","odict_iterator","itertools.zip_longest","itertools.pairwise"].contains n&&vs[0]? == some (Kf _))=true then _ else _) Q E s;rw[if_neg (by intro h;rw[hn,Bool.false_and]at h;cases h)];exact Jd hQ))
def Itl(K:Ja)(a:I_):It:=
 ⟨λi H=>∃xs x,SqL K H a xs/\xs[i]?=some x,λi H x H'=>H'=H/\∀xs,SqL K H a xs->xs[i]?=some x,λi H=>∃xs,SqL K H a xs/\xs.length<=i⟩
def Itt(K:Ja)(a:I_):It:=
 ⟨λi H=>∃xs x,SqT K H a xs/\xs[i]?=some x,λi H x H'=>H'=H/\∀xs,SqT K H a xs->xs[i]?=some x,λi H=>∃xs,SqT K H a xs/\xs.length<=i⟩
noncomputable def Itr(lo:Int)(n:Nat):It:=⟨λi _=>i<n,λi H x H'=>H'=H/\x=.int (lo+i),λi _=>n<=i⟩
theorem uA(a it:I_):Turn P w K tg (Itl K a) [it] it (λi h=>h.IsListIter it a i) where
 mem:=by simp
 obj:=λi h st b hb=>by
  have e:b=it:=by simpa using hb
  subst e;obtain⟨o,e,c,d⟩:=st;exact⟨o,e,λv z=>by rw[d]at z;cases z⟩
 keep:=λi h h' st k=>st.at λo e=>k it (by simp) o e
 item:=by
  intro X hP hw hK hc i ac s σ H E I hf st hg;subst hP hw hK;obtain⟨xs,x,hq,hx⟩:=hg;obtain⟨bd,rv,p,hz⟩:=I.list hq;obtain⟨u,hu,ru⟩:=rv.get hx;obtain⟨f0,f1,f2,f3,f4,f5⟩:=hf it (by simp);refine wpAny_pyNext_list_item st p.isList (x:=u) (by simpa using hu) λh' ap sb=>?_
  have I1:Inv X ac σ H {s with heap:=h'}:=I.turned (t':=s.toks) (λb o hb e=>(sb.2 b hb).trans e) f0 f1 f3 f4 f5;obtain⟨o,e,c,d⟩:=id ap;exact⟨u,rfl,tR (s:={s with heap:=h'}) e c d (by decide) ⟨x,H,I1,ru,⟨rfl,λys hy=>by rw[I.lR hy hq];exact hx⟩,ap,λb hb=>(hf b hb).1⟩⟩
 done:=by intro X hP hw hK hc i ac s σ H E I hf st hg;subst hP hw hK;obtain⟨xs,hq,hx⟩:=hg;obtain⟨bd,rv,p,hz⟩:=I.list hq;obtain⟨f0,f1,f2,f3,f4,f5⟩:=hf it (by simp);have hl:=rv.length;exact wpAny_pyNext_list_end (I.ok.hd hc) st p.isList (by simp;lia) λh' eb=>⟨rfl,I.turned (t':=s.toks) (λb o hb e=>eb b o hb e) f0 f1 f3 f4 f5⟩
 self:=λ_ _ _ _ _ st h=>wpAny_pyIter_listiter st h
theorem rG(a it:I_):Turn P w K tg (Itt K a) [it] it (λi h=>h.IsTupleIter it a i) where
 mem:=by simp
 obj:=λi h st b hb=>by
  have e:b=it:=by simpa using hb
  subst e;obtain⟨o,e,c,d⟩:=st;exact⟨o,e,λv z=>by rw[d]at z;cases z⟩
 keep:=λi h h' st k=>st.at λo e=>k it (by simp) o e
 item:=by
  intro X hP hw hK hc i ac s σ H E I hf st hg;subst hP hw hK;obtain⟨xs,x,hq,hx⟩:=hg;obtain⟨bd,rv,p,hz⟩:=I.tuple hq;obtain⟨u,hu,ru⟩:=rv.get hx;obtain⟨f0,f1,f2,f3,f4,f5⟩:=hf it (by simp);refine wpAny_pyNext_tuple_item st (show s.heap.IsTuple a bd.toArray from p) (x:=u) (by simpa using hu) λh' ap sb=>?_
  have I1:Inv X ac σ H {s with heap:=h'}:=I.turned (t':=s.toks) (λb o hb e=>(sb.2 b hb).trans e) f0 f1 f3 f4 f5;obtain⟨o,e,c,d⟩:=id ap;exact⟨u,rfl,tR (s:={s with heap:=h'}) e c d (by decide) ⟨x,H,I1,ru,⟨rfl,λys hy=>by rw[I.jF hy hq];exact hx⟩,ap,λb hb=>(hf b hb).1⟩⟩
 done:=by intro X hP hw hK hc i ac s σ H E I hf st hg;subst hP hw hK;obtain⟨xs,hq,hx⟩:=hg;obtain⟨bd,rv,p,hz⟩:=I.tuple hq;obtain⟨f0,f1,f2,f3,f4,f5⟩:=hf it (by simp);have hl:=rv.length;exact wpAny_pyNext_tuple_end (I.ok.hd hc) st (show s.heap.IsTuple a bd.toArray from p) (by simp;lia) λh' eb=>⟨rfl,I.turned (t':=s.toks) (λb o hb e=>eb b o hb e) f0 f1 f3 f4 f5⟩
 self:=λ_ _ _ _ _ st h=>wpAny_pyIter_tupleiter st h
theorem rh(it:I_)(lo:Int)(n:Nat):Turn P w K tg (Itr lo n) [it] it (λi h=>M6 h it (lo+(i:Nat)*1) ((n:Int)-(i:Nat)) 1) where
 mem:=by simp
 obj:=λi h st b hb=>by
  have e:b=it:=by simpa using hb
  subst e;exact⟨_,st,λv z=>by have z':Of _=Pb v:=z;cases z'⟩
 keep:=λi h h' st k=>k it (by simp) _ st
 item:=by intro X hP hw hK hc i ac s σ H E I hf st hg;subst hP hw hK;obtain⟨f0,f1,f2,f3,f4,f5⟩:=hf it (by simp);have W:=Qk (prog:=X.prog) (w:=X.w) (I.ok.hd hc) it lo 1 n;refine W.item i s _ _ hg st λv h' tk hv ap kk=>?_;obtain⟨t,rfl⟩:=hv;have I1:Inv X ac σ H {s with heap:=h',toks:=tk}:=I.turned (λb o hb e=>kk b o (by simpa using hb) e) f0 f1 f3 f4 f5;refine⟨_,rfl,tR (s:={s with heap:=h',toks:=tk}) (n:="range_iterator") ap rfl rfl (by decide) ⟨.int (lo+i),H,I1,⟨t,?_⟩,⟨rfl,rfl⟩,ap,λb hb=>(hf b hb).1⟩⟩;rw[IS]
 done:=by intro X hP hw hK hc i ac s σ H E I hf st hg;subst hP hw hK;obtain⟨f0,f1,f2,f3,f4,f5⟩:=hf it (by simp);exact M7 (I.ok.hd hc) st (by have:n<=i:=hg;lia) λh' eb=>⟨rfl,I.turned (t':=s.toks) (λb o hb e=>eb b o hb e) f0 f1 f3 f4 f5⟩
 self:=λ_ _ _ _ _ st h=>M8 st h
variable {fp:List I_}
section
variable{X:Cx}{tg:Jn}
theorem x3{R:It->Hp->Prop}{lo hi:Int}{t u v:Tok}{tk:Nat}(I:Inv X ac σ H s)(h1:-(2 ^ 62)<=lo)(h2:lo<2 ^ 62)(h3:-(2 ^ 62)<=hi)(h4:hi<2 ^ 62)
  (q:R (Itr lo (hi-lo).toNat) H):Jf (Jh X.prog X.w) X.A (LR (.ref s.heap.objs.size)) (PIE X ac σ tg R) E {s with heap:=s.heap.push { cls:=.type "range",data:=.fields #[.int lo t,.int hi u,.int 1 v] },toks:=tk}:=by
 refine NU (Og ..) (small_one h1 h2 h3 h4) ?_;have I1:Inv X ac σ H {s with heap:=s.heap.push { cls:=.type "range",data:=.fields #[.int lo t,.int hi u,.int 1 v] },toks:=tk}:=I.kept λb o e=>Je _ e;refine⟨(s.heap.push { cls:=.type "range",data:=.fields #[.int lo t,.int hi u,.int 1 v] }).objs.size,[(s.heap.push { cls:=.type "range",data:=.fields #[.int lo t,.int hi u,.int 1 v] }).objs.size],_,_,H,rfl,
  I1.kept (t':=tk) λb o e=>Je _ e,rh _ lo (hi-lo).toNat,?_,λb hb=>?_,q⟩
 ·have e1:lo+((0:Nat):Int)*1=lo:=by simp
  have e2:(((hi-lo).toNat:Nat):Int)-((0:Nat):Int)=K3 lo hi 1:=by rw[rangeSize_one];split <;> lia
  show M6 _ _ (lo+((0:Nat):Int)*1) ((((hi-lo).toNat:Nat):Int)-((0:Nat):Int)) 1;rw[e1,e2];exact Jj _ rfl
 have e:b=(s.heap.push { cls:=.type "range",data:=.fields #[.int lo t,.int hi u,.int 1 v] }).objs.size:=by simpa using hb
 subst e;exact I1.vF (c_ _) (I1.hok.fresh (c_ _))
def DV(ta:TA):TI:=λσ H R=>ta σ H λvs H1=>∃j:Int,vs=[.int j]/\-(2 ^ 62)<=j/\j<2 ^ 62/\R (Itr 0 j.toNat) H1
theorem vb{a:Jn}{ta:TA}{p:Pos}(hg:Gl X "range")(hm:X.mg "range"=none)(ha:PA X [a] ta)(hs:Jo [a] X.env=[(false,JC a X.env)]:=by rfl):PI X tg (.Call (.Name "range" p) [a] [] pos) (DV ta):=by
 intro ac s σ H R I h;refine Call_ (cU I hg hm OB (Le (thn (ha pos ac s σ H _ I h) λus s1 ⟨vs,H1,I1,r1,q1⟩=>?_) hs rfl));obtain⟨j,e,q1,q2,q⟩:=q1;subst e;cases r1 with
 |cons r rr=>
  cases rr;obtain⟨t,rfl⟩:=r;exact PY (x3 I1 (by lia) (by lia) q1 q2 (by simpa using q))
noncomputable def Ed(wi:TI)(g:TG)(tb:TS):TS:=λD σ H=>wi σ H λJ H1=>∃W:Nat->Nat->St->Hp->Prop,(∃m,W 0 m σ H1)/\∀i m σ H,W i m σ H->
 (J.stop i H/\D.nx σ H)\/(J.go i H/\∃N:St->Hp->Prop,(∀ bv H',N bv H'->∃m',m'<m/\W (i+1) m' bv H')/\∀x H',J.yld i H x H'->g x σ H' λσ2 H2=>tb { D with nx:=N,ct:=N,bk:=D.nx} σ2 H2)
noncomputable def jU(fp:List I_)(h:Jp):List (I_×Obj):=fp.filterMap λb=>(h.get? b).map λo=>(b,o)
theorem bO{o:Obj}(hb:b∈fp)(e:h.get? b=some o):(b,o)∈jU fp h:=HS.mpr ⟨b,hb,by rw[e];rfl⟩
theorem uB{p:I_×Obj}(hp:p∈jU fp h):p.1∈fp/\h.get? p.1=some p.2:=by
 obtain⟨b,hb,e⟩:=HS.mp hp;cases q:h.get? b with
 |none=>rw[q]at e;cases e
 |some o=>
  rw[q]at e;have e':(b,o)=p:=EM e;subst e';exact⟨hb,q⟩
theorem Inv.pinned (I:Inv X ac σ H s)(hf:∀b∈fp,j6 X ac H b)(ho:∀b∈fp,∃o,s.heap.get? b=some o/\∀v,o.data≠.cell v):Inv X (ac++jU fp s.heap) σ H s:=
 I.tJ λp hp=>(EO.mp hp).elim (λz=>I.pin p (l_ _ z)) λz=>by obtain⟨hb,e⟩:=uB z;obtain⟨f0,f1,f2,_⟩:=hf p.1 hb;obtain⟨o,e',d⟩:=ho p.1 hb;rw[e]at e';cases e';exact⟨e,f0,f1,f2,d⟩
theorem Inv.fU {pl:List (I_×Obj)}(I:Inv X (ac++pl) σ H s):Inv X ac σ H s:=I.tJ λp hp=>I.pin p (l_ _ (EL _ hp))
theorem AB{iter:Jn}{wi:TI}{g:TG}{tb:TS}(hp:NT (Jh X.prog X.w) X.A X.env X.xe)(hc:X.calm=true)(hi:PI X tg iter wi)(hg:PG X tg g)(hb:PSs X body tb)
  (hs:∀x,JY iter X.env x=pure x:=by intro _;rfl):PS X (.For tg iter body [] pos) (Ed wi g tb):=by
 intro ac s σ H D I h;refine wpAny_For (thn (hi ac s σ H _ I h) λv s1 h1=>thn h1 λitv s2 h2=>?_) hs;obtain⟨it,fp,tn,J,H2,e,I2,T,dL,f2,W,⟨m0,w0⟩,turn⟩:=h2;subst e;have stat:∀{H':Hp},(∀b∈fp,H' b=none)->∀b∈fp,j6 X ac H' b:=λhn b hb=>⟨hn b hb,(f2 b hb).2⟩;refine codeAny_forLoop_any (λn s'=>∃i bv H',Inv X ac bv H' s'/\tn i s'.heap/\(∀b∈fp,H' b=none)/\W i n bv H') ?_ m0 ⟨0,σ,H2,I2,dL,λb hb=>(f2 b hb).1,w0⟩;rintro n s3 ⟨i,σ3,H3,I3,f8,fr3,w3⟩;rcases turn i n σ3 H3 w3 with⟨stop,qn⟩|⟨go,N,hN,step⟩
 ·refine KL hp (thn (T.done X rfl rfl rfl hc i ac s3 σ3 H3 X.xe I3 (stat fr3) f8 stop) ?_);rintro r s4 ⟨hr,I4⟩;subst hr;exact Lx ⟨σ3,H3,I4,qn⟩
 refine KL hp (thn (T.item X rfl rfl rfl hc i ac s3 σ3 H3 X.xe I3 (stat fr3) f8 go) ?_);rintro r s4 ⟨u,hr,h4⟩;subst hr;refine KL hp (thn h4 ?_);rintro _ s5 ⟨x,H5,I5,r5,y5,st5,fr5⟩;have I5':=I5.pinned (stat fr5) (T.obj _ _ st5);refine KL hp (thn (hg _ s5 σ3 H5 x u _ I5' r5 (step x H5 y5)) ?_);rintro _ s6 ⟨σ6,H6,I6,q6⟩;refine KL hp (thn (hb _ s6 σ6 H6 _ I6 q6) λf s7 q7=>?_);have again:∀{σ7:St}{H7:Hp},Inv X (ac++jU fp s5.heap) σ7 H7 s7->N σ7 H7->∃m,m<n/\∃i bv H',Inv X ac bv H' s7/\tn i s7.heap/\(∀b∈fp,H' b=none)/\W i m bv H':=λ{σ7 H7} I7 n7=>by obtain⟨m',hm,w7⟩:=hN σ7 H7 n7;refine⟨m',hm,i+1,σ7,H7,I7.fU,T.keep _ _ _ st5 λb hb o e=>(I7.pin (b,o) (l_ _ (l_ _ (bO hb e)))).1,λb hb=>?_,w7⟩;obtain⟨o,e,d⟩:=T.obj _ _ st5 b hb;exact(I7.pin (b,o) (l_ _ (l_ _ (bO hb e)))).2.1
 cases f with
 |next=>obtain⟨σ7,H7,I7,n7⟩:=q7;exact again I7 n7
 |cont=>obtain⟨σ7,H7,I7,n7⟩:=q7;exact again I7 n7
 |brk=>obtain⟨σ7,H7,I7,q7⟩:=q7;exact⟨σ7,H7,I7.fU,q7⟩
 |ret v=>obtain⟨x7,σ7,H7,I7,r7,q7⟩:=q7;exact⟨x7,σ7,H7,I7.fU,r7,q7⟩
end
abbrev R2:=V->V->Hp->VK->Prop
def OpR(X:Cx)(f:IY->IY->Sem IY)(r:R2):Prop:=
 ∀(ac:List (I_×Obj)) (s:Jc) (σ:St) (H:Hp) (x y:V) (v u:IY) (Q:VK),Inv X ac σ H s->RelV x v->RelV y u->r x y H Q->
  Jf (Jh X.prog X.w) X.A (f v u) (EP X ac σ Q) X.xe s
def UnR(X:Cx)(f:IY->Sem IY)(r:V->Hp->VK->Prop):Prop:=
 ∀(ac:List (I_×Obj)) (s:Jc) (σ:St) (H:Hp) (x:V) (v:IY) (Q:VK),Inv X ac σ H s->RelV x v->r x H Q->
  Jf (Jh X.prog X.w) X.A (f v) (EP X ac σ Q) X.xe s
def cf(X:Cx)(f:IY)(r:List V->Hp->VK->Prop):Prop:=
 ∀(ac:List (I_×Obj)) (s:Jc) (σ:St) (H:Hp) (xs:List V) (us:List IY) (Q:VK),Inv X ac σ H s->Vals xs us->r xs H Q->
  Jf (Jh X.prog X.w) X.A (call f us) (EP X ac σ Q) X.xe s
def Ee(X:Cx)(r:V->Hp->(Bool->Hp->Prop)->Prop):Prop:=
 ∀(ac:List (I_×Obj)) (s:Jc) (σ:St) (H:Hp) (x:V) (v:IY) (Q:Bool->Hp->Prop),Inv X ac σ H s->RelV x v->r x H Q->
  Jf (Jh X.prog X.w) X.A (PV v) (TP X ac σ Q) X.xe s
noncomputable def tOp(r:R2)(ta tb:TE):TE:=λσ H Q=>ta σ H λx H1=>tb σ H1 λy H2=>r x y H2 Q
noncomputable def tUn(r:V->Hp->VK->Prop)(ta:TE):TE:=λσ H Q=>ta σ H λx H1=>r x H1 Q
noncomputable def rI(C:Int->Int->Prop)(g:Int->Int->V):R2:=λx y H Q=>∃i j,x=.int i/\y=.int j/\C i j/\Q (g i j) H
noncomputable def rI0(g:Int->Int->V):R2:=λx y H Q=>∃i j,x=.int i/\y=.int j/\Q (g i j) H
noncomputable def rU(g:Int->V):V->Hp->VK->Prop:=λx H Q=>∃i,x=.int i/\Q (g i) H
variable {f:IY->IY->Sem IY}{g:Int->Int->Int}{op:PJ}
section
variable{X:Cx}{a b c:Jn}{ta tb tc:TE}{pos:Pos}
theorem AM(ha:PE X a ta)(hb:PE X b tb){R:V->V->Hp->Prop}(I:Inv X ac σ H s)
  (h:ta σ H λx H1=>tb σ H1 λy H2=>R x y H2) {Q:IY->Jc->Prop} {f:IY->IY->Sem IY}
  (hf:∀v u s2 x y H2,Inv X ac σ H2 s2->RelV x v->RelV y u->R x y H2->Jf (Jh X.prog X.w) X.A (f v u) Q X.xe s2) :
  Jf (Jh X.prog X.w) X.A (JC a X.env) (λv s₁=>Jf (Jh X.prog X.w) X.A (JC b X.env) (λu s₂=>Jf (Jh X.prog X.w) X.A (f v u) Q X.xe s₂) X.xe s₁) X.xe s:=by
 refine thn (ha ac s σ H _ I h) ?_;rintro v s1 ⟨x,H1,I1,r1,q1⟩;refine thn (hb ac s1 σ H1 _ I1 q1) ?_;rintro u s2 ⟨y,H2,I2,r2,q2⟩;exact hf v u s2 x y H2 I2 r1 r2 q2
theorem bq{op:MP}{r:R2}(ho:OpR X (JQ op) r)(ha:PE X a ta)(hb:PE X b tb):PE X (.BinOp a op b pos) (tOp r ta tb):=by intro ac s σ H Q I h;exact wpAny_BinOp (AM ha hb I h λv u s2 x y H2 I2 rx ry q=>ho ac s2 σ H2 x y v u Q I2 rx ry q)
theorem Ct{op:UnaryOp}{r:V->Hp->VK->Prop}(ho:UnR X (unaryOp op) r)(ha:PE X a ta):PE X (.UnaryOp op a pos) (tUn r ta):=by intro ac s σ H Q I h;exact UnaryOp_ (thn (ha ac s σ H _ I h) λv s1 ⟨x,H1,I1,r1,q1⟩=>ho ac s1 σ H1 x v Q I1 r1 q1)
theorem opI{C:Int->Int->Prop}
  (rule:∀(i j:Int) (t u:Tok) (s:Jc) (Q:IY->Jc->Prop) (E:IY->Jc->Prop),C i j->Q (.int (g i j) s.toks) {s with toks:=s.toks+1}->Jf (Jh X.prog X.w) X.A (f (.int i t) (.int j u)) Q E s) :
  OpR X f (rI C λi j=>.int (g i j)):=by
 intro ac s σ H x y v u Q I rx ry h;obtain⟨i,j,rfl,rfl,hc,q⟩:=h;obtain⟨t,rfl⟩:=rx;obtain⟨t',rfl⟩:=ry;exact rule i j t t' s _ _ hc ⟨.int (g i j),H,I.tok _,⟨_,rfl⟩,q⟩
theorem zm
  (rule:∀(i j:Int) (t u:Tok) (s:Jc) (Q:IY->Jc->Prop) (E:IY->Jc->Prop),Q (.int (g i j) s.toks) {s with toks:=s.toks+1}->Jf (Jh X.prog X.w) X.A (f (.int i t) (.int j u)) Q E s) :
  OpR X f (rI0 λi j=>.int (g i j)):=by
 intro ac s σ H x y v u Q I rx ry h;obtain⟨i,j,rfl,rfl,q⟩:=h;obtain⟨t,rfl⟩:=rx;obtain⟨t',rfl⟩:=ry;exact rule i j t t' s _ _ ⟨.int (g i j),H,I.tok _,⟨_,rfl⟩,q⟩
theorem CO{g:Int->Int->Bool}
  (rule:∀(i j:Int) (t u:Tok) (s:Jc) (Q:IY->Jc->Prop) (E:IY->Jc->Prop),Q (.bool (g i j)) s->Jf (Jh X.prog X.w) X.A (f (.int i t) (.int j u)) Q E s) :
  OpR X f (rI0 λi j=>.bl (g i j)):=by
 intro ac s σ H x y v u Q I rx ry h;obtain⟨i,j,rfl,rfl,q⟩:=h;obtain⟨t,rfl⟩:=rx;obtain⟨t',rfl⟩:=ry;exact rule i j t t' s _ _ ⟨.bl (g i j),H,I,rfl,q⟩
noncomputable def Cr(i j:Int):Prop:=0<j/\j<1073741824
noncomputable def vI(i j:Int):Prop:=0<=j/\j<=1000000/\i.natAbs<2 ^ 64
noncomputable def yX(i j:Int):Prop:=(-(2 ^ 64)<i/\i<2 ^ 64)\/(-(2 ^ 64)<j/\j<2 ^ 64)
theorem yX.ok {i j:Int}(h:yX i j):IntMulOk i j:=by
 rcases h with⟨h1,h2⟩|⟨h1,h2⟩
 ·exact .of_left (Pl h1 h2)
 exact .of_right (Pl h1 h2)
theorem mL:OpR X (JQ .Add) (rI0 λi j=>.int (i+j)):=zm λ_ _ _ _ _ _ _ q=>add_int q
theorem AF:OpR X (JQ .Sub) (rI0 λi j=>.int (i-j)):=zm λ_ _ _ _ _ _ _ q=>sub_int q
theorem jR:OpR X (JQ .Mult) (rI yX λi j=>.int (i*j)):=opI λ_ _ _ _ _ _ _ hc q=>mul_int q hc.ok
theorem yn:OpR X (JQ .FloorDiv) (rI Cr λi j=>.int (i/j)):=opI λi j _ _ _ _ _ hc q=>by have h1:(0:Int)<j:=hc.1;have h2:j<1073741824:=hc.2;exact floordiv_int (by lia) (by rw[G7 i (by lia)];exact q) (.inl (M9 (by lia)))
theorem iC:OpR X (JQ .Mod) (rI (λ_ j=>0<j) λi j=>.int (i%j)):=opI λi j _ _ _ _ _ hc q=>by have h1:(0:Int)<j:=hc;exact mod_int' (by lia) (by rw[G8 i (by lia)];exact q)
theorem C9:OpR X (JQ .Pow) (rI vI λi j=>.int (i ^ j.toNat)):=opI λ_ _ _ _ _ _ _ hc q=>pow_int_small hc.1 hc.2.1 hc.2.2 q
theorem AY:OpR X (JQ .LShift) (rI vI λi j=>.int (i*2 ^ j.toNat)):=opI λ_ _ _ _ _ _ _ hc q=>lshift_int_small hc.1 hc.2.1 hc.2.2 q
theorem Br:OpR X (JQ .BitAnd) (rI0 λi j=>.int (LH i j)):=zm λ_ _ _ _ _ _ _ q=>and_int q
theorem Dc:OpR X (JQ .BitOr) (rI0 λi j=>.int (Kw i j)):=zm λ_ _ _ _ _ _ _ q=>or_int q
theorem unI{f:IY->Sem IY}{g:Int->Int}
  (rule:∀(i:Int) (t:Tok) (s:Jc) (Q:IY->Jc->Prop) (E:IY->Jc->Prop),Q (.int (g i) s.toks) {s with toks:=s.toks+1}->Jf (Jh X.prog X.w) X.A (f (.int i t)) Q E s) :
  UnR X f (rU λi=>.int (g i)):=by
 intro ac s σ H x v Q I rx h;obtain⟨i,rfl,q⟩:=h;obtain⟨t,rfl⟩:=rx;exact rule i t s _ _ ⟨.int (g i),H,I.tok _,⟨_,rfl⟩,q⟩
theorem Bj:UnR X (unaryOp .USub) (rU λi=>.int (-i)):=unI λ_ _ _ _ _ q=>neg_int q
theorem E1:OpR X (J8 .Gt) (rI0 λi j=>.bl (decide (j<i))):=CO λ_ _ _ _ _ _ _ q=>gt_int q
theorem DJ:OpR X (J8 .GtE) (rI0 λi j=>.bl (decide (j<=i))):=CO λ_ _ _ _ _ _ _ q=>ge_int q
theorem aZ(b:Jn)(h:op≠.In:=by decide)(h2:op≠.NotIn:=by decide):Lm op b=false:=by
 have e1:(op == CmpOp.In)=false:=by cases op <;> first|rfl|exact absurd rfl h
 have e2:(op == CmpOp.NotIn)=false:=by cases op <;> first|rfl|exact absurd rfl h2
 cases b <;> simp[Lm,e1,e2]
theorem xU{r:R2}(ho:OpR X (J8 op) r)(ha:PE X a ta)(hb:PE X b tb)(hm:Lm op b=false):PE X (.Compare a [op] [b] pos) (tOp r ta tb):=by intro ac s σ H Q I h;exact wpAny_Compare1 (AM ha hb I h λv u s2 x y H2 I2 rx ry q=>ho ac s2 σ H2 x y v u Q I2 rx ry q) hm
noncomputable def Ak(t:TE):TT:=λσ H Q=>t σ H λx H'=>∃k,x=.bl k/\Q k H'
theorem o9{r:R2}(ho:OpR X (J8 op) r)(ha:PE X a ta)(hb:PE X b tb)(hm:Lm op b=false):PT X (.Compare a [op] [b] pos) (Ak (tOp r ta tb)):=by
 intro ac s σ H Q I h;refine wpAny_isTrue_Compare1 (thn (ha ac s σ H _ I h) λv s1 ⟨x,H1,I1,r1,q1⟩=>thn (hb ac s1 σ H1 _ I1 q1) λu s2 ⟨y,H2,I2,r2,q2⟩=>
  thn (ho ac s2 σ H2 x y v u _ I2 r1 r2 q2) λc s3 ⟨z,H3,I3,r3,k,e,q3⟩=>?_) hm
 subst e;cases r3;exact LN ⟨H3,I3,q3⟩
def Bp(K:Ja)(x:V)(H:Hp)(k:Bool):Prop:=
 match x with
 | .non=>k=false
 | .bl b=>k=b
 | .int i=>k=(i != 0)
 | .str y=>y.length<=sizeLine/\k=((y.length:Int) != 0)
 | .byt y=>y.size<=sizeLine/\k=((y.size:Int) != 0)
 | .ref p=>(∃xs,SqL K H p xs/\k=!xs.isEmpty)\/(∃xs,SqT K H p xs/\k=!xs.isEmpty)\/∃am,H p=some (.dK am)/\k=!am.isEmpty
 | _=>False
theorem qY{κ:Type}{am:List (κ×V)}{vs:List (κ×IY)}(r:KV am vs):(!vs.isEmpty)=!am.isEmpty:=by cases r <;> rfl
theorem lO{bd:List IY}(r:Vals xs bd):(!bd.toArray.isEmpty)=!xs.isEmpty:=by cases r <;> simp
theorem iW:(sizeLine:Nat)<2 ^ 63:=by rw[JG];decide
theorem BU:Ee X (λx H Q=>∃k,Bp X.K x H k/\Q k H):=by
 intro ac s σ H x v Q I rx h;obtain⟨k,e,q⟩:=h;have hl:=iW;have hs:sizeLine=16777216:=JG;cases x with
 |non=>
  cases rx;have e':k=false:=e;subst e';exact truthy_none ⟨H,I,q⟩
 |bl b=>
  cases rx;have e':k=b:=e;subst e';exact LN ⟨H,I,q⟩
 |int i=>
  obtain⟨t,rfl⟩:=rx;have e':k=(i != 0):=e;subst e';exact PySem.P.truthy_int ⟨H,I,q⟩
 |str y=>
  obtain⟨t,rfl⟩:=rx;obtain⟨hy,e'⟩:y.length<=sizeLine/\k=((y.length:Int) != 0):=e;subst e';exact PySem.P.truthy_str (by lia) ⟨H,I.tok _,q⟩
 |byt y=>
  obtain⟨t,rfl⟩:=rx;obtain⟨hy,e'⟩:y.size<=sizeLine/\k=((y.size:Int) != 0):=e;subst e';exact PySem.W.truthy_bytes (by lia) ⟨H,I.tok _,q⟩
 |ref p=>
  cases rx;have e':(∃xs,SqL X.K H p xs/\k=!xs.isEmpty)\/(∃xs,SqT X.K H p xs/\k=!xs.isEmpty)\/∃am,H p=some (.dK am)/\k=!am.isEmpty:=e;rcases e' with⟨xs,hx,e'⟩|⟨xs,hx,e'⟩|⟨am,hx,e'⟩
  ·subst e';obtain⟨bd,r,pl,hz⟩:=I.list hx;have hlen:=r.length;exact wpAny_truthy_list pl.isList (by simp only[h_];lia) ⟨H,I.tok _,by rw[lO r];exact q⟩
  ·subst e';obtain⟨bd,r,pl,hz⟩:=I.tuple hx;have hlen:=r.length;exact truthy_tuple pl (by simp only[h_];lia) ⟨H,I.tok _,by rw[lO r];exact q⟩
  ·subst e';obtain⟨hz,hS,vs,r,m⟩:am.length<=sizeLine/\(p == J9)=false/\∃vs,KV am vs/\s.heap.DictOf (aL X.prog X.w) p vs:=I.hok p _ hx;have hlen:am.length=vs.length:=LW r;exact wpAny_truthy_dict hS m (by lia) ⟨H,I.tok _,by rw[qY r];exact q⟩
 | _=>exact(show False from e).elim
theorem vC(ha:PE X a ta)(he:∀whole,Nd a X.env whole=(do let v <-whole;N4 a.pos;Lq [v] (PV v))) :
  PT X a (λσ H Q=>ta σ H λx H'=>∃k,Bp X.K x H' k/\Q k H'):=by
 intro ac s σ H Q I h;exact PX (thn (ha ac s σ H _ I h) λv s1 ⟨x,H1,I1,r1,q1⟩=>BU ac s1 σ H1 x v Q I1 r1 q1) (he _)
theorem sj:OpR X (JQ .Add) (λx y H Q=>∃i j,x=.str i/\y=.str j/\i.length+j.length<=sizeLine/\Q (.str (i++j)) H):=by intro ac s σ H x y v u Q I rx ry h;obtain⟨i,j,rfl,rfl,hz,q⟩:=h;obtain⟨t,rfl⟩:=rx;obtain⟨t',rfl⟩:=ry;exact add_str (λt' tk=>⟨.str (i++j),H,I.tok _,⟨_,rfl⟩,q⟩) hz
theorem vals1{x:V}(r:Vals [x] us):∃u,us=[u]/\RelV x u:=by
 cases r with
 |cons r1 r2=>cases r2;exact⟨_,rfl,r1⟩
theorem vals2{x y:V}(r:Vals [x,y] us):∃u w',us=[u,w']/\RelV x u/\RelV y w':=by
 cases r with
 |cons r1 r2=>
  cases r2 with
  |cons r3 r4=>cases r4;exact⟨_,_,rfl,r1,r3⟩
theorem qw:cf X (.builtin "divmod") (λxs H Q=>∃i j,xs=[.int i,.int j]/\Cr i j/\∀p,H p=none->Q (.ref p) (upd H p (.tup [.int (i/j),.int (i%j)]))):=by intro ac s σ H xs us Q I r h;obtain⟨i,j,rfl,⟨h1,h2⟩,q⟩:=h;obtain⟨u,w',rfl,⟨t,rfl⟩,⟨t',rfl⟩⟩:=vals2 r;refine divmod_int (by lia) ?_ (.inl (M9 (by lia)));rw[G7 i (by lia),G8 i (by lia)];have hn:H s.heap.objs.size=none:=I.hok.fresh (c_ _);refine⟨.ref s.heap.objs.size,_,?_,rfl,q _ hn⟩;refine I.laid (λb o e=>Je _ e) (c_ _) ⟨by simp only[g_,GP];rw[JG];decide,[.int (i/j) s.toks,.int (i%j) (s.toks+1)],.cons ⟨_,rfl⟩ (.cons ⟨_,rfl⟩ .nil),?_⟩;exact⟨_,Jj s.heap rfl,rfl,0,rfl⟩
end
theorem mS.some_of {o:Option IY}(r:mS (some v) o):∃u,o=some u/\RelV v u:=by
 cases o with
 |none=>exact(show False from r).elim
 |some u=>exact⟨u,rfl,r⟩
structure Room (k:Nat) (A:Jr):Prop where
 hd:A.handled=none
 dp:A.depth+3*k+5<recursionLimit
 un:A.units+16*k+200<cLine
 gs:A.guards=some []
theorem Room.mono {j k:Nat}(r:Room k A)(h:j<=k):Room j A:=⟨r.hd,by have:=r.dp;lia,by have:=r.un;lia,r.gs⟩
theorem Room.deeper {k:Nat}(r:Room (k+1) A)(env:Env):Room k (A.deeper env):=
 ⟨r.hd,by have:=r.dp;show A.depth+1+3*k+5<_;lia,by have:=r.un;show A.units+3+16*k+200<_;lia,r.gs⟩
theorem Room.depth {k:Nat}(r:Room k A):A.depth<recursionLimit:=by have:=r.dp;lia
theorem Room.units {k:Nat}(r:Room k A):A.units+64<cLine:=by have:=r.un;lia
noncomputable def Ey:TA:=λ_ H Q=>Q [] H
noncomputable def CN(ta:TE)(tr:TA):TA:=λσ H Q=>ta σ H λx H1=>tr σ H1 λxs H2=>Q (x::xs) H2
section
variable{X:Cx}{e:Jn}{es:List Jn}{te:TE}{t:TA}{pos:Pos}
theorem bU:PA X [] Ey:=λ_ _ _ _ H Q I h=>N9 ⟨[],H,I,.nil,h⟩
theorem aC(ha:PE X e te)(hr:PA X es t)(hs:Jo (e::es) X.env=(false,JC e X.env)::Jo es X.env:=by rfl):PA X (e::es) (CN te t):=by intro pos ac s σ H Q I h;rw[hs];show Jf _ _ (spliced ((false,JC e X.env)::KH pos (Jo es X.env))) _ _ s;refine K7 (thn (ha ac s σ H _ I h) ?_);rintro u s1 ⟨x,H1,I1,r1,q1⟩;exact thn (hr pos ac s1 σ H1 _ I1 q1) λus s2 ⟨xs,H2,I2,r2,q2⟩=>⟨x::xs,H2,I2,.cons r1 r2,q2⟩
def EG(t:TA):TE:=λσ H Q=>t σ H λxs H1=>xs.length<=sizeLine/\∀p,H1 p=none->Q (.ref p) (upd H1 p (.tup xs))
def Ej(t:TA):TE:=λσ H Q=>t σ H λxs H1=>xs.length<=sizeLine/\∀p,H1 p=none->Q (.ref p) (upd H1 p (.lst xs))
theorem BP{x1}(h:PA X es t):PE X (.Tuple es x1 pos) (EG t):=by intro ac s σ H Q I hq;refine NO (thn (h pos ac s σ H _ I hq) λus s1 ⟨xs,H1,I1,r,z,q⟩=>⟨by rw[<-r.length];exact z,?_⟩);have hf:H1 s1.heap.objs.size=none:=I1.hok.fresh (c_ _);refine⟨.ref s1.heap.objs.size,upd H1 s1.heap.objs.size (.tup xs),I1.laid (t':=s1.toks) (λb u e=>Je _ e) (c_ _) ?_,rfl,q _ hf⟩;exact⟨z,us,r,⟨_,Jj _ rfl,rfl,_,rfl⟩⟩
theorem xJ(h:PA X es t):PE X (.List es pos) (Ej t):=by intro ac s σ H Q I hq;refine NV (thn (h pos ac s σ H _ I hq) λus s1 ⟨xs,H1,I1,r,z,q⟩=>⟨by rw[<-r.length];exact z,?_⟩);have hf:H1 s1.heap.objs.size=none:=I1.hok.fresh (c_ _);refine⟨.ref s1.heap.objs.size,upd H1 s1.heap.objs.size (.lst xs),I1.laid (t':=s1.toks) (λb u e=>Je _ e) (c_ _) ?_,rfl,q _ hf⟩;exact⟨z,us,0,r,Jj _ rfl⟩
end
abbrev Sp:=List V->Hp->VK->XK->Prop
abbrev CXT:=List Env->Hp->Jc->XK->IY->Jc->Prop
structure Env0 (P:Ji) (w:Jm) (K:Ja) (mg:Str->Option IY) (base:Jp) (A:Jr) (outer:List Env) (s:Jc) (H:Hp):Prop where
 frames:A.frames=some outer
 mod:Mod K mg base
 bs:∀b o,base.get? b=some o->s.heap.get? b=some o/\H b=none
 bsz:base.objs.size<=s.heap.objs.size
 i7:s.heap.FunFrames base outer
 frf:∀b∈frs outer,H b=none
 hok:HOk P w H s.heap
 bare:Lp s.gens
def CE(outer:List Env)(P:Ji)(w:Jm)(H:Hp)(s:Jc)(Q:VK)(u:IY)(s':Jc):Prop:=
 ∃v H',s'.os=s.os/\Lp s'.gens/\Un (frs outer) [] H H' s.heap s'.heap/\HOk P w H' s'.heap/\RelV v u/\Q v H'
def CR(CX:CXT)(outer:List Env)(P:Ji)(w:Jm)(H:Hp)(s:Jc)(Q:VK)(E:XK)(r:Ng)(s':Jc):Prop:=
 match r with
 | .ok (.ret u)=>CE outer P w H s Q u s'
 | .ok _=>False
 | .error e=>CX outer H s E e s'
structure FnOk (P:Ji) (w:Jm) (K:Ja) (mg:Str->Option IY) (base:Jp) (CX:CXT) (k:Nat) (f:I_) (fd:Jt) (ps:List Str) (sp:Sp):Prop where
 len:∀vs H Q E,sp vs H Q E->vs.length=ps.length
 run:∀(A:Jr) (outer:List Env) (s:Jc) (H:Hp) (args:Args) (us:List IY) (vs:List V) (Q:VK) (E:XK),Room k A->Env0 P w K mg base A outer s H->Nh s fd args (ps.zip us)->Vals vs us->sp vs H Q E->
  Kh (Jh P w) A (.call (.ref f) args) (CR CX outer P w H s Q E) s
variable {CX:CXT}{base:Jp}{mg:Str->Option IY}{ps:List Str}
theorem FnOk.imp {k:Nat}{f:I_}{fd:Jt}{sp sp':Sp}(F:FnOk P w K mg base CX k f fd ps sp)
  (h:∀vs H Q E,sp' vs H Q E->sp vs H Q E):FnOk P w K mg base CX k f fd ps sp':=
 ⟨λvs H Q E q=>F.len vs H Q E (h _ _ _ _ q),λA outer s H args us vs Q E hr he hb hv hs=>F.run A outer s H args us vs Q E hr he hb hv (h _ _ _ _ hs)⟩
section
variable{X:Cx}{ac:List (I_×Obj)}{σ:St}{H:Hp}{s s':Jc}
theorem Inv.Co (I:Inv X ac σ H s):Env0 X.prog X.w X.K X.mg X.base X.A X.stack s H:=
 ⟨I.ok.frames,I.ok.mod,I.bs,ER I.ok.bsz I.sz,I.stack,I.jy,I.hok,I.bare⟩
theorem Inv.after {Q:VK}(I:Inv X ac σ H s)(h:CE X.stack X.prog X.w H s Q u s'):EP X ac σ Q u s':=by obtain⟨v,H',os,bare,un,hok,r,q⟩:=h;obtain⟨hh,g,d,t,os'⟩:=s';obtain rfl:os'=s.os:=os;exact⟨v,H',I.call (h':=hh) (g':=g) (d':=d) (t':=t) (ch:=[]) un hok bare (λb z=>absurd z (by simp)),r,q⟩
end
noncomputable def xG(sp:Sp)(dvs:List V)(E:XK)(t:TA):TE:=λσ H Q=>t σ H λvs H1=>sp (vs++dvs) H1 Q E
noncomputable def Binds(K:Ja)(fd:Jt)(ps:List Str)(ds:List IY):Prop:=
 ∀(s:Jc) (us:List IY),K.In s.heap->(us++ds).length=ps.length->Nh s fd ⟨us,[]⟩ (ps.zip (us++ds))
theorem Binds.all {fd:Jt}(h:∀us:List IY,us.length=ps.length->PZ fd ⟨us,[]⟩=pure (ps.zip us)):Binds K fd ps []:=λs us _ hl=>by rw[ET]at hl ⊢;exact .of_eq (h us hl)
noncomputable def Passes(CX:CXT)(X:Cx)(E:XK):Prop:=∀(ac:List (I_×Obj)) (σ:St) (H:Hp) (s:Jc) (e:IY) (s':Jc),Inv X ac σ H s->CX X.stack H s E e s'->X.xe e s'
variable {vs:List V}
section
variable{X:Cx}{CX:CXT}{k:Nat}{f C:I_}{fd:Jt}{ps:List Str}{sp:Sp}{dvs:List V}{ds:List IY}{E:XK}{x m:Str}{p pos apos:Pos}{e o:Jn}{es:List Jn}{ta:TE}{t:TA}
theorem AE{Q:VK}(F:FnOk X.prog X.w X.K X.mg X.base CX k f fd ps sp)(hr:Room k X.A)(hb:Binds X.K fd ps ds)(hd:Vals dvs ds)(hx:Passes CX X E)
  (I:Inv X ac σ H s) (r:Vals vs us) (h:sp (vs++dvs) H Q E):Jf (Jh X.prog X.w) X.A (call (.ref f) us) (EP X ac σ Q) X.xe s:=by
 have r2:Vals (vs++dvs) (us++ds):=r.append hd;have hl:(us++ds).length=ps.length:=by rw[<-r2.length];exact F.len _ _ _ _ h
 refine MG (Kt (F.run X.A X.stack s H ⟨us,[]⟩ (us++ds) (vs++dvs) Q E hr I.Co (hb s us I.kIn hl) r2 h) λr s' hq=>?_);cases r with
 |error e=>exact hx ac σ H s e s' I hq
 |ok fl=>
  cases fl with
  |ret u=>exact I.after hq
  |next=>exact Jq hq
  |brk=>exact Jq hq
  |cont=>exact Jq hq
theorem zo(F:FnOk X.prog X.w X.K X.mg X.base CX k f fd ps sp)(hr:Room k X.A)(hg:Gl X x)(hm:X.mg x=some (.ref f))(hk:KA X.K (.ref f)=true)(hb:Binds X.K fd ps ds)(hd:Vals dvs ds)(hx:Passes CX X E)
  (ha:PA X (e::es) t) (hdb:(x ==("__debug__":Str))=false:=by decide) (he:Jo (e::es) X.env=(false,JC e X.env)::Jo es X.env:=by rfl) (hpl:(KH pos (Jo es X.env)).any (·.1)=false:=by rfl) :
  PE X (.Call (.Name x p) (e::es) [] pos) (xG sp dvs E t):=by
 intro ac s σ H Q I h;refine JN (fC I hg hm ?_ hdb);refine LA (h₀:=X.base) I.ok.mod.kin hk (thn (ha pos ac s σ H _ I h) λus s1 ⟨vs,H1,I1,r,q⟩=>⟨I1.kIn,?_⟩) he hpl;exact AE F hr hb hd hx I1 r q
end
structure FnScope (N P:List Str) (sc:JX):Prop where
 kind:sc.kind=.function
 co:sc.isCoroutine=false
 gen:sc.isGenerator=false
 nd:N.Nodup
 pre:N.take P.length=P
 par:∀x∈P,sc.names.lookup x=some .local\/sc.names.lookup x=some .cell
 nofree:∀y∈sc.names,y.2≠.free
theorem nY{kindOf:Str->Option KW}{x:Str}:∀{binds:List (Str×IY)}{m:Str->Option IY},(∀v,(x,v) ∉ binds)->NC kindOf binds m x=m x
 | [],_,_=>rfl
 | (n,v)::r,m,h=>by
  unfold NC;rw[nY λw hw=>h w (i_ _ hw)];split
  ·have:x≠n:=by rintro rfl;exact h v q_
   simp[this]
  rfl
theorem nz{kindOf:Str->Option KW}{x:Str}:∀{binds:List (Str×IY)}{m:Str->Option IY},(∀v,(x,v) ∉ binds)->ND kindOf binds m x=m x
 | [],_,_=>rfl
 | (n,v)::r,m,h=>by
  unfold ND;rw[nz λw hw=>h w (i_ _ hw)];split
  ·rfl
  have:x≠n:=by rintro rfl;exact h v q_
  simp[this]
theorem nI{kindOf:Str->Option KW}{x:Str}{v:IY}:∀{P:List Str}{vs:List IY}{i:Nat}{m:Str->Option IY},P.Nodup->P[i]?=some x->vs[i]?=some v->kindOf x=some .local->
  NC kindOf (P.zip vs) m x=some v
 | [],_,_,_,_,h,_,_=>by simp at h
 | _::_,[],_,_,_,_,h,_=>by simp at h
 |p::P,w::vs,0,m,nd,h1,h2,hk=>by simp at h1 h2;subst h1;subst h2;show NC kindOf ((p,w)::P.zip vs) m p=_;unfold NC;rw[nY λv hv=>(y_.mp nd).1 (GQ hv).1,if_pos hk];simp
 |p::P,w::vs,i+1,m,nd,h1,h2,hk=>by show NC kindOf ((p,w)::P.zip vs) m x=_;unfold NC;exact nI (i:=i) (y_.mp nd).2 (by simpa using h1) (by simpa using h2) hk
theorem nO{kindOf:Str->Option KW}{x:Str}{v:IY}:∀{P:List Str}{vs:List IY}{i:Nat}{m:Str->Option IY},P.Nodup->P[i]?=some x->vs[i]?=some v->kindOf x≠some .local->
  ND kindOf (P.zip vs) m x=some v
 | [],_,_,_,_,h,_,_=>by simp at h
 | _::_,[],_,_,_,_,h,_=>by simp at h
 |p::P,w::vs,0,m,nd,h1,h2,hk=>by simp at h1 h2;subst h1;subst h2;show ND kindOf ((p,w)::P.zip vs) m p=_;unfold ND;rw[nz λv hv=>(y_.mp nd).1 (GQ hv).1,if_neg hk];simp
 |p::P,w::vs,i+1,m,nd,h1,h2,hk=>by show ND kindOf ((p,w)::P.zip vs) m x=_;unfold ND;exact nO (i:=i) (y_.mp nd).2 (by simpa using h1) (by simpa using h2) hk
noncomputable def start(N:List Str)(vs:List V):St:=vs.map some++p_ (N.length-vs.length) none
noncomputable def gm(CX:CXT)(P:Ji)(w:Jm)(K:Ja)(mg:Str->Option IY)(base:Jp)(N:List Str)(qual:Str)(scope:JX)(f:I_)(cd:IY)(A:Jr)(outer:List Env)(s:Jc)(H:Hp)(E:XK):Cx where
 prog:=P
 w:=w
 K:=K
 mg:=mg
 base:=base
 A:=A.deeper (Kn qual scope s.heap.objs.size f cd)
 N:=N
 s₀:=s
 H₀:=H
 env:=Kn qual scope s.heap.objs.size f cd
 outer:=outer
 stack:=Kn qual scope s.heap.objs.size f cd::outer
 ex:=[]
 calm:=true
 fn:=λ_=>true
 pn:=[]
 xe:=λe s'=>Jf (Jh P w) (A.deeper (Kn qual scope s.heap.objs.size f cd)) (leaving (Kn qual scope s.heap.objs.size f cd) e) (λ_ s''=>CX outer H s E e s'') (λe' s''=>CX outer H s E e' s'') s'
theorem qr{sc:JX}{n:Nat}(h:sc.names.lookup x=some .cell):∃c,(NW n sc.names []).lookup x=some c:=by have q:=LU sc.names n [] (.inl h);exact Option.isSome_iff_exists.mp q
theorem nR{qual:Str}{scope:JX}{f:I_}{cd:IY}{outer:List Env}{s1:Jc}{E:XK}
  (S:FnScope N ps scope) (hd:A.handled=none) (e0:Env0 P w K mg base A outer s H) (hl:vs.length=ps.length) (r:Vals vs us)
  (x:InCallC s s.heap.objs.size (NC (Kn qual scope s.heap.objs.size f cd).kindOf (ps.zip us) λ_=>none) (NW (s.heap.objs.size+1) scope.names []) (ND (Kn qual scope s.heap.objs.size f cd).kindOf (ps.zip us) λ_=>none) s1) :
  Inv (gm CX P w K mg base N qual scope f cd A outer s H E) [] (start N vs) H s1:=by
 have hpl:ps.length<=N.length:=by have:=congrArg G3 S.pre;rw[Fd]at this;lia
 obtain⟨h1,tk,rfl,hk⟩:=x.done;have noA:∀b:I_,b ∉ (gm CX P w K mg base N qual scope f cd A outer s H E).ex:=λb z=>absurd (show b∈([]:List I_)from z) (by simp)
 refine⟨⟨e0.mod,S.kind,rfl,rfl,c_ _,λy z c h1 h2=>?_,λy hy=>?_,λy c _ h=>?_,λ_=>hd,NF e0.frames,.inr ⟨rfl,rfl⟩,λb z=>absurd z (noA b),e0.bs,e0.bsz,λb _ _=>noA b,λb z=>absurd z (noA b),e0.i7,e0.frf⟩,
  rfl,e0.bare,Un.kept hk,⟨_,x.toInCall.ns,λi y v h1 h2 h3=>?_⟩,λy c h=>⟨_,x.cell y c h⟩,e0.hok.fresh (c_ _),λy c h=>?_,λp hp=>absurd (show p∈([]:List (I_×Obj))from hp) (by simp),e0.hok.kept hk,?_⟩
 ·exact name_of_addr x.apart (Ki h1) (Ki h2)
 ·have hy:scope.names.lookup y=some .cell\/scope.names.lookup y=some .free:=hy;rcases hy with hy|hy
  ·exact qr hy
  exact absurd rfl (S.nofree _ (Ki hy))
 ·exact Fc (x.above y c (Ki h))
 ·have hi:i<vs.length:=by
   unfold start at h2;by_cases hi:i<vs.length
   ·exact hi
   rw[G9 (by simpa using hi)]at h2;rw[List.getElem?_replicate]at h2;split at h2 <;> cases h2
  have ha:vs[i]?=some v:=by
   unfold start at h2;rw[FR (by simpa using hi),A_]at h2;cases e:vs[i]? with
   |none=>rw[e]at h2;cases h2
   |some a=>rw[e]at h2;cases h2;rfl
  obtain⟨u,hu,rv⟩:=r.get ha;have hp:ps[i]?=some y:=by rw[<-S.pre,FD (by lia)];exact h1
  have ndP:ps.Nodup:=by rw[<-S.pre];exact S.nd.sublist (List.take_sublist _ _)
  refine⟨u,rv,?_⟩;rcases S.par y (s_ hp)with k|k
  ·exact .inl ⟨k,nI ndP hp hu k⟩
  obtain⟨c,e⟩:=qr (n:=s.heap.objs.size+1) k;refine .inr ⟨.inl k,c,e,?_⟩;have q:=x.cell y c e;rw[nO ndP hp hu (by show scope.names.lookup y≠_;rw[k];decide)]at q;exact q
 ·exact e0.hok.fresh (Fc (x.above y c (Ki h)))
 unfold start;show _=N.length;rw[j_,a_,F3];lia
theorem An{k:Nat}{f:I_}{name qual:Str}{params:Arguments}{scope:JX}{dV kV doc pm cdv ct oc:IY}{an od:Option I_}
  {osl:Array (Option IY)}{N ps:List Str}{sp:Sp} (lk:K.lookup f=some ⟨oc,od,.func (KI name qual params body scope dV kV doc pm an cdv ct),osl⟩) (hcd:Mc K cdv qual=true) (S:FnScope N ps scope)
  (len:∀vs H Q E,sp vs H Q E->vs.length=ps.length)
  (hbody:∀(A:Jr) (outer:List Env) (s:Jc) (H:Hp) (vs:List V) (Q:VK) (E:XK),Room k (A.deeper (Kn qual scope s.heap.objs.size f cdv))->sp vs H Q E->
   ∃t,PSs (gm CX P w K mg base N qual scope f cdv A outer s H E) body t/\t { nx:=λ_ H'=>Q .non H',rt:=Q} (start N vs) H) :
  FnOk P w K mg base CX (k+1) f (KI name qual params body scope dV kV doc pm an cdv ct) ps sp:=by
 refine⟨len,λA outer s H args us vs Q E hr e0 hb r hsp=>?_⟩;have hl:=len _ _ _ _ hsp;have KX:K.In s.heap:=e0.mod.kin.keeps λb o e=>(e0.bs b o e).1;have lim:s.heap.NoLimit:=e0.mod.nolimit.keeps λb o e=>(e0.bs b o e).1;have hkind:∀y∈ps.zip us,scope.names.lookup y.1=some .local\/(scope.names.lookup y.1=some .cell/\((NW (s.heap.objs.size+1) scope.names []).lookup y.1).isSome=true):=λ⟨n,v⟩ hy=>by
  rcases S.par n (GQ hy).1 with q|q
  ·exact .inl q
  exact .inr ⟨q,LU _ _ _ (.inl q)⟩
 refine Ni hr.depth (KX _ _ lk) rfl S.co S.gen rfl (NX KX hcd) (hb _ _ _ _ ?_);refine Mt S.kind hkind λenv he s1 x=>?_;subst he;refine⟨lim.keeps x.toInCall.keep,P0 ?_⟩;obtain⟨t,ht,hq⟩:=hbody A outer s H vs Q E (hr.deeper _) hsp;have I:Inv (gm CX P w K mg base N qual scope f cdv A outer s H E) [] (start N vs) H s1:=nR S hr.hd e0 hl r x;refine Js (ht [] s1 (start N vs) H _ I hq) (λfl s' hs=>?_) λe s' hs=>hs;have fin:∀{bv:St}{H':Hp}{v:V}{u:IY},Inv (gm CX P w K mg base N qual scope f cdv A outer s H E) [] bv H' s'->RelV v u->Q v H'->CE outer P w H s Q u s':=
  λ{bv H' v u} J rv q=>⟨v,H',J.os,J.bare,J.base,J.hok,rv,q⟩
 cases fl with
 |ret u=>
  obtain⟨v,bv,H',J,rv,q⟩:=hs;exact fin J rv q
 |next=>
  obtain⟨bv,H',J,q⟩:=hs;exact fin (v:=V.non) (u:=JT) J rfl q
 |brk=>
  obtain⟨_,_,_,q⟩:=hs;exact Jq q
 |cont=>
  obtain⟨_,_,_,q⟩:=hs;exact Jq q
section
variable{X:Cx}{x:Str}{p pos:Pos}{e:Jn}{es:List Jn}{t:TA}{id T:String}{r:List V->Hp->VK->Prop}
noncomputable def tCB(r:List V->Hp->VK->Prop)(t:TA):TE:=λσ H Q=>t σ H λvs H1=>r vs H1 Q
theorem dJ(hc:cf X (.builtin id) r)(hg:Gl X x)(hm:X.mg x=none)(hv:KU x=some (.builtin id))(ha:PA X (e::es) t)(hn:x≠"__name__":=by decide)(hdb:(x ==("__debug__":Str))=false:=by decide)
  (he:Jo (e::es) X.env=(false,JC e X.env)::Jo es X.env:=by rfl) (hpl:(KH pos (Jo es X.env)).any (·.1)=false:=by rfl):PE X (.Call (.Name x p) (e::es) [] pos) (tCB r t):=by
 intro ac s σ H Q I h;refine JN (cU I hg hm hv ?_ hn hdb);exact OC (thn (ha pos ac s σ H _ I h) λus s1 ⟨vs,H1,I1,r1,q1⟩=>hc ac s1 σ H1 vs us Q I1 r1 q1) he hpl
theorem nJ(hc:cf X (.type T) r)(hg:Gl X x)(hm:X.mg x=none)(hv:KU x=some (.type T))(ha:PA X (e::es) t)(hn:x≠"__name__":=by decide)(hdb:(x ==("__debug__":Str))=false:=by decide)
  (he:Jo (e::es) X.env=(false,JC e X.env)::Jo es X.env:=by rfl) (hpl:(KH pos (Jo es X.env)).any (·.1)=false:=by rfl):PE X (.Call (.Name x p) (e::es) [] pos) (tCB r t):=by
 intro ac s σ H Q I h;refine JN (cU I hg hm hv ?_ hn hdb);exact Le (thn (ha pos ac s σ H _ I h) λus s1 ⟨vs,H1,I1,r1,q1⟩=>hc ac s1 σ H1 vs us Q I1 r1 q1) he hpl
end
end L2
namespace HT
open PySem PyProof.Rows
variable {Q:IY->Jc->Prop}{hi lo:Option Int}
section
variable{prog:Ji}{w:Jm}{A:Jr}{E:IY->Jc->Prop}{s:Jc}
theorem yc{t b:I_}{vs ws:List IY}(ht:PH s.heap t vs.toArray)(hb:PH s.heap b ws.toArray)(hv:vs≠[])
  (h1:ws=[]->Q (.ref t) s) (h2:ws≠[]->Q (.ref s.heap.objs.size) {s with heap:=s.heap.push { cls:=.type "tuple",data:=.seq (vs++ws).toArray} })
  (hsz:vs.length+ws.length<=sizeLine):Jf (Jh prog w) A (JQ .Add (.ref t) (.ref b)) Q E s:=by
 obtain⟨⟨cls,dd,data,sl⟩,ho,hc,n,hd⟩:=id ht;obtain⟨⟨cls2,dd2,data2,sl2⟩,ho2,hc2,n2,hd2⟩:=id hb;simp only at hc hd hc2 hd2;subst hc hd hc2 hd2;have e:vs.toArray++ws.toArray=(vs++ws).toArray:=by simp
 by_cases hw:ws=[]
 ·exact NY ⟨_,ho,rfl⟩ ⟨_,ho2,rfl⟩ MQ NK LV LL (LB _ _)
   (tuple_addW1 t b vs.toArray ws.toArray n n2 dd dd2 sl sl2 (by simpa using hv) (by simp[hw])) ⟨ho,ho2,h1 hw⟩
 refine NY ⟨_,ho,rfl⟩ ⟨_,ho2,rfl⟩ MQ NK LV LL (LB _ _)
  (tuple_addW2 t b vs.toArray ws.toArray n n2 dd dd2 sl sl2 (by simpa using hv) (by simpa using hw) (by rw[h_,h_];exact hsz)) ⟨ho,ho2,?_⟩
 rw[e];exact h2 hw
noncomputable def sIx(n d:Nat):Option Int->Nat
 |none=>d
 |some v=>if v<0 then(v+(n:Int)).toNat else min v.toNat n
theorem yT(n d k:Nat):sIx n d (some (k:Int))=min k n:=by show(if(k:Int)<0 then((k:Int)+(n:Int)).toNat else min (k:Int).toNat n)=min k n;rw[if_neg (by lia),B_]
theorem B1(n d:Nat)(hd:d<=n)(o:Option Int):sIx n d o<=n:=by
 cases o with
 |none=>exact hd
 |some v=>
  show(if v<0 then(v+(n:Int)).toNat else min v.toNat n)<=n;by_cases hv:v<0
  ·rw[if_pos hv];lia
  rw[if_neg hv];exact Nat.min_le_right _ _
theorem uk(v:Int)(n d:Nat):(if v<0 then max (v+(n:Int)) 0 else min v (n:Int))=((sIx n d (some v):Nat):Int):=by
 show(if v<0 then max (v+(n:Int)) 0 else min v (n:Int))=(((if v<0 then(v+(n:Int)).toNat else min v.toNat n):Nat):Int);by_cases hv:v<0
 ·simp only[if_pos hv];lia
 simp only[if_neg hv];lia
theorem rB(lo hi:Option Int)(n:Nat):Ly lo hi 1 (n:Int)=(((sIx n 0 lo:Nat):Int),((sIx n n hi:Nat):Int)):=by
 have h1:¬((1:Int)<0):=by lia
 unfold Ly;simp only[h1,if_false];refine Prod.ext ?_ ?_
 ·cases lo with
  |none=>rfl
  |some v=>exact uk v n 0
 cases hi with
 |none=>rfl
 |some v=>exact uk v n n
theorem rT(i j:Nat):KR (i:Int) (j:Int) 1=j-i:=by
 unfold KR;have h1:(1:Int) > 0:=by lia
 simp only[h1,if_true,II];split <;> lia
theorem lP{v:IY}{o:Option Int}{Q:Option Int->Jc->Prop}(p:MR v o)(h:Q o s):Jf (Jh prog w) A (OZ v) Q E s:=by
 cases p with
 |none=>exact O0 h
 |int i t=>exact slicePart_int h
theorem jX{sl:I_}{vl vu:IY}{n:Nat}{Q:Int×Int×Nat->Jc->Prop}(hs:s.heap.IsSliceOf sl vl vu .none)(pl:MR vl lo)(pu:MR vu hi)
  (h:Q (((sIx n 0 lo:Nat):Int),1,sIx n n hi-sIx n 0 lo) s):Jf (Jh prog w) A (Mu (.ref sl) (pure (n:Int))) Q E s:=by
 obtain⟨os,hos,hcs,hds⟩:=id hs;unfold Mu PK;refine IZ (IZ (Lr hos hds (x:=vl) rfl (IZ (Lr hos hds (x:=vu) rfl (IZ (Lr hos hds (x:=.none) rfl (Jd ?_)))))));refine IZ (O0 ?_);show Jf _ _ (if((1:Int) == 0)=true then _ else _) _ _ s;rw[if_neg (by decide)];refine IZ (lP pl (IZ (lP pu (IZ (Jd ?_)))));show Jf _ _ (match Ly lo hi 1 (n:Int)with|(lo,hi)=>pure (lo,(1:Int),KR lo hi 1)) _ _ s;rw[rB lo hi n];show Jf _ _ (pure (((sIx n 0 lo:Nat):Int),(1:Int),KR ((sIx n 0 lo:Nat):Int) ((sIx n n hi:Nat):Int) 1)) _ _ s;rw[rT];exact Jd h
theorem vf(xs:Array IY)(i k:Nat):((u_ k).filterMap λ(m:Nat)=>xs[((i:Int)+(m:Int)*1).toNat]?).toArray=((xs.toList.drop i).take k).toArray:=by
 have e:(λ(m:Nat)=>xs[((i:Int)+(m:Int)*1).toNat]?)=λm=>xs[i+m]?:=by
  funext m;have:((i:Int)+(m:Int)*1).toNat=i+m:=by lia
  rw[this]
 rw[e];have:=pick_run xs i k;rw[List.filterMap_map]at this;have e2:((λx=>xs[x]?) ∘ λx=>i+x)=λm=>xs[i+m]?:=rfl;rw[e2]at this;rw[this]
theorem jB{t sl:I_}{items:Array IY}{vl vu:IY}(ht:PH s.heap t items)(hs:s.heap.IsSliceOf sl vl vu .none)(pl:MR vl lo)(pu:MR vu hi)
  (hw:¬(sIx items.size 0 lo=0/\sIx items.size items.size hi=items.size))
  (h:Q (.ref s.heap.objs.size) {s with heap:=s.heap.push { cls:=.type "tuple",data:=.seq ((items.toList.drop (sIx items.size 0 lo)).take (sIx items.size items.size hi-sIx items.size 0 lo)).toArray} })
  (hsz:items.size<=sizeLine):Jf (Jh prog w) A (Md (.ref t) (.ref sl)) Q E s:=by
 have htake:sizeOk (.seq ((items.toList.drop (sIx items.size 0 lo)).take (sIx items.size items.size hi-sIx items.size 0 lo)).toArray):=by show((items.toList.drop (sIx items.size 0 lo)).take (sIx items.size items.size hi-sIx items.size 0 lo)).toArray.size<=sizeLine;rw[h_,Fd,Fi,r_];omega
 have hj:sIx items.size items.size hi<=items.size:=B1 _ _ (c_ _) hi;obtain⟨os,hos,hcs,hds⟩:=id hs;have hTs:s.TypeIs (.ref sl) "slice":=⟨os,hos,hcs⟩;unfold Md
 try with_reducible refine Jy ?_
 first|refine IZ (Jd ?_)|skip
 refine IZ (wpAny_sequenceKey ht.typeIs (by decide) ?_);refine IZ (JR (name:=JZ "__getitem__") ht.typeIs K2
  (JV K2 ht.typeIs entry_tuple_getitem ?_ (args_tuple_getitem _ _)))
 show Jf _ _ (Pm (.ref t) >>= _) _ _ s;refine IZ (tupleItemsOf_ ht ?_);refine IZ (NZ hTs ?_);rw[if_pos (by decide)];refine IZ (jX hs pl pu ?_);have hno:¬((((sIx items.size 0 lo:Nat):Int) == 0&&(1:Int) == 1&&(sIx items.size items.size hi-sIx items.size 0 lo) == items.size)=true):=by intro q;rw[EN,EN]at q;have q1:((sIx items.size 0 lo:Nat):Int)=0:=eq_of_beq q.1.1;have q2:sIx items.size items.size hi-sIx items.size 0 lo=items.size:=eq_of_beq q.2;exact hw ⟨by lia,by lia⟩
 show Jf _ _ (if(((sIx items.size 0 lo:Nat):Int) == 0&&(1:Int) == 1&&(sIx items.size items.size hi-sIx items.size 0 lo) == items.size)=true then _ else _) _ _ s;rw[if_neg hno,vf]
 first
  |exact IZ (m:=KY _) (Ju (Jd ⟨_,rfl,Jd h⟩) htake)
  |exact IZ (m:=KY _) (Ju (IZ (Jd (Jd ⟨_,rfl,Jd h⟩))) htake)
  |exact IZ (IZ (m:=KY _) (Ju (Jd (Jd ⟨_,rfl,Jd h⟩)) htake))
  |exact IZ (IZ (m:=KY _) (Ju (Jd ⟨_,rfl,Jd h⟩) htake))
end
end HT
namespace L2
open PySem PySem.Spec PyProof.Rows
abbrev TO:=St->Hp->(Option Int->Hp->Prop)->Prop
noncomputable def PO(X:Cx)(e:Option Jn)(t:TO):Prop:=
 ∀(ac:List (I_×Obj)) (s:Jc) (σ:St) (H:Hp) (Q:Option Int->Hp->Prop),Inv X ac σ H s->t σ H Q->
  Jf (Jh X.prog X.w) X.A (evalPart e X.env) (λu s'=>∃o H',Inv X ac σ H' s'/\MR u o/\Q o H') X.xe s
noncomputable def yE:TO:=λ_ H Q=>Q none H
noncomputable def D6(t:TE):TO:=λσ H Q=>t σ H λx H1=>∃i,x=.int i/\Q (some i) H1
theorem intsAre_of{ns:List Int}:∀{us:List IY},Vals (ns.map V.int) us->IntsAre us ns:=by
 induction ns with
 |nil=>intro us r;rw[F4]at r;cases r;exact .nil
 |cons n ns ih=>
  intro us r;rw[f']at r;cases r with
  |cons r1 r2=>
   obtain⟨t,e⟩:=r1;subst e;exact .cons n t (ih r2)
variable {us:List IY}
section
variable{X:Cx}{e:Jn}{te:TE}{lo hi:Option Jn}{tl th:TO}{pos p2:Pos}
theorem zi:PO X none yE:=by intro ac s σ H Q I h;rw[Pn];exact Jd ⟨none,H,I,.none,h⟩
theorem sU(h:PE X e te):PO X (some e) (D6 te):=by intro ac s σ H Q I hw;rw[evalPart_some];refine thn (h ac s σ H _ I hw) ?_;rintro u s1 ⟨x,H1,I1,r1,q1⟩;obtain⟨i,rfl,q⟩:=q1;obtain⟨t,rfl⟩:=r1;exact⟨some i,H1,I1,.int i t,q⟩
def SlR(X:Cx)(r:V->Option Int->Option Int->Hp->VK->Prop):Prop:=
 ∀(ac:List (I_×Obj)) (s:Jc) (σ:St) (H:Hp) (x:V) (v vl vu:IY) (lo hi:Option Int) (sl:I_) (Q:VK),Inv X ac σ H s->RelV x v->s.heap.IsSliceOf sl vl vu .none->MR vl lo->MR vu hi->r x lo hi H Q->
  ∃T id,typeLookup (.type T) "__getitem__"=pure (some (.builtin id))/\s.TypeIs v T/\Jf (Jh X.prog X.w) X.A (Md v (.ref sl)) (EP X ac σ Q) X.xe s
noncomputable def tSl(r:V->Option Int->Option Int->Hp->VK->Prop)(te:TE)(tl th:TO):TE:=λσ H Q=>te σ H λx H1=>tl σ H1 λl H2=>th σ H2 λu H3=>r x l u H3 Q
theorem pJ{r:V->Option Int->Option Int->Hp->VK->Prop}(hr:SlR X r)(he:PE X e te)(hl:PO X lo tl)(hu:PO X hi th):PE X (.Subscript e (.Slice lo hi none p2) pos) (tSl r te tl th):=by intro ac s σ H Q I h;refine OD (thn (he ac s σ H _ I h) ?_);rintro v s1 ⟨x,H1,I1,r1,q1⟩;refine wpAny_Slice (thn (hl ac s1 σ H1 _ I1 q1) λvl s2 ⟨l,H2,I2,pl,q2⟩=>thn (hu ac s2 σ H2 _ I2 q2) ?_);rintro vu s3 ⟨u,H3,I3,pu,q3⟩;rw[Pn];refine Jd ?_;have I4:Inv X ac σ H3 {s3 with heap:=s3.heap.push { cls:=.type "slice",data:=.fields #[vl,vu,.none] } }:=I3.kept (t':=s3.toks) λb ob q=>Je _ q;obtain⟨T,id,hT,ht,hg⟩:=hr ac {s3 with heap:=s3.heap.push { cls:=.type "slice",data:=.fields #[vl,vu,.none] } } σ H3 x v vl vu l u s3.heap.objs.size Q I4 r1 (QI ..) pl pu q3;show Jf (Jh X.prog X.w) X.A (LY e (.Slice lo hi none p2) v (.ref s3.heap.objs.size)) (EP X ac σ Q) X.xe {s3 with heap:=s3.heap.push { cls:=.type "slice",data:=.fields #[vl,vu,.none] } };exact tail_any (ops:=[.ref s3.heap.objs.size,v]) ht hT hg (by with_unfolding_all rfl)
def gu(xs:List V)(lo hi:Option Int):List V:=(xs.drop (HT.sIx xs.length 0 lo)).take (HT.sIx xs.length xs.length hi-HT.sIx xs.length 0 lo)
theorem kP(xs:List V)(lo hi:Option Int):(gu xs lo hi).length<=xs.length:=by unfold gu;rw[Fd,Fi];lia
def En(K:Ja):V->Option Int->Option Int->Hp->VK->Prop:=λx lo hi H Q=>∃a xs,x=.ref a/\SqT K H a xs/\
 ¬(HT.sIx xs.length 0 lo=0/\HT.sIx xs.length xs.length hi=xs.length)/\∀p,H p=none->Q (.ref p) (upd H p (.tup (gu xs lo hi)))
theorem Bl:SlR X (En X.K):=by
 intro ac s σ H x v vl vu lo hi sl Q I rx hs pl pu h;obtain⟨a,xs,rfl,hx,hw,q⟩:=h;cases rx;obtain⟨bd,r,ht,hz⟩:=I.tuple hx;have hlen:bd.toArray.size=xs.length:=by rw[h_];exact r.length.symm
 refine⟨"tuple",_,K2.lookup,ht.typeIs,?_⟩;refine HT.jB ht hs pl pu (by rw[hlen];exact hw) ?_ (by rw[hlen];exact hz);rw[hlen];refine⟨.ref s.heap.objs.size,_,I.laid (t':=s.toks) (o:=.tup (gu xs lo hi)) (λb ob q=>Je _ q) (c_ _) ?_,rfl,q _ (I.hok.fresh (c_ _))⟩;exact⟨ER (kP xs lo hi) hz,_,(r.drop (HT.sIx xs.length 0 lo)).take (HT.sIx xs.length xs.length hi-HT.sIx xs.length 0 lo),Pc _ _⟩
def DG(K:Ja):R2:=λx y H Q=>∃a b xs ys,x=.ref a/\y=.ref b/\SqT K H a xs/\SqT K H b ys/\xs≠[]/\xs.length+ys.length<=sizeLine/\
 (ys=[]->Q (.ref a) H)/\(ys≠[]->∀p,H p=none->Q (.ref p) (upd H p (.tup (xs++ys))))
theorem Vals.pB {xs:List V}(r:Vals xs us):us=[]↔xs=[]:=by
 cases r with
 |nil=>simp
 |cons _ _=>simp
theorem zI:OpR X (JQ .Add) (DG X.K):=by intro ac s σ H x y v u Q I rx ry h;obtain⟨a,b,xs,ys,rfl,rfl,ha,hb,hx,hz,q1,q2⟩:=h;cases rx;cases ry;obtain⟨bd,r1,p1,_⟩:=I.tuple ha;obtain⟨its2,r2,p2,_⟩:=I.tuple hb;refine HT.yc p1 p2 (λz=>hx (r1.pB.mp z)) (λz=>⟨.ref a,H,I,rfl,q1 (r2.pB.mp z)⟩) (λz=>?_) (by rw[<-r1.length,<-r2.length];exact hz);refine⟨.ref s.heap.objs.size,_,I.laid (t':=s.toks) (o:=.tup (xs++ys)) (λb ob q=>Je _ q) (c_ _) ?_,rfl,q2 (λw=>z (r2.pB.mpr w)) _ (I.hok.fresh (c_ _))⟩;exact⟨by rw[j_];exact hz,_,r1.append r2,Pc _ _⟩
theorem kN:cf X (.type "tuple") (λxs H Q=>∃a ys,xs=[.ref a]/\SqT X.K H a ys/\Q (.ref a) H):=by intro ac s σ H xs us Q I r h;obtain⟨a,ys,rfl,ha,q⟩:=h;obtain⟨u,rfl,ru⟩:=vals1 r;cases ru;obtain⟨bd,_,p1,_⟩:=I.tuple ha;exact OE (items:=bd.toArray) p1 ⟨.ref a,H,I,rfl,q⟩
end
noncomputable def ixN(n:Nat)(i:Int):Option Nat:=if 0<=i then(if i<n then some i.toNat else none)else if -(n:Int)<=i then some (i+n).toNat else none
variable {α:Type}
def atI(xs:List α)(i:Int):Option α:=(ixN xs.length i).bind λj=>xs[j]?
variable {n:Nat}
theorem oC{i:Int}{j:Nat}(h:ixN n i=some j):Pd i n=some j/\j<n/\-(n:Int)<=i/\i<n:=by
 unfold ixN at h;by_cases h0:0<=i
 ·rw[if_pos h0]at h;by_cases h1:i<n
  ·rw[if_pos h1]at h;have e:i.toNat=j:=EM h;exact⟨by rw[Oh h0 h1,e],by lia,by lia,h1⟩
  rw[if_neg h1]at h;cases h
 rw[if_neg h0]at h;by_cases h1:-(n:Int)<=i
 ·rw[if_pos h1]at h;have e:(i+n).toNat=j:=EM h;exact⟨by rw[N0 (by lia) h1,e],by lia,h1,by lia⟩
 rw[if_neg h1]at h;cases h
theorem px{xs:List α}{i:Int}{v:α}(h:atI xs i=some v):∃j,Pd i xs.length=some j/\xs[j]?=some v/\j<xs.length/\-(xs.length:Int)<=i/\i<xs.length:=by
 unfold atI at h;cases e:ixN xs.length i with
 |none=>rw[e]at h;cases h
 |some j=>
  rw[e]at h;obtain⟨h1,h2,h3,h4⟩:=oC e;exact⟨j,h1,h,h2,h3,h4⟩
theorem oG{xs:List α}{j:Nat}{v:α}(h:xs[j]?=some v):atI xs (j:Int)=some v:=by
 have hj:j<xs.length:=(b_.mp h).1;have e:ixN xs.length (j:Int)=some j:=by unfold ixN;rw[if_pos (by lia),if_pos (by lia)];simp
 unfold atI;rw[e];exact h
noncomputable def u6(b:Jn):Prop:=∀o i,Mh b false o i=Qu [o,i] (Md o i)
def IxR(X:Cx)(r:R2):Prop:=
 ∀(value slice:Jn) (ac:List (I_×Obj)) (s:Jc) (σ:St) (H:Hp) (x y:V) (v u:IY) (Q:VK),Inv X ac σ H s->RelV x v->RelV y u->r x y H Q->
  Mh slice false v u=Qu [v,u] (Md v u)->Jf (Jh X.prog X.w) X.A (LY value slice v u) (EP X ac σ Q) X.xe s
def MtR(X:Cx)(id:String)(r:V->List V->Hp->VK->Prop):Prop:=
 ∀(ac:List (I_×Obj)) (s:Jc) (σ:St) (H:Hp) (x:V) (xs:List V) (v:IY) (us:List IY) (Q:VK),Inv X ac σ H s->RelV x v->Vals xs us->r x xs H Q->
  Jf (Jh X.prog X.w) X.A (call (.builtin id) (v::us)) (EP X ac σ Q) X.xe s
variable {H:Hp}{bd its':List IY}{ac:List (I_×Obj)}{s:Jc}{σ:St}
section
variable{X:Cx}{a b:Jn}{ta tb:TE}{pos:Pos}
theorem IxR.or {r r':R2}(h:IxR X r)(h':IxR X r'):IxR X (λx y H Q=>r x y H Q\/r' x y H Q):=by
 intro value slice ac s σ H x y v u Q I rx ry q hs;rcases q with q|q
 ·exact h value slice ac s σ H x y v u Q I rx ry q hs
 exact h' value slice ac s σ H x y v u Q I rx ry q hs
theorem Aj{r:R2}(hr:IxR X r)(ha:PE X a ta)(hb:PE X b tb)(hs:u6 b):PE X (.Subscript a b pos) (tOp r ta tb):=by intro ac s σ H Q I h;exact OD (AM ha hb I h λv u s2 x y H2 I2 rx ry q=>hr a b ac s2 σ H2 x y v u Q I2 rx ry q (hs _ _))
def Cw(K:Ja):R2:=λx y H Q=>∃p xs i v,x=.ref p/\y=.int i/\SqL K H p xs/\atI xs i=some v/\Q v H
def Ds(K:Ja):R2:=λx y H Q=>∃p xs i v,x=.ref p/\y=.int i/\SqT K H p xs/\atI xs i=some v/\Q v H
def Cs:R2:=λx y H Q=>∃z i c,x=.str z/\y=.int i/\z.length<=sizeLine/\atI z.cps.toList i=some c/\Q (.str ⟨#[c]⟩) H
theorem ud:IxR X (Cw X.K):=by
 intro value slice ac s σ H x y v u Q I rx ry h hs;obtain⟨p,xs,i,z,rfl,rfl,hq,he,q⟩:=h;cases rx;obtain⟨t,rfl⟩:=ry;obtain⟨bd,r,pl,hz⟩:=I.list hq;obtain⟨j,h1,h2,h3,h4,h5⟩:=px he;obtain⟨w,ew,rw'⟩:=r.get h2;have hl:=r.length;have hn:=iW;have fin:EP X ac σ Q w s:=⟨z,H,I,rw',q⟩;by_cases h0:0<=i
 ·have hj:i.toNat=j:=by rw[Oh h0 h5]at h1;exact EM h1
  exact item_listR pl.isList h0 (by lia) (by rw[hj];simpa using ew) fin hs
 have hj:(i+(bd.toArray.size:Int)).toNat=j:=by rw[N0 (by lia) h4]at h1;rw[h_,<-hl];exact EM h1
 exact M_ (x:=w) pl.isList.typeIs slot_list_getitem.lookup
  (wpAny_getItem_list_neg (Q:=λr s'=>r=w/\EP X ac σ Q r s') pl.isList (by lia) (by rw[h_] <;> lia) (by lia) (by rw[hj];simpa using ew) ⟨rfl,fin⟩) hs
theorem BF:IxR X (Ds X.K):=by
 intro value slice ac s σ H x y v u Q I rx ry h hs;obtain⟨p,xs,i,z,rfl,rfl,hq,he,q⟩:=h;cases rx;obtain⟨t,rfl⟩:=ry;obtain⟨bd,r,pl,hz⟩:=I.tuple hq;obtain⟨j,h1,h2,h3,h4,h5⟩:=px he;obtain⟨w,ew,rw'⟩:=r.get h2;have hl:=r.length;have hn:=iW;have fin:EP X ac σ Q w s:=⟨z,H,I,rw',q⟩;exact M_ (x:=w) pl.typeIs slot_tuple_getitem.lookup
  (getItem_tuple (j:=j) (Q:=λr s'=>r=w/\EP X ac σ Q r s') pl (by lia) (by lia) (by rw[h_,<-hl];exact h1) (by simpa using ew) ⟨rfl,fin⟩) hs
theorem wc:IxR X Cs:=by
 intro value slice ac s σ H x y v u Q I rx ry h hs;obtain⟨z,i,c,rfl,rfl,hz,he,q⟩:=h;obtain⟨t,rfl⟩:=rx;obtain⟨t',rfl⟩:=ry;obtain⟨j,h1,h2,h3,h4,h5⟩:=px he;have hl:z.cps.toList.length=z.length:=by simp[Str.length]
 rw[hl]at h1 h4 h5;have hn:=iW;exact tail_any (typeIs_str s z t) slot_str_getitem.lookup (getItem_str (c:=c) (by have e1:decide (i < -(2 ^ 63:Int))=false:=decide_eq_false (by lia);have e2:decide (i>=2 ^ 63)=false:=decide_eq_false (by lia);rw[e1,e2,IA]) (by rw[h1];simpa using h2) ⟨.str ⟨#[c]⟩,H,I.tok _,⟨_,rfl⟩,q⟩) hs
def rIx(K:Ja):R2:=λx y H Q=>Cw K x y H Q\/Ds K x y H Q\/Cs x y H Q
theorem Bh:IxR X (rIx X.K):=ud.or (BF.or wc)
theorem rb(bd:List IY)(n j:Nat)(u:IY):Kc (·.setIfInBounds j u) { cls:=.type "list",data:=.seq bd.toArray n}={ cls:=.type "list",data:=.seq (bd.set j u).toArray n}:=by simp[Kc]
theorem Inv.lst {p:I_}{xs:List V}(I:Inv X ac σ H s)(h:H p=some (.lst xs)) :
  ∃(bd:List IY) (n:Nat),Vals xs bd/\s.heap.get? p=some { cls:=.type "list",data:=.seq bd.toArray n}/\xs.length<=sizeLine:=by
 obtain⟨z,bd,n,r,e⟩:=I.hok p _ h;exact⟨bd,n,r,e,z⟩
theorem Inv.B9 {p:I_}{xs ys:List V}{n':Nat}{f:Obj->Obj}(I:Inv X ac σ H s)(h:H p=some (.lst xs))
  (ho:s.heap.get? p=some { cls:=.type "list",data:=.seq bd.toArray n}) (hf:f { cls:=.type "list",data:=.seq bd.toArray n}={ cls:=.type "list",data:=.seq its'.toArray n'}) (r:Vals ys its') (hz:ys.length<=sizeLine) (t:Nat) :
  Inv X ac σ (upd H p (.lst ys)) {s with heap:=s.heap.update p f,toks:=t}:=by
 have e:(s.heap.update p f).get? p=some { cls:=.type "list",data:=.seq its'.toArray n'}:=by rw[JE f ho (by rw[hf] <;> rfl),hf]
 refine I.write (x:=p) (e:=p) (by rw[h];trivial) (.inl rfl) (λb u hb q=>(Jz _ _ (Kg hb)).trans q) ⟨_,e⟩ ?_;exact⟨hz,its',n',r,e⟩
def CP:V->V->V->Hp->(Hp->Prop)->Prop:=λo i v H Q=>∃p xs k j,o=.ref p/\i=.int k/\H p=some (.lst xs)/\ixN xs.length k=some j/\Q (upd H p (.lst (xs.set j v)))
theorem set_list:su X CP:=by
 intro ac s σ H o i v ov iv u Q I ro ri rv h;obtain⟨p,xs,k,j,rfl,rfl,hp,hj,q⟩:=h;cases ro;obtain⟨t,rfl⟩:=ri;obtain⟨bd,n,r,ho,hz⟩:=I.lst hp;obtain⟨h1,h2,h3,h4⟩:=oC hj;have hl:=r.length;have hn:=iW;have I':Inv X ac σ (upd H p (.lst (xs.set j v))) {s with heap:=s.heap.update p (Kc (·.setIfInBounds j u)) }:=
  I.B9 hp ho (rb bd n j u) (r.set rv j) (by rw[D_];exact hz) s.toks
 by_cases h0:0<=k
 ·have hk:k.toNat=j:=by rw[Oh h0 h4]at h1;exact EM h1
  exact PySem.W.ki_setAt ho h0 (by lia) (by rw[h_,<-hl];exact h4) (by rw[hk];exact⟨_,I',q⟩)
 have hk:(k+(bd.toArray.size:Int)).toNat=j:=by rw[N0 (by lia) h3]at h1;rw[h_,<-hl];exact EM h1
 exact PySem.W.ki_setBack ho (by lia) (by rw[h_,<-hl];exact h3) (by lia) (by rw[hk];exact⟨_,I',q⟩)
theorem pA(lo hi:Option Int)(n:Nat):(Lu lo hi none n).1=((HT.sIx n 0 lo:Nat):Int)/\(Lu lo hi none n).2.1=((HT.sIx n n hi:Nat):Int)/\(Lu lo hi none n).2.2=1:=by
 refine⟨?_,?_,rfl⟩
 ·cases lo with
  |none=>simp[Lu,HT.sIx]
  |some i=>
   simp only[Lu,HT.sIx,Im,show(1:Int) > 0 by decide,if_true];by_cases h:i<0
   ·simp only[h,if_true] <;> lia
   simp only[h,if_false] <;> lia
 cases hi with
 |none=>simp[Lu,HT.sIx]
 |some i=>
  simp only[Lu,HT.sIx,Im,show(1:Int) > 0 by decide,if_true];by_cases h:i<0
  ·simp only[h,if_true] <;> lia
  simp only[h,if_false] <;> lia
theorem mY(bd:List IY)(lo hi:Option Int):slicePick bd.toArray lo hi none=((bd.drop (HT.sIx bd.length 0 lo)).take (HT.sIx bd.length bd.length hi-HT.sIx bd.length 0 lo)).toArray:=by obtain⟨h1,h2,h3⟩:=pA lo hi bd.toArray.size;unfold slicePick;rw[h1,h2,h3];simp only[sliceRange_one,pick_run,h_] <;> rfl
def EF(K:Ja):V->Option Int->Option Int->Hp->VK->Prop:=λx lo hi H Q=>∃a xs,x=.ref a/\SqL K H a xs/\∀p,H p=none->Q (.ref p) (upd H p (.lst (gu xs lo hi)))
theorem u9:SlR X (EF X.K):=by intro ac s σ H x v vl vu lo hi sl Q I rx hs pl pu h;obtain⟨a,xs,rfl,hx,q⟩:=h;cases rx;obtain⟨bd,r,ht,hz⟩:=I.list hx;have hlen:=r.length;refine⟨"list",_,slot_list_getitem.lookup,ht.isList.typeIs,?_⟩;refine wpAny_getItem_list_slice ht.isList hs pl pu .none (by simp) ?_ (by rw[h_] <;> lia);rw[mY,<-hlen];refine⟨.ref s.heap.objs.size,_,I.laid (t':=s.toks) (o:=.lst (gu xs lo hi)) (λb ob q=>Je _ q) (c_ _) ?_,rfl,q _ (I.hok.fresh (c_ _))⟩;exact⟨ER (kP xs lo hi) hz,_,0,(r.drop (HT.sIx xs.length 0 lo)).take (HT.sIx xs.length xs.length hi-HT.sIx xs.length 0 lo),Jj _ rfl⟩
theorem pq:OpR X (J8 .NotIn) (λx y H Q=>∃i j,x=.str i/\y=.str j/\Q (.bl (!(!(MY j i 0 j.length 1).isEmpty))) H):=by intro ac s σ H x y v u Q I rx ry h;obtain⟨i,j,rfl,rfl,q⟩:=h;obtain⟨t,rfl⟩:=rx;obtain⟨t',rfl⟩:=ry;exact notIn_str ⟨.bl _,H,I,rfl,q⟩
theorem jn:cf X (.builtin "len") (λxs H Q=>∃p ys,xs=[.ref p]/\(SqL X.K H p ys\/SqT X.K H p ys)/\Q (.int ys.length) H):=by
 intro ac s σ H xs us Q I r h;obtain⟨p,ys,rfl,hq,q⟩:=h;obtain⟨u,rfl,rx⟩:=vals1 r;cases rx;have hn:=iW;rcases hq with hq|hq
 ·obtain⟨bd,r',pl,hz⟩:=I.list hq;have hlen:=r'.length;exact Calls.call_len_list pl.isList (by simp only[h_] <;> lia) ⟨.int ys.length,H,I.tok _,⟨s.toks+1,by rw[h_,hlen]⟩,q⟩
 obtain⟨bd,r',pl,hz⟩:=I.tuple hq;have hlen:=r'.length;exact len_tuple pl (by simp only[h_] <;> lia) ⟨.int ys.length,H,I.tok _,⟨s.toks+1,by rw[h_,hlen]⟩,q⟩
theorem oD:cf X (.builtin "len") (λxs H Q=>∃z,xs=[.str z]/\z.length<=sizeLine/\Q (.int z.length) H):=by intro ac s σ H xs us Q I r h;obtain⟨z,rfl,hz,q⟩:=h;obtain⟨u,rfl,t,rfl⟩:=vals1 r;have hn:=iW;exact len_str (by lia) ⟨.int z.length,H,I.tok _,⟨_,rfl⟩,q⟩
theorem jb:cf X (.type "list") (λxs H Q=>∃p ys,xs=[.ref p]/\(SqL X.K H p ys\/SqT X.K H p ys)/\∀l,H l=none->Q (.ref l) (upd H l (.lst ys))):=by
 intro ac s σ H xs us Q I r h;obtain⟨p,ys,rfl,hq,q⟩:=h;obtain⟨u,rfl,rx⟩:=vals1 r;cases rx;have fin:∀(bd:List IY),Vals ys bd->ys.length<=sizeLine->∀(h':Jp) (c':Nat),(∀b o',s.heap.get? b=some o'->h'.get? b=some o')->
   h'.get? s.heap.objs.size=some { cls:=.type "list",dict:=none,data:=.seq bd.toArray c',slots:=#[] }->EP X ac σ Q (.ref s.heap.objs.size) {s with heap:=h'}:=λbd r' hz h' c' kp e=>
  ⟨.ref s.heap.objs.size,_,I.laid (t':=s.toks) kp (c_ _) (show aR X.prog X.w _ h' _ (.lst ys)from⟨hz,bd,c',r',e⟩),rfl,q _ (I.hok.fresh (c_ _))⟩
 rcases hq with hq|hq
 ·obtain⟨bd,r',pl,hz⟩:=I.list hq;have hlen:=r'.length;obtain⟨o,ho,hc,n,hd⟩:=pl.isList;exact Po p (.inl rfl) ho hc hd (λh' c' kp e=>fin bd r' hz h' c' kp e) (by simp only[h_] <;> lia)
 obtain⟨bd,r',pl,hz⟩:=I.tuple hq;have hlen:=r'.length;obtain⟨o,ho,hc,n,hd⟩:=pl;exact Po p (.inr rfl) ho hc hd (λh' c' kp e=>fin bd r' hz h' c' kp e) (by simp only[h_] <;> lia)
theorem mT:cf X (.type "tuple") (λxs H Q=>∃p ys,xs=[.ref p]/\((SqL X.K H p ys/\∀l,H l=none->Q (.ref l) (upd H l (.tup ys)))\/(SqT X.K H p ys/\Q (.ref p) H))):=by
 intro ac s σ H xs us Q I r h;obtain⟨p,ys,rfl,h⟩:=h;obtain⟨u,rfl,rx⟩:=vals1 r;cases rx;rcases h with⟨hq,q⟩|⟨hq,q⟩
 ·obtain⟨bd,r',pl,hz⟩:=I.list hq;have hlen:=r'.length;refine call_tuple_list pl.isList (λh' kp=>?_) (by simp only[h_] <;> lia);have I1:Inv X ac σ H {s with heap:=h'}:=I.kept (t':=s.toks) kp;have I2:Inv X ac σ (upd H h'.objs.size (.tup ys)) {s with heap:=h'.push { cls:=.type "tuple",data:=.seq bd.toArray} }:=
   I1.laid (t':=s.toks) (λb o e=>Je _ e) (c_ _) (show aR X.prog X.w _ _ _ (.tup ys)from⟨hz,bd,r',Pc _ _⟩)
  exact⟨.ref h'.objs.size,_,I2,rfl,q _ (I1.hok.fresh (c_ _))⟩
 obtain⟨bd,r',pl,hz⟩:=I.tuple hq;exact OE pl ⟨.ref p,H,I,rfl,q⟩
def tyV(K:Ja)(T:String)(x:V)(H:Hp):Prop:=match x with
 | .str _=>T="str"
 | .int _=>T="int"
 | .ref p=>(T="list"/\∃xs,SqL K H p xs)\/(T="tuple"/\∃o,K.lookup p=some o/\o.cls=.type "tuple"/\o.dict=none)\/
   (T="dict"/\((∃am,H p=some (.dK am))\/∃am,H p=some (.dT am)))\/(T="set"/\∃S n,H p=some (.set S n))
 | _=>False
theorem Cf{T:String}{x:V}{v:IY}(I:Inv X ac σ H s)(r:RelV x v)(ty:tyV X.K T x H) :
  s.TypeIs v T/\∀a,v=.ref a->∃ob,s.heap.get? a=some ob/\ob.dict=none:=by
 cases x with
 |str z=>
  obtain⟨t,rfl⟩:=r;cases (show T="str" from ty);exact⟨typeIs_str s z t,λ_ e=>nomatch e⟩
 |int i=>
  obtain⟨t,rfl⟩:=r;cases (show T="int" from ty);exact⟨MH s i t,λ_ e=>nomatch e⟩
 |ref p=>
  cases r;rcases ty with⟨rfl,xs,hq⟩|⟨rfl,o,hk,hc,hd⟩|⟨rfl,hk⟩|⟨rfl,S,n,hk⟩
  ·obtain⟨bd,_,pl,_⟩:=I.list hq;refine⟨pl.isList.typeIs,λa e=>?_⟩;cases e;obtain⟨o,n,e,c,hd,_⟩:=pl;exact⟨o,e,hd⟩
  ·refine⟨⟨o,I.kIn p o hk,hc⟩,λa e=>?_⟩;cases e;exact⟨o,I.kIn _ o hk,hd⟩
  ·have z:∃o,s.heap.get? p=some o/\o.ExactDict:=by
    rcases hk with⟨am,hk⟩|⟨am,hk⟩
    ·obtain⟨_,_,_,_,o,_,_,e,ex,_⟩:=I.hok p _ hk;exact⟨o,e,ex⟩
    obtain⟨_,_,_,_,o,_,_,e,ex,_⟩:=I.hok p _ hk;exact⟨o,e,ex⟩
   obtain⟨o,e,ex⟩:=z;refine⟨⟨o,e,ex.1⟩,λa e2=>?_⟩;cases e2;exact⟨o,e,ex.2.1⟩
  ·obtain⟨o,_,_,_,e,ex,_⟩:=I.hok p _ hk;refine⟨⟨o,e,ex.1⟩,λa e2=>?_⟩;cases e2;exact⟨o,e,ex.2.1⟩
 | _=>exact Jq ty
def tBM(K:Ja)(T:String)(r:V->List V->Hp->VK->Prop)(to:TE)(t:TA):TE:=λσ H Q=>to σ H λx H1=>tyV K T x H1/\t σ H1 λxs H2=>r x xs H2 Q
variable{o e:Jn}{es:List Jn}{to:TE}{t:TA}{name:Str}{apos io:Pos}{T id:String}{r:V->List V->Hp->VK->Prop}
theorem E6(pa:PlainAttrs T)(slot:Slot T name id)(hty:typeOf (.builtin id)=pure (.type "method_descriptor"))(hm:MtR X id r)(ho:PE X o to)(ha:PA X (e::es) t)
  (hbase:Pp o name X.env (JC o X.env)=JC o X.env:=by rfl)
  (hfew:((KH io (Jo (e::es) X.env)).all (λx=>!x.1)&&(backToKw io (Ql [] X.env)).all (λx=>x.1.isSome)
   && decide ((e::es).length+([]:List O1).length+(if([]:List O1).isEmpty then 0 else 1)<30))=true:=by rfl)
  (hline:(apos.endLine == io.line)=true:=by rfl) (hs:Jo (e::es) X.env=(false,JC e X.env)::Jo es X.env:=by rfl) (hplain:(KH io (Jo es X.env)).any (·.1)=false:=by rfl) :
  PE X (.Call (.Attribute o name apos) (e::es) [] io) (tBM X.K T r to t):=by
 intro ac s σ H Q I h;refine wpAny_Call_method_late hbase hfew hline rfl (thn (ho ac s σ H _ I h) ?_);rintro v s1 ⟨x,H1,I1,r1,ty,q1⟩;obtain⟨h1,h2⟩:=Cf I1 r1 ty;refine⟨T,id,pa,slot,hty,h1,h2,?_⟩;have hA:=ha io ac s1 σ H1 _ I1 q1;rw[hs]at hA ⊢;refine Calls.callWith_builtin (by show(false || (KH io (Jo es X.env)).any (·.1))=false;rw[hplain] <;> rfl) (NG ?_);exact thn hA λus s2 ⟨vs,H2,I2,r2,q2⟩=>hm ac s2 σ H2 x vs v us Q I2 r1 r2 q2
end
def MtM(X:Cx)(id:String)(r:V->List V->Hp->VK->Prop):Prop:=
 ∀(ac:List (I_×Obj)) (s:Jc) (σ:St) (H:Hp) (x:V) (xs:List V) (v:IY) (us:List IY) (Q:VK),Inv X ac σ H s->RelV x v->Vals xs us->r x xs H Q->
  Jf (Jh X.prog X.w) X.A (call (.builtin id) (v::us)) (EP X ac σ Q) X.xe s
theorem Vals.one:∀{x:V}{us:List IY},Vals [x] us->∃u,us=[u]/\RelV x u:=by
 intro x us h;cases h with
 |cons r t=>cases t;exact⟨_,rfl,r⟩
theorem Vals.eraseIdx:∀{xs:List V}{us:List IY} (i:Nat),Vals xs us->Vals (xs.eraseIdx i) (us.eraseIdx i)
 | _,_,_,.nil=>.nil
 | _,_,0,.cons _ t=>t
 | _,_,i+1,.cons r t=>.cons r (Vals.eraseIdx i t)
theorem Vals.rep {xs:List V}(h:Vals xs us):∀k:Nat,Vals (p_ k xs).flatten (p_ k us).flatten
 |0=>.nil
 |k+1=>by rw[Fb,Fb,F1,F1];exact Vals.append h (Vals.rep h k)
theorem nu{α:Type}:∀(l:List α) (i:Nat),(l.eraseIdx i).length<=l.length
 | [],_=>c_ _
 | _::_,0=>Gk _
 | _::r,i+1=>GD (nu r i)
theorem foldl_rep(bd:List IY):∀(k:Nat) (acc:List IY),
  Ir (λx1 x2=>x1++x2) acc.toArray (p_ k bd.toArray)=(acc++(p_ k bd).flatten).toArray
 |0,acc=>by simp
 |k+1,acc=>by
  have e:acc.toArray++bd.toArray=(acc++bd).toArray:=by simp
  have e2:(acc++bd)++(p_ k bd).flatten=acc++(p_ (k+1) bd).flatten:=by rw[Fb,F1,n_]
  rw[<-e2,<-foldl_rep bd k (acc++bd),<-e,Fb,Hs]
variable {t':Nat}
section
variable{X:Cx}{ac:List (I_×Obj)}{σ:St}{H:Hp}{s:Jc}{l b:I_}{xs ys zs:List V}
theorem Inv.BZ {f:Array IY->Array IY}(I:Inv X ac σ H s)(hH:H l=some (.lst xs))
  (e:s.heap.get? l=some { cls:=.type "list",data:=.seq bd.toArray n}) (hf:f bd.toArray=its'.toArray) (hv:Vals ys its') (hz:ys.length<=sizeLine) :
  Inv X ac σ (upd H l (.lst ys)) {s with heap:=s.heap.update l (Kc f),toks:=t'}:=by
 have q:=QU e f;rw[hf]at q;refine I.write (x:=l) (e:=l) (by rw[hH];exact trivial) (.inl rfl) (λb' u hb hu=>(Jz s.heap (Kc f) (Kg hb)).trans hu) ⟨_,q⟩ ?_;exact⟨hz,its',_,hv,q⟩
theorem Inv.Dn (I:Inv X ac σ H s)(hv:Vals ys bd)(hz:ys.length<=sizeLine) :
  Inv X ac σ (upd H s.heap.objs.size (.lst ys)) {s with heap:=s.heap.push { cls:=.type "list",data:=.seq bd.toArray},toks:=t'}:=
 I.laid (λ_ _ q=>Je _ q) (c_ _) ⟨hz,bd,0,hv,Jj _ rfl⟩
theorem Inv.fresh (I:Inv X ac σ H s):H s.heap.objs.size=none:=I.hok.fresh (c_ _)
theorem Inv.yK (I:Inv X ac σ H s)(hH:H l=some (.lst xs)):xs.length<=sizeLine/\∃(bd:List IY) (n:Nat),Vals xs bd/\xs.length=bd.length/\s.heap.get? l=some { cls:=.type "list",data:=.seq bd.toArray n}:=by obtain⟨z,bd,n,r,e⟩:=I.hok l _ hH;exact⟨z,bd,n,r,r.length,e⟩
theorem x6(h:n<=sizeLine):LC n=false:=by unfold LC;exact decide_eq_false (by lia)
end
section
variable{X:Cx}
def yu:V->List V->Hp->VK->Prop:=λx vs H Q=>∃l xs y,x=.ref l/\vs=[y]/\H l=some (.lst xs)/\xs.length<sizeLine/\Q .non (upd H l (.lst (xs++[y])))
theorem kh:MtM X "list.append" yu:=by intro ac s σ H x vs v us Q I rx rv h;obtain⟨l,xs,y,rfl,rfl,hH,hz,q⟩:=h;cases rx;obtain⟨u,rfl,ru⟩:=rv.one;obtain⟨z,bd,n,r,hl,e⟩:=I.yK hH;refine MI F.slot_list_append ⟨_,e,rfl⟩ F.entry_list_append (F.args_list_append_2 _ _) (PySem.list_append l bd.toArray n u (by rw[h_];lia)) ⟨e,?_⟩;refine⟨.non,_,I.BZ (its':=bd++[u]) hH e (by simp) (r.append (.cons ru .nil)) ?_,rfl,q⟩;rw[j_,F5];lia
def C6:V->List V->Hp->VK->Prop:=λx vs H Q=>∃l xs i k y,x=.ref l/\vs=[.int i]/\H l=some (.lst xs)/\-(2 ^ 63)<=i/\i<2 ^ 63/\Pd i xs.length=some k/\xs[k]?=some y/\Q y (upd H l (.lst (xs.eraseIdx k)))
theorem vS:MtM X "list.pop" C6:=by
 intro ac s σ H x vs v us Q I rx rv h;obtain⟨l,xs,i,k,y,rfl,rfl,hH,h1,h2,hk,hy,q⟩:=h;cases rx;obtain⟨u,rfl,ru⟩:=rv.one;obtain⟨t,rfl⟩:=ru;obtain⟨z,bd,n,r,hl,e⟩:=I.yK hH;obtain⟨w,hw,rw'⟩:=r.get hy;refine MI F.slot_list_pop ⟨_,e,rfl⟩ F.entry_list_pop (F.args_list_pop_2 _ _)
  (Qw l bd.toArray n i t k w (O2 h1 h2) (by rw[h_,<-hl];exact hk) (by rw[<-v_];exact hw) (by rw[h_];lia)) ⟨e,?_⟩
 refine⟨y,_,I.BZ (its':=bd.eraseIdx k) hH e ?_ (r.eraseIdx k) ?_,rw',q⟩
 ·show bd.toArray.eraseIdxIfInBounds k=(bd.eraseIdx k).toArray;rw[List.eraseIdxIfInBounds_toArray]
 have:=nu xs k;lia
def Ef:R2:=λx y H Q=>∃l k xs,x=.ref l/\y=.int k/\H l=some (.lst xs)/\-(2 ^ 63)<=k/\k<2 ^ 63/\xs.length*k.toNat<=sizeLine/\
 ∀p,H p=none->Q (.ref p) (upd H p (.lst (p_ k.toNat xs).flatten))
theorem len_rep(xs:List α)(k:Nat):(p_ k xs).flatten.length=k*xs.length:=by
 induction k with
 |zero=>simp
 |succ k ih=>rw[Fb,F1,j_,ih,Nat.succ_mul,Nat.add_comm]
theorem Bd:OpR X (JQ .Mult) Ef:=by
 intro ac s σ H x y v u Q I rx ry h;obtain⟨l,k,xs,rfl,rfl,hH,h1,h2,hz,q⟩:=h;cases rx;obtain⟨t,rfl⟩:=ry;obtain⟨z,bd,n,r,hl,e⟩:=I.yK hH;have hlen:bd.toArray.size*k.toNat<=sizeLine:=by rw[h_,<-hl];exact hz
 have hcap:¬bd.toArray.size*k.toNat >(2 ^ 63-1)/8:=by
  have:(sizeLine:Nat)<=(2 ^ 63-1)/8:=by decide
  lia
 have hfit:¬(!Mv k)=true:=by rw[O2 h1 h2];exact EZ
 have hlong:¬LC (bd.toArray.size*k.toNat)=true:=by rw[x6 hlen];exact EZ
 have hnew:Ir (λx1 x2=>x1++x2) #[] (p_ (if bd.toArray.isEmpty=true then 0 else k.toNat) bd.toArray)=(p_ k.toNat bd).flatten.toArray:=by
  have f0:∀m:Nat,Ir (λx1 x2=>x1++x2) #[] (p_ m bd.toArray)=(p_ m bd).flatten.toArray:=λm=>by have:=foldl_rep bd m [];rw[Gn]at this;exact this
  rw[f0];cases bd with
  |nil=>simp
  |cons a r'=>rw[if_neg (by simp)]
 refine wpAny_binaryOp_repeat_ref (T:="list") (U:="int") (by decide) ⟨_,e,rfl⟩ (λs'=>MH s' k t) noFill_list_mul F.fills_int_mul OF repeat_list F.slot_int_index.lookup
  (MI OF (MH s k t) F.entry_int_rmul (F.args_int_rmul_2 _ _) (int___rmul___int_list k t l bd.toArray n)
   ⟨e,rfl,⟨_,e,rfl⟩,MI F.slot_list_mul ⟨_,e,rfl⟩ F.entry_list_mul (F.args_list_mul_2 _ _) (Oi l bd.toArray n k t hfit hcap hlong) ⟨e,?_⟩⟩)
 rw[hnew];exact⟨.ref _,_,I.Dn (t':=s.toks) (r.rep k.toNat) (by rw[len_rep,Nat.mul_comm];exact hz),rfl,q _ I.fresh⟩
end
variable {o:Option V}{u:IY}{y:V}
section
variable{κ:Type}[DecidableEq κ]
noncomputable def cg(am:List (κ×V))(k:κ):Option V:=(am.find? λkv=>decide (kv.1=k)).map (·.2)
noncomputable def putK(am:List (κ×V))(k:κ)(v:V):List (κ×V):=
 if(am.any λkv=>decide (kv.1=k))=true then am.map (λkv=>if kv.1=k then(kv.1,v)else kv)else am++[(k,v)]
theorem lr{p:κ×V}{r:List (κ×V)}{k:κ}(e:p.1=k):cg (p::r) k=some p.2:=by simp[cg,EY,e]
theorem m5{p:κ×V}{r:List (κ×V)}{k:κ}(e:¬p.1=k):cg (p::r) k=cg r k:=by simp[cg,EY,e]
theorem jd(k:κ):∀am:List (κ×V),(am.any λkv=>decide (kv.1=k))=(cg am k).isSome
 | []=>rfl
 |p::r=>by
  rw[FI];by_cases e:p.1=k
  ·simp only[lr e,decide_eq_true e,Bool.true_or,HU]
  rw[m5 e,decide_eq_false e,IB];exact jd k r
theorem fV(am:List (κ×V))(k:κ)(v:V):(putK am k v).length<=am.length+1:=by
 unfold putK;split
 ·rw[a_];lia
 rw[j_,g_,GP];lia
theorem pN{am:List (κ×V)}{k:κ}(v:V)(h:cg am k=none):putK am k v=am++[(k,v)]:=by unfold putK;rw[jd,h];exact if_neg (by decide)
theorem mS.kE {u:Option IY}(r:mS o u):o.isSome=u.isSome:=by
 cases o with
 |none=>cases u with
  |none=>rfl
  |some _=>exact(show False from r).elim
 |some _=>cases u with
  |none=>exact(show False from r).elim
  |some _=>rfl
theorem KV.val {am:List (κ×V)}{vs:List (κ×IY)}(r:KV am vs)(k:κ):mS (cg am k) (MN vs k):=by
 unfold KV at r;induction r with
 |nil=>exact L_
 | @cons p q ps qs h t ih=>
  obtain⟨h1,h2⟩:=h;by_cases e:p.1=k
  ·have e':q.1=k:=h1.symm.trans e;have b:MN (q::qs) k=some q.2:=by simp[MN,EY,e']
   rw[lr e,b];exact h2
  have e':¬q.1=k:=λz=>e (h1.trans z);have b:MN (q::qs) k=MN qs k:=by simp[MN,EY,e']
  rw[m5 e,b];exact ih
theorem KV.any {am:List (κ×V)}{vs:List (κ×IY)}(r:KV am vs)(k:κ):(am.any λkv=>decide (kv.1=k))=vs.any λkv=>decide (kv.1=k):=by
 unfold KV at r;induction r with
 |nil=>rfl
 |cons h t ih=>rw[FI,FI,ih,h.1]
theorem KV.Bk {am:List (κ×V)}{vs:List (κ×IY)}(r:KV am vs)(k:κ)(ry:RelV y u) :
  KV (am.map λkv=>if kv.1=k then(kv.1,y)else kv) (vs.map λkv=>if kv.1=k then(kv.1,u)else kv):=by
 unfold KV at r ⊢;induction r with
 |nil=>exact .nil
 | @cons p q ps qs h t ih=>
  rw[f',f'];refine .cons ?_ ih;obtain⟨h1,h2⟩:=h;by_cases e:p.1=k
  ·rw[if_pos e,if_pos (h1.symm.trans e)];exact⟨h1,ry⟩
  rw[if_neg e,if_neg (λz=>e (h1.trans z))];exact⟨h1,h2⟩
theorem KV.put {am:List (κ×V)}{vs:List (κ×IY)}(r:KV am vs)(k:κ)(ry:RelV y u):KV (putK am k y) (stored vs k u):=by
 unfold putK stored;rw[r.any k];by_cases e:(vs.any λkv=>decide (kv.1=k))=true
 ·rw[if_pos e,if_pos e];exact r.Bk k ry
 rw[if_neg e,if_neg e];exact Qm r ⟨rfl,ry⟩
theorem KV.keys {am:List (κ×V)}{vs:List (κ×IY)}(r:KV am vs):am.map (·.1)=vs.map (·.1):=by
 unfold KV at r;induction r with
 |nil=>rfl
 |cons h t ih=>rw[f',f',ih,h.1]
theorem KV.length {am:List (κ×V)}{vs:List (κ×IY)}(r:KV am vs):am.length=vs.length:=LW r
end
variable {P:Ji}{w:Jm}
theorem pZ{k:Key}(r:RelV (kV k) u):(aL P w).is k u=true:=by
 rcases k with i | _|x
 ·obtain⟨t,e⟩:=(show ∃t,u=L8 i t from r);subst e;exact pR P w i t
 ·cases r;rfl
 obtain⟨t,e⟩:=(show ∃t,u=O' x t from r);subst e;exact qP P w x t
theorem nK{P:Ji}{w:Jm}:∀{ks:List Key}{us:List IY},Vals (ks.map kV) us->ItemsAre (aL P w) ks us
 | [],_,r=>by rw[F4]at r;cases r;exact .nil
 |k::ks,_,r=>by
  rw[f']at r;cases r with
  |cons h t=>exact .cons (pZ h) (nK t)
abbrev KT(H:Hp):List (List Key×V)->List (List Key×I_×IY)->Prop:=Nc λp q=>p.1=q.1/\H q.2.1=some (.tup (p.1.map kV))/\RelV p.2 q.2.2
variable {am:List (List Key×V)}{xs:List (List Key×I_×IY)}
theorem KT.val (r:KT H am xs)(k:List Key):mS (cg am k) ((M1 xs k).map (·.2)):=by
 induction r with
 |nil=>exact L_
 | @cons p q ps qs h t ih=>
  obtain⟨h1,_,h2⟩:=h;by_cases e:p.1=k
  ·have e':q.1=k:=h1.symm.trans e;have b:M1 (q::qs) k=some q.2:=by simp[M1,EY,e']
   rw[lr e,b];exact h2
  have e':¬q.1=k:=λz=>e (h1.trans z);have b:M1 (q::qs) k=M1 qs k:=by simp[M1,EY,e']
  rw[m5 e,b];exact ih
theorem KT.Bk (r:KT H am xs)(k:List Key)(ry:RelV y u) :
  KT H (am.map λkv=>if kv.1=k then(kv.1,y)else kv) (xs.map (putAt k u)):=by
 induction r with
 |nil=>exact .nil
 | @cons p q ps qs h t ih=>
  rw[f',f'];refine .cons ?_ ih;obtain⟨h1,h2,h3⟩:=h;unfold putAt;by_cases e:p.1=k
  ·rw[if_pos e,if_pos (h1.symm.trans e)];exact⟨h1,h2,ry⟩
  rw[if_neg e,if_neg (λz=>e (h1.trans z))];exact⟨h1,h2,h3⟩
theorem KT.put (r:KT H am xs)(k:List Key){b:I_}(hb:H b=some (.tup (k.map kV)))(ry:RelV y u) :
  KT H (putK am k y) (storedH xs k b u):=by
 have e:(am.any λkv=>decide (kv.1=k))=(M1 xs k).isSome:=by rw[jd,(r.val k).kE,Ia]
 unfold putK storedH;rw[e];by_cases q:(M1 xs k).isSome=true
 ·rw[if_pos q,if_pos q];exact r.Bk k ry
 rw[if_neg q,if_neg q];exact Qm r ⟨rfl,hb,ry⟩
variable {H':Hp}
theorem KT.keeps (r:KT H am xs)(ht:∀b ys,H b=some (.tup ys)->H' b=some (.tup ys)):KT H' am xs:=
 Paired.DC r λ_ _ z=>⟨z.1,ht _ _ z.2.1,z.2.2⟩
section
variable{P:Ji}{w:Jm}{H:Hp}{h:Jp}{a:I_}
theorem A3{u:HO}(ok:HOk P w H h)(e:Rd H a u):aR P w H h a u:=e.ok ok
theorem nq{am:List (Key×V)}(ok:HOk P w H h)(e:Rd H a (.dK am)):am.length<=sizeLine/\(a == J9)=false/\∃vs,KV am vs/\h.DictOf (aL P w) a vs:=
 show aR P w H h a (.dK am)from A3 ok e
theorem A2{am:List (Key×V)}(ok:HOk P w H h)(e:H a=some (.dK am)):am.length<=sizeLine/\(a == J9)=false/\∃vs,KV am vs/\h.DictOf (aL P w) a vs:=nq ok (.inl e)
theorem oQ{ks:List Key}(ok:HOk P w H h)(e:H a=some (.tup (ks.map kV))):(M0 (aL P w)).is h ks a:=by obtain⟨_,bd,r,o,h1,h2,n,h3⟩:=(show aR P w H h a (.tup (ks.map kV))from ok a _ e);exact⟨o,bd.toArray,n,h1,h2,h3,by simpa using nK r⟩
theorem pX(ok:HOk P w H h)(e:Rd H a (.dT am)):am.length<=sizeLine/\(a == J9)=false/\
  ∃xs,KT H am xs/\h.DictOfH (M0 (aL P w)) a xs:=by
 obtain⟨z,y,xs,r,o,es,ep,h1,h2,h3,h4,h5⟩:=(show aR P w H h a (.dT am)from A3 ok e);refine⟨z,y,xs,r,o,es,ep,h1,h2,h3,h4,λx hx=>?_,h5⟩;have all:∀{l:List (List Key×V)}{m:List (List Key×I_×IY)},KT H l m->∀x∈m,(M0 (aL P w)).is h x.1 x.2.1:=by
  intro l m q;induction q with
  |nil=>intro x hx;exact nomatch hx
  | @cons p q ps qs hq t ih=>
   intro x hx;rcases k_.mp hx with e|hx
   ·subst e;exact oQ ok (by rw[<-hq.1];exact hq.2.1)
   exact ih x hx
 exact all r x hx
theorem DB(ok:HOk P w H h)(e:H a=some (.dT am)):am.length<=sizeLine/\(a == J9)=false/\
  ∃xs,KT H am xs/\h.DictOfH (M0 (aL P w)) a xs:=pX ok (.inl e)
end
def jI(H:Hp)(a:I_)(y:V)(r:Option V):Prop:=
 (∃am k,Rd H a (.dK am)/\y=kV k/\r=cg am k)\/∃am k b,Rd H a (.dT am)/\y=.ref b/\H b=some (.tup (k.map kV))/\r=cg am k
def v9(H:Hp)(a:I_)(y v:V)(H':Hp):Prop:=
 (∃am k,H a=some (.dK am)/\y=kV k/\am.length<sizeLine/\H'=upd H a (.dK (putK am k v)))\/
 ∃am k b,H a=some (.dT am)/\y=.ref b/\H b=some (.tup (k.map kV))/\am.length<sizeLine/\H'=upd H a (.dT (putK am k v))
theorem jI.k {H:Hp}{a:I_}{am:List (Key×V)}{k:Key}(e:H a=some (.dK am)):jI H a (kV k) (cg am k):=.inl ⟨am,k,.inl e,rfl,rfl⟩
theorem v9.k {H:Hp}{a:I_}{am:List (Key×V)}{k:Key}{v:V}(e:H a=some (.dK am))(hl:am.length<sizeLine):v9 H a (kV k) v (upd H a (.dK (putK am k v))):=.inl ⟨am,k,e,rfl,hl,rfl⟩
variable {Q:IY->Jc->Prop}
section
variable{X:Cx}{ac:List (I_×Obj)}{σ:St}{H:Hp}{s:Jc}{a:I_}{y v:V}{u r:IY}{o:Option V}{A:Jr}{E:IY->Jc->Prop}
theorem Inv.big (I:Inv X ac σ H s):J9<s.heap.objs.size:=by have h:JD<s.heap.objs.size:=(I.mod.glob.keeps I.bk).lt;exact Hg (by decide) h
theorem nj(hu:A.units+1<cLine)(I:Inv X ac σ H s)(g:jI H a y (some v))(ry:RelV y u)(h:∀w' s',Inv X ac σ H s'->RelV v w'->Q w' s') :
  Jf (Jh X.prog X.w) A (Md (.ref a) u) Q E s:=by
 rcases g with⟨am,k,e,ey,l⟩|⟨am,k,b,e,ey,eb,l⟩
 ·subst ey;obtain⟨z,hd,vs,rel,dd⟩:=nq I.hok e;obtain⟨w',hw,rw'⟩:=mS.some_of (v:=v) (o:=MN vs k) (by rw[l];exact rel.val k);exact wpAny_getItem_of (pZ ry) dd.mapOf hw (h w' _ (I.tok _) rw')
 subst ey;cases (show u=JH b from ry);obtain⟨z,hd,xs,rel,dd⟩:=pX I.hok e;obtain⟨w',hw,rw'⟩:=mS.some_of (v:=v) (o:=(M1 xs k).map (·.2)) (by rw[l];exact rel.val k);obtain⟨p,hp,hp2⟩:=GB.mp hw;refine wpAny_getItem_heap (Mk hu) (oQ I.hok eb) dd hp ?_;rw[hp2];exact h w' _ (I.tok _) rw'
theorem t7(hu:A.units+1<cLine)(I:Inv X ac σ H s)(g:jI H a y o)(ry:RelV y u)(h:∀s',Inv X ac σ H s'->Q (.bool (!o.isSome)) s') :
  Jf (Jh X.prog X.w) A (J8 .NotIn u (.ref a)) Q E s:=by
 rcases g with⟨am,k,e,ey,l⟩|⟨am,k,b,e,ey,eb,l⟩
 ·subst ey;obtain⟨z,hd,vs,rel,dd⟩:=nq I.hok e;refine wpAny_notIn_of (pZ ry) hd dd.mapOf ?_;rw[<-(rel.val k).kE,<-l];exact h _ (I.tok _)
 subst ey;cases (show u=JH b from ry);obtain⟨z,hd,xs,rel,dd⟩:=pX I.hok e;refine wpAny_notIn_heap (Mk hu) (oQ I.hok eb) hd dd ?_;have q:=(rel.val k).kE;rw[Ia]at q;rw[<-q,<-l];exact h _ (I.tok _)
theorem oa{h':Jp}{ob:HO}(I:Inv X ac σ H s)(mu:Mut (H a))(hs:JO a s.heap h')(he:∃q,h'.get? a=some q)(new:aR X.prog X.w (upd H a ob) h' a ob) :
  Inv X ac σ (upd H a ob) {s with heap:=h',toks:=t'}:=
 I.write (x:=a) (e:=a) mu (.inl rfl) (λb q hb z=>(hs.2 b hb).trans z) he new
theorem xm{h':Jp}{am:List (Key×V)}{vs:List (Key×IY)}(z:am.length<=sizeLine)(hd:(a == J9)=false)(rel:KV am vs)(dd:h'.DictOf (aL P w) a vs) :
  aR P w H' h' a (.dK am):=⟨z,hd,vs,rel,dd⟩
theorem jW{Q:Unit->Jc->Prop}(hu:A.units+1<cLine)(I:Inv X ac σ H s)(g:v9 H a y v H')(ry:RelV y u)(rv:RelV v r)(h:∀s',Inv X ac σ H' s'->Q () s') :
  Jf (Jh X.prog X.w) A (OY (.ref a) u r) Q E s:=by
 rcases g with⟨am,k,e,ey,l,eH⟩|⟨am,k,b,e,ey,eb,l,eH⟩
 ·subst ey eH;obtain⟨z,hd,vs,rel,dd⟩:=A2 I.hok e;have hz:vs.length<=sizeLine:=by rw[<-rel.length];exact z
  have hl:(putK am k v).length<=sizeLine:=by have:=fV am k v;lia
  refine wpAny_setItem_pairs (hsz:=hz) (pZ ry) dd λh' dd' hs=>h _ ?_;have he:∃q,h'.get? a=some q:=let ⟨q,_,_,hq,_⟩:=dd';⟨q,hq⟩
  exact oa I (by rw[e];exact L_) hs he (xm hl hd (rel.put k rv) dd')
 subst ey eH;cases (show u=JH b from ry);obtain⟨z,hd,xs,rel,dd⟩:=DB I.hok e;have hz:xs.length<=sizeLine:=by rw[<-LW rel];exact z
 have hl:(putK am k v).length<=sizeLine:=by have:=fV am k v;lia
 refine wpAny_setItem_heap (hsz:=hz) (Mk hu) (oQ I.hok eb) dd λh' dd' hs=>h _ ?_;obtain⟨q,es,ep,hq,h2,h3,h4,_,h5⟩:=dd';refine oa I (by rw[e];exact L_) hs ⟨q,hq⟩ ⟨hl,hd,_,(rel.put k eb rv).keeps λc ys ec=>?_,q,es,ep,hq,h2,h3,h4,h5⟩;rw[av (zZ ec e (λz=>nomatch z))];exact ec
end
section
variable{X:Cx}{ac:List (I_×Obj)}{σ:St}{H:Hp}{s:Jc}{a:I_}{am:List (Key×V)}{k:Key}{u:IY}{A:Jr}{E:IY->Jc->Prop}
theorem CW(I:Inv X ac σ H s)(e:Rd H a (.dK am))(h:∀t s',Inv X ac σ H s'->Q (.int am.length t) s'):Jf (Jh X.prog X.w) A (call (.builtin "len") [.ref a]) Q E s:=by obtain⟨z,hd,vs,rel,dd⟩:=nq I.hok e;refine call_len_dict hd dd (by rw[<-rel.length];rw[JG]at z;lia) ?_;rw[<-rel.length];exact h _ _ (I.tok _)
end
noncomputable def DY(i:Jn):Prop:=∀ov iv,Mh i false ov iv=Qu [ov,iv] (Md ov iv)
variable {pos:Pos}
theorem yx{prog:Ji}{A:Jr}{E:IY->Jc->Prop}{env:Env}{value slice:Jn}{T id:String}
  (hl:typeLookup (.type T) "__getitem__"=pure (some (.builtin id))) (hs:DY slice)
  (h:Jf (Jh prog w) A (JC value env) (λo s₁=>Jf (Jh prog w) A (JC slice env) (λi s₂=>s₂.TypeIs o T/\Jf (Jh prog w) A (Md o i) Q E s₂) E s₁) E s) :
  Jf (Jh prog w) A (JC (.Subscript value slice pos) env) Q E s:=by
 refine OD (Js h (λo s₁ h₁=>Js h₁ (λi s₂ h₂=>?_) λ_ _ x=>x) λ_ _ x=>x);obtain⟨hT,h₂⟩:=h₂;unfold LY;refine IZ ?_;rw[Nj hT.not_modules];refine IZ (M3 hT hl ?_);have fin:Jf (Jh prog w) A (Mh slice false o i) (λr s₃=>Jf (Jh prog w) A (O3 value o r >>= λ_=>pure r) Q E s₃) E s₂:=by rw[hs o i];exact OG (Js h₂ (λr s₃ h₃=>IZ (NH (Jd h₃))) λ_ _ x=>x)
 first
  |exact Jd (IZ fin)
  |exact IZ (Jd (IZ fin))
  |exact IZ fin
variable {X:Cx}
theorem kK{a:I_}(I:Inv X ac σ H s)(g:jI H a y o):s.TypeIs (.ref a) "dict":=by
 rcases g with⟨am,k,e,_,_⟩|⟨am,k,b,e,_,_,_⟩
 ·obtain⟨_,_,vs,_,dd⟩:=nq I.hok e;exact dd.typeIs
 obtain⟨_,_,xs,_,dd⟩:=pX I.hok e;exact dd.typeIs
def Cv(td ty:TE):TE:=λσ H Q=>td σ H λx H1=>ty σ H1 λy H2=>∃a v,x=.ref a/\jI H2 a y (some v)/\Q v H2
def DH(td ty tv:TE):TS:=λD σ H=>tv σ H λv H1=>td σ H1 λx H2=>ty σ H2 λy H3=>∃a H4,x=.ref a/\v9 H3 a y v H4/\D.nx σ H4
section
variable{X:Cx}{o i e value:Jn}{pos pos' tpos:Pos}{td ty tv:TE}
theorem lj(hu:X.A.units+1<cLine)(ho:PE X o td)(hi:PE X i ty)(hs:DY i):PE X (.Subscript o i pos) (Cv td ty):=by intro ac s σ H Q I h;refine yx MJ.lookup hs (thn (ho ac s σ H _ I h) λu s1 ⟨x,H1,I1,rx,q1⟩=>thn (hi ac s1 σ H1 _ I1 q1) ?_);rintro iv s2 ⟨y,H2,I2,ry,a,v,ex,g,q2⟩;subst ex;obtain rfl:u=JH a:=rx;exact⟨kK I2 g,nj hu I2 g ry λw' s3 I3 rw'=>⟨v,H2,I3,rw',q2⟩⟩
theorem zR(hu:X.A.units+1<cLine)(ho:PE X o td)(hi:PE X i ty)(hv:PE X value tv)(hs:Kv value (some (.Subscript o i pos')) pos.line X.env=pure false) :
  PS X (.Assign [.Subscript o i pos'] value pos) (DH td ty tv):=by
 intro ac s σ H D I h;refine wpAny_Assign_Subscript (thn (hv ac s σ H _ I h) ?_) hs;rintro r s1 ⟨v,H1,I1,rv,q1⟩;refine thn (ho ac s1 σ H1 _ I1 q1) ?_;rintro u s2 ⟨x,H2,I2,rx,q2⟩;refine thn (hi ac s2 σ H2 _ I2 q2) ?_;rintro iv s3 ⟨y,H3,I3,ry,a,H4,ex,g,q3⟩;subst ex;obtain rfl:u=JH a:=rx;exact jW hu I3 g ry rv λs4 I4=>⟨σ,H4,I4,q3⟩
end
theorem qp(h:Jp)(hb:J9<h.objs.size):aR P w H (h.push { cls:=.type "dict",data:=.dict #[] }) h.objs.size (.dK []):=
 ⟨ES _,beq_eq_false_iff_ne.mpr (Kg (t_ hb)),[],.nil,Q0 h⟩
theorem wJ(h:Jp)(hb:J9<h.objs.size):aR P w H (h.push { cls:=.type "dict",data:=.dict #[] }) h.objs.size (.dT []):=
 ⟨ES _,beq_eq_false_iff_ne.mpr (Kg (t_ hb)),[],.nil,_,#[],0,Jj _ rfl,⟨rfl,rfl,rfl⟩,rfl,rfl,F6⟩
def B2:TE:=λ_ H Q=>∀p,H p=none->Q (.ref p) (upd H p (.dK []))
def BK:TE:=λ_ H Q=>∀p,H p=none->Q (.ref p) (upd H p (.dT []))
section
variable{X:Cx}{pos:Pos}
theorem xP:PE X (.Dict [] [] pos) B2:=λac s σ H Q I h=>
 Oj ⟨.ref s.heap.objs.size,_,I.laid (a:=s.heap.objs.size) (o:=.dK []) (t':=s.toks) (λ_ _ q=>Je _ q) (c_ _) (qp s.heap I.big),rfl,h _ (I.hok.fresh (c_ _))⟩
theorem wF:PE X (.Dict [] [] pos) BK:=λac s σ H Q I h=>
 Oj ⟨.ref s.heap.objs.size,_,I.laid (a:=s.heap.objs.size) (o:=.dT []) (t':=s.toks) (λ_ _ q=>Je _ q) (c_ _) (wJ s.heap I.big),rfl,h _ (I.hok.fresh (c_ _))⟩
end
noncomputable def si:List (TE×TE)->St->Hp->(List (V×V)->Hp->Prop)->Prop
 | [],_,H,Q=>Q [] H
 | (tk,tv)::r,σ,H,Q=>tk σ H λx H1=>tv σ H1 λy H2=>si r σ H2 λps H3=>Q ((x,y)::ps) H3
abbrev VV:List (V×V)->List (IY×IY)->Prop:=Nc λp q=>RelV p.1 q.1/\RelV p.2 q.2
def PPs(X:Cx)(pos:Pos)(keys:List (Option Jn))(values:List Jn)(trs:List (TE×TE)):Prop:=
 ∀(ac:List (I_×Obj)) (s:Jc) (σ:St) (H:Hp) (Q:List (V×V)->Hp->Prop),Inv X ac σ H s->si trs σ H Q->
  Jf (Jh X.prog X.w) X.A (evalPairs (pairTrees keys values X.env pos)) (λvs s'=>∃ps H',Inv X ac σ H' s'/\VV ps vs/\Q ps H') X.xe s
theorem xY:PPs X pos [] [] []:=λac s σ H Q I h=>pairTrees_nil_walk ⟨[],H,I,.nil,h⟩
variable {trs:List (TE×TE)}
theorem qe{k v:Jn}{ks:List (Option Jn)}{vs:List Jn}{tk tv:TE}(hk:PE X k tk)(hv:PE X v tv)(hr:PPs X pos ks vs trs) :
  PPs X pos (some k::ks) (v::vs) ((tk,tv)::trs):=λac s σ H Q I h=>
 pairTrees_cons_walk (thn (hk ac s σ H _ I h) λu s1 ⟨x,H1,I1,rx,q1⟩=>thn (hv ac s1 σ H1 _ I1 q1) λw2 s2 ⟨y,H2,I2,ry,q2⟩=>
  thn (hr ac s2 σ H2 _ I2 q2) λws s3 ⟨ps,H3,I3,rel,q3⟩=>⟨(x,y)::ps,H3,I3,.cons ⟨rx,ry⟩ rel,q3⟩)
def gv(am more:List (Key×V)):List (Key×V):=more.foldl (λacc kv=>putK acc kv.1 kv.2) am
theorem KV.merge:∀{more:List (Key×V)}{rs:List (Key×IY)}{am:List (Key×V)}{vs:List (Key×IY)},KV more rs->KV am vs->KV (gv am more) (merged vs rs):=by
 intro more rs am vs r;unfold KV at r;induction r generalizing am vs with
 |nil=>intro q;exact q
 | @cons p q ps qs h t ih=>
  intro r0;have e:KV (putK am p.1 p.2) (stored vs q.1 q.2):=by have:=r0.put p.1 h.2;rw[<-h.1];exact this
  exact ih e
theorem gQ:∀(more am:List (Key×V)),(gv am more).length<=am.length+more.length
 | [],am=>by show am.length<=am.length+0;lia
 |p::r,am=>by have h1:=gQ r (putK am p.1 p.2);have h2:=fV am p.1 p.2;show(gv (putK am p.1 p.2) r).length<=_;rw[g_];lia
theorem mM{P:Ji}{w:Jm}:∀{am:List (Key×V)}{ws:List (IY×IY)},VV (am.map λkv=>(kV kv.1,kv.2)) ws->∃rs,Carries (aL P w) ws rs/\KV am rs
 | [],_,r=>by rw[F4]at r;cases r;exact⟨[],L_,.nil⟩
 |p::am,_,r=>by
  rw[f']at r;cases r with
  | @cons a b as bs h t=>
   obtain⟨rs,c,q⟩:=mM (P:=P) (w:=w) t;obtain⟨b1,b2⟩:=b;exact⟨(p.1,b2)::rs,⟨pZ h.1,rfl,c⟩,.cons ⟨rfl,h.2⟩ q⟩
def D9(trs:List (TE×TE)):TE:=λσ H Q=>∀p,H p=none->si trs σ (upd H p (.dK [])) λps H2=>H2 p=some (.dK [])/\∃am:List (Key×V),ps=am.map (λkv=>(kV kv.1,kv.2))/\am.length<=15/\Q (.ref p) (upd H2 p (.dK (gv [] am)))
theorem yD{keys:List (Option Jn)}{values:List Jn}(h:PPs X pos keys values trs)(hall:keys.all (·.isSome)=true)(hl:keys.length=values.length)(h0:keys≠[])
  (h15:keys.length<=15):PE X (.Dict keys values pos) (D9 trs):=by
 intro ac s σ H Q I q;have hn:=I.hok.fresh (c_ s.heap.objs.size);have I1:=I.laid (a:=s.heap.objs.size) (o:=.dK []) (h':=s.heap.push { cls:=.type "dict",data:=.dict #[] }) (t':=s.toks) (λ_ _ q=>Je _ q) (c_ _) (qp s.heap I.big);refine wpAny_Dict_walk (knd:=aL X.prog X.w) hall hl h0 h15 (thn (h ac _ σ _ _ I1 (q _ hn)) ?_);rintro ws s2 ⟨ps,H2,I2,rel,e,am,ep,lk,q2⟩;subst ep;obtain⟨rs,c,rk⟩:=mM (P:=X.prog) (w:=X.w) rel;obtain⟨z,hd,vs0,r0,dd⟩:=A2 I2.hok e;cases r0;refine⟨rs,c,dd,λh' dd' hs=>⟨.ref s.heap.objs.size,_,?_,rfl,q2⟩⟩;have hz:(gv [] am).length<=sizeLine:=by have h1:=gQ am [];rw[GP]at h1;rw[JG];lia
 have he:∃q,h'.get? s.heap.objs.size=some q:=let ⟨q,_,_,hq,_⟩:=dd';⟨q,hq⟩
 exact oa I2 (by rw[e];exact L_) hs he (xm hz hd (rk.merge .nil) dd')
end L2
namespace Att
open PySem PySem.W PySem.Calls PyProof.Rows
theorem l5{P:MS}{h:Jp}:∀(ns:List Int) (vs:List IY),WellAll P h vs (ns.map WData.int)->IntsAre vs ns:=by
 intro ns;induction ns with
 |nil=>
  intro vs w;rw[F4]at w;cases w;exact .nil
 |cons n ns ih=>
  intro vs w;rw[f']at w;cases w with
  |cons a b=>
   cases a;exact .cons _ _ (ih _ b)
theorem uW{l:OpenLaw}{n:Nat}(hn:l.most=some n){P:MS}{h:Jp}{args:List WData}{vals:List IY}
  (hpre:l.row.toRowW.claim.pre args=true) (hwl:WellAll P h vals args) :
  ∃a vs ns,vals=[JH a]/\args=[WData.list (ns.map WData.int)]/\h.get? a=some { cls:=.type "list",data:=.seq vs.toArray}/\IntsAre vs ns/\ns.length<=n:=by
 have hsh:WShape.hasAll [] args [.list .int]=true:=(pre_splitW hpre).1;have hc:l.pre.holds [] { args:=args}=true:=(pre_splitW hpre).2;obtain⟨d,r,rfl,h1,h2⟩:=hasAllW_cons hsh;obtain rfl:=hasAllW_nil h2;obtain⟨xs,rfl,h3⟩:=hasW_list h1;obtain⟨ns,rfl⟩:=items_int h3;have hlen:ns.length<=n:=by
  unfold OpenLaw.pre at hc;have h4:(WTm.not (.lt (.lit (.int (n:Int))) (.len (.arg 0)))).holds [] { args:=[.list (ns.map .int)] }=true:=by have h4:=(holds_andW hc).1;rw[hn]at h4;exact h4
  have h5:=condW_of h4 (w_not (w_lt w_lit (w_len_list (w_arg rfl))));rw[a_]at h5;refine Fj λq=>?_;have q':(n:Int)<((ns.length:Nat):Int):=by lia
  first
   | (rw[decide_eq_true q']at h5;exact absurd h5 (by decide))
   | (simp at h5;omega)
 cases hwl with
 |cons w1 w2=>
  cases w2;cases w1 with
  |list ho hall=>exact⟨_,_,ns,rfl,rfl,ho,l5 ns _ hall,hlen⟩
theorem uC(l:OpenLaw)(args:List WData):l.row.toRowW.claim.post args (.bool true) args=true:=
 postW_of (r:=l.row.toRowW) (X:=(true == true))
  (show WShape.has [] (.bool true) .bool=true by first|rfl|decide|simp[WShape.has,WShape.arms,WShape.armsAll])
  (show(WTm.eq .res (.lit (.bool true))).value [] { args:=args,res:=some (.bool true),after:=args}=some (.bool (true == true))from w_eq_bool (w_res rfl) w_lit) rfl
theorem qV{l:OpenLaw}{n:Nat}{q:Ji}{loose:List Str}{XP:(Str->Option IY)->Jp->Prop}{YP:Jm->Jp->Prop}{d:DefRec}
  (hn:l.most=some n) (hdf:d.params.defaults=[])
  (call:∀(w:Jm) (s₀ s₁:Jc) (mg mb:Str->Option IY) (fa:I_) (o:Obj) (pm cd doc:IY) (a:I_) (vs:List IY) (ns:List Int),
   Ground q loose [] XP w s₀ mg mb s₁.heap->YP w s₁.heap->
   s₁.heap.get? fa=some o->o.data=.func (docDef d.name d.params d.body d.scope pm cd doc)->s₁.heap.CodeRec cd d.name->mg d.name=some (.ref fa)->
   s₁.heap.get? a=some { cls:=.type "list",data:=.seq vs.toArray}->IntsAre vs ns->ns.length<=n->s₁.gens=#[]->
   Kh (Jh l.prog w) MO (.call (.ref fa) ⟨[.ref a],[]⟩) (λr s'=>r=.ok (.ret (.bool true))/\OldK s₁.heap s'.heap/\s'.os=s₁.os/\Lp s'.gens) s₁) :
  WalkO q loose XP YP l.row.toRowW d [] (λf vs=>OH f vs):=by
 intro w s₀ s₁ mg mb G Y fa o pm cd doc dV kV ho hd hcd hD hmg hg args vals as hpre hlay hrd hwl hlo;obtain rfl:dV=.none:=Dflts.none hD hdf;obtain rfl:kV=.none:=Dflts.noKw hD;obtain⟨a,vs,ns,rfl,rfl,hobj,hints,hlen⟩:=uW hn hpre hwl;refine enter_call (Kt (call w s₀ s₁ mg mb fa o pm cd doc a vs ns G Y ho (fd_plain hd) hcd hmg hobj hints hlen hg) λr s' hq=>?_);obtain⟨rfl,h2,h3,h4⟩:=hq;exact⟨.inl ⟨.bool true,.bool true,[],rfl,λ_=>rfl,.bool true,uC l _,λ_=>⟨List.Pairwise.nil,λ_ hm=>(nomatch hm)⟩⟩,h2,h3,h4⟩
section
variable{prog:Ji}{w:Jm}{A:Jr}{E:IY->Jc->Prop}{s:Jc}{K:Frag}
noncomputable def ledger(h:Jp)(L d:I_):List (I_×Obj):=(u_ h.objs.size).filterMap λa=>if a=L\/a=d then none else(h.get? a).map λo=>(a,o)
end
end Att
namespace L2
open PySem PySem.Spec PyProof.Rows
theorem nB:∀{vs:List IY}{ns:List Int},IntsAre vs ns->Vals (ns.map V.int) vs
 | _,_,.nil=>.nil
 | _,_,.cons n t h=>.cons ⟨t,rfl⟩ (nB h)
noncomputable def AR(H:Hp):Prop:=∀b,H b=none\/∃o xs,H b=some (.frz o (.lst xs))
variable {fd:Jt}{x:Str}
theorem wY{P:Ji}{w:Jm}{K:Ja}{mg mb:Str->Option IY}{CX:CXT}{k:Nat}{fa a:I_}{sp:Sp}{s₁:Jc}{vs:List IY}{ns:List Int}
  (KX:K.In s₁.heap) (hns:s₁.heap.Ns JD mg) (hb:s₁.heap.Ns Nz mb) (hbb:∀x:Str,x≠"__name__"->mb x=KU x) (hlim:s₁.heap.NoLimit) (hg:s₁.gens=#[])
  (ha:s₁.heap.get? a=some { cls:=.type "list",data:=.seq vs.toArray}) (hi:IntsAre vs ns) (hl:ns.length<=sizeLine) (hr:Room k MO)
  (F:∀base:Jp,K.In base->base.Ns JD mg->FnOk P w K mg base CX k fa fd [x] sp) (hbind:∀(s:Jc) (u:IY),Nh s fd ⟨[u],[]⟩ [(x,u)])
  (hsp:∀H:Hp,AR H->SqL K H a (ns.map V.int)->sp [.ref a] H (λv _=>v=.bl true) λ_ _ _=>False)
  (hCX:∀H e s',CX [] H s₁ (λ_ _ _=>False) e s'->False) :
  Kh (Jh P w) MO (.call (.ref fa) ⟨[.ref a],[]⟩) (λr s'=>r=.ok (.ret (.bool true))/\OldK s₁.heap s'.heap/\s'.os=s₁.os/\Lp s'.gens) s₁:=by
 have rv:=nB hi;have lenV:=hi.length;have core:∀H:Hp,AR H->SqL K H a (ns.map V.int)->HOk P w H s₁.heap->(∀b,H b≠none->b=a)->(H a≠none->K.lookup a=none)->
   Kh (Jh P w) MO (.call (.ref fa) ⟨[.ref a],[]⟩) (λr s'=>r=.ok (.ret (.bool true))/\OldK s₁.heap s'.heap/\s'.os=s₁.os/\Lp s'.gens) s₁:=by
  intro H hO hS hok hA hK;have base_of:∀{b:I_}{o:Obj},s₁.heap.get? b=some o->H b=none->(oK s₁.heap H).get? b=some o:=λe n=>xy e n;have noA:∀{b:I_}{o:Obj}{es:Array K8}{ep:Nat},s₁.heap.get? b=some o->o.data=.dict es ep->H b=none:=λ{b o es ep} e d=>by
   cases q:H b with
   |none=>rfl
   |some u=>
    have e':b=a:=hA b (by rw[q];simp);subst e';rw[ha]at e;cases e;have d':Data.seq vs.toArray _=Data.dict es ep:=d;cases d'
  have nsK:∀{b:I_}{m:Str->Option IY},s₁.heap.Ns b m->(oK s₁.heap H).Ns b m:=λ{b m} ⟨o,es,ep,e,d,r⟩=>⟨o,es,ep,base_of e (noA e d),d,r⟩;have hKb:K.In (oK s₁.heap H):=λb o e=>base_of (KX b o e) (by
   cases q:H b with
   |none=>rfl
   |some u=>
    have e':b=a:=hA b (by rw[q];simp);subst e';rw[hK (by rw[q];simp)]at e;cases e)
  have hM:Mod K mg (oK s₁.heap H):=⟨hKb,nsK hns,⟨mb,nsK hb,hbb⟩,let ⟨mc,h1,h2⟩:=hlim;⟨mc,nsK h1,h2⟩⟩;have e0:Env0 P w K mg (oK s₁.heap H) MO [] s₁ H:=⟨rfl,hM,λb o e=>zx e,Hh (uO _ _),trivial,λb hb=>absurd (show b∈([]:List I_)from hb) (by simp),hok,.of_eq hg⟩;refine Kt ((F _ hKb (nsK hns)).run MO [] s₁ H ⟨[.ref a],[]⟩ [.ref a] [.ref a] _ _ hr e0 (hbind s₁ (.ref a)) (.cons rfl .nil) (hsp H hO hS)) λr s' h=>?_;cases r with
  |error e=>exact(hCX H e s' h).elim
  |ok fl=>
   cases fl with
   |next=>exact Jq h
   |brk=>exact Jq h
   |cont=>exact Jq h
   |ret u=>
    obtain⟨v,H',os,bare,un,hok',r',q⟩:=h;have q':v=.bl true:=q;subst q';obtain rfl:u=Qv true:=r';refine⟨rfl,OldK.of_keep λb o e=>?_,os,bare⟩;cases q:H b with
    |none=>exact un.keep b o e q (by intro z;exact absurd (show b∈([]:List I_)from z) (by simp)) (by simp)
    |some u=>
     rcases hO b with z|⟨ob,xs,z⟩
     ·rw[q]at z;cases z
     have z2:=un.frzs b ob _ z;obtain⟨e1,_⟩:=hok b _ z;obtain⟨e2,_⟩:=hok' b _ z2;rw[e]at e1;cases e1;exact e2
 cases hk:K.lookup a with
 |some o=>
  have e:=KX a o hk;rw[ha]at e;cases e;refine core (λ_=>none) (λ_=>.inl rfl) (.inr ⟨_,vs.toArray,_,hk,rfl,rfl,rfl,by rw[h_,lenV];exact hl,by simpa using rv⟩) (λb u z=>by have z':(none:Option HO)=some u:=z;cases z') (λb z=>absurd rfl z) λz=>absurd rfl z
 |none=>
  refine core (λb=>if b=a then some (.frz { cls:=.type "list",data:=.seq vs.toArray} (.lst (ns.map V.int)))else none) (λb=>?_) (.inl (.inr ⟨{ cls:=.type "list",data:=.seq vs.toArray},if_pos rfl⟩)) (λb u z=>?_) (λb z=>?_) λ_=>hk
  ·by_cases hb:b=a
   ·exact .inr ⟨_,_,if_pos hb⟩
   exact .inl (if_neg hb)
  ·by_cases hb:b=a
   ·have z':=(if_pos hb).symm.trans z;cases z';subst hb;exact⟨ha,by rw[a_];exact hl,vs,_,rv,ha⟩
   have z':=(if_neg hb).symm.trans z;cases z'
  by_cases hb:b=a
  ·exact hb
  exact absurd (if_neg hb) z
theorem zN{l:M4}{n k:Nat}{q:Ji}{loose:List Str}{XP:(Str->Option IY)->Jp->Prop}{YP:Jm->Jp->Prop}{d:DefRec}{K:MS->Ja}{CX:Jm->CXT}{sp:Jm->Sp}
  (hn:l.most=some n) (hn2:n<=sizeLine) (hdf:d.params.defaults=[]) (hr:Room k MO)
  (hY:∀(w:Jm) (h:Jp),YP w h->(K w.params).In h)
  (F:∀(w:Jm) (mg:Str->Option IY) (fa:I_) (h:Jp),(K w.params).In h->h.Ns JD mg->mg d.name=some (.ref fa)->
   ∃fd:Jt,(∀(s:Jc) (u:IY),Nh s fd ⟨[u],[]⟩ [(x,u)])/\
    ∀base:Jp,(K w.params).In base->base.Ns JD mg->FnOk l.prog w (K w.params) mg base (CX w) k fa fd [x] (sp w))
  (hsp:∀(w:Jm) (H:Hp) (a:I_) (ns:List Int),ns.length<=n->AR H->SqL (K w.params) H a (ns.map V.int)->sp w [.ref a] H (λv _=>v=.bl true) λ_ _ _=>False)
  (hCX:∀(w:Jm) (H:Hp) (s:Jc) (e:IY) (s':Jc),CX w [] H s (λ_ _ _=>False) e s'->False) :
  Pq q loose XP YP l.row.toRowW d [] (λf vs=>OH f vs):=by
 refine Att.qV hn hdf λw s₀ s₁ mg mb fa o pm cd doc a vs ns G Y ho hd hcd hmg hobj hints hlen hg=>?_;have KX:=hY w _ Y;obtain⟨fd,hb,hF⟩:=F w mg fa _ KX G.T.g hmg;exact wY KX G.T.g G.T.b G.T.builtins G.T.nolimit hg hobj hints (ER hlen hn2) hr hF hb (λH hO hS=>hsp w H a ns hlen hO hS) λH e s'=>hCX w H s₁ e s'
noncomputable def dh(s:JA):Arguments:=match s with
 | .FunctionDef _ a _ _ _ _ _ _ _ _=>a
 | _=>{ posonlyargs:=[],args:=[],vararg:=none,kwonlyargs:=[],kw_defaults:=[],kwarg:=none,defaults:=[] }
noncomputable def b8(s:JA):List JA:=match s with
 | .FunctionDef _ _ b _ _ _ _ _ _ _=>b
 | _=>[]
noncomputable def af(s:JA):JX:=match s with
 | .FunctionDef _ _ _ _ _ _ sc _ _ _=>sc
 | _=>{ kind:=.function,names:=[],isGenerator:=false,isCoroutine:=false}
abbrev CX0:CXT:=λ_ _ _ _ _ _=>False
abbrev E0:XK:=λ_ _ _=>False
theorem CA{X:Cx}:Passes CX0 X E0:=λ_ _ _ _ _ _ _ h=>h.elim
structure Fun (K:Ja) (x qual:Str) (st:JA) (f:I_) (fd:Jt):Prop where
 ex:∃(oc:IY) (od:Option I_) (kV doc pm:IY) (an:Option I_) (cdv ct:IY) (osl:Array (Option IY)),
  fd=KI x qual (dh st) (b8 st) (af st) .none kV doc pm an cdv ct/\K.lookup f=some ⟨oc,od,.func fd,osl⟩/\Mc K cdv qual=true
 kp:KA K (.ref f)=true
variable {f:I_}{ps:List Str}{qual:Str}{st:JA}
section
variable{P:Ji}{w:Jm}{K:Ja}{mg:Str->Option IY}{base:Jp}
theorem Fun.ok {N:List Str}{k:Nat}{sp:Sp}(F:Fun K x qual st f fd)(S:FnScope N ps (af st))(len:∀vs H Q E,sp vs H Q E->vs.length=ps.length)
  (hbody:∀(cdv:IY) (A:Jr) (outer:List Env) (s:Jc) (H:Hp) (vs:List V) (Q:VK) (E:XK),Room k (A.deeper (Kn qual (af st) s.heap.objs.size f cdv))->sp vs H Q E->
   ∃t,PSs (gm CX0 P w K mg base N qual (af st) f cdv A outer s H E).nox (b8 st) t/\t { nx:=λ_ H'=>Q .non H',rt:=Q} (start N vs) H):FnOk P w K mg base CX0 (k+1) f fd ps sp:=by
 obtain⟨oc,od,kV,doc,pm,an,cdv,ct,osl,rfl,lk,hcd⟩:=F.ex;refine An lk hcd S len λA outer s H vs Q E hr hsp=>?_;obtain⟨t,h,q⟩:=hbody cdv A outer s H vs Q E hr hsp;exact⟨t,h.nox,q⟩
theorem Fun.binds (F:Fun K x qual st f fd)
  (h:∀(kV doc pm:IY) (an:Option I_) (cdv ct:IY) (us:List IY),us.length=ps.length->PZ (KI x qual (dh st) (b8 st) (af st) .none kV doc pm an cdv ct) ⟨us,[]⟩=pure (ps.zip us)):Binds K fd ps []:=by
 obtain⟨oc,od,kV,doc,pm,an,cdv,ct,osl,rfl,lk,hcd⟩:=F.ex;exact .all (h kV doc pm an cdv ct)
theorem sg{oc:IY}{od an:Option I_}{osl:Array (Option IY)}{kV doc pm cdv ct:IY}(l:K.lookup f=some ⟨oc,od,.func (KI x qual (dh st) (b8 st) (af st) .none kV doc pm an cdv ct),osl⟩)
  (c:Mc K cdv qual=true) (k:KA K (.ref f)=true):Fun K x qual st f (KI x qual (dh st) (b8 st) (af st) .none kV doc pm an cdv ct):=⟨⟨oc,od,kV,doc,pm,an,cdv,ct,osl,rfl,l,c⟩,k⟩
end
theorem kS{A:Jr}{k:Nat}(hr:Room k A):A.units+1<cLine:=Fx (G0 (by decide:1<=64) _) hr.units
section
variable{X:Cx}
theorem pv(i:Nat){pos:Pos}(hN:X.N[i]?=some x:=by rfl)(hv:Vis X.env.scope x:=by first|exact f_ rfl|exact gV (f_ rfl)|exact gV (gV rfl))(hd:(x ==("__debug__":Str))=false:=by decide)
  (hcd:(x ==("__classdict__":Str))=false:=by decide):PE X (.Name x pos) (BM i):=cq hN hv hd hcd
end
theorem Ec{A B:Prop}(h:B):if false=true then A else B:=by rw[if_neg EZ];exact h
theorem Eg{A B:Prop}(h:A):if true=true then A else B:=by rw[if_pos rfl];exact h
noncomputable def aJ(H H':Hp):Prop:=∀b o,H b=some o->H' b=some o
theorem aJ.seq {K:Ja}{H H':Hp}{a:I_}{xs:List V}(e:aJ H H')(h:SqL K H a xs):SqL K H' a xs:=by
 rcases h with (h|⟨o,h⟩)|h
 ·exact .inl (.inl (e _ _ h))
 ·exact .inl (.inr ⟨o,e _ _ h⟩)
 exact .inr h
end L2
namespace ZG
open PySem
noncomputable def Sq(b:Bool)(h:Jp)(l:I_)(xs:Array IY):Prop:=match b with
 |true=>h.IsTuple l xs
 |false=>h.IsList l xs
noncomputable def Dr(b:Bool)(h:Jp)(i l:I_)(k:Nat):Prop:=match b with
 |true=>h.IsTupleIter i l k
 |false=>h.IsListIter i l k
variable {b:Bool}{h h':Jp}{xs:Array IY}
theorem Sq.ext {l c:I_}(x:Sq b h l xs)(k:Lw c h h')(n:l≠c):Sq b h' l xs:=by
 cases b with
 |true=>exact QD (show h.IsTuple l xs from x) k n
 |false=>exact QJ (show h.IsList l xs from x) k n
variable {i:I_}
theorem Dr.ext {l c:I_}{k:Nat}(x:Dr b h i l k)(e:Lw c h h')(n:i≠c):Dr b h' i l k:=by
 cases b with
 |true=>exact Qd (show h.IsTupleIter i l k from x) e n
 |false=>exact Qn (show h.IsListIter i l k from x) e n
theorem Dr.some {b:Bool}{h:Jp}{i l:I_}{k:Nat}(x:Dr b h i l k):∃o,h.get? i=some o/\∀v,o.data≠.cell v:=by
 cases b with
 |true=>obtain⟨o,e,_,d⟩:=(show h.IsTupleIter i l k from x);exact⟨o,e,λv z=>by rw[d]at z;cases z⟩
 |false=>obtain⟨o,e,_,d⟩:=(show h.IsListIter i l k from x);exact⟨o,e,λv z=>by rw[d]at z;cases z⟩
theorem Dr.at {l:I_}{k:Nat}(x:Dr b h i l k)(e:∀o,h.get? i=HA o->h'.get? i=HA o):Dr b h' i l k:=by
 cases b with
 |true=>obtain⟨o,q,r⟩:=(show h.IsTupleIter i l k from x);exact⟨o,e o q,r⟩
 |false=>obtain⟨o,q,r⟩:=(show h.IsListIter i l k from x);exact⟨o,e o q,r⟩
theorem Sq.at {l:I_}(x:Sq b h l xs)(e:∀o,h.get? l=HA o->h'.get? l=HA o):Sq b h' l xs:=by
 cases b with
 |true=>obtain⟨o,q,r⟩:=(show h.IsTuple l xs from x);exact⟨o,e o q,r⟩
 |false=>obtain⟨o,q,r⟩:=(show h.IsList l xs from x);exact⟨o,e o q,r⟩
variable {Q:IY->Jc->Prop}
section
variable{prog:Ji}{w:Jm}{A:Jr}{E:IY->Jc->Prop}{s:Jc}
theorem zp{l:I_}{k:Nat}{v:IY}(d:s.heap.IsTupleIter i l k)(q:s.heap.IsTuple l xs)(hv:xs[k]?=some v)
  (r:∀g,g.IsTupleIter i l (k+1)->JO i s.heap g->Q v {s with heap:=g}):Jf (Jh prog w) A (J_ (.ref i)) Q E s:=by
 obtain⟨oi,hoi,ci,di⟩:=id d;obtain⟨ol,hol,_,nl,dl⟩:=q;unfold J_;refine IZ (JR (name:=JZ "__next__") d.typeIs KN (JV KN d.typeIs Ml ?_ (Me _)));show Jf _ _ (Qx (.ref i) 0 >>= _) _ _ s;refine IZ (Lr hoi di (x:=.ref l) rfl ?_);show Jf _ _ (if(JH l == JT)=true then _ else _) _ _ s;rw[if_neg (show ¬((JH l == JT)=true)from EZ)];show Jf _ _ (Qx (.ref i) 1 >>= _) _ _ s;refine IZ (Lr hoi di (x:=.int k 0) rfl ?_);show Jf _ _ (LD (.ref l) >>= _) _ _ s;refine IZ (Ld hol dl ?_);simp only[B_,hv];refine IZ (Kd hoi di (by simp) (Jd ⟨v,rfl,Jd (r _ ?_ (JI ..))⟩));exact⟨_,JE _ hoi (Ko (JF di _)),(Lb ..).trans ci,by rw[JF di];simp[Kf]⟩
theorem BJ{l:I_}{k:Nat}(hh:A.handled=none)(d:s.heap.IsTupleIter i l k)(q:s.heap.IsTuple l xs)(hv:xs[k]?=none)
  (r:∀g e,Lw i s.heap g->(∃o,g.get? e=some o/\o.cls=.type "StopIteration")->E (.ref e) {s with heap:=g}):Jf (Jh prog w) A (J_ (.ref i)) Q E s:=by
 obtain⟨oi,hoi,ci,di⟩:=id d;obtain⟨ol,hol,_,nl,dl⟩:=q;unfold J_;refine IZ (JR (name:=JZ "__next__") d.typeIs KN (JV KN d.typeIs Ml ?_ (Me _)));show Jf _ _ (Qx (.ref i) 0 >>= _) _ _ s;refine IZ (Lr hoi di (x:=.ref l) rfl ?_);show Jf _ _ (if(JH l == JT)=true then _ else _) _ _ s;rw[if_neg (show ¬((JH l == JT)=true)from EZ)];show Jf _ _ (Qx (.ref i) 1 >>= _) _ _ s;refine IZ (Lr hoi di (x:=.int k 0) rfl ?_);show Jf _ _ (LD (.ref l) >>= _) _ _ s;refine IZ (Ld hol dl ?_);simp only[B_,hv];refine IZ (LI (IZ (Kd hoi di (by simp) ?_)));show Jf _ _ (MT (.type "StopIteration") [] >>= _) _ _ _;refine IZ ?_;simp only[MT,Ol];refine IZ (Ju ?_ (by size_fits));refine IZ (m:=KC _ _) (K' (a:=JT) (by first|rfl|(simp only[KC];rfl)) ?_);refine Ju ?_ (by size_fits);simp only[Om];refine IZ (Mw ?_)
 first|rw[show A.in1.handled=none from hh]|rw[hh]
 refine IZ (Jd (Na ?_));exact r _ _ (((JI ..).extBut.push _).push _) ⟨_,Jj _ rfl,rfl⟩
theorem Cg{l:I_}{k:Nat}{v:IY}(d:Dr b s.heap i l k)(q:Sq b s.heap l xs)(hv:xs[k]?=some v)
  (r:∀g,Dr b g i l (k+1)->JO i s.heap g->Q v {s with heap:=g}):Jf (Jh prog w) A (J_ (.ref i)) Q E s:=by
 cases b with
 |true=>exact zp d q hv r
 |false=>exact wpAny_nextOf_list_item d q hv r
theorem Df{l:I_}{k:Nat}(hh:A.handled=none)(d:Dr b s.heap i l k)(q:Sq b s.heap l xs)(hv:xs[k]?=none)
  (r:∀g e,Lw i s.heap g->(∃o,g.get? e=some o/\o.cls=.type "StopIteration")->E (.ref e) {s with heap:=g}):Jf (Jh prog w) A (J_ (.ref i)) Q E s:=by
 cases b with
 |true=>exact BJ hh d q hv r
 |false=>exact wpAny_nextOf_list_end hh d q hv r
theorem Bx{l:I_}(q:Sq b s.heap l xs)(r:∀g,Dr b g s.heap.objs.size l 0->g.objs.size=s.heap.objs.size+1->(∀c o,s.heap.get? c=some o->g.get? c=some o)->Q (.ref s.heap.objs.size) {s with heap:=g}) :
  Jf (Jh prog w) A (LR (.ref l)) Q E s:=by
 cases b with
 |true=>exact K9 q (r _ ⟨_,Jj _ rfl,rfl,rfl⟩ (J3 ..) λc o e=>Je _ e)
 |false=>exact MC q (r _ ⟨_,Jj _ rfl,rfl,rfl⟩ (J3 ..) λc o e=>Je _ e)
end
end ZG
namespace L2
open PySem PySem.Spec PyProof.Rows
noncomputable def cI(env:Env):List (Str×KW)->List (Str×I_)->List (Str×I_)
 | [],cs=>cs
 |x::r,cs=>cI env r (if(x.2 == Kl)=true then(x.1,(env.cells.lookup x.1).getD 0)::cs else cs)
theorem m7{env:Env}(f:Str×KW->List (Str×I_)->Sem (ForInStep (List (Str×I_))))(hf:∀n k cs,f (n,k) cs=if(k == Kl)=true then(do let a <-cellOf env n;pure (Kb ((n,a)::cs)))else pure (Kb cs)) :
  ∀(names:List (Str×KW)) (cs:List (Str×I_)),(∀x∈names,x.2=.free->∃c,env.cells.lookup x.1=some c)->forIn names cs f=pure (cI env names cs)
 | [],cs,_=>by rw[List.forIn_nil];rfl
 | (n,k)::r,cs,h=>by
  rw[List.forIn_cons,hf];have hr:∀x∈r,x.2=.free->∃c,env.cells.lookup x.1=some c:=λx hx=>h x (i_ _ hx);by_cases e:(k == Kl)=true
  ·obtain⟨c,hc⟩:=h (n,k) q_ (by simpa using e);have hc':env.cells.lookup n=some c:=hc;rw[if_pos e];have q:cellOf env n=pure c:=by unfold cellOf;rw[hc']
   rw[q,pure_bind,pure_bind];show forIn r ((n,c)::cs) f=pure (cI env ((n,k)::r) cs);rw[m7 f hf r _ hr];unfold cI;rw[if_pos e,hc'];cases r <;> rfl
  rw[if_neg e,pure_bind];show forIn r cs f=pure (cI env ((n,k)::r) cs);rw[m7 f hf r _ hr]
  conv=>rhs;unfold cI
  rw[if_neg e]
variable {sc:JX}
theorem lL{env:Env}(h:∀x∈sc.names,x.2=.free->∃c,env.cells.lookup x.1=some c):closureFor sc env=pure (cI env sc.names []):=by
 unfold closureFor;show(forIn sc.names [] _ >>= λcs=>pure cs)=_;rw[m7 (env:=env) _ (λn k cs=>by cases e:k == Kl <;> simp[e]) sc.names [] h]
 rfl
theorem qc{env:Env}:∀{names:List (Str×KW)}{cs:List (Str×I_)}{x:Str}{c:I_},(∀y∈names,y.2=.free->∃c,env.cells.lookup y.1=some c)->(cI env names cs).lookup x=some c->
  (env.cells.lookup x=some c/\(x,Kl)∈names)\/cs.lookup x=some c
 | [],cs,x,c,_,h=>.inr h
 | (n,k)::r,cs,x,c,hn,h=>by
  unfold cI at h;have hr:∀y∈r,y.2=.free->∃c,env.cells.lookup y.1=some c:=λy hy=>hn y (i_ _ hy);have hh:=qc hr h;clear h;rcases hh with⟨h1,h2⟩|h
  ·exact .inl ⟨h1,i_ _ h2⟩
  by_cases e:(k == Kl)=true
  ·rw[if_pos e]at h;obtain⟨c',hc⟩:=hn (n,k) q_ (by simpa using e);have hc':env.cells.lookup n=some c':=hc;rw[hc',F']at h;by_cases ex:(x == n)=true
   ·rw[ex]at h;have ex':x=n:=by simpa using ex
    have ek:k=Kl:=by simpa using e
    subst ex' ek;have h':c'=c:=EM h;subst h';exact .inl ⟨hc',q_⟩
   have ex':(x == n)=false:=by simpa using ex
   rw[ex']at h;exact .inr h
  rw[if_neg e]at h;exact .inr h
theorem qI{env:Env}:∀{names:List (Str×KW)}{cs:List (Str×I_)}{x:Str}{c:I_},(∀y∈names,y.2=.free->∃c,env.cells.lookup y.1=some c)->env.cells.lookup x=some c->cs.lookup x=some c->(cI env names cs).lookup x=some c
 | [],cs,x,c,_,_,h=>h
 | (n,k)::r,cs,x,c,hn,he,h=>by
  unfold cI;refine qI (λy hy=>hn y (i_ _ hy)) he ?_;by_cases e:(k == Kl)=true
  ·rw[if_pos e,F'];by_cases ex:(x == n)=true
   ·rw[ex];have ex':x=n:=by simpa using ex
    subst ex';show some ((env.cells.lookup x).getD 0)=some c;rw[he];rfl
   have ex':(x == n)=false:=by simpa using ex
   rw[ex'];exact h
  rw[if_neg e];exact h
theorem oq{env:Env}:∀{names:List (Str×KW)}{cs:List (Str×I_)}{x:Str}{c:I_},(∀y∈names,y.2=.free->∃c,env.cells.lookup y.1=some c)->env.cells.lookup x=some c->(x,Kl)∈names->(cI env names cs).lookup x=some c
 | (n,k)::r,cs,x,c,hn,he,hm=>by
  have hr:∀y∈r,y.2=.free->∃c,env.cells.lookup y.1=some c:=λy hy=>hn y (i_ _ hy);unfold cI;rcases k_.mp hm with e|hm
  ·obtain⟨rfl,rfl⟩:=Prod.mk.inj e;rw[if_pos (by rfl)];refine qI hr he ?_;rw[F',beq_self_eq_true];show some ((env.cells.lookup x).getD 0)=some c;rw[he];rfl
  exact oq hr he hm
noncomputable def lN(env:Env)(sc:JX):JX:={sc with names:=sc.names.map λx=>if(x.2 == .free&&env.scope.kind == .function&&env.kindOf x.1 == some .cell)=true then(x.1,.cell)else(x.1,x.2) }
theorem jz{f:Str×KW->Bool}(x:Str):∀names:List (Str×KW),(names.map λy=>if f y=true then(y.1,Q5)else(y.1,y.2)).lookup x=(names.lookup x).map λk=>if f (x,k)=true then .cell else k
 | []=>rfl
 | (n,k)::r=>by
  rw[f'];by_cases ex:(x == n)=true
  ·have ex':x=n:=by simpa using ex
   subst ex';cases e:f (x,k) <;> simp[e,F']
  have ex':(x == n)=false:=by simpa using ex
  have ih:=jz (f:=f) x r;cases e:f (n,k) <;> simp only[e,if_true,if_false,Fl,F',ex',ih]
theorem jf(env:Env)(sc:JX)(x:Str):(lN env sc).names.lookup x=(sc.names.lookup x).map λk=>if(k == .free&&env.scope.kind == .function&&env.kindOf x == some .cell)=true then .cell else k:=
 jz (f:=λy=>(y.2 == .free&&env.scope.kind == .function&&env.kindOf y.1 == some .cell)) x sc.names
def compEnv(env:Env)(sc:JX)(L:I_):Env:={ newEnv sc L env.globals (cI env sc.names []) env.qual none .none (some env) Nz with scope:=lN env sc}
variable {Q:IY->Jc->Prop}{e:Jn}{first newAcc:Sem IY}{gs:List Mx}{pos:Pos}{scope:JX}
section
variable{M:Lg}{A:Jr}{E:IY->Jc->Prop}{s:Jc}{env:Env}
theorem jH{g:Mx}
  (hcl:clausesOf e=g::gs) (hs:∀x,JY g.iter env x=pure x)
  (hc:∀x∈scope.names,x.2≠.cell) (hfr:∀x∈scope.names,x.2=.free->∃c,env.cells.lookup x.1=some c) (hkind:scope.kind=.function) (hnames:∀x∈scope.names,x.2=.local->scope.names.lookup x.1=some .local)
  (h:Jf M A first (λx s₁=>Jf M A (LR x) (λit s₂=>Jf M A newAcc (λacc s₃=>
   ∀h4,h4.Ns s₃.heap.objs.size (λ_=>none)->(∀b o,s₃.heap.get? b=some o->h4.get? b=some o)->
    Kh M A (.compStart e 0 it acc (compEnv env scope s₃.heap.objs.size)) (λr s'=>∃m,s'.heap.Ns s₃.heap.objs.size m/\∀h',JO s₃.heap.objs.size s'.heap h'->
     match r with | .ok _=>Q acc {s' with heap:=h'} | .error x=>False) { s₃ with heap:=h4}) E s₂) E s₁) E s) :
  Jf M A (LZ e scope env pos newAcc false first) Q E s:=by
 unfold LZ;rw[lL hfr,hcl];refine IZ (Js h (λx s₁ h₁=>IZ (LX (IZ (K' (hs x) (IZ (Jy (Js h₁ (λit s₂ h₂=>
  Pt (IZ (Js h₂ (λacc s₃ h₃=>IZ (Jd (IZ ?_))) λ_ _ h'=>h')))
   λ_ _ h'=>h'))))))) λ_ _ h'=>h')
 refine NI hc (λx hx=>nomatch hx) (λh4 hn4 hs4=>?_) hkind;have h₄:=h₃ h4 hn4 λb o e=>hs4.extBut b o (t_ (Jl e)) (Je _ e);dsimp only;have hv:∀x∈(scope.names.filter λx=>(x.2 == .local || x.2 == .cell)&&x.1 !=(".0":Str)).reverse,x.2=.local->
   OI (compEnv env scope s₃.heap.objs.size) x.1=some .local:=λx hx hl=>by
  show(lN env scope).names.lookup x.1=some .local;rw[jf,hnames x (Ff.mp (Hi.mp hx)).1 hl]
  rfl
 refine Jy (IZ (KO (Jy (wpAny_run (Kt h₄ λr s' hr=>?_)))));obtain⟨m,hn,hr⟩:=hr;cases r with
 |ok f=>exact IZ (Jy (Oo (cenv:=compEnv env scope s₃.heap.objs.size) hkind _ s' m hv hn λh' m' _ hs'=>Jd (hr h' hs')))
 |error x=>exact(hr s'.heap (.refl ..)).elim
end
variable {elt iter target:Jn}{ifs:List Jn}
section
variable{prog:Ji}{w:Jm}{A:Jr}{R:Ng->Jc->Prop}{s:Jc}
theorem kL{it acc:IY}{env:Env}(I:Nat->Jc->Prop)
  (turn:∀n s,I n s->Jf (Jh prog w) A (KP it) (λr s₁=>match r with
   |none=>R (.ok .next) s₁
   |some v=>Jf (Jh prog w) A (L9 target it v) (λ_ s₁'=>Jf (Jh prog w) A (LQ target env v) (λ_ s₂=>
     Jf (Jh prog w) A (forIn ifs true λc r=>if r=true then do let ok <-Nd c env (JC c env);pure (Kb ok)else pure (Kb r)) (λok s₃=>
      if ok=true then Jf (Jh prog w) A (JC elt env) (λx s₄=>
       Jf (Jh prog w) A (call (.builtin "list.append") [acc,x]) (λ_ s₅=>∃m,m<n/\I m s₅) (λ_ _=>False) s₄) (λ_ _=>False) s₃
      else ∃m,m<n/\I m s₃) (λ_ _=>False) s₂) (λ_ _=>False) s₁') (λ_ _=>False) s₁) (λ_ _=>False) s)
  (n:Nat) (h:I n s) :
  Kh (Jh prog w) A (.compLoop (.ListComp elt [⟨target,iter,ifs,0⟩] scope pos) 0 it acc env) R s:=by
 refine codeAny_loop rfl I (λn s hI=>?_) n h;show Jf _ A ((compTurn (.ListComp elt [⟨target,iter,ifs,0⟩] scope pos) 0 it acc env).onRaise (λx=>do Pe x env;theTreesLotGoes x)) _ _ s;refine wpAny_noted ?_;rw[compTurn_list];refine IZ (LX (IZ (Js (turn n s hI) (λr s₁ h₁=>?_) λ_ _ h'=>h'.elim)));cases r with
 |none=>exact Jd h₁
 |some v=>
  refine IZ (Js h₁ (λ_ s₁' h₁'=>?_) λ_ _ h'=>h'.elim);refine IZ (Js h₁' (λ_ s₂ h₂=>IZ (Js h₂ (λok s₃ h₃=>?_) λ_ _ h'=>h'.elim)) λ_ _ h'=>h'.elim);cases ok with
  |false=>exact Jd ⟨rfl,h₃⟩
  |true=>
   exact IZ (IZ (Js h₃ (λx s₄ h₄=>IZ (Js h₄ (λ_ s₅ h₅=>Jd (Jd ⟨rfl,h₅⟩)) λ_ _ h'=>h'.elim)) λ_ _ h'=>h'.elim))
end
def az(X:Cx)(N':List Str)(sc:JX)(s3:Jc)(H3:Hp)(fp:List I_):Cx where
 prog:=X.prog
 w:=X.w
 K:=X.K
 mg:=X.mg
 base:=X.base
 A:=X.A
 N:=N'
 s₀:=s3
 H₀:=H3
 env:=compEnv X.env sc s3.heap.objs.size
 outer:=X.stack
 stack:=X.stack
 ex:=fp
 calm:=true
 fn:=λ_=>false
 pn:=[]
 xe:=λ_ _=>False
noncomputable def gn(N:List Str)(esc sc:JX)(N':List Str)(fr:List (Option Nat)):Bool:=
 sc.kind == .function&&esc.kind == .function
 && sc.names.all (λy=>(y.2 != .cell)&&(y.2 != .free || esc.names.lookup y.1 == some .cell)&&(y.2 != .local || sc.names.lookup y.1 == some .local))
 && fr.length == N'.length
 && (u_ N'.length).all (λi=>match fr[i]? with
  |some (some j)=>match N'[i]? with
   |some x=>N[j]? == some x&&sc.names.lookup x == some .free
   |none=>false
  | _=>true)
structure CompOk (N:List Str) (esc sc:JX) (N':List Str) (fr:List (Option Nat)):Prop where
 kind:sc.kind=.function
 ekind:esc.kind=.function
 nocell:∀x∈sc.names,x.2≠.cell
 free:∀x∈sc.names,x.2=.free->esc.names.lookup x.1=some .cell
 names:∀x∈sc.names,x.2=.local->sc.names.lookup x.1=some .local
 len:fr.length=N'.length
 at_:∀(i j:Nat) (x:Str),fr[i]?=some (some j)->N'[i]?=some x->N[j]?=some x/\sc.names.lookup x=some .free
variable {N N':List Str}{esc:JX}{fr:List (Option Nat)}
theorem nL(h:gn N esc sc N' fr=true):CompOk N esc sc N' fr:=by
 unfold gn at h;simp only[EN,beq_iff_eq,GF,Fq]at h;obtain⟨⟨⟨⟨h1,h2⟩,h3⟩,h4⟩,h5⟩:=h;refine⟨h1,h2,λx hx=>?_,λx hx e=>?_,λx hx e=>?_,h4,λi j x e1 e2=>?_⟩
 ·have:=(h3 x hx).1.1;simpa using this
 ·have:=(h3 x hx).1.2;rw[e]at this;simpa using this
 ·have:=(h3 x hx).2;rw[e]at this;simpa using this
 have hi:i<N'.length:=(b_.mp e2).1;have q:=h5 i hi;rw[e1,e2]at q;simpa using q
noncomputable def bj(fr:List (Option Nat))(σ:St):St:=fr.map λo=>match o with
 |some j=>(σ[j]?).join
 |none=>none
variable {X:Cx}
theorem pV{ac:List (I_×Obj)}{σ:St}{H3:Hp}{s3:Jc}{fp:List I_}{h4:Jp}(I:Inv X ac σ H3 s3)(C:CompOk X.N X.env.scope sc N' fr)(hc:X.calm=true)
  (hfp:∀b∈fp,j6 X ac H3 b) (hfo:∀b∈fp,∃o,s3.heap.get? b=some o) (hn:h4.Ns s3.heap.objs.size (λ_=>none)) (hk:∀b o,s3.heap.get? b=some o->h4.get? b=some o) :
  Inv (az X N' sc s3 H3 fp) [] (bj fr σ) H3 {s3 with heap:=h4}:=by
 have hfr:∀x∈sc.names,x.2=.free->∃c,X.env.cells.lookup x.1=some c:=λx hx e=>I.ok.has x.1 (.inl (C.free x hx e));have clo:∀{x c},(cI X.env sc.names []).lookup x=some c->X.env.cells.lookup x=some c:=λ{x c} e=>by
  rcases qc hfr e with⟨h1,_⟩|h
  ·exact h1
  cases h
 have nfs:∀b∈fp,b ∉ frs X.stack:=λb hb z=>by
  obtain⟨_,h1,h2,_⟩:=hfp b hb;rcases k_.mp (I.rQ b z)with e|e
  ·exact h1 e
  exact h2 e
 have hfresh:H3 s3.heap.objs.size=none:=I.hok.fresh (c_ _);refine⟨⟨I.ok.mod,C.kind,I.ok.glob,I.ok.blt,c_ _,λx y c e1 e2=>I.ok.inj x y c (clo e1) (clo e2),λx hx=>?_,λx c z=>(nomatch z),λ_=>I.ok.hd hc,I.ok.frames,.inl rfl,λb hb=>⟨?_,λx c e=>?_⟩,λb o e=>I.bs b o e,ER I.ok.bsz I.sz,λb o e hb=>?_,nfs,I.stack,I.jy⟩,
  rfl,I.bare,Un.kept hk,⟨_,hn,λi x v e1 e2 e3=>?_⟩,λx c e=>?_,hfresh,λx c e=>I.freeC x c (clo e),λp hp=>(nomatch hp),I.hok.kept hk,?_⟩
 ·have hx:(lN X.env sc).names.lookup x=some .cell\/(lN X.env sc).names.lookup x=some .free:=hx;rw[jf]at hx;cases e:sc.names.lookup x with
  |none=>rw[e]at hx;rcases hx with z|z <;> cases z
  |some k=>
   have hm:(x,k)∈sc.names:=Ki e;have hk:k=.free:=by
    rw[e]at hx;cases k with
    |free=>rfl
    |cell=>exact absurd rfl (C.nocell _ hm)
    | _=>rcases hx with z|z <;>(simp at z)
   subst hk;obtain⟨c,hc'⟩:=hfr _ hm rfl;exact⟨c,oq hfr hc' hm⟩
 ·obtain⟨o,ho⟩:=hfo b hb;exact t_ (Jl ho)
 ·exact(hfp b hb).2.2.2.2.1 x c (clo e)
 ·obtain⟨e1,_⟩:=I.ok.bs b o e;rcases(hfp b hb).2.2.2.1 with z|z
  ·exact I.ok.noex b o e z
  exact absurd (w_ (Jl e1) z) (FH _)
 ·have e2:(bj fr σ)[i]?=some (some v):=e2;unfold bj at e2;rw[A_]at e2;cases ef:fr[i]? with
  |none=>rw[ef]at e2;cases e2
  |some o=>
   rw[ef]at e2;cases o with
   |none=>cases e2
   |some j=>
    have e2':(σ[j]?).join=some v:=by simpa using e2
    have e2'':σ[j]?=some (some v):=by
     cases q:σ[j]? with
     |none=>rw[q]at e2';cases e2'
     |some z=>rw[q]at e2';exact congrArg some e2'
    obtain⟨hN,hfrx⟩:=C.at_ i j x ef e1;have hm:(x,Kl)∈sc.names:=Ki hfrx;have hcell:=C.free _ hm rfl;obtain⟨m,_,hl⟩:=I.loc;obtain⟨u,r,l⟩:=hl j x v hN e2'' (.inr (.inl hcell));refine⟨u,r,.inr ⟨.inl ?_,?_⟩⟩
    ·show(lN X.env sc).names.lookup x=some .cell;rw[jf,hfrx];have h1:X.env.kindOf x=some .cell:=hcell;have h2:X.env.scope.kind=.function:=C.ekind;simp[h1,h2]
    rcases l with⟨k,_⟩|⟨_,c,ec,ic⟩
    ·have h1:X.env.kindOf x=some .cell:=hcell;rw[h1]at k;cases k
    obtain⟨o,ho,hd⟩:=ic;exact⟨c,oq hfr ec hm,o,hk c o ho,hd⟩
 ·obtain⟨v,o,ho,hd⟩:=I.cell x c (clo e);exact⟨v,o,hk c o ho,hd⟩
 unfold bj;rw[a_];exact C.len
def PTs(X:Cx)(ifs:List Jn)(t:TT):Prop:=
 ∀(ac:List (I_×Obj)) (s:Jc) (σ:St) (H:Hp) (Q:Bool->Hp->Prop),Inv X ac σ H s->t σ H Q->
  Jf (Jh X.prog X.w) X.A (forIn ifs true λc r=>if r=true then do let ok <-Nd c X.env (JC c X.env);pure (Kb ok)else pure (Kb r)) (TP X ac σ Q) X.xe s
noncomputable def Et:TT:=λ_ H Q=>Q true H
theorem yt:PTs X [] Et:=λac s σ H Q I h=>wpAny_tests_nil ⟨H,I,h⟩
theorem zW{c:Jn}{t:TT}(h:PT X c t):PTs X [c] t:=λac s σ H Q I q=>wpAny_tests_one (h ac s σ H Q I q)
def DA(J:It)(fr:List (Option Nat))(g:Jc->Hp->List I_->TG)(tt:Jc->Hp->List I_->TT)(te:Jc->Hp->List I_->TE)(σ:St)(H1:Hp)(Q:VK):Prop:=∀p,H1 p=none->∀s3 H3' fp,∃W:Nat->Nat->St->Hp->Prop,(∃m,W 0 m (bj fr σ) (upd H1 p (.lst [])))/\∀i m bv H',W i m bv H'->
 (J.stop i H'/\Q (.ref p) H')\/(J.go i H'/\∀x H2,J.yld i H' x H2->g s3 H3' fp x bv H2 λσ2 H3=>tt s3 H3' fp σ2 H3 λb H4=>
  if b=true then te s3 H3' fp σ2 H4 λv H5=>∃ys,H5 p=some (.lst ys)/\ys.length<sizeLine/\∃m',m'<m/\W (i+1) m' σ2 (upd H5 p (.lst (ys++[v])))else ∃m',m'<m/\W (i+1) m' σ2 H4)
def t9(wi:TI)(fr:List (Option Nat))(g:Jc->Hp->List I_->TG)(tt:Jc->Hp->List I_->TT)(te:Jc->Hp->List I_->TE):TE:=λσ H Q=>wi σ H λJ H1=>DA J fr g tt te σ H1 Q
variable {g:Jc->Hp->List I_->TG}{te:Jc->Hp->List I_->TE}{tt:Jc->Hp->List I_->TT}{wi:TI}
theorem zu(N':List Str)(fr:List (Option Nat))(hc:X.calm=true)(C:gn X.N X.env.scope sc N' fr=true)
  (hi:PI X target iter wi) (hg:∀s3 H3 fp,PG (az X N' sc s3 H3 fp) target (g s3 H3 fp)) (ht:∀s3 H3 fp,PTs (az X N' sc s3 H3 fp) ifs (tt s3 H3 fp)) (he:∀s3 H3 fp,PE (az X N' sc s3 H3 fp) elt (te s3 H3 fp))
  (hs:∀x,JY iter X.env x=pure x:=by intro _;rfl):PE X (.ListComp elt [⟨target,iter,ifs,0⟩] sc pos) (t9 wi fr g tt te):=by
 have C:=nL C;intro ac s σ H Q I h;rw[eval_ListComp];have hfr:∀x∈sc.names,x.2=.free->∃c,X.env.cells.lookup x.1=some c:=λx hx e=>I.ok.has x.1 (.inl (C.free x hx e));refine jH (g:=⟨target,iter,ifs,0⟩) (gs:=[]) rfl hs C.nocell hfr C.kind C.names ?_;show Jf _ _ (JC iter X.env) _ _ s;refine thn (hi ac s σ H _ I h) λv s1 h1=>thn h1 λitv s2 h2=>?_;obtain⟨it,fp,tn,J,H2,e,I2,T,dL,f2,k2⟩:=h2;subst e;refine My ?_ (by show 0<=sizeLine;decide);have hf:H2 s2.heap.objs.size=none:=I2.hok.fresh (c_ _);obtain⟨W,⟨m0,w0⟩,turn⟩:=k2 _ hf {s2 with heap:=s2.heap.push { cls:=.type "list",data:=.seq ([]:List IY).toArray} } (upd H2 s2.heap.objs.size (.lst [])) fp;have kp:∀b u,s2.heap.get? b=some u->(s2.heap.push { cls:=.type "list",data:=.seq ([]:List IY).toArray}).get? b=some u:=λb u e=>Je _ e;have I3:Inv X ac σ (upd H2 s2.heap.objs.size (.lst [])) {s2 with heap:=s2.heap.push { cls:=.type "list",data:=.seq ([]:List IY).toArray} }:=
  I2.laid (t':=s2.toks) kp (c_ _) ⟨ES _,[],0,.nil,Jj _ rfl⟩
 have obj2:=T.obj 0 s2.heap dL;have fpne:∀b∈fp,b≠s2.heap.objs.size:=λb hb=>by obtain⟨o,ho,_⟩:=obj2 b hb;exact t_ (Jl ho)
 have f3:∀b∈fp,j6 X ac (upd H2 s2.heap.objs.size (.lst [])) b:=λb hb=>⟨by rw[av (fpne b hb)];exact(f2 b hb).1,(f2 b hb).2⟩
 have f8:=T.keep 0 s2.heap _ dL λb hb o e=>kp b o e;have obj3:=T.obj 0 _ f8;intro h4 hn4 hk4;have st4:=T.keep 0 _ h4 f8 λb hb o e=>hk4 b o e;have I4:=pV (N':=N') (fr:=fr) (fp:=fp) I3 C hc f3 (λb hb=>let ⟨o,ho,_⟩:=obj3 b hb;⟨o,ho⟩) hn4 hk4;have stat:∀{H':Hp},(∀b∈fp,H' b=none)->∀b∈fp,j6 (az X N' sc {s2 with heap:=s2.heap.push { cls:=.type "list",data:=.seq ([]:List IY).toArray} } (upd H2 s2.heap.objs.size (.lst [])) fp) [] H' b:=λhn b hb=>
  ⟨hn b hb,(I4.ok.exf b hb).1,I4.ok.exfs b hb,.inl hb,(I4.ok.exf b hb).2,λp hp=>(nomatch hp)⟩
 have loop:Kh (Jh X.prog X.w) X.A (.compLoop (.ListComp elt [⟨target,iter,ifs,0⟩] sc pos) 0 (.ref it) (.ref s2.heap.objs.size) (compEnv X.env sc (s2.heap.push { cls:=.type "list",data:=.seq ([]:List IY).toArray}).objs.size))
   (λr s'=>∃m,s'.heap.Ns (s2.heap.push { cls:=.type "list",data:=.seq ([]:List IY).toArray}).objs.size m/\∀h',JO (s2.heap.push { cls:=.type "list",data:=.seq ([]:List IY).toArray}).objs.size s'.heap h'->
    match r with | .ok _=>EP X ac σ Q (.ref s2.heap.objs.size) {s' with heap:=h'} | .error x=>False) {s2 with heap:=h4}:=by
  refine kL (λn s'=>∃i bv H',Inv (az X N' sc {s2 with heap:=s2.heap.push { cls:=.type "list",data:=.seq ([]:List IY).toArray} } (upd H2 s2.heap.objs.size (.lst [])) fp) [] bv H' s'/\tn i s'.heap/\(∀b∈fp,H' b=none)/\W i n bv H') ?_ m0
   ⟨0,_,_,I4,st4,λb hb=>(f3 b hb).1,w0⟩
  rintro n s5 ⟨i,σ5,H5,I5,st5,fr5,w5⟩;rcases turn i n σ5 H5 w5 with⟨stop,q⟩|⟨go,step⟩
  ·refine thn (T.done (az X N' sc _ _ fp) rfl rfl rfl rfl i [] s5 σ5 H5 (λ_ _=>False) I5 (stat fr5) st5 stop) ?_;rintro r s6 ⟨hr,I6⟩;subst hr;obtain⟨m6,hn6,_⟩:=id I6.loc;refine⟨m6,hn6,λh' hs'=>?_⟩;have hL:H5 (s2.heap.push { cls:=.type "list",data:=.seq ([]:List IY).toArray}).objs.size=none:=I6.free;have hok':HOk X.prog X.w H5 h':=λb u e=>by
    refine(I6.hok b u e).mV (λc v hc q=>(hs'.2 c ?_).trans q) (λ_ q=>q) λ_ _ q=>q;rintro rfl;rcases hc with rfl|hc
    ·rw[hL]at e;cases e
    rw[hL]at hc;cases hc
   have ub:=I6.base;have lt:∀b o,(s2.heap.push { cls:=.type "list",data:=.seq ([]:List IY).toArray}).get? b=some o->b≠(s2.heap.push { cls:=.type "list",data:=.seq ([]:List IY).toArray}).objs.size:=λb o e=>t_ (Jl e);have un:Un (frs X.stack) fp (upd H2 s2.heap.objs.size (.lst [])) H5 (s2.heap.push { cls:=.type "list",data:=.seq ([]:List IY).toArray}) h':=
    ⟨λb o e n hb hx=>(hs'.2 b (lt b o e)).trans (ub.keep b o e n hb hx),λb o e n hb hx=>let ⟨sl,z⟩:=ub.slot b o e n hb hx;⟨sl,(hs'.2 b (lt b o e)).trans z⟩,ub.free,
     λb o e hx=>let ⟨o',z⟩:=ub.there b o e hx;⟨o',(hs'.2 b (lt b o e)).trans z⟩,ub.tups,ub.frzs,ub.tbls⟩
   refine⟨.ref s2.heap.objs.size,H5,I3.mw (s':={s6 with heap:=h'}) (ch:=fp) I6.os un hok' I6.bare (λb hb=>?_),rfl,q⟩;obtain⟨_,g1,g2,g3,g4,g5⟩:=f3 b hb;exact⟨g3,g1,g4,g5⟩
  refine thn (T.item (az X N' sc _ _ fp) rfl rfl rfl rfl i [] s5 σ5 H5 (λ_ _=>False) I5 (stat fr5) st5 go) ?_;rintro r s6 ⟨u,hr,h6⟩;subst hr;refine thn h6 ?_;rintro _ s7 ⟨x,H7,I7,r7,y7,st7,fr7⟩;have I7':=I7.pinned (stat fr7) (T.obj _ _ st7);have again:∀{σ8:St}{H8:Hp}{s8:Jc},Inv (az X N' sc {s2 with heap:=s2.heap.push { cls:=.type "list",data:=.seq ([]:List IY).toArray} } (upd H2 s2.heap.objs.size (.lst [])) fp) ([]++jU fp s7.heap) σ8 H8 s8->(∃m',m'<n/\W (i+1) m' σ8 H8)->
    ∃m,m<n/\∃i bv H',Inv (az X N' sc {s2 with heap:=s2.heap.push { cls:=.type "list",data:=.seq ([]:List IY).toArray} } (upd H2 s2.heap.objs.size (.lst [])) fp) [] bv H' s8/\tn i s8.heap/\(∀b∈fp,H' b=none)/\W i m bv H':=λ{σ8 H8 s8} I8 ⟨m',hm,w8⟩=>by
   refine⟨m',hm,i+1,σ8,H8,I8.fU,T.keep _ _ _ st7 λb hb o e=>(I8.pin (b,o) (l_ _ (l_ _ (bO hb e)))).1,λb hb=>?_,w8⟩;obtain⟨o,e,d⟩:=T.obj _ _ st7 b hb;exact(I8.pin (b,o) (l_ _ (l_ _ (bO hb e)))).2.1
  refine thn (hg _ _ fp _ s7 σ5 H7 x u _ I7' r7 (step x H7 y7)) ?_;rintro _ s8 ⟨σ8,H8,I8,q8⟩;refine thn (ht _ _ fp _ s8 σ8 H8 _ I8 q8) ?_;rintro ok s9 ⟨H9,I9,q9⟩;cases ok with
  |false=>exact again I9 q9
  |true=>
   refine thn (he _ _ fp _ s9 σ8 H9 _ I9 q9) ?_;rintro y s10 ⟨v,H10,I10,r10,ys,hys,hl,q10⟩;refine thn (kh _ s10 σ8 H10 (.ref s2.heap.objs.size) [v] (.ref s2.heap.objs.size) [y] (λ_ H'=>∃m',m'<n/\W (i+1) m' σ8 H') I10 rfl (.cons r10 .nil) ⟨_,ys,v,rfl,rfl,hys,hl,q10⟩) ?_;rintro z s11 ⟨_,H11,I11,_,q11⟩;exact again I11 q11
 refine Nb loop ?_;exact T.self X.A 0 _ _ _ st4 loop
def SqG(b:Bool)(K:Ja)(H:Hp)(a:I_)(xs:List V):Prop:=match b with
 |true=>SqT K H a xs
 |false=>SqL K H a xs
variable {a:I_}{b:Bool}{xs ys:List V}
section
variable{X:Cx}{ac:List (I_×Obj)}{σ:St}{H:Hp}{s:Jc}
theorem Inv.sq (I:Inv X ac σ H s)(h:SqG b X.K H a xs):∃bd:List IY,Vals xs bd/\ZG.Sq b s.heap a bd.toArray/\xs.length<=sizeLine:=by
 cases b with
 |true=>exact I.tuple h
 |false=>
  obtain⟨bd,r,p,z⟩:=I.list h;exact⟨bd,r,p.isList,z⟩
theorem Inv.BW (I:Inv X ac σ H s)(h:SqG b X.K H a xs)(h':SqG b X.K H a ys):xs=ys:=by
 cases b with
 |true=>exact I.jF h h'
 |false=>exact I.lR h h'
theorem Inv.Ag (I:Inv X ac σ H s){b:I_}{u:HO}(h:Rd H a u)(f:j6 X ac H b):a≠b:=by
 rintro rfl;rcases h with h|⟨o,h⟩
 ·rw[f.1]at h;cases h
 rw[f.1]at h;cases h
theorem Inv.DE (I:Inv X ac σ H s){b:I_}{o:Obj}(h:X.K.lookup a=some o)(f:j6 X ac H b):a≠b:=by
 rintro rfl;have e:X.base.get? a=some o:=I.ok.mod.kin a o h;rcases f.2.2.2.1 with z|z
 ·exact I.ok.noex a o e z
 exact absurd (w_ (Jl (I.ok.bs a o e).1) z) (FH _)
theorem Inv.vh (I:Inv X ac σ H s){c:I_}(h:SqG b X.K H a xs)(f:j6 X ac H c):a≠c:=by
 cases b with
 |true=>
  rcases h with h|⟨o,bd,n,hk,_⟩
  ·exact I.Ag h f
  ·exact I.DE hk f
 |false=>
  rcases h with h|⟨o,bd,n,hk,_⟩
  ·exact I.Ag h f
  exact I.DE hk f
end
noncomputable def bools(bs:List Bool):List V:=bs.map V.bl
inductive Dt where
 |int (i:Int)|bl (b:Bool)|str (x:Str)|non|lst (ds:List Dt)|tup (ds:List Dt)
mutual
noncomputable def Has(K:Ja)(H:Hp):Dt->V->Prop
 | .int i,v=>v=.int i
 | .bl b,v=>v=.bl b
 | .str x,v=>v=.str x
 | .non,v=>v=.non
 | .lst ds,v=>∃a xs,v=.ref a/\SqL K H a xs/\aM K H ds xs
 | .tup ds,v=>∃a xs,v=.ref a/\SqT K H a xs/\aM K H ds xs
noncomputable def aM(K:Ja)(H:Hp):List Dt->List V->Prop
 | [],xs=>xs=[]
 |d::r,xs=>∃x t,xs=x::t/\Has K H d x/\aM K H r t
end
mutual
noncomputable def dpt:Dt->Nat
 | .lst ds=>bw ds+1
 | .tup ds=>bw ds+1
 | _=>0
noncomputable def bw:List Dt->Nat
 | []=>0
 |d::r=>max (dpt d) (bw r)
end
mutual
noncomputable def eqD:Dt->Dt->Bool
 | .int a,.int b=>a == b
 | .int a,.bl b=>a ==(if b then 1 else 0)
 | .bl a,.int b=>(if a then 1 else 0) == b
 | .bl a,.bl b=>a == b
 | .str a,.str b=>a == b
 | .non,.non=>true
 | .lst xs,.lst ys=>eqL xs ys
 | .tup xs,.tup ys=>eqL xs ys
 | _,_=>false
noncomputable def eqL:List Dt->List Dt->Bool
 | [],[]=>true
 |x::xs,y::ys=>eqD x y&&eqL xs ys
 | _,_=>false
end
mutual
theorem gp:∀d:Dt,eqD d d=true
 | .int a=>by simp[eqD]
 | .bl a=>by simp[eqD]
 | .str a=>by simp[eqD]
 | .non=>by simp[eqD]
 | .lst xs=>by rw[eqD];exact lI xs
 | .tup xs=>by rw[eqD];exact lI xs
theorem lI:∀ds:List Dt,eqL ds ds=true
 | []=>by simp[eqL]
 |d::r=>by rw[eqL,gp d,lI r];rfl
end
variable {H:Hp}{K:Ja}
theorem aM.len :∀{ds:List Dt}{xs:List V},aM K H ds xs->ds.length=xs.length
 | [],xs,h=>by rw[aM]at h;rw[h];rfl
 |d::r,xs,h=>by rw[aM]at h;obtain⟨x,t,rfl,_,ht⟩:=h;rw[g_,g_,aM.len ht]
theorem aM.get :∀{ds:List Dt}{xs:List V}{i:Nat}{d:Dt}{x:V},aM K H ds xs->ds[i]?=some d->xs[i]?=some x->Has K H d x
 | [],xs,i,d,x,h,e,_=>by simp at e
 |c::r,xs,0,d,x,h,e,f=>by rw[aM]at h;obtain⟨y,t,rfl,hy,ht⟩:=h;simp at e f;subst e f;exact hy
 |c::r,xs,i+1,d,x,h,e,f=>by rw[aM]at h;obtain⟨y,t,rfl,hy,ht⟩:=h;exact aM.get ht (i:=i) (by simpa using e) (by simpa using f)
variable {H':Hp}
theorem SqL.same (e:aJ H H')(h:SqL K H a xs):SqL K H' a xs:=e.seq h
theorem SqT.same (e:aJ H H')(h:SqT K H a xs):SqT K H' a xs:=by
 rcases h with (h|⟨o,h⟩)|h
 ·exact .inl (.inl (e _ _ h))
 ·exact .inl (.inr ⟨o,e _ _ h⟩)
 exact .inr h
theorem SqG.same (e:aJ H H')(h:SqG b K H a xs):SqG b K H' a xs:=by
 cases b with
 |true=>exact SqT.same e h
 |false=>exact SqL.same e h
theorem qU:aM K H [] []:=by rw[aM]
variable {d:Dt}
theorem nW{r:List Dt}{x:V}{t:List V}(h:Has K H d x)(g:aM K H r t):aM K H (d::r) (x::t):=by rw[aM];exact⟨x,t,rfl,h,g⟩
noncomputable def di(ns:List Int):List Dt:=ns.map Dt.int
theorem nU{K:Ja}{H:Hp}:∀ns:List Int,aM K H (di ns) (ns.map V.int)
 | []=>qU
 |n::r=>nW (by rw[Has]) (nU r)
variable {ns:List Int}{p:I_}
theorem qG(h:SqL K H p (ns.map V.int)):Has K H (.lst (di ns)) (.ref p):=by rw[Has];exact⟨p,_,rfl,h,nU ns⟩
theorem n9:∀ns:List Int,bw (di ns)=0
 | []=>by simp[di,bw]
 |n::r=>by have ih:=n9 r;show bw (Dt.int n::di r)=0;simp[bw,dpt,ih]
theorem qf:∀{ds:List Dt}{i:Nat}{d:Dt},ds[i]?=some d->dpt d<=bw ds
 | [],i,d,e=>by simp at e
 |c::r,0,d,e=>by simp at e;subst e;rw[bw];exact Nat.le_max_left _ _
 |c::r,i+1,d,e=>by have q:dpt d<=bw r:=qf (i:=i) (by simpa using e);rw[bw];exact ER q (Nat.le_max_right _ _)
theorem jK:∀(ds es:List Dt),ds.length=es.length->((u_ ds.length).all λj=>eqD (ds.getD j .non) (es.getD j .non))=eqL ds es
 | [],[],_=>by simp[eqL]
 | [],e::r,h=>by simp at h
 |d::r,[],h=>by simp at h
 |d::r,e::t,h=>by
  have h':r.length=t.length:=by simpa using h
  rw[eqL,<-jK r t h',g_,List.range_succ_eq_map,lf,Hj]
  rfl
theorem p6:∀{ds es:List Dt},eqL ds es=true->ds.length=es.length
 | [],[],_=>rfl
 | [],e::r,h=>by simp[eqL]at h
 |d::r,[],h=>by simp[eqL]at h
 |d::r,e::t,h=>by rw[eqL,EN]at h;rw[g_,g_,p6 h.2]
theorem pL:∀(ds es:List Dt),(((u_ (min ds.length es.length)).all λj=>eqD (ds.getD j .non) (es.getD j .non))&&ds.length == es.length)=eqL ds es:=by
 intro ds es;by_cases h:ds.length=es.length
 ·rw[<-jK ds es h,h,HV];simp
 have:eqL ds es=false:=Fs.mpr λz=>h (p6 z);rw[this];have:(ds.length == es.length)=false:=by simpa using h
 rw[this,Iz]
variable {A:Jr}{ds:List Dt}
section
variable{X:Cx}{ac:List (I_×Obj)}{σ:St}{H:Hp}{s:Jc}
theorem pY(n:Nat)(hA:A.units+1+n<cLine+1)(I:Inv X ac σ H s){es:List Dt}{bd jts:List IY}(h1:aM X.K H ds xs)(h2:aM X.K H es ys)(r1:Vals xs bd)(r2:Vals ys jts)
  (rec:∀d e x y u v,d∈ds->e∈es->Has X.K H d x->Has X.K H e y->RelV x u->RelV y v->Li A.in1 s u v (eqD d e)) :
  ∀j (g1:j<bd.toArray.size) (g2:j<jts.toArray.size),Li A.in1 s bd.toArray[j] jts.toArray[j] (eqD (ds.getD j .non) (es.getD j .non)):=by
 intro j g1 g2;have l1:=r1.length;have l2:=r2.length;have m1:=h1.len;have m2:=h2.len;have g1':j<bd.length:=by simpa using g1
 have g2':j<jts.length:=by simpa using g2
 have a1:j<xs.length:=by lia
 have a2:j<ys.length:=by lia
 have b1:j<ds.length:=by lia
 have b2:j<es.length:=by lia
 obtain⟨u,hu,ru⟩:=r1.get (d_ a1);obtain⟨v,hv,rv⟩:=r2.get (d_ a2);rw[d_ g1']at hu;rw[d_ g2']at hv;cases hu;cases hv;have e1:ds.getD j .non=ds[j]:=by simp[B',b1]
 have e2:es.getD j .non=es[j]:=by simp[B',b2]
 rw[e1,e2];have:=rec ds[j] es[j] xs[j] ys[j] bd[j] jts[j] (Ga b1) (Ga b2) (h1.get (d_ b1) (d_ a1)) (h2.get (d_ b2) (d_ a2)) ru rv;simpa using this
theorem tu(h:d∈ds):dpt d<=bw ds:=by obtain⟨i,hi⟩:=List.getElem?_of_mem h;exact qf hi
mutual
theorem Has.inj (I:Inv X ac σ H s):∀{d e:Dt}{x:V},Has X.K H d x->Has X.K H e x->d=e
 | .int a,.int b,x,h1,h2=>by
  rw[Has]at h1;rw[Has]at h2;rw[h1]at h2;cases h2
  rfl
 | .int a,.bl b,x,h1,h2=>by rw[Has]at h1;rw[Has]at h2;rw[h1]at h2;cases h2
 | .int a,.str b,x,h1,h2=>by rw[Has]at h1;rw[Has]at h2;rw[h1]at h2;cases h2
 | .int a,.non,x,h1,h2=>by rw[Has]at h1;rw[Has]at h2;rw[h1]at h2;cases h2
 | .int a,.lst b,x,h1,h2=>by rw[Has]at h1;rw[Has]at h2;obtain⟨p,xs,e,s1,l1⟩:=h2;rw[h1]at e;cases e
 | .int a,.tup b,x,h1,h2=>by rw[Has]at h1;rw[Has]at h2;obtain⟨p,xs,e,s1,l1⟩:=h2;rw[h1]at e;cases e
 | .bl a,.int b,x,h1,h2=>by rw[Has]at h1;rw[Has]at h2;rw[h1]at h2;cases h2
 | .bl a,.bl b,x,h1,h2=>by
  rw[Has]at h1;rw[Has]at h2;rw[h1]at h2;cases h2
  rfl
 | .bl a,.str b,x,h1,h2=>by rw[Has]at h1;rw[Has]at h2;rw[h1]at h2;cases h2
 | .bl a,.non,x,h1,h2=>by rw[Has]at h1;rw[Has]at h2;rw[h1]at h2;cases h2
 | .bl a,.lst b,x,h1,h2=>by rw[Has]at h1;rw[Has]at h2;obtain⟨p,xs,e,s1,l1⟩:=h2;rw[h1]at e;cases e
 | .bl a,.tup b,x,h1,h2=>by rw[Has]at h1;rw[Has]at h2;obtain⟨p,xs,e,s1,l1⟩:=h2;rw[h1]at e;cases e
 | .str a,.int b,x,h1,h2=>by rw[Has]at h1;rw[Has]at h2;rw[h1]at h2;cases h2
 | .str a,.bl b,x,h1,h2=>by rw[Has]at h1;rw[Has]at h2;rw[h1]at h2;cases h2
 | .str a,.str b,x,h1,h2=>by
  rw[Has]at h1;rw[Has]at h2;rw[h1]at h2;cases h2
  rfl
 | .str a,.non,x,h1,h2=>by rw[Has]at h1;rw[Has]at h2;rw[h1]at h2;cases h2
 | .str a,.lst b,x,h1,h2=>by rw[Has]at h1;rw[Has]at h2;obtain⟨p,xs,e,s1,l1⟩:=h2;rw[h1]at e;cases e
 | .str a,.tup b,x,h1,h2=>by rw[Has]at h1;rw[Has]at h2;obtain⟨p,xs,e,s1,l1⟩:=h2;rw[h1]at e;cases e
 | .non,.int b,x,h1,h2=>by rw[Has]at h1;rw[Has]at h2;rw[h1]at h2;cases h2
 | .non,.bl b,x,h1,h2=>by rw[Has]at h1;rw[Has]at h2;rw[h1]at h2;cases h2
 | .non,.str b,x,h1,h2=>by rw[Has]at h1;rw[Has]at h2;rw[h1]at h2;cases h2
 | .non,.non,x,h1,h2=>rfl
 | .non,.lst b,x,h1,h2=>by rw[Has]at h1;rw[Has]at h2;obtain⟨p,xs,e,s1,l1⟩:=h2;rw[h1]at e;cases e
 | .non,.tup b,x,h1,h2=>by rw[Has]at h1;rw[Has]at h2;obtain⟨p,xs,e,s1,l1⟩:=h2;rw[h1]at e;cases e
 | .lst a,.int b,x,h1,h2=>by rw[Has]at h1;rw[Has]at h2;obtain⟨p,xs,rfl,s1,l1⟩:=h1;cases h2
 | .lst a,.bl b,x,h1,h2=>by rw[Has]at h1;rw[Has]at h2;obtain⟨p,xs,rfl,s1,l1⟩:=h1;cases h2
 | .lst a,.str b,x,h1,h2=>by rw[Has]at h1;rw[Has]at h2;obtain⟨p,xs,rfl,s1,l1⟩:=h1;cases h2
 | .lst a,.non,x,h1,h2=>by rw[Has]at h1;rw[Has]at h2;obtain⟨p,xs,rfl,s1,l1⟩:=h1;cases h2
 | .lst a,.lst b,x,h1,h2=>by rw[Has]at h1;rw[Has]at h2;obtain⟨p,xs,rfl,s1,l1⟩:=h1;obtain⟨q,ys,e,s2,l2⟩:=h2;cases e;have e:=I.lR s1 s2;subst e;rw[aM.inj I l1 l2]
 | .lst a,.tup b,x,h1,h2=>by rw[Has]at h1;rw[Has]at h2;obtain⟨p,xs,rfl,s1,l1⟩:=h1;obtain⟨q,ys,e,s2,l2⟩:=h2;cases e;obtain⟨_,_,pl,_⟩:=I.list s1;obtain⟨_,_,pt,_⟩:=I.tuple s2;obtain⟨o1,g1,c1,_⟩:=pl.isList;obtain⟨o2,g2,c2,_⟩:=pt;rw[g1]at g2;cases g2;rw[c1]at c2;exact absurd c2 (by decide)
 | .tup a,.int b,x,h1,h2=>by rw[Has]at h1;rw[Has]at h2;obtain⟨p,xs,rfl,s1,l1⟩:=h1;cases h2
 | .tup a,.bl b,x,h1,h2=>by rw[Has]at h1;rw[Has]at h2;obtain⟨p,xs,rfl,s1,l1⟩:=h1;cases h2
 | .tup a,.str b,x,h1,h2=>by rw[Has]at h1;rw[Has]at h2;obtain⟨p,xs,rfl,s1,l1⟩:=h1;cases h2
 | .tup a,.non,x,h1,h2=>by rw[Has]at h1;rw[Has]at h2;obtain⟨p,xs,rfl,s1,l1⟩:=h1;cases h2
 | .tup a,.lst b,x,h1,h2=>by rw[Has]at h1;rw[Has]at h2;obtain⟨p,xs,rfl,s1,l1⟩:=h1;obtain⟨q,ys,e,s2,l2⟩:=h2;cases e;obtain⟨_,_,pl,_⟩:=I.list s2;obtain⟨_,_,pt,_⟩:=I.tuple s1;obtain⟨o1,g1,c1,_⟩:=pl.isList;obtain⟨o2,g2,c2,_⟩:=pt;rw[g1]at g2;cases g2;rw[c1]at c2;exact absurd c2 (by decide)
 | .tup a,.tup b,x,h1,h2=>by rw[Has]at h1;rw[Has]at h2;obtain⟨p,xs,rfl,s1,l1⟩:=h1;obtain⟨q,ys,e,s2,l2⟩:=h2;cases e;have e:=I.jF s1 s2;subst e;rw[aM.inj I l1 l2]
theorem aM.inj (I:Inv X ac σ H s):∀{ds es:List Dt}{xs:List V},aM X.K H ds xs->aM X.K H es xs->ds=es
 | [],[],xs,h1,h2=>rfl
 | [],e::r,xs,h1,h2=>by rw[aM]at h1;rw[aM]at h2;obtain⟨y,t,e,_,_⟩:=h2;rw[h1]at e;cases e
 |d::r,[],xs,h1,h2=>by rw[aM]at h1;rw[aM]at h2;obtain⟨y,t,e,_,_⟩:=h1;rw[h2]at e;cases e
 |d::r,e::q,xs,h1,h2=>by rw[aM]at h1;rw[aM]at h2;obtain⟨x,t,rfl,g1,g2⟩:=h1;obtain⟨y,w,z,k1,k2⟩:=h2;cases z;rw[Has.inj I g1 k1,aM.inj I g2 k2]
end
theorem mz{b:I_}{k:Bool}(h:OJ A s (.ref a) (.ref b) k)(hk:a=b->k=true):Li A s (.ref a) (.ref b) k:=by
 by_cases e:a=b
 ·rw[hk e,e];exact Ox _
 exact QK e h
noncomputable def Rz(s:Jc):Dt->IY->Prop
 | .int a,u=>∃t,u=.int a t
 | .bl a,u=>u=.bool a
 | .str a,u=>∃t,u=.str a t
 | .non,u=>u=.none
 | .lst _,u=>∃p bd,u=.ref p/\s.heap.IsList p bd
 | .tup _,u=>∃p bd,u=.ref p/\s.heap.IsTuple p bd
noncomputable def knd:Dt->Nat
 | .lst _=>4
 | .tup _=>5
 | _=>0
theorem kQ(I:Inv X ac σ H s){x:V}{u:IY}(h:Has X.K H d x)(r:RelV x u):Rz s d u:=by
  cases d <;> rw[Has]at h <;> first
    | (obtain⟨p,xs,rfl,s1,_⟩:=h
       cases r
       first
         | (obtain⟨_,_,pl,_⟩:=I.list s1;exact⟨_,_,rfl,pl.isList⟩)
         | (obtain⟨_,_,pl,_⟩:=I.tuple s1;exact⟨_,_,rfl,pl⟩))
    | (subst h;exact r)
theorem sR{e:Dt}{u v:IY}(hu:A.units<cLine)(h1:Rz s d u)(h2:Rz s e v)(n:knd d≠knd e\/knd d=0):OJ A s u v (eqD d e)/\P4 A s u v (!eqD d e)/\Li A s u v (eqD d e):=by
 cases d with
 |int a=>
  obtain⟨_,rfl⟩:=h1;cases e with
  |int b=>obtain⟨_,rfl⟩:=h2;simp only[eqD];exact⟨.int_int _ _ _ _,.int_int _ _ _ _,.int_int _ _ _ _⟩
  |bl b=>cases h2;simp only[eqD];exact⟨.int_bool _ _ _,.int_bool _ _ _,.int_bool _ _ _⟩
  |str b=>obtain⟨_,rfl⟩:=h2;simp only[eqD];exact⟨.int_str _ _ _ _,.int_str _ _ _ _,.int_str _ _ _ _⟩
  |non=>cases h2;simp only[eqD];exact⟨.int_none _ _,.int_none _ _,.int_none _ _⟩
  |lst b=>obtain⟨_,_,rfl,hb⟩:=h2;simp only[eqD];exact⟨.int_list _ _ hb hu,.int_list _ _ hb hu,.int_list _ _ hb hu⟩
  |tup b=>obtain⟨_,_,rfl,hb⟩:=h2;simp only[eqD];exact⟨.int_tuple _ _ hb hu,.int_tuple _ _ hb hu,.int_tuple _ _ hb hu⟩
 |bl a=>
  cases h1;cases e with
  |int b=>obtain⟨_,rfl⟩:=h2;simp only[eqD];exact⟨.bool_int _ _ _,.bool_int _ _ _,.bool_int _ _ _⟩
  |bl b=>cases h2;simp only[eqD];exact⟨.bool_bool _ _,.bool_bool _ _,.bool_bool _ _⟩
  |str b=>obtain⟨_,rfl⟩:=h2;simp only[eqD];exact⟨.bool_str _ _ _,.bool_str _ _ _,.bool_str _ _ _⟩
  |non=>cases h2;simp only[eqD];exact⟨.bool_none _,.bool_none _,.bool_none _⟩
  |lst b=>obtain⟨_,_,rfl,hb⟩:=h2;simp only[eqD];exact⟨.bool_list _ hb hu,.bool_list _ hb hu,.bool_list _ hb hu⟩
  |tup b=>obtain⟨_,_,rfl,hb⟩:=h2;simp only[eqD];exact⟨.bool_tuple _ hb hu,.bool_tuple _ hb hu,.bool_tuple _ hb hu⟩
 |str a=>
  obtain⟨_,rfl⟩:=h1;cases e with
  |int b=>obtain⟨_,rfl⟩:=h2;simp only[eqD];exact⟨.str_int _ _ _ _,.str_int _ _ _ _,.str_int _ _ _ _⟩
  |bl b=>cases h2;simp only[eqD];exact⟨.str_bool _ _ _,.str_bool _ _ _,.str_bool _ _ _⟩
  |str b=>obtain⟨_,rfl⟩:=h2;simp only[eqD];exact⟨.str_str _ _ _ _,.str_str _ _ _ _,.str_str _ _ _ _⟩
  |non=>cases h2;simp only[eqD];exact⟨.str_none _ _,.str_none _ _,.str_none _ _⟩
  |lst b=>obtain⟨_,_,rfl,hb⟩:=h2;simp only[eqD];exact⟨.str_list _ _ hb hu,.str_list _ _ hb hu,.str_list _ _ hb hu⟩
  |tup b=>obtain⟨_,_,rfl,hb⟩:=h2;simp only[eqD];exact⟨.str_tuple _ _ hb hu,.str_tuple _ _ hb hu,.str_tuple _ _ hb hu⟩
 |non=>
  cases h1;cases e with
  |int b=>obtain⟨_,rfl⟩:=h2;simp only[eqD];exact⟨.none_int _ _,.none_int _ _,.none_int _ _⟩
  |bl b=>cases h2;simp only[eqD];exact⟨.none_bool _,.none_bool _,.none_bool _⟩
  |str b=>obtain⟨_,rfl⟩:=h2;simp only[eqD];exact⟨.none_str _ _,.none_str _ _,.none_str _ _⟩
  |non=>cases h2;simp only[eqD];exact⟨.none_none,.none_none,.same _⟩
  |lst b=>obtain⟨_,_,rfl,hb⟩:=h2;simp only[eqD];exact⟨.none_list hb hu,.none_list hb hu,.none_list hb hu⟩
  |tup b=>obtain⟨_,_,rfl,hb⟩:=h2;simp only[eqD];exact⟨.none_tuple hb hu,.none_tuple hb hu,.none_tuple hb hu⟩
 |lst a=>
  obtain⟨_,_,rfl,hl⟩:=h1;cases e with
  |int b=>obtain⟨_,rfl⟩:=h2;simp only[eqD];exact⟨.list_int _ _ hl hu,.list_int _ _ hl hu,.list_int _ _ hl hu⟩
  |bl b=>cases h2;simp only[eqD];exact⟨.list_bool _ hl hu,.list_bool _ hl hu,.list_bool _ hl hu⟩
  |str b=>obtain⟨_,rfl⟩:=h2;simp only[eqD];exact⟨.list_str _ _ hl hu,.list_str _ _ hl hu,.list_str _ _ hl hu⟩
  |non=>cases h2;simp only[eqD];exact⟨.list_none hl hu,.list_none hl hu,.list_none hl hu⟩
  |lst b=>simp[knd]at n
  |tup b=>obtain⟨_,_,rfl,hb⟩:=h2;simp only[eqD];exact⟨.list_tuple hl hb hu,.list_tuple hl hb hu,.list_tuple hl hb hu⟩
 |tup a=>
  obtain⟨_,_,rfl,hl⟩:=h1;cases e with
  |int b=>obtain⟨_,rfl⟩:=h2;simp only[eqD];exact⟨.tuple_int _ _ hl hu,.tuple_int _ _ hl hu,.tuple_int _ _ hl hu⟩
  |bl b=>cases h2;simp only[eqD];exact⟨.tuple_bool _ hl hu,.tuple_bool _ hl hu,.tuple_bool _ hl hu⟩
  |str b=>obtain⟨_,rfl⟩:=h2;simp only[eqD];exact⟨.tuple_str _ _ hl hu,.tuple_str _ _ hl hu,.tuple_str _ _ hl hu⟩
  |non=>cases h2;simp only[eqD];exact⟨.tuple_none hl hu,.tuple_none hl hu,.tuple_none hl hu⟩
  |lst b=>obtain⟨_,_,rfl,hb⟩:=h2;simp only[eqD];exact⟨.tuple_list hl hb hu,.tuple_list hl hb hu,.tuple_list hl hb hu⟩
  |tup b=>simp[knd]at n
theorem oz(I:Inv X ac σ H s):∀(n:Nat) (A:Jr) (d e:Dt) (x y:V) (u v:IY),dpt d<=n->A.units+n<cLine->Has X.K H d x->Has X.K H e y->RelV x u->RelV y v->
  OJ A s u v (eqD d e)/\P4 A s u v (!eqD d e)/\Li A s u v (eqD d e):=by
 intro n;induction n with
 |zero=>
  intro A d e x y u v hd hA h1 h2 r1 r2;exact sR (by lia) (kQ I h1 r1) (kQ I h2 r2) (.inr (by cases d <;> first|rfl|(rw[dpt]at hd;lia)))
 |succ n ih=>
  intro A d e x y u v hd hA h1 h2 r1 r2;have hu:A.units<cLine:=by lia
  by_cases k:knd d≠knd e\/knd d=0
  ·exact sR hu (kQ I h1 r1) (kQ I h2 r2) k
  cases d <;> cases e <;> try (exfalso;simp[knd]at k;done)
  ·rename_i a b;have h1k:=h1;rw[Has]at h1;obtain⟨p,xs,rfl,s1,l1⟩:=h1;cases (show u=JH p from r1);obtain⟨bd,rv1,pl1,z1⟩:=I.list s1;have hl:=pl1.isList;have hd':bw a<=n:=by rw[dpt]at hd;lia
   have h2k:=h2;rw[Has]at h2;obtain⟨q,ys,rfl,s2,l2⟩:=h2;cases (show v=JH q from r2);obtain⟨jts,rv2,pl2,z2⟩:=I.list s2;have hb:=pl2.isList;have recc:=pY n (A:=A) (by lia) I l1 l2 rv1 rv2 λd e x y u v hm hm' g1 g2 k1 k2=>(ih A.in1 d e x y u v (ER (tu hm) hd') (by show A.units+1+n<cLine;lia) g1 g2 k1 k2).2.2
   have m1:=l1.len;have m2:=l2.len;have v1:=rv1.length;have v2:=rv2.length;have self:p=q->eqD (.lst a) (.lst b)=true:=λz=>by subst z;rw[Has.inj I h1k h2k];exact gp _
   have ee:eqD (.lst a) (.lst b)=eqL a b:=by rw[eqD]
   by_cases hs:bd.toArray.size=jts.toArray.size
   ·have hs':a.length=b.length:=by simp at hs;lia
    have hn:bd.toArray.size=a.length:=by simp;lia
    have k1:=QV hl hb hs hu recc;have k2:=QL hl hb hs hu recc;rw[hn,jK a b hs',<-ee]at k1 k2;exact⟨k1,k2,mz k1 self⟩
   have hs':¬a.length=b.length:=by simp at hs;lia
   have hz:(bd.toArray.size != jts.toArray.size)=true:=by simpa using hs
   have ef:eqD (.lst a) (.lst b)=false:=by rw[ee];exact Fs.mpr λz=>hs' (p6 z)
   have k1:=P5 hl hb hz hu;have k2:=Pu hl hb hz hu;rw[<-ef]at k1;refine⟨k1,?_,mz k1 self⟩;rw[ef];exact k2
  rename_i a b;have h1k:=h1;rw[Has]at h1;obtain⟨p,xs,rfl,s1,l1⟩:=h1;cases (show u=JH p from r1);obtain⟨bd,rv1,pl1,z1⟩:=I.tuple s1;have hl:s.heap.IsTuple p bd.toArray:=pl1;have hd':bw a<=n:=by rw[dpt]at hd;lia
  have h2k:=h2;rw[Has]at h2;obtain⟨q,ys,rfl,s2,l2⟩:=h2;cases (show v=JH q from r2);obtain⟨jts,rv2,pl2,z2⟩:=I.tuple s2;have hb:s.heap.IsTuple q jts.toArray:=pl2;have recc:=pY n (A:=A) (by lia) I l1 l2 rv1 rv2 λd e x y u v hm hm' g1 g2 k1 k2=>(ih A.in1 d e x y u v (ER (tu hm) hd') (by show A.units+1+n<cLine;lia) g1 g2 k1 k2).2.2
  have m1:=l1.len;have m2:=l2.len;have v1:=rv1.length;have v2:=rv2.length;have self:p=q->eqD (.tup a) (.tup b)=true:=λz=>by subst z;rw[Has.inj I h1k h2k];exact gp _
  have ee:eqD (.tup a) (.tup b)=eqL a b:=by rw[eqD]
  have hn:bd.toArray.size=a.length:=by simp;lia
  have hn':jts.toArray.size=b.length:=by simp;lia
  have k1:=QO hl hb hu recc;have k2:=QE hl hb hu recc;rw[hn,hn',pL a b,<-ee]at k1 k2;exact⟨k1,k2,mz k1 self⟩
end
section
variable{X:Cx}
def E8(K:Ja)(A:Jr)(neg:Bool):R2:=λx y H Q=>∃d e,Has K H d x/\Has K H e y/\A.units+dpt d<cLine/\Q (.bl (if neg then !eqD d e else eqD d e)) H
theorem vt:OpR X (J8 .Eq) (E8 X.K X.A false):=by intro ac s σ H x y v u Q I rx ry h;obtain⟨d,e,h1,h2,hA,q⟩:=h;exact(oz I (dpt d) X.A d e x y v u (c_ _) hA h1 h2 rx ry).1 _ _ _ _ ⟨.bl (eqD d e),H,I,rfl,q⟩
theorem BV:OpR X (J8 .NotEq) (E8 X.K X.A true):=by intro ac s σ H x y v u Q I rx ry h;obtain⟨d,e,h1,h2,hA,q⟩:=h;exact(oz I (dpt d) X.A d e x y v u (c_ _) hA h1 h2 rx ry).2.1 _ _ _ _ ⟨.bl (!eqD d e),H,I,rfl,q⟩
end
structure Cal (P:Ji) (w:Jm) (K:Ja) (mg:Str->Option IY) (base:Jp) (k:Nat) (x:Str) (ps:List Str) (sp:Sp):Prop where
 ex:∃(f:I_) (fd:Jt),FnOk P w K mg base CX0 k f fd ps sp/\mg x=some (.ref f)/\KA K (.ref f)=true/\Binds K fd ps []
variable {ps:List Str}{sp:Sp}{x:Str}
theorem Cc{j k:Nat}{es:List Jn}{t:TA}{p:Pos}(D:Cal X.prog X.w X.K X.mg X.base j x ps sp)(hr:Room k X.A)(hg:Gl X x)(ha:PA X (e::es) t)(hjk:j<=k:=by omega)(hdb:(x ==("__debug__":Str))=false:=by decide)
  (he:Jo (e::es) X.env=(false,JC e X.env)::Jo es X.env:=by rfl) (hpl:(KH pos (Jo es X.env)).any (·.1)=false:=by rfl):PE X (.Call (.Name x p) (e::es) [] pos) (xG sp [] E0 t):=by
 obtain⟨f,fd,F,hm,hk,hb⟩:=D.ex;exact zo F (hr.mono hjk) hg hm hk hb .nil CA ha hdb he hpl
variable {mg:Str->Option IY}
theorem Cal.imp {P:Ji}{w:Jm}{base:Jp}{k:Nat}{sp':Sp}(D:Cal P w K mg base k x ps sp)(h:∀vs H Q E,sp' vs H Q E->sp vs H Q E):Cal P w K mg base k x ps sp':=by obtain⟨f,fd,F,r⟩:=D.ex;exact⟨f,fd,F.imp h,r⟩
structure Dfn (K:Ja) (mg:Str->Option IY) (x:Str) (st:JA) (ps:List Str):Prop where
 ex:∃(f:I_) (fd:Jt),Fun K x x st f fd/\mg x=some (.ref f)/\Binds K fd ps []
theorem Dfn.cal {P:Ji}{w:Jm}{base:Jp}{k:Nat}{st:JA}(D:Dfn K mg x st ps)(h:∀f fd,Fun K x x st f fd->FnOk P w K mg base CX0 k f fd ps sp):Cal P w K mg base k x ps sp:=by obtain⟨f,fd,F,hm,hb⟩:=D.ex;exact⟨f,fd,h f fd F,hm,F.kp,hb⟩
theorem aJ.ck :aJ H H:=λ_ _ e=>e
variable {H1:Hp}
theorem aJ.trans' {H2:Hp}(a:aJ H H1)(b:aJ H1 H2):aJ H H2:=λc o e=>b c o (a c o e)
theorem aF(h:H p=none)(o:HO):aJ H (upd H p o):=λb u q=>by rw[av (aS q h)];exact q
theorem aJ.none {H H':Hp}(a:aJ H H'){p:I_}(h:H' p=none):H p=none:=by
 cases e:H p with
 |none=>rfl
 |some o=>rw[a p o e]at h;cases h
noncomputable def Kp(a c:I_)(H H':Hp):Prop:=∀b o,H b=some o->b≠a->b≠c->H' b=some o
variable {n:Nat}
theorem zL{i:Nat}(h:i<n):ixN n (i:Int)=some i:=by
 unfold ixN;rw[if_pos (Gs i),if_pos (by exact_mod_cast h)]
 rfl
variable {i:Int}
theorem um(h0:0<=i)(h1:i<(n:Int)):ixN n i=some i.toNat:=by unfold ixN;rw[if_pos h0,if_pos h1]
theorem zK{α:Type}{xs:List α}{v:α}(h0:0<=i)(hv:xs[i.toNat]?=some v):atI xs i=some v:=by have h1:i.toNat<xs.length:=(b_.mp hv).1;unfold atI;rw[um h0 (by omega)];exact hv
theorem vw(h0:0<=i)(h1:i<(ns.length:Int)):atI (ns.map V.int) i=some (.int (ns.getD i.toNat 0)):=by
 have h2:i.toNat<ns.length:=by omega
 refine zK h0 ?_;rw[A_,d_ h2,B',d_ h2]
 rfl
theorem AJ{v:V}{Q:VK}(h:SqG b K H p xs)(hv:atI xs i=some v)(q:Q v H):rIx K (.ref p) (.int i) H Q:=by
 cases b with
 |true=>exact .inr (.inl ⟨p,xs,i,v,rfl,rfl,h,hv,q⟩)
 |false=>exact .inl ⟨p,xs,i,v,rfl,rfl,h,hv,q⟩
theorem DM{A B:Prop}(h1:b=true->A)(h2:b=false->B):if b=true then A else B:=by
 cases b with
 |true=>exact Eg (h1 rfl)
 |false=>exact Ec (h2 rfl)
theorem vn(S:FnScope N ps esc)(N':List Str)(fr:List (Option Nat))(nd:N'.Nodup)(C:gn N esc sc N' fr=true)
  (hi:PI X target iter wi) (hg:∀s3 H3 fp,PG (az X N' sc s3 H3 fp) target (g s3 H3 fp)) (ht:∀s3 H3 fp,PTs (az X N' sc s3 H3 fp) ifs (tt s3 H3 fp)) (he:∀s3 H3 fp,PE (az X N' sc s3 H3 fp) elt (te s3 H3 fp))
  (hc:X.calm=true:=by rfl) (hN:X.N=N:=by rfl) (hS:X.env.scope=esc:=by rfl) (hs:∀x,JY iter X.env x=pure x:=by intro _;rfl):PE X (.ListComp elt [⟨target,iter,ifs,0⟩] sc pos) (t9 wi fr g tt te):=
 zu N' fr hc (by rw[hN,hS];exact C) hi hg ht he hs
def Its(K:Ja)(b:Bool)(a:I_):It:=match b with
 |true=>Itt K a
 |false=>Itl K a
def iSq(K:Ja)(tl:TE):TI:=λσ H R=>tl σ H λx H1=>∃b a xs,x=.ref a/\SqG b K H1 a xs/\R (Its K b a) H1
theorem B4{tg l:Jn}{tl:TE}(hl:PE X l tl):PI X tg l (iSq X.K tl):=by
 intro ac s σ H R I h;refine thn (hl ac s σ H _ I h) ?_;rintro v s1 ⟨x,H1,I1,r1,q1⟩;obtain⟨b,a,xs,rfl,hq,q⟩:=q1;cases r1;cases b with
 |true=>
  obtain⟨bd,rv,p,hz⟩:=I1.tuple hq;refine K9 (show s1.heap.IsTuple a bd.toArray from p) ⟨s1.heap.objs.size,[s1.heap.objs.size],_,_,H1,rfl,I1.kept (t':=s1.toks) λb o e=>Je _ e,rG a _,⟨_,Jj _ rfl,rfl,rfl⟩,λb hb=>?_,q⟩;have e:b=s1.heap.objs.size:=by simpa using hb
  subst e;exact I1.vF (c_ _) (I1.hok.fresh (c_ _))
 |false=>
  obtain⟨bd,rv,p,hz⟩:=I1.list hq;refine MC p.isList ⟨s1.heap.objs.size,[s1.heap.objs.size],_,_,H1,rfl,I1.kept (t':=s1.toks) λb o e=>Je _ e,uA a _,⟨_,Jj _ rfl,rfl,rfl⟩,λb hb=>?_,q⟩;have e:b=s1.heap.objs.size:=by simpa using hb
  subst e;exact I1.vF (c_ _) (I1.hok.fresh (c_ _))
theorem xV{H2:Hp}{i:Nat}{v:V}(h1:SqG b K H1 a xs)(s:aJ H1 H')(h:(Its K b a).yld i H' v H2):H2=H'/\xs[i]?=some v:=by
 cases b with
 |true=>exact⟨h.1,h.2 xs (SqG.same s h1)⟩
 |false=>exact⟨h.1,h.2 xs (SqG.same s h1)⟩
theorem BG(h1:SqG b K H1 a xs)(hx:xs.length=n):∀i H',aJ H1 H'->i<n->(Its K b a).go i H':=λi H' s hi=>by
 cases b with
 |true=>exact⟨xs,xs[i]'(by lia),SqT.same s h1,d_ _⟩
 |false=>exact⟨xs,xs[i]'(by lia),SqL.same s h1,d_ _⟩
theorem wm(h1:SqG b K H1 a xs)(hx:xs.length=n):∀H',aJ H1 H'->(Its K b a).stop n H':=λH' s=>by
 cases b with
 |true=>exact⟨xs,SqT.same s h1,by lia⟩
 |false=>exact⟨xs,SqL.same s h1,by lia⟩
def New(o:HO)(H:Hp)(Q:VK):Prop:=∀p H',H p=none->aJ H H'->H' p=some o->Q (.ref p) H'
theorem New.at {o:HO}{Q:VK}(h:New o H Q)(hp:H p=none):Q (.ref p) (upd H p o):=h p _ hp (aF hp o) aq
section
variable{X:Cx}{es:List Jn}{t:TA}{pos:Pos}
def Dm(t:TA):TE:=λσ H Q=>t σ H λxs H1=>xs.length<=sizeLine/\New (.tup xs) H1 Q
def Di(t:TA):TE:=λσ H Q=>t σ H λxs H1=>xs.length<=sizeLine/\New (.lst xs) H1 Q
theorem yk{x1}(h:PA X es t):PE X (.Tuple es x1 pos) (Dm t):=by intro ac s σ H Q I hq;refine NO (thn (h pos ac s σ H _ I hq) λus s1 ⟨xs,H1,I1,r,z,q⟩=>⟨by rw[<-r.length];exact z,?_⟩);refine⟨.ref s1.heap.objs.size,upd H1 s1.heap.objs.size (.tup xs),I1.laid (t':=s1.toks) (λb u e=>Je _ e) (c_ _) ⟨z,us,r,⟨_,Jj _ rfl,rfl,_,rfl⟩⟩,rfl,q.at (I1.hok.fresh (c_ _))⟩
theorem ye(h:PA X es t):PE X (.List es pos) (Di t):=by intro ac s σ H Q I hq;refine NV (thn (h pos ac s σ H _ I hq) λus s1 ⟨xs,H1,I1,r,z,q⟩=>⟨by rw[<-r.length];exact z,?_⟩);refine⟨.ref s1.heap.objs.size,upd H1 s1.heap.objs.size (.lst xs),I1.laid (t':=s1.toks) (λb u e=>Je _ e) (c_ _) ⟨z,us,0,r,Jj _ rfl⟩,rfl,q.at (I1.hok.fresh (c_ _))⟩
theorem cf.imp {f:IY}{r r':List V->Hp->VK->Prop}(h:cf X f r)(k:∀vs H Q,r' vs H Q->r vs H Q):cf X f r':=λac s σ H xs us Q I rv q=>h ac s σ H xs us Q I rv (k _ _ _ q)
theorem OpR.imp {f:IY->IY->Sem IY}{r r':R2}(h:OpR X f r)(k:∀x y H Q,r' x y H Q->r x y H Q):OpR X f r':=λac s σ H x y v u Q I rx ry q=>h ac s σ H x y v u Q I rx ry (k _ _ _ _ q)
theorem sH:cf X (.type "list") (λxs H Q=>∃b p ys,xs=[.ref p]/\SqG b X.K H p ys/\New (.lst ys) H Q):=jb.imp λvs H Q ⟨b,p,ys,e,h,q⟩=>by
 refine⟨p,ys,e,?_,λl hl=>q.at hl⟩;cases b with
 |true=>exact .inr h
 |false=>exact .inl h
theorem pO:cf X (.type "tuple") (λxs H Q=>∃p ys,xs=[.ref p]/\SqL X.K H p ys/\New (.tup ys) H Q):=mT.imp (by rintro vs H Q ⟨p,ys,e,h,q⟩;exact⟨p,ys,e,.inl ⟨h,λl hl=>q.at hl⟩⟩)
theorem v3:cf X (.builtin "len") (λxs H Q=>∃b p ys,xs=[.ref p]/\SqG b X.K H p ys/\Q (.int ys.length) H):=jn.imp λvs H Q ⟨b,p,ys,e,h,q⟩=>by
 refine⟨p,ys,e,?_,q⟩;cases b with
 |true=>exact .inr h
 |false=>exact .inl h
def El(K:Ja):R2:=λx y H Q=>∃b p xs i v,x=.ref p/\y=.int i/\SqG b K H p xs/\atI xs i=some v/\Q v H
theorem Eb:IxR X (El X.K):=by rintro value slice ac s σ H x y v u Q I rx ry ⟨b,p,xs,i,z,e1,e2,hq,ha,q⟩ hs;subst e1 e2;exact Bh value slice ac s σ H (.ref p) (.int i) v u Q I rx ry (AJ hq ha q) hs
end
section
variable{X:Cx}{a b c d:Jn}{ta tb tc td:TE}{pos:Pos}
theorem vV:SlR X (λx lo hi H Q=>∃a xs,x=.ref a/\SqL X.K H a xs/\New (.lst (gu xs lo hi)) H Q):=by rintro ac s σ H x v vl vu lo hi sl Q I rx hs pl pu ⟨a,xs,e,h,q⟩;exact u9 ac s σ H x v vl vu lo hi sl Q I rx hs pl pu ⟨a,xs,e,h,λp hp=>q.at hp⟩
theorem u5:SlR X (λx lo hi H Q=>∃a xs,x=.ref a/\SqT X.K H a xs/\¬(HT.sIx xs.length 0 lo=0/\HT.sIx xs.length xs.length hi=xs.length)/\New (.tup (gu xs lo hi)) H Q):=by rintro ac s σ H x v vl vu lo hi sl Q I rx hs pl pu ⟨a,xs,e,h,hw,q⟩;exact Bl ac s σ H x v vl vu lo hi sl Q I rx hs pl pu ⟨a,xs,e,h,hw,λp hp=>q.at hp⟩
end
structure Put (H:Hp) (p:I_) (o:HO) (H':Hp):Prop where
 at_:H' p=some o
 else_:∀b,b≠p->H' b=H b
theorem Put.up {o:HO}:Put H p o (upd H p o):=⟨aq,λb h=>av h⟩
section
variable{X:Cx}
theorem su.imp {t t':zB}(h:su X t)(k:∀o i v H Q,t' o i v H Q->t o i v H Q):su X t':=λac s σ H o i v ov iv u Q I r1 r2 r3 q=>h ac s σ H o i v ov iv u Q I r1 r2 r3 (k _ _ _ _ _ q)
theorem uw:su X (λo i v H Q=>∃p xs k j,o=.ref p/\i=.int k/\H p=some (.lst xs)/\ixN xs.length k=some j/\∀H',Put H p (.lst (xs.set j v)) H'->Q H'):=set_list.imp (by rintro o i v H Q ⟨p,xs,k,j,e1,e2,h,hj,q⟩;exact⟨p,xs,k,j,e1,e2,h,hj,q _ Put.up⟩)
end
section
variable{M:Lg}{A:Jr}{E:IY->Jc->Prop}{s:Jc}{env:Env}
theorem jq{g:Mx}{u:IY->Sem Unit}
  (hcl:clausesOf e=g::gs) (hs:∀x,JY g.iter env x=pure x)
  (hc:∀x∈scope.names,x.2≠.cell) (hfr:∀x∈scope.names,x.2=.free->∃c,env.cells.lookup x.1=some c) (hkind:scope.kind=.function) (hnames:∀x∈scope.names,x.2=.local->scope.names.lookup x.1=some .local)
  (h:Jf M A first (λx s₁=>Jf M A (LR x) (λit s₂=>Jf M A newAcc (λacc s₃=>
   ∀h4,h4.Ns s₃.heap.objs.size (λ_=>none)->(∀b o,s₃.heap.get? b=some o->h4.get? b=some o)->
    Kh M A (.compStart e 0 it acc (L2.compEnv env scope s₃.heap.objs.size)) (λr s'=>match r with
     | .ok _=>Jf M A (u acc) (λ_ s''=>∃m,s''.heap.Ns s₃.heap.objs.size m/\∀h',JO s₃.heap.objs.size s''.heap h'->Q .none {s'' with heap:=h'}) E s'
     | .error x=>False) { s₃ with heap:=h4}) E s₂) E s₁) E s) :
  Jf M A (LZ e scope env pos newAcc false first (some u)) Q E s:=by
 unfold LZ;rw[lL hfr,hcl];refine IZ (Js h (λx s₁ h₁=>IZ (LX (IZ (K' (hs x) (IZ (Jy (Js h₁ (λit s₂ h₂=>
  Pt (IZ (Js h₂ (λacc s₃ h₃=>IZ (Jd (IZ ?_))) λ_ _ h'=>h'))) λ_ _ h'=>h'))))))) λ_ _ h'=>h')
 refine NI hc (λx hx=>nomatch hx) (λh4 hn4 hs4=>?_) hkind;have h₄:=h₃ h4 hn4 λb o e=>hs4.extBut b o (t_ (Jl e)) (Je _ e);dsimp only;have hv:∀x∈(scope.names.filter λx=>(x.2 == .local || x.2 == .cell)&&x.1 !=(".0":Str)).reverse,x.2=.local->
   OI (L2.compEnv env scope s₃.heap.objs.size) x.1=some .local:=λx hx hl=>by
  show(lN env scope).names.lookup x.1=some .local;rw[jf,hnames x (Ff.mp (Hi.mp hx)).1 hl]
  rfl
 have hv':∀x∈(scope.names.filter λx=>(x.2 == .local || x.2 == .cell)&&x.1 !=(".0":Str)).reverse.drop 1++(scope.names.filter λx=>(x.2 == .local || x.2 == .cell)&&x.1 !=(".0":Str)).reverse.take 1,
   x.2=.local->OI (L2.compEnv env scope s₃.heap.objs.size) x.1=some .local:=λx hx hl=>
  (EO.mp hx).elim (λz=>hv x (GU z) hl) λz=>hv x (Gb z) hl
 refine Jy (IZ (KO (Jy (wpAny_run (Kt h₄ λr s' hr=>?_)))));cases r with
 |ok f=>
  refine IZ (LI (IZ (Jy (Js hr (λ_ s'' hr'=>?_) λ_ _ h'=>h'))));obtain⟨m,hn,hr'⟩:=hr';exact IZ (Oo (cenv:=L2.compEnv env scope s₃.heap.objs.size) hkind _ s'' m hv' hn λh' m' _ hs'=>Jd (hr' h' hs'))
 |error x=>exact hr.elim
end
theorem tX(S:FnScope N ps esc){i:Nat}{pos':Pos}(N':List Str)(fr:List (Option Nat))(nd:N'.Nodup){jp:Pos}(C:gn N esc sc N' fr=true)
  (hi:X.N[i]?=some x) (hx:Loc X.env.scope x) (hit:PI X target iter wi) (hg:∀s3 H3 fp,PG (az X N' sc s3 H3 fp) target (g s3 H3 fp)) (ht:∀s3 H3 fp,PTs (az X N' sc s3 H3 fp) ifs (tt s3 H3 fp)) (he:∀s3 H3 fp,PE (az X N' sc s3 H3 fp) elt (te s3 H3 fp))
  (hsw:Kv (.ListComp elt [⟨target,iter,ifs,0⟩] sc jp) (some (.Name x pos')) pos.line X.env=pure true) (hf:X.fn x=true:=by rfl)
  (hc:X.calm=true:=by rfl) (hN:X.N=N:=by rfl) (hS:X.env.scope=esc:=by rfl) (hs:∀x,JY iter X.env x=pure x:=by intro _;rfl):PS X (.Assign [.Name x pos'] (.ListComp elt [⟨target,iter,ifs,0⟩] sc jp) pos) (zX (t9 wi fr g tt te) (tS i)):=by
 have C:CompOk X.N X.env.scope sc N' fr:=nL (by rw[hN,hS];exact C);have hNd:X.N.Nodup:=by rw[hN];exact S.nd
 intro ac s σ H D I h;rw[exec_Assign_Name_used _ _ _ _ hsw];refine IZ (LX (IZ ?_));show Jf _ X.A (do let _ <-LZ (.ListComp elt [⟨target,iter,ifs,0⟩] sc jp) sc X.env _ (newList []) false (JC iter X.env) (some (LQ (.Name x pos') X.env))) _ _ s;have hfr:∀x∈sc.names,x.2=.free->∃c,X.env.cells.lookup x.1=some c:=λx hx e=>I.ok.has x.1 (.inl (C.free x hx e));refine IZ (Js (jq (g:=⟨target,iter,ifs,0⟩) (gs:=[]) (Q:=λ_ s'=>SP X ac D .next s') rfl hs C.nocell hfr C.kind C.names ?_) (λ_ s' hq=>Jd (Jd hq)) λ_ _ e=>e);refine thn (hit ac s σ H _ I h) λv s1 h1=>thn h1 λitv s2 h2=>?_;obtain⟨it,fp,tn,J,H2,e,I2,T,dL,f2,k2⟩:=h2;subst e;refine My ?_ (by show 0<=sizeLine;decide);have hfree:H2 s2.heap.objs.size=none:=I2.hok.fresh (c_ _);obtain⟨W,⟨m0,w0⟩,turn⟩:=k2 _ hfree {s2 with heap:=s2.heap.push { cls:=.type "list",data:=.seq ([]:List IY).toArray} } (upd H2 s2.heap.objs.size (.lst [])) fp;have kp:∀b u,s2.heap.get? b=some u->(s2.heap.push { cls:=.type "list",data:=.seq ([]:List IY).toArray}).get? b=some u:=λb u e=>Je _ e;have I3:Inv X ac σ (upd H2 s2.heap.objs.size (.lst [])) {s2 with heap:=s2.heap.push { cls:=.type "list",data:=.seq ([]:List IY).toArray} }:=
  I2.laid (t':=s2.toks) kp (c_ _) ⟨ES _,[],0,.nil,Jj _ rfl⟩
 have obj2:=T.obj 0 s2.heap dL;have fpne:∀b∈fp,b≠s2.heap.objs.size:=λb hb=>by obtain⟨o,ho,_⟩:=obj2 b hb;exact t_ (Jl ho)
 have f3:∀b∈fp,j6 X ac (upd H2 s2.heap.objs.size (.lst [])) b:=λb hb=>⟨by rw[av (fpne b hb)];exact(f2 b hb).1,(f2 b hb).2⟩
 have f8:=T.keep 0 s2.heap _ dL λb hb o e=>kp b o e;have obj3:=T.obj 0 _ f8;intro h4 hn4 hk4;have st4:=T.keep 0 _ h4 f8 λb hb o e=>hk4 b o e;have I4:=pV (N':=N') (fr:=fr) (fp:=fp) I3 C hc f3 (λb hb=>let ⟨o,ho,_⟩:=obj3 b hb;⟨o,ho⟩) hn4 hk4;have stat:∀{H':Hp},(∀b∈fp,H' b=none)->∀b∈fp,j6 (az X N' sc {s2 with heap:=s2.heap.push { cls:=.type "list",data:=.seq ([]:List IY).toArray} } (upd H2 s2.heap.objs.size (.lst [])) fp) [] H' b:=λhn b hb=>
  ⟨hn b hb,(I4.ok.exf b hb).1,I4.ok.exfs b hb,.inl hb,(I4.ok.exf b hb).2,λp hp=>(nomatch hp)⟩
 have loop:Kh (Jh X.prog X.w) X.A (.compLoop (.ListComp elt [⟨target,iter,ifs,0⟩] sc jp) 0 (.ref it) (.ref s2.heap.objs.size) (L2.compEnv X.env sc (s2.heap.push { cls:=.type "list",data:=.seq ([]:List IY).toArray}).objs.size))
   (λr s'=>match r with
    | .ok _=>Jf (Jh X.prog X.w) X.A (LQ (.Name x pos') X.env (.ref s2.heap.objs.size)) (λ_ s''=>∃m,s''.heap.Ns (s2.heap.push { cls:=.type "list",data:=.seq ([]:List IY).toArray}).objs.size m/\∀h',JO (s2.heap.push { cls:=.type "list",data:=.seq ([]:List IY).toArray}).objs.size s''.heap h'->SP X ac D .next {s'' with heap:=h'}) X.xe s'
    | .error x=>False) {s2 with heap:=h4}:=by
  refine kL (λn s'=>∃i bv H',Inv (az X N' sc {s2 with heap:=s2.heap.push { cls:=.type "list",data:=.seq ([]:List IY).toArray} } (upd H2 s2.heap.objs.size (.lst [])) fp) [] bv H' s'/\tn i s'.heap/\(∀b∈fp,H' b=none)/\W i n bv H') ?_ m0
   ⟨0,_,_,I4,st4,λb hb=>(f3 b hb).1,w0⟩
  rintro n s5 ⟨j,σ5,H5,I5,st5,fr5,w5⟩;rcases turn j n σ5 H5 w5 with⟨stop,q⟩|⟨go,step⟩
  ·refine thn (T.done (az X N' sc _ _ fp) rfl rfl rfl rfl j [] s5 σ5 H5 (λ_ _=>False) I5 (stat fr5) st5 stop) ?_;rintro r s6 ⟨hr,I6⟩;subst hr;obtain⟨m6,hn6,_⟩:=id I6.loc;have hL:H5 (s2.heap.push { cls:=.type "list",data:=.seq ([]:List IY).toArray}).objs.size=none:=I6.free;have I7:Inv X ac σ H5 s6:=I3.mw (s':=s6) (ch:=fp) I6.os I6.base I6.hok I6.bare (λb hb=>by obtain⟨_,g1,g2,g3,g4,g5⟩:=f3 b hb;exact⟨g3,g1,g4,g5⟩)
   have Lne:(s2.heap.push { cls:=.type "list",data:=.seq ([]:List IY).toArray}).objs.size≠X.env.locals:=GN I3.lt;have cne:∀y c,X.env.cells.lookup y=some c->c≠(s2.heap.push { cls:=.type "list",data:=.seq ([]:List IY).toArray}).objs.size:=λy c e=>by obtain⟨v',z⟩:=I3.cell y c e;exact t_ z.lt
   refine N8 (nN (v:=.ref s2.heap.objs.size) I7 hNd hi hx rfl (λs8 I8 ⟨a8,sb8,ha8⟩=>?_) (.inl hf));refine⟨m6,hn6.sameBut sb8 (λz=>ha8.elim (λw'=>Lne (z.trans w')) λw'=>cne _ _ w' z.symm),λh' hs'=>⟨_,H5,?_,q⟩⟩;refine I8.turned (it:=(s2.heap.push { cls:=.type "list",data:=.seq ([]:List IY).toArray}).objs.size) (t':=s8.toks) (λb o hb e=>(hs'.2 b hb).trans e) hL Lne (.inr I3.sz) cne λp hp z=>?_;have lt:=Jl (I3.pin p hp).1;rw[z]at lt;exact FH _ lt
  refine thn (T.item (az X N' sc _ _ fp) rfl rfl rfl rfl j [] s5 σ5 H5 (λ_ _=>False) I5 (stat fr5) st5 go) ?_;rintro r s6 ⟨u,hr,h6⟩;subst hr;refine thn h6 ?_;rintro _ s7 ⟨y,H7,I7,r7,y7,st7,fr7⟩;have I7':=I7.pinned (stat fr7) (T.obj _ _ st7);have again:∀{σ8:St}{H8:Hp}{s8:Jc},Inv (az X N' sc {s2 with heap:=s2.heap.push { cls:=.type "list",data:=.seq ([]:List IY).toArray} } (upd H2 s2.heap.objs.size (.lst [])) fp) ([]++jU fp s7.heap) σ8 H8 s8->(∃m',m'<n/\W (j+1) m' σ8 H8)->
    ∃m,m<n/\∃i bv H',Inv (az X N' sc {s2 with heap:=s2.heap.push { cls:=.type "list",data:=.seq ([]:List IY).toArray} } (upd H2 s2.heap.objs.size (.lst [])) fp) [] bv H' s8/\tn i s8.heap/\(∀b∈fp,H' b=none)/\W i m bv H':=λ{σ8 H8 s8} I8 ⟨m',hm,w8⟩=>by
   refine⟨m',hm,j+1,σ8,H8,I8.fU,T.keep _ _ _ st7 λb hb o e=>(I8.pin (b,o) (l_ _ (l_ _ (bO hb e)))).1,λb hb=>?_,w8⟩;obtain⟨o,e,d⟩:=T.obj _ _ st7 b hb;exact(I8.pin (b,o) (l_ _ (l_ _ (bO hb e)))).2.1
  refine thn (hg _ _ fp _ s7 σ5 H7 y u _ I7' r7 (step y H7 y7)) ?_;rintro _ s8 ⟨σ8,H8,I8,q8⟩;refine thn (ht _ _ fp _ s8 σ8 H8 _ I8 q8) ?_;rintro ok s9 ⟨H9,I9,q9⟩;cases ok with
  |false=>exact again I9 q9
  |true=>
   refine thn (he _ _ fp _ s9 σ8 H9 _ I9 q9) ?_;rintro y s10 ⟨v,H10,I10,r10,ys,hys,hl,q10⟩;refine thn (kh _ s10 σ8 H10 (.ref s2.heap.objs.size) [v] (.ref s2.heap.objs.size) [y] (λ_ H'=>∃m',m'<n/\W (j+1) m' σ8 H') I10 rfl (.cons r10 .nil) ⟨_,ys,v,rfl,rfl,hys,hl,q10⟩) ?_;rintro z s11 ⟨_,H11,I11,_,q11⟩;exact again I11 q11
 refine Nb loop ?_;exact T.self X.A 0 _ _ _ st4 loop
section
variable{X:Cx}
theorem MtM.imp {id:String}{r r':V->List V->Hp->VK->Prop}(h:MtM X id r)(k:∀x xs H Q,r' x xs H Q->r x xs H Q):MtM X id r':=λac s σ H x xs v us Q I r1 r2 q=>h ac s σ H x xs v us Q I r1 r2 (k _ _ _ _ q)
theorem r6:MtM X "list.append" (λx vs H Q=>∃l xs y,x=.ref l/\vs=[y]/\H l=some (.lst xs)/\xs.length<sizeLine/\∀H',Put H l (.lst (xs++[y])) H'->Q .non H'):=kh.imp (by rintro x vs H Q ⟨l,xs,y,e1,e2,h1,hz,q⟩;exact⟨l,xs,y,e1,e2,h1,hz,q _ Put.up⟩)
end
end L2
namespace ZG
open PySem
theorem vd{prog:Ji}{w:Jm}{A:Jr}(hh:A.handled=none)(b:Bool)(it l:I_)(gl:l≠it)(items:Array IY) :
  Draws prog w A it [it,l] items.size (λi v=>items[i]?=some v) (λi h=>Dr b h it l i/\Sq b h l items) where
 live:=λ_ _ st=>let ⟨o,ho,_⟩:=st.1.some;⟨o,ho⟩
 frame:=λ_ _ _ st hk=>⟨st.1.at λo e=>hk it (by simp) o e,st.2.at λo e=>hk l (by simp) o e⟩
 item:=λi s Q E hi st hQ=>by
  refine Cg st.1 st.2 (v:=items[i]) (by simp[hi]) λh' hit' hs'=>?_
  exact hQ _ h' s.toks (by simp[hi]) ⟨hit',st.2.ext hs'.extBut gl⟩ hs'
 done:=λs Q E st hE=>Df hh st.1 st.2 (by simp) hE
set_option maxHeartbeats 1000000 in
theorem uZ(l:I_)(items:Array IY)(n:Nat)(dct:Option I_)(sl:Array (Option IY)) :
  Meets (Kq.«enumerate.__new__» ⟨[.type "enumerate",.ref l],[]⟩) (λ_ R s=>s.heap.get? l=some { cls:=.type "tuple",dict:=dct,data:=.seq items n,slots:=sl}/\
   R (.ok (.ret (.ref (s.heap.push { cls:=.type "tuple_iterator",data:=.fields #[.ref l,.int 0 0] }).objs.size)))
    {s with heap:=(s.heap.push { cls:=.type "tuple_iterator",data:=.fields #[.ref l,.int 0 0] }).push { cls:=.type "enumerate",data:=.fields #[.none,.bool false,.ref s.heap.objs.size,Kf 0,.none,.none] } }):=
 .of_wp λprog w A R s h=>by
  obtain⟨hp,g,d,tk,os⟩:=s;obtain⟨hl,h⟩:=h;have hsub:=sub_enumerate;have hL:Heap.IsTuple (Shared.heap ⟨hp,g,d,tk,os⟩) l items:=⟨_,hl,rfl,n,rfl⟩
  wp_walk using KZ hl
  refine wpAny_stack_any λst=>Jd ?_;split
  ·rename_i c _ _ _ _ _;cases (c == Ks "enumerate")
   ·wp_walk using KZ hl,K9 hL
    exact⟨_,rfl,h⟩
   wp_walk using KZ hl,K9 hL
   exact⟨_,rfl,h⟩
  wp_walk using KZ hl,K9 hL
  exact⟨_,rfl,h⟩
variable {Q:IY->Jc->Prop}
section
variable{prog:Ji}{w:Jm}{A:Jr}{E:IY->Jc->Prop}{s:Jc}
theorem rq{l:I_}{items:Array IY}(hL:s.heap.IsTuple l items)
  (h:∀h',P6 h' (s.heap.objs.size+1) s.heap.objs.size 0 .none->h'.IsTupleIter s.heap.objs.size l 0->h'.objs.size=s.heap.objs.size+2->
   (∀b o,s.heap.get? b=some o->h'.get? b=some o)->Q (.ref (s.heap.objs.size+1)) {s with heap:=h'}) :
  Jf (Jh prog w) A (call (.type "enumerate") [.ref l]) Q E s:=by
 obtain⟨⟨c,dct,dt,sl⟩,hl,hc,n,hd⟩:=hL;replace hc:c=.type "tuple":=hc;replace hd:dt=.seq items n:=hd;subst hc hd;refine callType_new F.called_enumerate (by decide) (F.typeCall_enumerate_1 _) (F.newCall_enumerate_1 _) (λobj=>F.args_object_init_2 obj _) F.entry_enumerate_new
  (uZ l items n dct sl) ⟨hl,?_⟩
 have hz:(s.heap.push { cls:=.type "tuple_iterator",data:=.fields #[.ref l,.int 0 0] }).objs.size=s.heap.objs.size+1:=J3 ..;show _/\_;rw[hz];have he:P6 ((s.heap.push { cls:=.type "tuple_iterator",data:=.fields #[.ref l,.int 0 0] }).push
   { cls:=.type "enumerate",data:=.fields #[.none,.bool false,.ref s.heap.objs.size,Kf 0,.none,.none] }) (s.heap.objs.size+1) s.heap.objs.size 0 .none:=by
  have:=Jj (s.heap.push { cls:=.type "tuple_iterator",data:=.fields #[.ref l,.int 0 0] })
   (o:={ cls:=.type "enumerate",data:=.fields #[.none,.bool false,.ref s.heap.objs.size,Kf 0,.none,.none] }) rfl
  rw[hz]at this;exact this
 refine⟨⟨_,he,rfl⟩,h _ he ⟨_,Je _ (Jj _ rfl),rfl,rfl⟩ (by rw[J3,hz]) λb o x=>Je _ (Je _ x)⟩
theorem sd{b:Bool}{l:I_}{items:Array IY}(hL:Sq b s.heap l items)
  (h:∀h',P6 h' (s.heap.objs.size+1) s.heap.objs.size 0 .none->Dr b h' s.heap.objs.size l 0->h'.objs.size=s.heap.objs.size+2->
   (∀b o,s.heap.get? b=some o->h'.get? b=some o)->Q (.ref (s.heap.objs.size+1)) {s with heap:=h'}) :
  Jf (Jh prog w) A (call (.type "enumerate") [.ref l]) Q E s:=by
 cases b with
 |true=>exact rq hL h
 |false=>exact call_enumerate_list hL h
end
end ZG
namespace L2
open PySem PySem.Spec PyProof.Rows
def Ite(K:Ja)(b:Bool)(a:I_):It:=
  ⟨λi H=>∃xs x,SqG b K H a xs/\xs[i]?=some x,
   λi H v H'=>∃p x,H p=none/\v=.ref p/\H'=upd H p (.tup [.int i,x])/\∀xs,SqG b K H a xs->xs[i]?=some x,
   λi H=>∃xs,SqG b K H a xs/\xs.length=i⟩
variable {es:List Jn}
theorem uP{P:Ji}{w:Jm}{K:Ja}{x1:Nat}{tp:Pos}(b:Bool)(a e it:I_)(D:e≠it) :
  Turn P w K (.Tuple es x1 tp) (Ite K b a) [e,it] e (λi h=>(∃old,P6 h e it i old)/\ZG.Dr b h it a i) where
 mem:=by simp
 obj:=λi h st c hb=>by
  obtain⟨⟨old,he⟩,d⟩:=st;have hb:c=e\/c=it:=by simpa using hb
  rcases hb with rfl|rfl
  ·exact⟨_,he,λv z=>by cases (show Of _=Pb v from z)⟩
  exact d.some
 keep:=λi h h' st k=>by obtain⟨⟨old,he⟩,d⟩:=st;exact⟨⟨old,k e (by simp) _ he⟩,d.at λo z=>k it (by simp) o z⟩
 item:=by
  intro X hP hw hK hc i ac s σ H E I hf st hg;subst hP hw hK;obtain⟨xs,x,q1,hx⟩:=hg;obtain⟨bd,rv,p1,z1⟩:=I.sq q1;obtain⟨u,hu,ru⟩:=rv.get hx;obtain⟨⟨old,he⟩,d⟩:=st;have fe:=hf e (by simp);have fi:=hf it (by simp);have nai:=I.vh q1 fi;have nae:=I.vh q1 fe;have ii:i<bd.toArray.size:=by have:=(b_.mp hu).1;simpa using this
  refine wpAny_pyNext_enum_itemD (ZG.vd (A:=X.A.in1) (I.ok.hd hc) b it a nai bd.toArray) he ⟨d,p1⟩ ii D (by simp[D,nae.symm]) λy h1 tk hP hO hst hT hsz hk=>⟨_,rfl,?_⟩
  have ey:y=u:=by
   have e1:bd.toArray[i]?=some u:=by simpa using hu
   rw[e1]at hP;exact(EM hP).symm
  subst ey;refine wpAny_letOwnedTupleGo_enum (s:={s with heap:=h1,toks:=tk+1}) hO λh' he' hs'=>?_;have hfresh:H s.heap.objs.size=none:=I.hok.fresh (c_ _);have eT:s.heap.objs.size≠e:=GN (Jl he);have kp:∀c o,c ∉ [e,it]->s.heap.get? c=some o->h'.get? c=some o:=λc o hb z=>by
   have n:c≠e/\c≠it:=by simpa using hb
   exact hs'.extBut _ _ n.1 (hk c o n.1 n.2 z)
  have hT':h'.get? s.heap.objs.size=some { cls:=.type "tuple",data:=.seq #[.int i tk,y] }:=hs'.extBut _ _ eT hT;have notfp:∀c o,H c=some o->c ∉ [e,it]:=λc o z hb=>by have:=(hf c hb).1;rw[z]at this;cases this
  have ne:∀c o,s.heap.get? c=some o->c≠s.heap.objs.size:=λc o z=>t_ (Jl z);have nt:∀c o,H c=some o->c≠s.heap.objs.size:=λc o z=>aS z hfresh;have I1:Inv X ac σ (upd H s.heap.objs.size (.tup [.int i,x])) {s with heap:=h',toks:=tk+1}:=by
   refine I.step (g':=s.gens) (d':=s.drawn) (t':=tk+1) (ch:=[e,it]) (λc hb=>?_) (λc o _ _ hc z _=>kp c o hc z) (λc o _ _ hc z _=>⟨o.slots,kp c o hc z⟩)
    (λc o _ z n=>by rw[av (ne c o z)];exact n) (λc o hc z=>⟨o,kp c o hc z⟩) (λc zs z=>by rw[av (nt c _ z)];exact z) (λc o u z=>by rw[av (nt c _ z)];exact z)
    (λc ps z=>⟨#[],by rw[av (nt c _ z),z];simp⟩) (λm hm=>?_) (λc o z=>?_) I.bare
   ·obtain⟨g0,g1,g2,g3,g4,g5⟩:=hf c hb;exact⟨g3,g1,g4,g5⟩
   ·obtain⟨o,es,ep,ho',r⟩:=hm;exact⟨o,es,ep,kp _ o (λhb=>(hf _ hb).2.1 rfl) ho',r⟩
   by_cases hb:c=s.heap.objs.size
   ·subst hb;rw[aq]at z;cases z;exact⟨by show 2<=sizeLine;decide,[.int i tk,y],.cons ⟨tk,rfl⟩ (.cons ru .nil),_,hT',rfl,_,rfl⟩
   rw[av hb]at z;refine(I.hok c o z).mV (λc' w' hc' q=>kp c' w' ?_ q) (λc' q=>by rw[av (nt c' _ q)];exact q) λc' zs q=>by rw[av (nt c' _ q)];exact q
   rcases hc' with rfl|hc'
   ·exact notfp _ _ z
   exact notfp _ _ hc'
  refine⟨.ref s.heap.objs.size,_,I1,rfl,⟨s.heap.objs.size,x,hfresh,rfl,rfl,λzs hq=>by rw[I.BW hq q1];exact hx⟩,?_,λc hb=>?_⟩
  ·exact⟨⟨_,he'⟩,hst.1.ext hs'.extBut D.symm⟩
  have hb0:=(hf c hb).1;have hb':c=e\/c=it:=by simpa using hb
  have ii:∃o,s.heap.get? c=some o:=by
   rcases hb' with rfl|rfl
   ·exact⟨_,he⟩
   obtain⟨o,z,_⟩:=d.some;exact⟨o,z⟩
  obtain⟨o,z⟩:=ii;rw[av (ne c o z)];exact hb0
 done:=by
  intro X hP hw hK hc i ac s σ H E I hf st hg;subst hP hw hK;obtain⟨xs,q1,hn⟩:=hg;obtain⟨bd,rv,p1,z1⟩:=I.sq q1;obtain⟨⟨old,he⟩,d⟩:=st;have fe:=hf e (by simp);have fi:=hf it (by simp);have nai:=I.vh q1 fi;have l1:=rv.length;have en:bd.toArray.size=i:=by simp;omega
  refine wpAny_pyNext_enum_endD (ZG.vd (A:=X.A.in1) (I.ok.hd hc) b it a nai bd.toArray) he (by rw[en];exact⟨d,p1⟩) λg gk=>⟨rfl,?_⟩
  have kp:∀c o,c ∉ [e,it]->s.heap.get? c=some o->g.get? c=some o:=λc o hb z=>by
   have n:c≠e/\c≠it:=by simpa using hb
   exact gk c o n.2 z
  have notfp:∀c o,H c=some o->c ∉ [e,it]:=λc o z hb=>by have:=(hf c hb).1;rw[z]at this;cases this
  refine I.step (g':=s.gens) (d':=s.drawn) (t':=s.toks) (ch:=[e,it]) (λc hb=>?_) (λc o _ _ hc z _=>kp c o hc z) (λc o _ _ hc z _=>⟨o.slots,kp c o hc z⟩)
   (λc o _ z n=>n) (λc o hc z=>⟨o,kp c o hc z⟩) (λc zs z=>z) (λc o u z=>z) (λc ps z=>⟨#[],by rw[z];simp⟩) (λm hm=>?_) (λc o z=>?_) I.bare
  ·obtain⟨g0,g1,g2,g3,g4,g5⟩:=hf c hb;exact⟨g3,g1,g4,g5⟩
  ·obtain⟨o,es,ep,ho',r⟩:=hm;exact⟨o,es,ep,kp _ o (λhb=>(hf _ hb).2.1 rfl) ho',r⟩
  refine(I.hok c o z).mV (λc' w' hc' q=>kp c' w' ?_ q) (λc' q=>q) λc' zs q=>q;rcases hc' with rfl|hc'
  ·exact notfp _ _ z
  exact notfp _ _ hc'
 self:=λ_ _ _ _ _ st h=>by obtain⟨⟨old,he⟩,_⟩:=st;exact N_ he h
def E3(K:Ja)(ta:TA):TI:=λσ H R=>ta σ H λvs H1=>∃b a,vs=[.ref a]/\(∃xs,SqG b K H1 a xs)/\R (Ite K b a) H1
theorem zT{X:Cx}{x1:Nat}{tp:Pos}{a:Jn}{ta:TA}{p pos:Pos}(hg:Gl X "enumerate")(hm:X.mg "enumerate"=none)(ha:PA X [a] ta)(hs:Jo [a] X.env=[(false,JC a X.env)]:=by rfl) :
  PI X (.Tuple es x1 tp) (.Call (.Name "enumerate" p) [a] [] pos) (E3 X.K ta):=by
 intro ac s σ H R I h;refine Call_ (cU I hg hm boot_enumerate (Le (thn (ha pos ac s σ H _ I h) λus s1 ⟨vs,H1,I1,r1,q1⟩=>?_) hs rfl));obtain⟨b,a,e,⟨xs,q1⟩,q⟩:=q1;subst e;cases r1 with
 |cons r rr=>
  cases rr;cases r;obtain⟨bd,rv,p1,z1⟩:=I1.sq q1;refine ZG.sd p1 λg gz g1 gs gk=>N_ (s:={s1 with heap:=g}) gz ?_;have I2:Inv X ac σ H1 {s1 with heap:=g}:=I1.kept (t':=s1.toks) gk;refine⟨_,_,_,_,H1,rfl,I2,uP b a _ s1.heap.objs.size (show(_:Nat)≠_ by omega),⟨⟨_,gz⟩,g1⟩,λc hb=>?_,q⟩;have hb':s1.heap.objs.size<=c:=by
   have z:c=s1.heap.objs.size+1\/c=s1.heap.objs.size:=by simpa using hb
   rcases z with z|z <;> rw[z] <;>(show(_:Nat)<=_) <;> omega
  exact I1.vF hb' (I1.hok.fresh hb')
end L2
namespace ZG
open PySem
open Sem (wp)
variable {Q:Option IY->Jc->Prop}{d:I_}{ep:Nat}{es:Array K8}{o:Obj}
section
variable{prog:Ji}{w:Jm}{A:Jr}{E:IY->Jc->Prop}{s:Jc}
theorem CT{Q:IY->Jc->Prop}(hd:(d == J9)=false)(ho:s.heap.get? d=some o)(hc:o.ExactDict)(hdat:o.data=.dict es ep)
  (hQ:Q (.ref s.heap.objs.size) {s with heap:=s.heap.push { cls:=.type "dict_keyiterator",data:=.fields #[.ref d,.int 0 0,.int es.size 0,.int ep 0] } }):Jf (Jh prog w) A (LR (.ref d)) Q E s:=by
 have hT:s.TypeIs (.ref d) "dict":=⟨o,ho,hc.1⟩;refine MD hT Oq (JV Oq hT F.entry_dict_iter ?_ (F.args_dict_iter_1 _));unfold Kq.«dict.__iter__» PN;refine IZ (IZ (wpAny_notOrdered_dict hT (show Jf _ _ (pure (JH d)) _ _ s from Jd (show Jf _ _ (Nk d >>= _) _ _ s from ?_))));unfold Nk;rw[if_neg (by rw[hd];exact EZ)];exact IZ (Jd (IZ (LO ho hdat (IZ (M5 ho hdat (IZ (Ju (Jd ⟨_,rfl,"dict_keyiterator",_,⟨_,Jj _ rfl,rfl⟩,Ke.lookup,by simpa[Kf]using hQ⟩))))))))
theorem DD{it:I_}{i:Nat}{e:K8}(hit:s.heap.IsKeyIter it d i es.size ep)(hod:s.heap.get? d=some o)(hdd:o.data=.dict es ep)(hx:es[i]?=some e)
  (hQ:∀h',h'.IsKeyIter it d (i+1) es.size ep->JO it s.heap h'->Q (some e.key) {s with heap:=h'}):Jf (Jh prog w) A (KP (.ref it)) Q E s:=by
 obtain⟨oi,ho,hc,hd⟩:=id hit;unfold KP;refine IZ (KO (JR (name:=JZ "__next__") hit.typeIs Ke (JV Ke hit.typeIs Ma ?_ (L' _))));refine IZ (Jd (IZ (IZ ?_)));refine IZ (Ky hit.typeIs (Jd (IZ (Mf ho hd ?_))));simp only[show Mg "dict_keyiterator"=false by decide,Fl,if_false];show Jf _ _ (if(JH d == JT)=true then _ else _) _ _ s;rw[if_neg (show ¬(JH d == JT)=true from λz=>EZ z)];refine IZ (Jd (IZ (LO hod hdd ?_)));rw[if_neg (show ¬_ by simp)];refine IZ (Jd (IZ (M5 hod hdd ?_)));rw[if_neg (show ¬_ by simp)];refine Jd ?_;simp only[show ¬(i:Int)<0 by lia,if_false,B_,hx];refine IZ (IZ (Ky hit.typeIs (Jd (IZ (Nl hit.typeIs ?_)))));show Jf _ _ (setField (.ref it) 1 (Kf ((i:Int)+1)) >>= _) _ _ s;refine IZ (Kd ho hd (by simp) ?_);have hit':(s.heap.update it (Ln (·.setIfInBounds 1 (Kf ((i:Int)+1))))).IsKeyIter it d (i+1) es.size ep:=
  ⟨_,JE _ ho (Ko (JF hd _)),(Lb ..).trans hc,by rw[JF hd];simp[Kf]⟩
 exact IZ (Jy (IZ (Nl (s:={s with heap:=s.heap.update it (Ln (·.setIfInBounds 1 (Kf ((i:Int)+1)))) }) hit'.typeIs (show Jf _ _ (pure e.key) _ _ _ from Jd (Jd ⟨_,rfl,Jd (hQ _ hit' (JI ..))⟩)))))
theorem EI{it:I_}{i:Nat}(hh:A.handled=none)(hit:s.heap.IsKeyIter it d i es.size ep)(hod:s.heap.get? d=some o)(hdd:o.data=.dict es ep)(hx:es[i]?=none)
  (hQ:∀h',Lw it s.heap h'->Q none {s with heap:=h'}):Jf (Jh prog w) A (KP (.ref it)) Q E s:=by
 obtain⟨oi,ho,hc,hd⟩:=id hit;unfold KP;refine IZ (KO (JR (name:=JZ "__next__") hit.typeIs Ke (JV Ke hit.typeIs Ma ?_ (L' _))));refine IZ (Jd (IZ (IZ ?_)));refine IZ (Ky hit.typeIs (Jd (IZ (Mf ho hd ?_))));simp only[show Mg "dict_keyiterator"=false by decide,Fl,if_false];show Jf _ _ (if(JH d == JT)=true then _ else _) _ _ s;rw[if_neg (show ¬(JH d == JT)=true from λz=>EZ z)];refine IZ (Jd (IZ (LO hod hdd ?_)));rw[if_neg (show ¬_ by simp)];refine IZ (Jd (IZ (M5 hod hdd ?_)));rw[if_neg (show ¬_ by simp)];refine Jd ?_;simp only[show ¬(i:Int)<0 by lia,if_false,B_,hx];refine IZ (IZ (Ky hit.typeIs (Jd ?_)));show Jf _ _ (setField (.ref it) 0 .none >>= _) _ _ s;refine IZ (Kd ho hd (by simp) (show Jf _ _ (MT (.type "StopIteration") [] >>= _) _ _ _ from IZ ?_));simp only[MT,Ol];refine IZ (Ju (IZ (m:=KC _ _) (K' (a:=JT) (by first|rfl|(simp only[KC];rfl)) (Ju ?_ (by size_fits)))) (by size_fits));simp only[Om];refine IZ (Mw ?_);rw[show A.in1.handled=none from hh];refine IZ (Jd (Na ?_));refine IZ (L6 (T:="StopIteration") (b:=true) (by exact⟨_,Jj _ rfl,rfl⟩) Nm (Jd ?_));exact hQ _ (((JI ..).extBut.push _).push _)
end
end ZG
namespace L2
open PySem PySem.Spec PyProof.Rows
variable {hi lo:Int}{tg:Jn}
section
variable{X:Cx}
noncomputable def Idn(lo:Int)(n:Nat):It:=⟨λi _=>i<n,λi H x H'=>H'=H/\x=.int (lo-i),λi _=>n<=i⟩
theorem uS{P:Ji}{w:Jm}{K:Ja}(it:I_)(lo:Int)(n:Nat):Turn P w K tg (Idn lo n) [it] it (λi h=>M6 h it (lo+(i:Nat)*(-1)) ((n:Int)-(i:Nat)) (-1)) where
 mem:=by simp
 obj:=λi h st b hb=>by
  have e:b=it:=by simpa using hb
  subst e;refine⟨_,st,λv z=>?_⟩;cases (show Of _=Pb v from z)
 keep:=λi h h' st k=>k it (by simp) _ st
 item:=by intro Y hP hw hK hc i ac s σ H E I hf st hg;subst hP hw hK;obtain⟨f0,f1,f2,f3,f4,f5⟩:=hf it (by simp);have WW:=Qk (prog:=Y.prog) (w:=Y.w) (I.ok.hd hc) it lo (-1) n;refine WW.item i s _ _ hg st λv h' tk hv ap kk=>?_;obtain⟨t,rfl⟩:=hv;have J1:Inv Y ac σ H {s with heap:=h',toks:=tk}:=I.turned (λb o hb e=>kk b o (by simpa using hb) e) f0 f1 f3 f4 f5;refine⟨_,rfl,tR (s:={s with heap:=h',toks:=tk}) (n:="range_iterator") ap rfl rfl (by decide) ⟨.int (lo-i),H,J1,⟨t,?_⟩,⟨rfl,rfl⟩,ap,λb hb=>(hf b hb).1⟩⟩;rw[show lo+(i:Int)*(-1)=lo-i by lia]
 done:=by intro Y hP hw hK hc i ac s σ H E I hf st hg;subst hP hw hK;obtain⟨f0,f1,f2,f3,f4,f5⟩:=hf it (by simp);exact M7 (I.ok.hd hc) st (by have hh:n<=i:=hg;lia) λh' eb=>⟨rfl,I.turned (t':=s.toks) (λb o hb e=>eb b o hb e) f0 f1 f3 f4 f5⟩
 self:=λ_ _ _ _ _ st h=>M8 st h
theorem o4:K3 lo hi (-1)=(((lo-hi).toNat:Nat):Int):=by
 unfold K3;rw[if_neg (by decide)];split
 ·rw[show-(-1:Int)=1 from rfl,II];lia
 lia
theorem qW(h1:-(2 ^ 60)<=lo)(h2:lo<2 ^ 60)(h3:-(2 ^ 60)<=hi)(h4:hi<2 ^ 60):NP lo hi (-1)=true:=by unfold NP;rw[o4,if_neg (by decide)];unfold Pf;simp only[EN,FN,decide_eq_true_eq];refine⟨⟨⟨⟨⟨?_,?_⟩,?_,?_⟩,by decide,by decide⟩,?_,?_⟩,.inr ⟨?_,?_⟩⟩ <;> lia
theorem yB{ac:List (I_×Obj)}{σ:St}{H:Hp}{s:Jc}{R:It->Hp->Prop}{E:IY->Jc->Prop}{t u v:Tok}{tk:Nat}(I:Inv X ac σ H s)(h1:-(2 ^ 60)<=lo)(h2:lo<2 ^ 60)(h3:-(2 ^ 60)<=hi)(h4:hi<2 ^ 60)
  (q:R (Idn lo (lo-hi).toNat) H):Jf (Jh X.prog X.w) X.A (LR (.ref s.heap.objs.size)) (PIE X ac σ tg R) E {s with heap:=s.heap.push { cls:=.type "range",data:=.fields #[.int lo t,.int hi u,.int (-1) v] },toks:=tk}:=by
 refine NU (Og ..) (qW h1 h2 h3 h4) ?_;obtain⟨hp,ehp⟩:∃hp,hp=s.heap.push { cls:=.type "range",data:=.fields #[.int lo t,.int hi u,.int (-1) v] }:=⟨_,rfl⟩;have J1:Inv X ac σ H {s with heap:=hp,toks:=tk}:=by rw[ehp];exact I.kept λb o e=>Je _ e
 dsimp only;rw[<-ehp];refine⟨hp.objs.size,[hp.objs.size],_,_,H,rfl,J1.kept (t':=tk) λb o e=>Je _ e,uS _ lo (lo-hi).toNat,?_,λb hb=>?_,q⟩
 ·have e1:lo+((0:Nat):Int)*(-1)=lo:=by simp
  have e2:(((lo-hi).toNat:Nat):Int)-((0:Nat):Int)=K3 lo hi (-1):=by rw[o4];lia
  show M6 _ _ (lo+((0:Nat):Int)*(-1)) ((((lo-hi).toNat:Nat):Int)-((0:Nat):Int)) (-1);rw[e1,e2];exact Jj _ rfl
 have e:b=hp.objs.size:=by simpa using hb
 subst e;exact J1.vF (c_ _) (J1.hok.fresh (c_ _))
def Cq(ta:TA):TI:=λσ H R=>ta σ H λvs H1=>∃i j:Int,vs=[.int i,.int j,.int (-1)]/\(-(2 ^ 60)<=i/\i<2 ^ 60/\-(2 ^ 60)<=j/\j<2 ^ 60)/\R (Idn i (i-j).toNat) H1
theorem uG{a b c:Jn}{ta:TA}{p pos:Pos}(hg:Gl X "range")(hm:X.mg "range"=none)(ha:PA X [a,b,c] ta)(hs:Jo [a,b,c] X.env=[(false,JC a X.env),(false,JC b X.env),(false,JC c X.env)]:=by rfl)(hs2:Jo [b,c] X.env=[(false,JC b X.env),(false,JC c X.env)]:=by rfl) :
  PI X tg (.Call (.Name "range" p) [a,b,c] [] pos) (Cq ta):=by
 intro ac s σ H R I h;refine Call_ (cU I hg hm OB (callWith_type1 (thn (ha pos ac s σ H _ I h) λus s1 ⟨vs,H1,I1,r1,q1⟩=>?_) (by rw[hs,hs2]) (by rw[hs2];rfl)));obtain⟨i,j,e,⟨q1,q2,q3,q4⟩,q⟩:=q1;subst e;cases r1 with
 |cons r rr=>
  cases rr with
  |cons r' rr=>
   cases rr with
   |cons r'' rr=>
    cases rr;obtain⟨t,rfl⟩:=r;obtain⟨t',rfl⟩:=r';obtain⟨t'',rfl⟩:=r'';refine call_range_3 (by decide) ?_ (.inl ?_)
    ·exact yB I1 q1 q2 q3 q4 q
    unfold Builtin.divisionGoesByPylong
    rfl
theorem tI{K:Ja}{H:Hp}:∀{ds:List Dt}{xs:List V}{us:List IY},aM K H ds xs->Vals xs us->∀p∈us.zip ds,∃x,RelV x p.1/\Has K H p.2 x
 | [],_,_,_,_=>λp hp=>by simp at hp
 |d::ds,_,_,h,v=>λp hp=>by
  rw[aM]at h;obtain⟨x,t,rfl,h1,h2⟩:=h;cases v with
  |cons r v'=>
   rw[FL]at hp;rcases k_.mp hp with rfl|hp
   ·exact⟨x,r,h1⟩
   exact tI h2 v' p hp
theorem rP{ac:List (I_×Obj)}{σ:St}{H:Hp}{s:Jc}(I:Inv X ac σ H s){A:Jr}{n:Nat}(hA:A.units+n<cLine){d:Dt}{x:V}{v:IY}(hd:Has X.K H d x)(rx:RelV x v) :
  ∀{ds:List Dt}{xs:List V}{us:List IY},bw ds<=n->aM X.K H ds xs->Vals xs us->∃e:IY->Bool,(∀u∈us,Li A s u v (e u))/\(∀p∈us.zip ds,e p.1=eqD p.2 d)/\us.any e=ds.any λd'=>eqD d' d
 | [],_,_,_,h,r=>by rw[aM]at h;subst h;cases r;exact⟨λ_=>false,λu hu=>(by cases hu),λp hp=>(by simp at hp),rfl⟩
 |d'::ds,_,_,hn,h,r=>by
  rw[aM]at h;obtain⟨x',t,rfl,h1,h2⟩:=h;rw[bw]at hn;cases r with
  | @cons _ u' _ us r1 r2=>
   obtain⟨e0,a1,a2,a3⟩:=rP I hA hd rx (by lia) h2 r2;have q1:Li A s u' v (eqD d' d):=(oz I n A d' d x' x u' v (by lia) hA h1 hd r1 rx).2.2;have same:∀p∈us.zip ds,p.1=u'->p.2=d':=λp hp z=>by obtain⟨y,ry,hy⟩:=tI h2 r2 p hp;rw[z]at ry;have:=RelV.inj ry r1;subst this;exact Has.inj I hy h1
   have ev:∀p∈us.zip ds,(if p.1=u' then eqD d' d else e0 p.1)=eqD p.2 d:=λp hp=>by
    split
    ·rename_i z;rw[same p hp z]
    exact a2 p hp
   have len:us.length=ds.length:=by have m1:=h2.len;have m2:=r2.length;lia
   have Ay:∀(f:IY->Bool) (us:List IY) (ds:List Dt),us.length=ds.length->(∀p∈us.zip ds,f p.1=eqD p.2 d)->us.any f=ds.any λd'=>eqD d' d:=λf us=>by
    induction us with
    |nil=>intro ds z _;cases ds with
     |nil=>rfl
     |cons _ _=>cases z
    |cons u us ih=>intro ds z h;cases ds with
     |nil=>cases z
     |cons c cs=>
      rw[FI,FI,ih cs (FV z) λp hp=>h p (by rw[FL];exact i_ _ hp),h (u,c) (by rw[FL];exact q_ ..)]
   refine⟨λy=>if y=u' then eqD d' d else e0 y,λu hu=>?_,λp hp=>?_,?_⟩
   ·show Li A s u v (if u=u' then eqD d' d else e0 u);split
    ·rename_i z;rw[z];exact q1
    rename_i z;rcases k_.mp hu with rfl|hu
    ·exact absurd rfl z
    exact a1 u hu
   ·rw[FL]at hp;rcases k_.mp hp with rfl|hp
    ·exact if_pos rfl
    exact ev p hp
   rw[FI,FI,Ay _ us ds len ev,if_pos rfl]
def Ep(K:Ja)(A:Jr)(neg:Bool):R2:=λx y H Q=>∃p xs d ds,y=.ref p/\SqL K H p xs/\Has K H d x/\aM K H ds xs/\A.in1.units+bw ds<cLine/\Q (.bl (if neg then !(ds.any λe=>eqD e d)else ds.any λe=>eqD e d)) H
theorem uJ:OpR X (J8 .NotIn) (Ep X.K X.A true):=by intro ac s σ H x y v u Q I rx ry h;obtain⟨p,xs,d,ds,rfl,hq,hd,hl,hA,q⟩:=h;cases ry;obtain⟨bd,r,pl,hz⟩:=I.list hq;obtain⟨e,e1,_,e3⟩:=rP I (A:=X.A.in1) hA hd rx (c_ _) hl r;refine SeqAt.notIn_listAt e pl.isList (λw hw=>e1 w (by simpa using hw)) ⟨.bl _,H,I,rfl,?_⟩;rw[show bd.toArray.any e=bd.any e by simp,e3];exact q
end
end L2
namespace ZM
open PySem
section
variable{prog:Ji}{w:Jm}{A:Jr}{E:IY->Jc->Prop}{s:Jc}
noncomputable def lx:List Int->List Int->Bool
 | [],[]=>false
 | [],_::_=>true
 | _::_,[]=>false
 |a::x,b::y=>if a=b then lx x y else decide (a<b)
noncomputable def IntsAre:List IY->List Int->Prop
 | [],[]=>True
 |v::l,n::r=>(∃t,v=.int n t)/\IntsAre l r
 | _,_=>False
theorem Bg:∀{l:List IY}{n:List Int},IntsAre l n->l.length=n.length:=by
 intro l;induction l with
 |nil=>
  intro n h;cases n with
  |nil=>rfl
  |cons a n=>exact h.elim
 |cons v l ih=>
  intro n h;cases n with
  |nil=>exact h.elim
  |cons a n=>rw[g_,g_,ih h.2]
end
theorem yw{bt:Nat->Nat->Bool}(tr:∀i j k,bt i j=true->bt j k=true->bt i k=true)(ir:∀i,bt i i=false):∀n,Kj bt n<=n/\∀j,j<=n->bt j (Kj bt n)=false:=by
 intro n;induction n with
 |zero=>exact⟨c_ _,λj hj=>by rw[Nat.le_zero.mp hj];exact ir _⟩
 |succ n ih=>
  cases hb:bt (n+1) (Kj bt n)with
  |true=>
   have e:Kj bt (n+1)=n+1:=by rw[Kj,hb];rfl
   rw[e];refine⟨c_ _,λj hj=>?_⟩;rcases IJ n j with h|h
   ·rw[show j=n+1 by omega];exact ir _
   ·rw[Fs];intro z;have:=tr _ _ _ z hb;rw[ih.2 j h]at this;cases this
  |false=>
   have e:Kj bt (n+1)=Kj bt n:=by rw[Kj,hb];rfl
   rw[e];refine⟨Ib ih.1,λj hj=>?_⟩;rcases IJ n j with h|h
   ·rw[show j=n+1 by omega];exact hb
   exact ih.2 j h
end ZM
namespace L2
open PySem PySem.Spec PyProof.Rows
section
variable{X:Cx}
theorem oB:∀{ns:List Int}{us:List IY},Vals (ns.map V.int) us->ZM.IntsAre us ns:=by
 intro ns;induction ns with
 |nil=>intro us h;cases h;exact trivial
 |cons n ns ih=>
  intro us h;cases h with
  |cons r t=>exact⟨r,ih t⟩
end
end L2
namespace ZS
open PySem PyProof.Rows
noncomputable def l6(M:Lg)(A:Jr)(E:IY->Jc->Prop)(s:Jc)(kd:Lj)(rk:JJ->Nat)(S:JJ->Prop):Prop:=
 ∀(x y:JJ) (st:Jw) (Q:Option Bool->Jw->Prop),S x->S y->kindOf st=kd->Q (some (decide (rk x<rk y))) st->wpS M A E s (lt' x y) Q st
section
variable{rk:JJ->Nat}
abbrev Srt(rk:JJ->Nat)(l:List JJ):Prop:=l.Pairwise λx y=>rk x<=rk y
end
variable {i:Nat}{st:Jw}
section
variable{M:Lg}{A:Jr}{E:IY->Jc->Prop}{s:Jc}{kd:Lj}{rk:JJ->Nat}{S:JJ->Prop}
theorem sY{ar:Array JJ}{p:JJ}{Q:JJ->Jw->Prop}(h:ar[i]?=some p)(q:Q p st):wpS M A E s (elem' ar i) Q st:=by rw[elem'_eq,h];exact JM q
end
noncomputable def R(rk:JJ->Nat)(xs:Array JJ)(i:Nat):Nat:=match xs[i]? with
 |some p=>rk p
 |none=>0
structure Kp2 (st ap:Jw):Prop where
 k:kindOf ap=kindOf st
 p:JL ap=JL st
 f:KD ap=KD st
 a:(Jg ap).Perm (Jg st)
theorem Kp2.ck :Kp2 st st:=⟨rfl,rfl,rfl,Ht _⟩
theorem Kp2.trans {s1 s2 s3:Jw}(h:Kp2 s1 s2)(g:Kp2 s2 s3):Kp2 s1 s3:=⟨g.k.trans h.k,g.p.trans h.p,g.f.trans h.f,g.a.trans h.a⟩
theorem Kp2.size {ap:Jw}(h:Kp2 st ap):(Jg ap).size=(Jg st).size:=h.a.size_eq
variable {j:Nat}{xs:Array JJ}
section
variable{rk:JJ->Nat}
theorem je{ys:Array JJ}(h:xs[i]?=ys[j]?):R rk xs i=R rk ys j:=by unfold R;rw[h]
theorem wD(hj:j<=xs.size)(k:Nat):R rk (mirror xs i j ((j-i)/2)) k=if i<=k/\k<j then R rk xs (i+j-1-k)else R rk xs k:=by
 have:=NQ (i:=i) hj k;split at this <;> rename_i h
 ·rw[if_pos h];exact je this
 rw[if_neg h];exact je this
theorem xK{src d:Nat}(hs:src<xs.size)(hd:d<=src)(k:Nat):R rk (OK xs src d) k=if k=src-d then R rk xs src else if src-d<k/\k<=src then R rk xs (k-1)else R rk xs k:=by
 have:=OL hs d hd k;split at this
 ·rename_i h;rw[if_pos h];exact je this
 rename_i h;rw[if_neg h];split at this
 ·rename_i h2;rw[if_pos h2];exact je this
 rename_i h2;rw[if_neg h2];exact je this
def cj(rk:JJ->Nat)(xs:Array JJ)(lo n:Nat):Prop:=∀i j,i<=j->j<n->R rk xs (lo+i)<=R rk xs (lo+j)
def qM(rk:JJ->Nat)(xs:Array JJ)(lo n:Nat):Prop:=∀i j,i<=j->j<n->R rk xs (lo+j)<=R rk xs (lo+i)
end
structure Within (st ap:Jw) (lo n:Nat):Prop where
 kp:Kp2 st ap
 out:∀k,(k<lo\/lo+n<=k)->(Jg ap)[k]?=(Jg st)[k]?
variable {lo n:Nat}
theorem Within.ck :Within st st lo n:=⟨.ck,λ_ _=>rfl⟩
theorem Within.trans {s1 s2 s3:Jw}(h:Within s1 s2 lo n)(g:Within s2 s3 lo n):Within s1 s3 lo n:=⟨h.kp.trans g.kp,λk hk=>(g.out k hk).trans (h.out k hk)⟩
section
variable{M:Lg}{A:Jr}{E:IY->Jc->Prop}{s:Jc}{kd:Lj}{rk:JJ->Nat}{S:JJ->Prop}
noncomputable def iu(S:JJ->Prop)(st:Jw):Prop:=∀p∈(Jg st).toList,S p
theorem iu.at {st:Jw}(h:iu S st){i:Nat}{p:JJ}(e:(Jg st)[i]?=some p):S p:=h p (by rw[<-v_]at e;exact s_ e)
theorem iu.kp {ap:Jw}(h:iu S st)(k:Kp2 st ap):iu S ap:=λp hp=>h p ((G'.mp k.a).mem_iff.mp hp)
theorem cv{Q:Option Bool->Jw->Prop}(L:l6 M A E s kd rk S)(hk:kindOf st=kd)(hS:iu S st)(hi:i<(Jg st).size)(hj:j<(Jg st).size)(q:Q (some (decide (R rk (Jg st) i<R rk (Jg st) j))) st):wpS M A E s (OM i j) Q st:=by rw[ltAt'_eq];refine Jv (N5 ?_);have e1:(Jg st)[i]?=some (Jg st)[i]:=j' hi;have e2:(Jg st)[j]?=some (Jg st)[j]:=j' hj;refine Jv (sY e1 (Jv (sY e2 (L _ _ st _ (hS.at e1) (hS.at e2) hk ?_))));unfold R at q;rw[e1,e2]at q;exact q
theorem vX{Q:Unit->Jw->Prop}(hl:lo<=i)(hj:j<=lo+n)(hsz:j<=(Jg st).size)(h:∀ap,Within st ap lo n->(∀k,R rk (Jg ap) k=if i<=k/\k<j then R rk (Jg st) (i+j-1-k)else R rk (Jg st) k)->Q () ap):wpS M A E s (Lo i j) Q st:=by rw[reverseSlice'_eq];refine ON (h _ ⟨⟨rfl,rfl,rfl,mirror_perm _ _ _ _⟩,λk hk=>?_⟩ λk=>wD hsz k);show(mirror (Jg st) i j ((j-i)/2))[k]?=_;rw[NQ hsz,if_neg (by lia)]
theorem yN{ok:Nat}{Q:Bool->Jw->Prop}(L:l6 M A E s kd rk S)(hk:kindOf st=kd)(hS:iu S st)(hn:lo+n<=(Jg st).size)(hok:ok<=n)(hs:cj rk (Jg st) lo ok)
  (h:∀ap,Within st ap lo n->cj rk (Jg ap) lo n->Q true ap):wpS M A E s (Qo lo n ok) Q st:=by
 rw[binarySort'_eq];refine Jv (Lk (Ku (I:=λk c ap=>c=(none,())/\Within st ap lo n/\cj rk (Jg ap) lo k) (Q:=λc ap=>c=(none,())/\Within st ap lo n/\cj rk (Jg ap) lo (max (max ok 1) n)) ?_ (λc ap z=>z) ⟨rfl,.ck,λi j h1 h2=>?_⟩) ?_)
 ·rintro k c db hk1 hk2 ⟨rfl,W,s1⟩;have sz1:=W.kp.size;have hS1:=hS.kp W.kp;refine Jv (Lk (Ku (I:=λx c ap=>ap=db/\∃l r,c=(none,l,r)/\l<=r/\r<=k/\r-l<=k-x/\(∀i,i<l->R rk (Jg db) (lo+i)<=R rk (Jg db) (lo+k))/\(∀i,r<=i->i<k->R rk (Jg db) (lo+k)<R rk (Jg db) (lo+i)))
   (Q:=λc ap=>ap=db/\∃l,c=(none,l,l)/\l<=k/\(∀i,i<l->R rk (Jg db) (lo+i)<=R rk (Jg db) (lo+k))/\(∀i,l<=i->i<k->R rk (Jg db) (lo+k)<R rk (Jg db) (lo+i))) ?_ ?_ ⟨rfl,0,k,rfl,ES _,c_ _,by lia,λi hi=>by lia,λi h1 h2=>by lia⟩) ?_)
  ·rintro x c dL _ hx ⟨rfl,l,r,rfl,g1,g2,g3,g4,g5⟩;dsimp only;by_cases z:l>=r
   ·rw[if_pos z];have e:l=r:=by lia
    subst e;exact JM ⟨rfl,l,rfl,g2,g4,g5⟩
   rw[if_neg z];have m1:l<=(l+r)/2:=by omega
   have m2:(l+r)/2<r:=by omega
   generalize (l+r)/2=m at m1 m2 ⊢;have m3:=w_ m2 g2;have sz:∀{y},y<=k->lo+y<(Jg dL).size:=λh=>by lia
   refine Jv (cv L (W.kp.k.trans hk) hS1 (sz (c_ _)) (sz (Fc m3)) ?_);dsimp only;by_cases w:R rk (Jg dL) (lo+k)<R rk (Jg dL) (lo+m)
   ·rw[decide_eq_true w,if_pos rfl];exact JM ⟨rfl,l,m,rfl,m1,Fc m3,by lia,g4,λi h1 h2=>w_ w (s1 m i h1 h2)⟩
   rw[decide_eq_false w,if_neg (by simp)];exact JM ⟨rfl,m+1,r,rfl,m2,g2,by lia,λi hi=>ER (s1 i m (Ic hi) m3) (Fj w),g5⟩
  ·rintro c dL ⟨rfl,l,r,rfl,g1,g2,g3,g4,g5⟩;have e:l=r:=by lia
   subst e;exact⟨rfl,l,rfl,g2,g4,g5⟩
  rintro c dL ⟨rfl,l,rfl,g2,g4,g5⟩;dsimp only;rw[moveDown'_eq];have hk1:lo+k<(Jg dL).size:=by lia
  have e0:lo+k-(lo+k-(lo+l))=lo+l:=Nat.sub_sub_self (G0 g2 lo);have hb:∀j,R rk (OK (Jg dL) (lo+k) (lo+k-(lo+l))) (lo+j)=if j=l then R rk (Jg dL) (lo+k)else if l<j/\j<=k then R rk (Jg dL) (lo+(j-1))else R rk (Jg dL) (lo+j):=λj=>by
   rw[xK hk1 (He ..),e0];by_cases c1:j=l
   ·rw[if_pos c1,if_pos (congrArg (lo+·) c1)]
   rw[if_neg c1,if_neg (λz=>c1 (Nat.add_left_cancel z))];by_cases c2:l<j/\j<=k
   ·rw[if_pos c2,if_pos ⟨G1 c2.1 lo,G0 c2.2 lo⟩,Ie (Nat.one_le_of_lt c2.1)]
   rw[if_neg c2,if_neg (λz=>c2 ⟨Nat.lt_of_add_lt_add_left z.1,Nat.le_of_add_le_add_left z.2⟩)]
  refine Jv (ON (JM ⟨rfl,W.trans ⟨⟨rfl,rfl,rfl,bubble_perm _ _ _⟩,λj hj=>?_⟩,λi j i' hj=>?_⟩))
  ·show(OK (Jg dL) (lo+k) (lo+k-(lo+l)))[j]?=_;rw[OL hk1 _ (He ..),e0,if_neg (by lia),if_neg (by lia)]
  show R rk (OK (Jg dL) (lo+k) (lo+k-(lo+l))) (lo+i)<=R rk (OK (Jg dL) (lo+k) (lo+k-(lo+l))) (lo+j);rw[hb,hb];have ss:∀p q,p<=q->q<k->R rk (Jg dL) (lo+p)<=R rk (Jg dL) (lo+q):=s1;have hj:j<=k:=Ic hj;have dn:∀{x},l<x->x<=k->x-1<k:=λa b=>w_ (Nat.sub_one_lt_of_lt a) b;by_cases i1:i<l
  ·rw[if_neg (t_ i1),if_neg (λz=>Nat.lt_asymm z.1 i1)];by_cases j2:j=l
   ·rw[if_pos j2];exact g4 i i1
   rw[if_neg j2];by_cases j1:l<j
   ·rw[if_pos ⟨j1,hj⟩];exact ss i (j-1) (GV (Hg i1 j1)) (dn j1 hj)
   rw[if_neg (λz=>j1 z.1)];exact ss i j i' (w_ (Fo (Fj j1) j2) g2)
  by_cases i2:i=l
  ·rw[if_pos i2];by_cases j2:j=l
   ·rw[if_pos j2];exact c_ _
   have j1:l<j:=Fo (i2▸i') (λz=>j2 z.symm);rw[if_neg j2,if_pos ⟨j1,hj⟩];exact Fc (g5 (j-1) (GV j1) (dn j1 hj))
  have i3:l<i:=Fo (Fj i1) (λz=>i2 z.symm);have j1:=w_ i3 i';rw[if_neg i2,if_pos ⟨i3,ER i' hj⟩,if_neg (λz=>FH _ (z▸j1)),if_pos ⟨j1,hj⟩];exact ss (i-1) (j-1) (Nat.sub_le_sub_right i' 1) (dn j1 hj)
 ·by_cases z:1<=ok
  ·rw[Nat.max_eq_left z]at h2;exact hs i j h1 h2
  have:i=j:=by lia
  subst this;exact c_ _
 rintro c db ⟨rfl,W,s1⟩;exact JM (h db W λi j h1 h2=>s1 i j h1 (by lia))
end
theorem uX{l x:Nat}(h:1<=x):l+(x-1)=l+x-1:=(Ie h l).symm
theorem AQ{l k:Nat}(h:l<=k):l+(k-l)=k:=Nat.add_sub_cancel' h
theorem DX{l a:Nat}(h:i<a):l+(l+a)-1-(l+i)=l+(a-1-i):=by lia
theorem AA{l x k:Nat}(h0:l<=k)(h:k<l+x):k-l<x:=Nat.sub_lt_left_of_lt_add h0 h
noncomputable def vB(l0 a0 q0:Nat):StateT Jw Sem (Option Nat):=do
 let mut n:=a0
 for _ in [a0:q0]do
  let some sm <-OM (l0+n) (l0+n-1) | return none
  if sm then break
  n:=n+1
 return some n
def oS(l0 a0 q0:Nat):StateT Jw Sem (Option Nat):=do
 Lo l0 (l0+a0)
 vB l0 a0 q0
def jY(l0 a0 q0:Nat):StateT Jw Sem (Option Nat):=do
 rule "list.sort.descending-run"
 let mut n:=a0+1
 let mut eq:=0
 for _ in [n:q0]do
  let some sm <-OM (l0+n) (l0+n-1) | return none
  if sm then
   if eq > 0 then Lo (l0+n-(eq+1)) (l0+n)
   eq:=0
  else
   let some la <-OM (l0+n-1) (l0+n) | return none
   if la then break
   eq:=eq+1
  n:=n+1
 if eq > 0 then
  Lo (l0+n-(eq+1)) (l0+n)
  oS l0 n q0
 else oS l0 n q0
theorem vL(l0 q0:Nat):Mm l0 q0=(do
 let mut n:=1
 for _ in [1:q0]do
  let some sm <-OM (l0+n) (l0+n-1) | return none
  if sm then break
  n:=n+1
 if n == q0 then return some n
 if n > 1 then
  let some ro <-OM l0 (l0+n-1) | return none
  if ro then return some n
  Lo l0 (l0+n)
  jY l0 n q0
 else jY l0 n q0):=rfl
variable {Q:Option Nat->Jw->Prop}{a0 l0 q0:Nat}
section
variable{M:Lg}{A:Jr}{E:IY->Jc->Prop}{s:Jc}{kd:Lj}{rk:JJ->Nat}{S:JJ->Prop}
theorem cj.snoc (h:cj rk xs lo n)(h1:1<=n)(k:R rk xs (lo+n-1)<=R rk xs (lo+n)):cj rk xs lo (n+1):=λi j i' hj=>by
 by_cases z:j<n
 ·exact h i j i' z
 have e:j=n:=by lia
 subst e;by_cases w:i=j
 ·subst w;exact c_ _
 have:=h i (j-1) (by lia) (by lia);rw[uX h1]at this;exact ER this k
theorem vO(L:l6 M A E s kd rk S)(hk:kindOf st=kd)(hS:iu S st)(hsz:l0+q0<=(Jg st).size)(h1:1<=a0)(h2:a0<=q0)(hs:cj rk (Jg st) l0 a0)
  (h:∀n,a0<=n->n<=q0->cj rk (Jg st) l0 n->Q (some n) st):wpS M A E s (vB l0 a0 q0) Q st:=by
 unfold vB;dsimp only;refine Jv (Lk (Ku (I:=λx c ap=>ap=st/\c=(none,x)/\cj rk (Jg st) l0 x) (Q:=λc ap=>ap=st/\∃n,c=(none,n)/\a0<=n/\n<=q0/\cj rk (Jg st) l0 n) ?_ ?_ ⟨rfl,rfl,hs⟩) ?_)
 ·rintro x c db hx1 hx2 ⟨rfl,rfl,s1⟩;dsimp only;refine Jv (cv L hk hS (by lia) (by lia) ?_);dsimp only;by_cases w:R rk (Jg db) (l0+x)<R rk (Jg db) (l0+x-1)
  ·rw[decide_eq_true w,if_pos rfl];exact JM ⟨rfl,x,rfl,hx1,by lia,s1⟩
  rw[decide_eq_false w,if_neg (by simp)];exact JM ⟨rfl,rfl,s1.snoc (by lia) (by lia)⟩
 ·rintro c db ⟨rfl,rfl,s1⟩;rw[Ge h2]at s1 ⊢;exact⟨rfl,q0,rfl,h2,c_ _,s1⟩
 rintro c db ⟨rfl,n,rfl,g1,g2,g3⟩;exact JM (h n g1 g2 g3)
theorem jS(L:l6 M A E s kd rk S)(hk:kindOf st=kd)(hS:iu S st)(hsz:l0+q0<=(Jg st).size)(h1:1<=a0)(h2:a0<=q0)(hs:qM rk (Jg st) l0 a0)
  (h:∀n ap,a0<=n->n<=q0->Within st ap l0 q0->cj rk (Jg ap) l0 n->Q (some n) ap):wpS M A E s (oS l0 a0 q0) Q st:=by
 unfold oS;refine Jv (vX (rk:=rk) (lo:=l0) (n:=q0) (c_ _) (by lia) (by lia) λdb W1 r1=>?_);refine vO L (W1.kp.k.trans hk) (hS.kp W1.kp) (by rw[W1.kp.size];exact hsz) h1 h2 (λi j i' hj=>?_) λn g1 g2 g3=>h n db g1 g2 W1 g3
 have hi:=Fx i' hj;rw[r1,r1,if_pos ⟨Io ..,G1 hi l0⟩,if_pos ⟨Io ..,G1 hj l0⟩,DX hi,DX hj];exact hs (a0-1-j) (a0-1-i) (Nat.sub_le_sub_left i' _) (Fx (He _ _) (IV h1 IT))
theorem mO{Q:Unit->Jw->Prop}(hl:lo<=i)(hj:j<=lo+n)(hsz:j<=(Jg st).size)(heq:∀k,i<=k->k<j->R rk (Jg st) k=R rk (Jg st) (j-1))(h:∀ap,Within st ap lo n->(∀k,R rk (Jg ap) k=R rk (Jg st) k)->Q () ap):wpS M A E s (Lo i j) Q st:=by
 refine vX (rk:=rk) hl hj hsz λdb W r1=>h db W λk=>?_;rw[r1];split
 ·rename_i z;rw[heq k z.1 z.2,heq (i+j-1-k) (by(clear r1 W h heq hsz hj hl;lia)) (by(clear r1 W h heq hsz hj hl;lia))]
 rfl
theorem qM.snoc (h:qM rk xs lo n)(h1:1<=n)(k:R rk xs (lo+n)<=R rk xs (lo+n-1)):qM rk xs lo (n+1):=λi j i' hj=>by
 by_cases z:j<n
 ·exact h i j i' z
 have e:j=n:=by lia
 subst e;by_cases w:i=j
 ·subst w;exact c_ _
 have:=h i (j-1) (by lia) (by lia);rw[show lo+(j-1)=lo+j-1 by lia]at this;exact ER k this
theorem nE(L:l6 M A E s kd rk S)(hk:kindOf st=kd)(hS:iu S st)(hsz:l0+q0<=(Jg st).size)(h2:a0+1<=q0)(hs:qM rk (Jg st) l0 (a0+1))(hr:∀x,Jf M A (rule x) (λ_ s'=>s'=s) E s)
  (h:∀n ap,1<=n->n<=q0->Within st ap l0 q0->cj rk (Jg ap) l0 n->Q (some n) ap):wpS M A E s (jY l0 a0 q0) Q st:=by
 unfold jY;refine Jv (Ot (Js (hr _) (λ_ _ z=>⟨z,?_⟩) λ_ _ z=>z));dsimp only;refine Jv (Lk (Ku (I:=λx c ap=>∃eq,c=(none,x,eq)/\Within st ap l0 q0/\qM rk (Jg ap) l0 x/\eq+1<=x/\∀k,x-1-eq<=k->k<x->R rk (Jg ap) (l0+k)=R rk (Jg ap) (l0+(x-1)))
  (Q:=λc ap=>∃n eq,c=(none,n,eq)/\a0+1<=n/\n<=q0/\Within st ap l0 q0/\qM rk (Jg ap) l0 n/\eq+1<=n/\∀k,n-1-eq<=k->k<n->R rk (Jg ap) (l0+k)=R rk (Jg ap) (l0+(n-1))) ?_ ?_ ⟨0,rfl,.ck,hs,by lia,λk h1 h2=>by rw[show k=a0+1-1 by lia]⟩) ?_)
 ·rintro x c db hx1 hx2 ⟨eq,rfl,W,d1,e1,ev⟩;dsimp only;have hk1:=W.kp.k.trans hk;have hS1:=hS.kp W.kp;have sz1:=W.kp.size;have x1:1<=x:=ER (Iu 1 eq) e1;have b1:l0+x<(Jg db).size:=by lia
  have b2:l0+x-1<(Jg db).size:=Fx (He ..) b1;refine Jv (cv L hk1 hS1 b1 b2 ?_);dsimp only;by_cases w:R rk (Jg db) (l0+x)<R rk (Jg db) (l0+x-1)
  ·rw[decide_eq_true w,if_pos rfl];have fin:∀dL,Within st dL l0 q0->(∀k,R rk (Jg dL) k=R rk (Jg db) k)->∃eq',((none,x+1,0):Option (Option Nat)×Nat×Nat)=(none,x+1,eq')/\Within st dL l0 q0/\qM rk (Jg dL) l0 (x+1)/\eq'+1<=x+1/\∀k,x+1-1-eq'<=k->k<x+1->R rk (Jg dL) (l0+k)=R rk (Jg dL) (l0+(x+1-1)):=λdL W2 r2=>by refine⟨0,rfl,W2,λi j i' hj=>?_,by lia,λk h1 h2=>by rw[show k=x+1-1 by lia]⟩;rw[r2,r2];exact d1.snoc x1 (Fc w) i j i' hj
   by_cases z:eq > 0
   ·rw[if_pos z];refine Jv (mO (rk:=rk) (lo:=l0) (n:=q0) (by lia) (by lia) (by lia) (λk h1 h2=>?_) λdL W2 r2=>JM (fin dL (W.trans W2) r2));have k0:l0<=k:=by lia
    have:=ev (k-l0) (by lia) (AA k0 h2);rw[AQ k0,uX x1]at this;exact this
   rw[if_neg z];exact JM (fin db W λ_=>rfl)
  rw[decide_eq_false w,if_neg (by simp)];refine Jv (cv L hk1 hS1 b2 b1 ?_);dsimp only;by_cases v:R rk (Jg db) (l0+x-1)<R rk (Jg db) (l0+x)
  ·rw[decide_eq_true v,if_pos rfl];exact JM ⟨x,eq,rfl,hx1,by lia,W,d1,e1,ev⟩
  rw[decide_eq_false v,if_neg (by simp)];have ee:R rk (Jg db) (l0+x)=R rk (Jg db) (l0+x-1):=Gp (Fj v) (Fj w);refine JM ⟨eq+1,rfl,W,d1.snoc x1 (Hh ee),by lia,λk h1 h2=>?_⟩;rw[show l0+(x+1-1)=l0+x by lia];by_cases y:k=x
  ·rw[y]
  have:=ev k (by lia) (by lia);rw[uX x1]at this;exact this.trans ee.symm
 ·rintro c db ⟨eq,rfl,W,d1,e1,ev⟩;rw[Ge h2]at d1 e1 ev ⊢;exact⟨q0,eq,rfl,h2,c_ _,W,d1,e1,ev⟩
 rintro c db ⟨n,eq,rfl,g1,g2,W,d1,e1,ev⟩;have sz1:=W.kp.size;dsimp only;by_cases z:eq > 0
 ·rw[if_pos z];refine Jv (mO (rk:=rk) (lo:=l0) (n:=q0) (by lia) (by lia) (by lia) (λk h1 h2=>?_) λdL W2 r2=>?_)
  ·have k0:l0<=k:=by lia
   have:=ev (k-l0) (by lia) (AA k0 h2);rw[AQ k0,uX (ER (Iu 1 eq) e1)]at this;exact this
  refine jS L ((W.trans W2).kp.k.trans hk) (hS.kp (W.trans W2).kp) (by rw[(W.trans W2).kp.size];exact hsz) (by lia) g2 (λi j i' hj=>by rw[r2,r2];exact d1 i j i' hj) λm f8 k1 k2 W3 s3=>h m f8 (by lia) k2 ((W.trans W2).trans W3) s3
 rw[if_neg z];exact jS L (W.kp.k.trans hk) (hS.kp W.kp) (by rw[sz1];exact hsz) (by lia) g2 d1 λm f8 k1 k2 W3 s3=>h m f8 (by lia) k2 (W.trans W3) s3
theorem qE(L:l6 M A E s kd rk S)(hk:kindOf st=kd)(hS:iu S st)(hsz:l0+q0<=(Jg st).size)(h1:1<=q0)(hr:∀x,Jf M A (rule x) (λ_ s'=>s'=s) E s)
  (h:∀n ap,1<=n->n<=q0->Within st ap l0 q0->cj rk (Jg ap) l0 n->Q (some n) ap):wpS M A E s (Mm l0 q0) Q st:=by
 rw[vL];dsimp only;refine Jv (Lk (Ku (I:=λx c ap=>ap=st/\c=(none,x)/\cj rk (Jg st) l0 x) (Q:=λc ap=>ap=st/\∃n,c=(none,n)/\1<=n/\n<=q0/\cj rk (Jg st) l0 n/\(n=q0\/R rk (Jg st) (l0+n)<R rk (Jg st) (l0+n-1))) ?_ ?_ ⟨rfl,rfl,λi j h1 h2=>by rw[show i=j by lia];exact c_ _⟩) ?_)
 ·rintro x c db hx1 hx2 ⟨rfl,rfl,s1⟩;dsimp only;refine Jv (cv L hk hS (by lia) (by lia) ?_);dsimp only;by_cases w:R rk (Jg db) (l0+x)<R rk (Jg db) (l0+x-1)
  ·rw[decide_eq_true w,if_pos rfl];exact JM ⟨rfl,x,rfl,hx1,by lia,s1,.inr w⟩
  rw[decide_eq_false w,if_neg (by simp)];exact JM ⟨rfl,rfl,s1.snoc (by(clear w s1 h hsz hS hk hx2 hr h1 L;omega)) (by lia)⟩
 ·rintro c db ⟨rfl,rfl,s1⟩;rw[Ge h1]at s1 ⊢;exact⟨rfl,q0,rfl,h1,c_ _,s1,.inl rfl⟩
 rintro c db ⟨rfl,n,rfl,g1,g2,g3,g4⟩;dsimp only;by_cases e:n=q0
 ·rw[if_pos (by rw[e];exact beq_self_eq_true _)];exact JM (h n db g1 g2 .ck g3)
 rw[if_neg (by simpa using e)];have lt:=g4.resolve_left e;by_cases z:n > 1
 ·rw[if_pos z];refine Jv (cv L hk hS (by lia) (by(clear lt e g4 g3 g1 h hS hk hr h1 L;lia)) ?_);dsimp only;by_cases w:R rk (Jg db) l0<R rk (Jg db) (l0+n-1)
  ·rw[decide_eq_true w,if_pos rfl];exact JM (h n db g1 g2 .ck g3)
  rw[decide_eq_false w,if_neg (by simp)];have all:∀k,l0<=k->k<l0+n->R rk (Jg db) k=R rk (Jg db) (l0+n-1):=λk h1 h2=>by have kn:=AA h1 h2;have a:=g3 0 (k-l0) (ES _) kn;have b:=g3 (k-l0) (n-1) (GV kn) (IV g1 IT);rw[AQ h1]at a b;rw[uX g1]at b;rw[IK]at a;exact Gp b (ER (Fj w) a)
  refine Jv (mO (rk:=rk) (lo:=l0) (n:=q0) (c_ _) (by(clear all w z lt e g4 g3 g1 h hsz hS hk hr h1 L;lia)) (by(clear all w z lt e g4 g3 g1 h hS hk hr h1 L;lia)) all λdL W2 r2=>?_);refine nE L (W2.kp.k.trans hk) (hS.kp W2.kp) (by rw[W2.kp.size];exact hsz) (by lia) (λi j i' hj=>?_) hr λm f8 k1 k2 W3 s3=>h m f8 k1 k2 (W2.trans W3) s3
  rw[r2,r2];by_cases y:j<n
  ·rw[all (l0+i) (by lia) (by lia),all (l0+j) (by lia) (by(clear hj i' r2 W2 all w z lt e g4 g3 g2 g1 h hsz hS hk hr h1 L;lia))];exact c_ _
  rw[show j=n by lia];by_cases y2:i<n
  ·rw[all (l0+i) (by lia) (by(clear y hj i' r2 W2 all w z lt e g4 g3 g2 g1 h hsz hS hk hr h1 L;lia))];exact Fc lt
  rw[show i=n by(clear y r2 W2 all w z lt e g4 g3 g2 g1 h hsz hS hk hr h1 L;lia)];exact c_ _
 rw[if_neg z];have n1:n=1:=by lia
 subst n1;refine nE L hk hS hsz (by lia) (λi j i' hj=>?_) hr λm f8 k1 k2 W3 s3=>h m f8 k1 k2 W3 s3
 by_cases y:i=j
 ·rw[y];exact c_ _
 rw[show i=0 by lia,show j=1 by lia];exact Fc lt
end
section
variable{rk:JJ->Nat}
theorem A7{p:JJ}(h:xs.toList[i]?=some p):R rk xs i=rk p:=by unfold R;rw[<-v_,h]
theorem xh(h:cj rk xs lo n):Srt rk ((xs.toList.drop lo).take n):=by
 refine FT.mpr λi j hi hj i'=>?_;have hj':j<n:=by rw[Fd]at hj;lia
 have ei:=d_ hi;have ej:=d_ hj;rw[List.getElem?_take,if_pos (by lia),List.getElem?_drop]at ei ej;have:=h i j (by lia) hj';rw[A7 ei,A7 ej]at this;exact this
end
abbrev CS:=Option Unit×Unit
abbrev LS:=Option Unit×Nat
noncomputable def sV(w0:Nat):StateT Jw Sem (ForInStep CS):=do
 let g <-get
 match(if(JL g).size > 1 then(JL g)[(JL g).size-2]? else none)with
 |some (_,_,old)=>
  if old<=w0 then pure (Kr (none,()))
  else do
   let b <-mergeAt' ((JL g).size-2)
   if(!b)=true then pure (Kr (some (),()))else pure (Kb (none,()))
 | _=>pure (Kr (none,()))
noncomputable def pb(q0 n:Nat):StateT Jw Sem (ForInStep LS):=do
 modify λz=>setPending z ((JL z).push (q0,n,0))
 pure (Kb (none,q0+n))
def tl(sz q0 n:Nat):StateT Jw Sem (ForInStep LS):=do
 let g <-get
 match(JL g).back? with
 |some (s1,n1,_)=>do
  let c <-forIn [0:sz] ((none,()):CS) λ_ _=>sV (power' sz (2*s1+n1) (2*s1+n1+n1+n) sz)
  match c.1 with
  |some r=>pure (Kr (some r,q0))
  |none=>do
   modify λz=>setPending z ((JL z).modify ((JL z).size-1) λx=>(x.1,x.2.1,power' sz (2*s1+n1) (2*s1+n1+n1+n) sz))
   pb q0 n
 | _=>pb q0 n
def jk(sz q0:Nat):StateT Jw Sem (ForInStep LS):=
 if q0>=sz then pure (Kr (none,q0))else do
  let f <-Mm q0 (sz-q0)
  match f with
  |some n=>
   if n<Nn sz sz 0 then do
    rule "list.sort.binary-insertion"
    let b <-Qo q0 (min (sz-q0) (Nn sz sz 0)) n
    if(!b)=true then pure (Kr (some (),q0))else tl sz q0 (min (sz-q0) (Nn sz sz 0))
   else tl sz q0 n
  | _=>pure (Kr (some (),q0))
noncomputable def pick(ps:Array (Nat×Nat×Nat)):Nat:=
 if Option.any (λx=>decide (x<ps[ps.size-2+1]?.elim 0 λy=>y.2.1)) (if ps.size-2 > 0 then Gf (λy=>y.2.1) ps[ps.size-2-1]? else none)=true then ps.size-2-1 else ps.size-2
def tH:StateT Jw Sem (ForInStep CS):=do
 let g <-get
 if(JL g).size<=1 then pure (Kr (none,()))
 else do
  let b <-mergeAt' (pick (JL g))
  if(!b)=true then pure (Kr (some (),()))else pure (Kb (none,()))
theorem DK:sortRuns'=(do
 let g <-get
 let c <-forIn [0:(Jg g).size] ((none,0):LS) λ_ c=>jk (Jg g).size c.2
 match c.1 with
 |some r=>pure r
 |none=>do
  let d <-forIn [0:(Jg g).size] ((none,()):CS) λ_ _=>tH
  match d.1 with
  |some r=>pure r
  |none=>pure ()):=by
 rw[sortRuns'_eq];dsimp only;refine congrArg (bind get) (funext λg=>?_);refine congr (congrArg bind ?_) (funext λc=>?_)
 ·refine congrArg (forIn _ _) (funext λ_=>funext λc=>?_);unfold jk;refine ite_congr rfl (λ_=>rfl) (λ_=>?_);refine congrArg (bind _) (funext λf=>?_);cases f with
  |none=>rfl
  |some n=>
   dsimp only;refine ite_congr rfl (λ_=>congrArg (bind _) (funext λ_=>congrArg (bind _) (funext λb=>ite_congr rfl (λ_=>rfl) (λ_=>?_)))) (λ_=>?_)
   all_goals
    unfold tl;refine congrArg (bind _) (funext λg=>?_);generalize (JL g).back?=bk;rcases bk with _|⟨s1,n1,z⟩
    ·rfl
    dsimp only;refine congr (congrArg bind ?_) (funext λc=>?_)
    ·refine congrArg (forIn _ _) (funext λ_=>funext λc=>?_);unfold sV;refine congrArg (bind _) (funext λg=>?_);generalize (if(JL g).size > 1 then(JL g)[(JL g).size-2]? else none)=o;rcases o with _|⟨_,_,_⟩ <;> rfl
    rcases c with⟨_ | _,_⟩ <;> rfl
 rcases c with⟨_ | _,_⟩
 ·dsimp only;refine congr (congrArg bind ?_) (funext λc=>?_)
  ·rfl
  rcases c with⟨_ | _,_⟩ <;> rfl
 rfl
section
variable{κ:Type}{lt:κ->κ->Bool}
noncomputable def rnk(lt:κ->κ->Bool)(ks:List κ)(k:κ):Nat:=ks.countP λy=>lt y k
theorem count_le{p q:κ->Bool}:∀{l:List κ},(∀x∈l,p x=true->q x=true)->l.countP p<=l.countP q
 | [],_=>c_ _
 |x::t,h=>by
  have ih:=count_le (l:=t) λy hy=>h y (.tail _ hy);have hx:=h x (.head _);rw[GH,GH];cases e:p x
  ·rw[if_neg (by simp)];lia
  rw[hx e,if_pos rfl];lia
theorem qJ{p q:κ->Bool}:∀{l:List κ}{z:κ},(∀x∈l,p x=true->q x=true)->z∈l->p z=false->q z=true->l.countP p<l.countP q
 |x::t,z,h,hz,h1,h2=>by
  have ih:=count_le (l:=t) λy hy=>h y (.tail _ hy);have hx:=h x (.head _);rw[GH,GH];rcases k_.mp hz with e|e
  ·subst e;rw[h1,h2,if_neg (by simp),if_pos rfl];lia
  have:=qJ (l:=t) (λy hy=>h y (.tail _ hy)) e h1 h2;cases e:p x
  ·rw[if_neg (by simp)];lia
  rw[hx e,if_pos rfl];lia
structure Tot (lt:κ->κ->Bool):Prop where
 irr:∀a,lt a a=false
 tr:∀a b c,lt a b=true->lt b c=true->lt a c=true
 tot:∀a b,lt a b=false->lt b a=false->a=b
theorem AU(T:Tot lt){ks:List κ}{a b:κ}(h:lt b a=false):rnk lt ks a<=rnk lt ks b:=by
 refine count_le λy _ hy=>?_;cases e:lt a b
 ·rw[<-T.tot a b e h];exact hy
 exact T.tr _ _ _ hy e
theorem xT(T:Tot lt){ks:List κ}{a b:κ}(ha:a∈ks)(h:lt a b=true):rnk lt ks a<rnk lt ks b:=qJ (λy _ hy=>T.tr _ _ _ hy h) ha (T.irr a) h
theorem yA(T:Tot lt){ks:List κ}{a b:κ}(ha:a∈ks):decide (rnk lt ks a<rnk lt ks b)=lt a b:=by
 cases e:lt a b
 ·exact decide_eq_false (HH.mpr (AU T e))
 exact decide_eq_true (xT T ha e)
end
noncomputable def qO:IY->Int
 | .int i _=>i
 | _=>0
section
variable{prog:Ji}{w:Jm}{A:Jr}{E:IY->Jc->Prop}{s:Jc}
theorem gx(vs:List IY):(vs.toArray.zip vs.toArray).toList=vs.map λv=>(v,v):=by
 rw[Array.toList_zip];induction vs with
 |nil=>rfl
 |cons v r ih=>exact congrArg ((v,v)::·) ih
end
theorem sJ:∀(f n r:Nat),Nn f n r<=n+r
 |0,n,r=>c_ _
 |f+1,n,r=>by
  rw[P7];split
  ·exact c_ _
  have:=sJ f (n/2) (max r (n%2));lia
section
variable{M:Lg}{A:Jr}{E:IY->Jc->Prop}{s:Jc}{kd:Lj}{rk:JJ->Nat}{S:JJ->Prop}
theorem oI(L:l6 M A E s kd rk S)(hk:kindOf st=kd)(hS:iu S st)(hsz:l0+q0<=(Jg st).size)(h1:1<=q0)(o:cj rk (Jg st) l0 q0)(h:Q (some q0) st):wpS M A E s (Mm l0 q0) Q st:=by
 rw[vL];dsimp only;refine Jv (Lk (Ku (I:=λx c ap=>ap=st/\c=(none,x)) (Q:=λc ap=>ap=st/\c=(none,q0)) ?_ ?_ ⟨rfl,rfl⟩) ?_)
 ·rintro x c db hx1 hx2 ⟨rfl,rfl⟩;dsimp only;refine Jv (cv L hk hS (by lia) (by lia) ?_);dsimp only;have:=o (x-1) x (He ..) hx2;rw[uX hx1]at this;rw[decide_eq_false (HH.mpr this),if_neg (by simp)];exact JM ⟨rfl,rfl⟩
 ·rintro c db ⟨rfl,rfl⟩;rw[Ge h1];exact⟨rfl,rfl⟩
 rintro c db ⟨rfl,rfl⟩;dsimp only;rw[if_pos (beq_self_eq_true _)];exact JM h
end
end ZS
namespace L2
open PySem PySem.Spec PyProof.Rows
variable {us:List IY}{xs:List V}
section
variable{X:Cx}
theorem v5(h:Vals xs us):∀n,Vals (xs.take n) (us.take n):=by
 induction h with
 |nil=>intro n;rw[IC,IC];exact .nil
 |cons r _ ih=>
  intro n;cases n with
  |zero=>exact .nil
  |succ n=>exact .cons r (ih n)
theorem ur(h:Vals xs us):∀n,Vals (xs.drop n) (us.drop n):=by
 induction h with
 |nil=>intro n;rw[ID,ID];exact .nil
 |cons r t ih=>
  intro n;cases n with
  |zero=>exact .cons r t
  |succ n=>exact ih n
theorem xC{a:List V}{b:List IY}{c:List V}{d:List IY}(p:Vals a b)(q:Vals c d):Vals (a++c) (b++d):=by
 induction p with
 |nil=>exact q
 |cons r _ ih=>exact .cons r ih
theorem sG:MtM X "list.insert" (λx vs H Q=>∃l xs i y,x=.ref l/\vs=[.int i,y]/\H l=some (.lst xs)/\0<=i/\i<=(xs.length:Int)/\xs.length<2 ^ 20/\∀H',Put H l (.lst (xs.take i.toNat++y::xs.drop i.toNat)) H'->Q .non H'):=by
 intro ac s σ H x vs v us Q I rx rv h;obtain⟨l,xs,i,y,rfl,rfl,hH,h0,h1,hz,q⟩:=h;cases rx;cases rv with
 |cons r1 rr=>
  cases rr with
  |cons r2 rr=>
   cases rr;obtain⟨t,rfl⟩:=r1;rename_i uy;obtain⟨z,bd,n,r,hl,e⟩:=I.yK hH;have hlen:=r.length;refine MI F.slot_list_insert ⟨_,e,rfl⟩ F.entry_list_insert (F.args_list_insert_3 _ _ _) (N6 l bd.toArray n i t uy ?_ (by rw[h_];lia)) ⟨e,?_⟩
   ·unfold Mv;simp;lia
   refine⟨.non,_,I.BZ (its':=bd.take i.toNat++uy::bd.drop i.toNat) hH e ?_ (xC (v5 r _) (.cons r2 (ur r _))) ?_,rfl,q _ Put.up⟩
   ·have ek:(if i<0 then(i+(bd.toArray.size:Int)).toNat else min i.toNat bd.toArray.size)=i.toNat:=by rw[if_neg (by lia),h_];lia
    show((bd.toArray.extract 0 (if i<0 then(i+(bd.toArray.size:Int)).toNat else min i.toNat bd.toArray.size)).push uy++bd.toArray.extract (if i<0 then(i+(bd.toArray.size:Int)).toNat else min i.toNat bd.toArray.size))=_;rw[ek];apply Array.ext';simp[List.extract_eq_drop_take,HB]
   rw[j_,g_,Fd,Fi];show _<=2 ^ 24;lia
end
end L2
namespace PL
open PySem L2
inductive T where
 |any|hole (w:V)|bare|kp (G:Hp)
 |non|bl (b:Bool)|int (i:Int)|str (x:Str)|ty (n:String)
 |tup (ts:List T)|cst (ts:List T)
 |lst (o:Bool) (ts:List T)
 |dK (o:Bool) (am:List (Key×T))
 |dT (o:Bool) (am:List (List Key×T))
mutual
noncomputable def er:T->T
 | .tup ts=>.tup (erL ts)
 | .cst ts=>.cst (erL ts)
 | .lst _ ts=>.lst false (erL ts)
 | .dK _ am=>.dK false (erK am)
 | .dT _ am=>.dT false (erT am)
 | .bare=>.any
 |t=>t
noncomputable def erL:List T->List T
 | []=>[]
 |t::r=>er t::erL r
noncomputable def erK:List (Key×T)->List (Key×T)
 | []=>[]
 | (k,t)::r=>(k,er t)::erK r
noncomputable def erT:List (List Key×T)->List (List Key×T)
 | []=>[]
 | (k,t)::r=>(k,er t)::erT r
end
mutual
noncomputable def aD:T->Bool
 | .tup ts=>aT ts
 | .cst ts=>aT ts
 | .lst o ts=>!o&&aT ts
 | .dK o am=>!o&&jE am
 | .dT o am=>!o&&kB am
 | .bare=>false
 | _=>true
noncomputable def aT:List T->Bool
 | []=>true
 |t::r=>aD t&&aT r
noncomputable def jE:List (Key×T)->Bool
 | []=>true
 | (_,t)::r=>aD t&&jE r
noncomputable def kB:List (List Key×T)->Bool
 | []=>true
 | (_,t)::r=>aD t&&kB r
end
mutual
noncomputable def b7:T->Bool
 | .tup ts=>b6 ts
 | .cst ts=>b6 ts
 | .lst o ts=>o&&b6 ts
 | .dK o am=>o&&mB am
 | .dT o am=>o&&jc am
 | .kp _=>false
 | _=>true
noncomputable def b6:List T->Bool
 | []=>true
 |t::r=>b7 t&&b6 r
noncomputable def mB:List (Key×T)->Bool
 | []=>true
 | (_,t)::r=>b7 t&&mB r
noncomputable def jc:List (List Key×T)->Bool
 | []=>true
 | (_,t)::r=>b7 t&&jc r
end
theorem aP{α:Type}(g:α->T):∀l:List α,erL (l.map g)=l.map λx=>er (g x)
 | []=>rfl
 |x::r=>by rw[f',erL,aP g r,f']
theorem m8:∀l:List T,erL l=l.map er
 | []=>rfl
 |x::r=>by rw[erL,m8 r,f']
theorem lh(l:List T):(erL l).length=l.length:=by rw[m8,a_]
theorem eE(l m:List T):erL (l++m)=erL l++erL m:=by rw[m8,m8,m8,x_]
theorem lX:∀l:List T,aT l=l.all aD
 | []=>rfl
 |x::r=>by rw[aT,lX r,lf]
theorem nX:∀l:List T,b6 l=l.all b7
 | []=>rfl
 |x::r=>by rw[b6,nX r,lf]
mutual
theorem aG:∀t:T,aD (er t)=true
 | .tup ts=>by rw[er,aD,gE ts]
 | .cst ts=>by rw[er,aD,gE ts]
 | .lst _ ts=>by rw[er,aD,gE ts];rfl
 | .dK _ ts=>by rw[er,aD,nC ts];rfl
 | .dT _ ts=>by rw[er,aD,nV ts];rfl
 | .bare=>rfl
 | .any=>rfl
 | .hole _=>rfl
 | .kp _=>rfl
 | .non=>rfl
 | .bl _=>rfl
 | .int _=>rfl
 | .str _=>rfl
 | .ty _=>rfl
theorem gE:∀t:List T,aT (erL t)=true
 | []=>rfl
 |t::r=>by rw[erL,aT,aG t,gE r];rfl
theorem nC:∀t:List (Key×T),jE (erK t)=true
 | []=>rfl
 | (_,t)::r=>by rw[erK,jE,aG t,nC r];rfl
theorem nV:∀t:List (List Key×T),kB (erT t)=true
 | []=>rfl
 | (_,t)::r=>by rw[erT,kB,aG t,nV r];rfl
end
def Gr(G H:Hp):Prop:=∀b u,Rd G b u->Rd H b u
variable {H:Hp}
theorem Gr.ck :Gr H H:=λ_ _ h=>h
variable {G:Hp}
theorem Gr.trans {J:Hp}(a:Gr G H)(b:Gr H J):Gr G J:=λc u h=>b c u (a c u h)
theorem Gr.of (h:aJ G H):Gr G H:=λb u r=>by
 rcases r with r|⟨o,r⟩
 ·exact .inl (h _ _ r)
 exact .inr ⟨o,h _ _ r⟩
theorem Rd.some {H:Hp}{a:I_}{u:HO}(h:Rd H a u):∃w,H a=some w:=by
 rcases h with h|⟨o,h⟩
 ·exact⟨_,h⟩
 exact⟨_,h⟩
theorem Gr.none {G H:Hp}(h:Gr G H){a:I_}(e:H a=none):G a=none:=by
 cases q:G a with
 |none=>rfl
 |some u=>
  obtain⟨w,z⟩:=Rd.some (h a u (.inl q));rw[e]at z;cases z
noncomputable def TK(H H':Hp):Prop:=∀b xs,H b=some (.tup xs)->H' b=some (.tup xs)
theorem aJ.tk (h:aJ G H):TK G H:=λb xs r=>h _ _ r
variable {H':Hp}{a:I_}
theorem Put.tk {o:HO}(p:Put H a o H')(ht:∀xs,H a≠some (.tup xs)):TK H H':=λb xs r=>by have hb:b≠a:=λz=>ht xs (z▸r);rw[p.else_ b hb];exact r
section
variable(K:Ja)(Hz H:Hp)
mutual
inductive RepT:T->V->List I_->Prop
 |any {v:V}:RepT .any v []
 |hole {w:V}:RepT (.hole w) w []
 |bare {a:I_}{u:HO} (h:H a=some u) (ht:∀xs,H a≠some (.tup xs)):RepT .bare (.ref a) [a]
 |kp {G:Hp}{v:V} (h:Gr G Hz):RepT (.kp G) v []
 |non:RepT .non .non []
 |bl {b:Bool}:RepT (.bl b) (.bl b) []
 |int {i:Int}:RepT (.int i) (.int i) []
 |str {x:Str}:RepT (.str x) (.str x) []
 |ty {n:String}:RepT (.ty n) (.ty n) []
 |tup {a:I_}{ts:List T}{vs:List V}{L:List I_} (h:H a=some (.tup vs)) (c:RepTs ts vs L):RepT (.tup ts) (.ref a) L
 |cst {a:I_}{ts:List T}{vs:List V} (h:SqT K (λ_=>none) a vs) (c:RepTs ts vs []):RepT (.cst ts) (.ref a) []
 |lstO {a:I_}{ts:List T}{vs:List V}{L:List I_} (h:H a=some (.lst vs)) (c:RepTs ts vs L):RepT (.lst true ts) (.ref a) (a::L)
 |lstZ {a:I_}{ts:List T}{vs:List V} (h:Rd Hz a (.lst vs)) (c:RepTs ts vs []):RepT (.lst false ts) (.ref a) []
 |dKO {a:I_}{ts:List (Key×T)}{vs:List (Key×V)}{L:List I_} (h:H a=some (.dK vs)) (c:RepKs ts vs L):RepT (.dK true ts) (.ref a) (a::L)
 |dKZ {a:I_}{ts:List (Key×T)}{vs:List (Key×V)} (h:Rd Hz a (.dK vs)) (c:RepKs ts vs []):RepT (.dK false ts) (.ref a) []
 |dTO {a:I_}{ts:List (List Key×T)}{vs:List (List Key×V)}{L:List I_} (h:H a=some (.dT vs)) (c:RepXs ts vs L):RepT (.dT true ts) (.ref a) (a::L)
 |dTZ {a:I_}{ts:List (List Key×T)}{vs:List (List Key×V)} (h:Rd Hz a (.dT vs)) (c:RepXs ts vs []):RepT (.dT false ts) (.ref a) []
inductive RepTs:List T->List V->List I_->Prop
 |nil:RepTs [] [] []
 |cons {t:T}{v:V}{L M N:List I_}{ts:List T}{vs:List V} (e:N=L++M) (h:RepT t v L) (c:RepTs ts vs M):RepTs (t::ts) (v::vs) N
inductive RepKs:List (Key×T)->List (Key×V)->List I_->Prop
 |nil:RepKs [] [] []
 |cons {k:Key}{t:T}{v:V}{L M N:List I_}{ts:List (Key×T)}{vs:List (Key×V)} (e:N=L++M) (h:RepT t v L) (c:RepKs ts vs M):RepKs ((k,t)::ts) ((k,v)::vs) N
inductive RepXs:List (List Key×T)->List (List Key×V)->List I_->Prop
 |nil:RepXs [] [] []
 |cons {k:List Key}{t:T}{v:V}{L M N:List I_}{ts:List (List Key×T)}{vs:List (List Key×V)} (e:N=L++M) (h:RepT t v L) (c:RepXs ts vs M):RepXs ((k,t)::ts) ((k,v)::vs) N
end
end
variable {Hz Hz' Z:Hp}{L M:List I_}{p:I_}{t:T}{ts:List T}{u:HO}{v:V}{vs xs:List V}{x:Option V}{α:Type}
section
variable{K:Ja}
theorem gM{P:T->V->List I_->Prop}{Ps:List T->List V->List I_->Prop}{Pk:List (Key×T)->List (Key×V)->List I_->Prop}{Px:List (List Key×T)->List (List Key×V)->List I_->Prop}
  (c1:∀{v},P .any v []) (c2:∀{w},P (.hole w) w []) (c3:∀{a u},H a=some u->(∀xs,H a≠some (.tup xs))->P .bare (.ref a) [a]) (c4:∀{G v},Gr G Hz->P (.kp G) v [])
  (c5:P .non .non []) (c6:∀{b},P (.bl b) (.bl b) []) (c7:∀{i},P (.int i) (.int i) []) (c8:∀{x},P (.str x) (.str x) []) (c9:∀{n},P (.ty n) (.ty n) [])
  (c10:∀{a ts vs L},H a=some (.tup vs)->Ps ts vs L->P (.tup ts) (.ref a) L) (c11:∀{a ts vs},SqT K (λ_=>none) a vs->Ps ts vs []->P (.cst ts) (.ref a) [])
  (c12:∀{a ts vs L},H a=some (.lst vs)->Ps ts vs L->P (.lst true ts) (.ref a) (a::L)) (c13:∀{a ts vs},Rd Hz a (.lst vs)->Ps ts vs []->P (.lst false ts) (.ref a) [])
  (c14:∀{a ts vs L},H a=some (.dK vs)->Pk ts vs L->P (.dK true ts) (.ref a) (a::L)) (c15:∀{a ts vs},Rd Hz a (.dK vs)->Pk ts vs []->P (.dK false ts) (.ref a) [])
  (c16:∀{a ts vs L},H a=some (.dT vs)->Px ts vs L->P (.dT true ts) (.ref a) (a::L)) (c17:∀{a ts vs},Rd Hz a (.dT vs)->Px ts vs []->P (.dT false ts) (.ref a) [])
  (s0:Ps [] [] []) (s1:∀{t v L M ts vs},P t v L->Ps ts vs M->Ps (t::ts) (v::vs) (L++M))
  (k0:Pk [] [] []) (k1:∀{k t v L M ts vs},P t v L->Pk ts vs M->Pk ((k,t)::ts) ((k,v)::vs) (L++M))
  (x0:Px [] [] []) (x1:∀{k t v L M ts vs},P t v L->Px ts vs M->Px ((k,t)::ts) ((k,v)::vs) (L++M)) :
  (∀{t v L},RepT K Hz H t v L->P t v L)/\(∀{t v L},RepTs K Hz H t v L->Ps t v L)/\(∀{t v L},RepKs K Hz H t v L->Pk t v L)/\(∀{t v L},RepXs K Hz H t v L->Px t v L):=by
 have m1:∀{t v L},RepT K Hz H t v L->P t v L:=λh=>RepT.rec (motive_1:=λt v L _=>P t v L) (motive_2:=λt v L _=>Ps t v L) (motive_3:=λt v L _=>Pk t v L) (motive_4:=λt v L _=>Px t v L)
  c1 c2 c3 c4 c5 c6 c7 c8 c9 (λh _ i=>c10 h i) (λh _ i=>c11 h i) (λh _ i=>c12 h i) (λh _ i=>c13 h i) (λh _ i=>c14 h i) (λh _ i=>c15 h i) (λh _ i=>c16 h i) (λh _ i=>c17 h i)
  s0 (λe _ _ i j=>e▸s1 i j) k0 (λe _ _ i j=>e▸k1 i j) x0 (λe _ _ i j=>e▸x1 i j) h
 refine⟨m1,λh=>?_,λh=>?_,λh=>?_⟩
 ·exact RepTs.rec (motive_1:=λt v L _=>True) (motive_2:=λt v L _=>Ps t v L) (motive_3:=λt v L _=>True) (motive_4:=λt v L _=>True)
   trivial trivial (λ_ _=>trivial) (λ_=>trivial) trivial trivial trivial trivial trivial (λ_ _ _=>trivial) (λ_ _ _=>trivial) (λ_ _ _=>trivial) (λ_ _ _=>trivial) (λ_ _ _=>trivial) (λ_ _ _=>trivial) (λ_ _ _=>trivial) (λ_ _ _=>trivial)
   s0 (λe h _ _ j=>e▸s1 (m1 h) j) trivial (λ_ _ _ _ _=>trivial) trivial (λ_ _ _ _ _=>trivial) h
 ·exact RepKs.rec (motive_1:=λt v L _=>True) (motive_2:=λt v L _=>True) (motive_3:=λt v L _=>Pk t v L) (motive_4:=λt v L _=>True)
   trivial trivial (λ_ _=>trivial) (λ_=>trivial) trivial trivial trivial trivial trivial (λ_ _ _=>trivial) (λ_ _ _=>trivial) (λ_ _ _=>trivial) (λ_ _ _=>trivial) (λ_ _ _=>trivial) (λ_ _ _=>trivial) (λ_ _ _=>trivial) (λ_ _ _=>trivial)
   trivial (λ_ _ _ _ _=>trivial) k0 (λe h _ _ j=>e▸k1 (m1 h) j) trivial (λ_ _ _ _ _=>trivial) h
 exact RepXs.rec (motive_1:=λt v L _=>True) (motive_2:=λt v L _=>True) (motive_3:=λt v L _=>True) (motive_4:=λt v L _=>Px t v L)
  trivial trivial (λ_ _=>trivial) (λ_=>trivial) trivial trivial trivial trivial trivial (λ_ _ _=>trivial) (λ_ _ _=>trivial) (λ_ _ _=>trivial) (λ_ _ _=>trivial) (λ_ _ _=>trivial) (λ_ _ _=>trivial) (λ_ _ _=>trivial) (λ_ _ _=>trivial)
  trivial (λ_ _ _ _ _=>trivial) trivial (λ_ _ _ _ _=>trivial) x0 (λe h _ _ j=>e▸x1 (m1 h) j) h
noncomputable def Kps(H H':Hp)(L:List I_):Prop:=∀a∈L,∀u,H a=some u->H' a=some u/\((∀xs,H a≠some (.tup xs))->∀xs,H' a≠some (.tup xs))
theorem Kps.hd (h:Kps H H' (a::L))(e:H a=some u):H' a=some u/\((∀xs,H a≠some (.tup xs))->∀xs,H' a≠some (.tup xs)):=h _ q_ _ e
theorem Kps.tl (h:Kps H H' (a::L)):Kps H H' L:=λa m=>h a (i_ _ m)
theorem Kps.l (h:Kps H H' (L++M)):Kps H H' L:=λa m=>h a (EL _ m)
theorem Kps.r (h:Kps H H' (L++M)):Kps H H' M:=λa m=>h a (l_ _ m)
theorem xf(ht:TK H H')(hz:Gr Hz Hz'):(∀{t v L},RepT K Hz H t v L->Kps H H' L->RepT K Hz' H' t v L)/\(∀{t v L},RepTs K Hz H t v L->Kps H H' L->RepTs K Hz' H' t v L)/\(∀{t v L},RepKs K Hz H t v L->Kps H H' L->RepKs K Hz' H' t v L)/\(∀{t v L},RepXs K Hz H t v L->Kps H H' L->RepXs K Hz' H' t v L):=
 gM (P:=λt v L=>Kps H H' L->RepT K Hz' H' t v L) (Ps:=λt v L=>Kps H H' L->RepTs K Hz' H' t v L) (Pk:=λt v L=>Kps H H' L->RepKs K Hz' H' t v L) (Px:=λt v L=>Kps H H' L->RepXs K Hz' H' t v L)
  (λ_=>.any) (λ_=>.hole) (λh t o=>.bare (o.hd h).1 ((o.hd h).2 t)) (λh _=>.kp (h.trans hz)) (λ_=>.non) (λ_=>.bl) (λ_=>.int) (λ_=>.str) (λ_=>.ty)
  (λh c o=>.tup (ht _ _ h) (c o)) (λh c o=>.cst h (c o)) (λh c o=>.lstO (o.hd h).1 (c o.tl)) (λh c o=>.lstZ (hz _ _ h) (c o)) (λh c o=>.dKO (o.hd h).1 (c o.tl)) (λh c o=>.dKZ (hz _ _ h) (c o)) (λh c o=>.dTO (o.hd h).1 (c o.tl)) (λh c o=>.dTZ (hz _ _ h) (c o))
  (λ_=>.nil) (λi j o=>.cons rfl (i o.l) (j o.r)) (λ_=>.nil) (λi j o=>.cons rfl (i o.l) (j o.r)) (λ_=>.nil) (λi j o=>.cons rfl (i o.l) (j o.r))
theorem RepT.move (ht:TK H H')(hz:Gr Hz Hz')(o:Kps H H' L)(h:RepT K Hz H t v L):RepT K Hz' H' t v L:=(xf ht hz).1 h o
noncomputable def Thr(H:Hp)(L:List I_):Prop:=∀a∈L,(∃u,H a=some u)/\∀xs,H a≠some (.tup xs)
theorem Thr.nil :Thr H []:=λa m=>nomatch m
theorem Thr.cons {H:Hp}{a:I_}{u:HO}{L:List I_}(h:H a=some u)(t:∀xs,H a≠some (.tup xs))(c:Thr H L):Thr H (a::L):=λb m=>by
 rcases k_.mp m with rfl|m
 ·exact⟨⟨_,h⟩,t⟩
 exact c b m
theorem Thr.app (c:Thr H L)(d:Thr H M):Thr H (L++M):=λb m=>(EO.mp m).elim (c b) (d b)
theorem uH:(∀{t v L},RepT K Hz H t v L->Thr H L)/\(∀{t v L},RepTs K Hz H t v L->Thr H L)/\(∀{t v L},RepKs K Hz H t v L->Thr H L)/\(∀{t v L},RepXs K Hz H t v L->Thr H L):=
 gM (P:=λt v L=>Thr H L) (Ps:=λt v L=>Thr H L) (Pk:=λt v L=>Thr H L) (Px:=λt v L=>Thr H L)
  .nil .nil (λh t=>.cons h t .nil) (λ_=>.nil) .nil .nil .nil .nil .nil (λ_ c=>c) (λ_ c=>c) (λh c=>.cons h (λxs r=>by rw[h]at r;cases r) c) (λ_ c=>c) (λh c=>.cons h (λxs r=>by rw[h]at r;cases r) c) (λ_ c=>c) (λh c=>.cons h (λxs r=>by rw[h]at r;cases r) c) (λ_ c=>c)
  .nil (λc d=>c.app d) .nil (λc d=>c.app d) .nil (λc d=>c.app d)
theorem RepT.there (h:RepT K Hz H t v L):Thr H L:=uH.1 h
noncomputable def Fzn(H Z:Hp)(L:List I_):Prop:=∀a∈L,Z a=H a
theorem Fzn.hd (h:Fzn H Z (a::L))(e:H a=some u):Rd Z a u:=.inl (by rw[h _ q_];exact e)
theorem Fzn.tl (h:Fzn H Z (a::L)):Fzn H Z L:=λa m=>h a (i_ _ m)
theorem Fzn.l (h:Fzn H Z (L++M)):Fzn H Z L:=λa m=>h a (EL _ m)
theorem Fzn.r (h:Fzn H Z (L++M)):Fzn H Z M:=λa m=>h a (l_ _ m)
theorem yf(hz:Gr Hz Z):(∀{t v L},RepT K Hz H t v L->Fzn H Z L->RepT K Z H (er t) v [])/\(∀{t v L},RepTs K Hz H t v L->Fzn H Z L->RepTs K Z H (erL t) v [])/\(∀{t v L},RepKs K Hz H t v L->Fzn H Z L->RepKs K Z H (erK t) v [])/\(∀{t v L},RepXs K Hz H t v L->Fzn H Z L->RepXs K Z H (erT t) v []):=
 gM (P:=λt v L=>Fzn H Z L->RepT K Z H (er t) v []) (Ps:=λt v L=>Fzn H Z L->RepTs K Z H (erL t) v []) (Pk:=λt v L=>Fzn H Z L->RepKs K Z H (erK t) v []) (Px:=λt v L=>Fzn H Z L->RepXs K Z H (erT t) v [])
  (λ_=>.any) (λ_=>.hole) (λ_ _ _=>.any) (λh _=>.kp (h.trans hz)) (λ_=>.non) (λ_=>.bl) (λ_=>.int) (λ_=>.str) (λ_=>.ty)
  (λh c o=>.tup h (c o)) (λh c o=>.cst h (c o)) (λh c o=>.lstZ (o.hd h) (c o.tl)) (λh c o=>.lstZ (hz _ _ h) (c o)) (λh c o=>.dKZ (o.hd h) (c o.tl)) (λh c o=>.dKZ (hz _ _ h) (c o)) (λh c o=>.dTZ (o.hd h) (c o.tl)) (λh c o=>.dTZ (hz _ _ h) (c o))
  (λ_=>.nil) (λi j o=>.cons rfl (i o.l) (j o.r)) (λ_=>.nil) (λi j o=>.cons rfl (i o.l) (j o.r)) (λ_=>.nil) (λi j o=>.cons rfl (i o.l) (j o.r))
theorem RepT.frz (hz:Gr Hz Z)(o:Fzn H Z L)(h:RepT K Hz H t v L):RepT K Z H (er t) v []:=(yf hz).1 h o
theorem yy:(∀{t v L},RepT K Hz H t v L->aD t=true->L=[])/\(∀{t v L},RepTs K Hz H t v L->aT t=true->L=[])/\(∀{t v L},RepKs K Hz H t v L->True)/\(∀{t v L},RepXs K Hz H t v L->True):=
 gM (P:=λt v L=>aD t=true->L=[]) (Ps:=λt v L=>aT t=true->L=[]) (Pk:=λt v L=>True) (Px:=λt v L=>True)
  (λ_=>rfl) (λ_=>rfl) (λ_ _ n=>nomatch n) (λ_ _=>rfl) (λ_=>rfl) (λ_=>rfl) (λ_=>rfl) (λ_=>rfl) (λ_=>rfl)
  (λ_ c n=>c (by rw[aD]at n;exact n)) (λ_ _ _=>rfl) (λ_ _ n=>nomatch n) (λ_ _ _=>rfl) (λ_ _ n=>nomatch n) (λ_ _ _=>rfl) (λ_ _ n=>nomatch n) (λ_ _ _=>rfl)
  (λ_=>rfl) (λi j n=>by
   rw[aT,EN]at n;rw[i n.1,j n.2]
   rfl) trivial (λ_ _=>trivial) trivial (λ_ _=>trivial)
theorem RepT.nil_of (n:aD t=true)(h:RepT K Hz H t v L):L=[]:=yy.1 h n
theorem vk(ht:TK H H'):(∀{t v L},RepT K Hz H t v L->b7 t=true->Kps H H' L->RepT K Z H' t v L)/\(∀{t v L},RepTs K Hz H t v L->b6 t=true->Kps H H' L->RepTs K Z H' t v L)/\(∀{t v L},RepKs K Hz H t v L->mB t=true->Kps H H' L->RepKs K Z H' t v L)/\(∀{t v L},RepXs K Hz H t v L->jc t=true->Kps H H' L->RepXs K Z H' t v L):=
 gM (P:=λt v L=>b7 t=true->Kps H H' L->RepT K Z H' t v L) (Ps:=λt v L=>b6 t=true->Kps H H' L->RepTs K Z H' t v L) (Pk:=λt v L=>mB t=true->Kps H H' L->RepKs K Z H' t v L) (Px:=λt v L=>jc t=true->Kps H H' L->RepXs K Z H' t v L)
  (λ_ _=>.any) (λ_ _=>.hole) (λh t _ o=>.bare (o.hd h).1 ((o.hd h).2 t)) (λ_ n=>nomatch n) (λ_ _=>.non) (λ_ _=>.bl) (λ_ _=>.int) (λ_ _=>.str) (λ_ _=>.ty)
  (λh c n o=>.tup (ht _ _ h) (c (by rw[b7]at n;exact n) o)) (λh c n o=>.cst h (c (by rw[b7]at n;exact n) o)) (λh c n o=>.lstO (o.hd h).1 (c (by rw[b7,Gj]at n;exact n) o.tl)) (λ_ _ n=>nomatch n) (λh c n o=>.dKO (o.hd h).1 (c (by rw[b7,Gj]at n;exact n) o.tl)) (λ_ _ n=>nomatch n) (λh c n o=>.dTO (o.hd h).1 (c (by rw[b7,Gj]at n;exact n) o.tl)) (λ_ _ n=>nomatch n)
  (λ_ _=>.nil) (λi j n o=>.cons rfl (i (by rw[b6,EN]at n;exact n.1) o.l) (j (by rw[b6,EN]at n;exact n.2) o.r)) (λ_ _=>.nil) (λi j n o=>.cons rfl (i (by rw[mB,EN]at n;exact n.1) o.l) (j (by rw[mB,EN]at n;exact n.2) o.r)) (λ_ _=>.nil) (λi j n o=>.cons rfl (i (by rw[jc,EN]at n;exact n.1) o.l) (j (by rw[jc,EN]at n;exact n.2) o.r))
theorem RepT.Ay (ht:TK H H')(n:b7 t=true)(o:Kps H H' L)(h:RepT K Hz H t v L):RepT K Z H' t v L:=(vk ht).1 h n o
abbrev Ev:=List T
abbrev Fm:=List (T×Option V)
noncomputable def n6(K:Ja)(Hz H:Hp)(t:T)(x:Option V)(L:List I_):Prop:=(t=.any/\L=[])\/∃v,x=some v/\RepT K Hz H t v L
inductive RepL (K:Ja) (Hz H:Hp):Fm->List I_->Prop
 |nil:RepL K Hz H [] []
 |cons {t:T}{x:Option V}{L M N:List I_}{r:Fm} (e:N=L++M) (h:n6 K Hz H t x L) (c:RepL K Hz H r M):RepL K Hz H ((t,x)::r) N
def Rp(K:Ja)(H:Hp)(Γ:Fm):Prop:=∃Hz L,RepL K Hz H Γ L/\L.Nodup/\Gr Hz H/\∀b∈L,Hz b=none
theorem n6.move (ht:TK H H')(hz:Gr Hz Hz')(ho:∀a∈L,∀u,H a=some u->H' a=some u/\((∀xs,H a≠some (.tup xs))->∀xs,H' a≠some (.tup xs)))(h:n6 K Hz H t x L):n6 K Hz' H' t x L:=by
 rcases h with⟨rfl,rfl⟩|⟨v,rfl,h⟩
 ·exact .inl ⟨rfl,rfl⟩
 exact .inr ⟨v,rfl,h.move ht hz ho⟩
theorem n6.there (h:n6 K Hz H t x L):∀a∈L,(∃u,H a=some u)/\∀xs,H a≠some (.tup xs):=by
 rcases h with⟨rfl,rfl⟩|⟨v,rfl,h⟩
 ·intro a m;cases m
 exact h.there
theorem RepL.move (ht:TK H H')(hz:Gr Hz Hz'):∀{Γ:Fm}{L:List I_},(∀a∈L,∀u,H a=some u->H' a=some u/\((∀xs,H a≠some (.tup xs))->∀xs,H' a≠some (.tup xs)))->RepL K Hz H Γ L->RepL K Hz' H' Γ L:=by
 intro Γ L ho x;induction x with
 |nil=>exact .nil
 |cons e h c ih=>exact .cons e (h.move ht hz λa m=>ho a (by rw[e];exact EL _ m)) (ih λa m=>ho a (by rw[e];exact l_ _ m))
theorem RepL.there :∀{Γ:Fm}{L:List I_},RepL K Hz H Γ L->∀a∈L,(∃u,H a=some u)/\∀xs,H a≠some (.tup xs):=by
 intro Γ L x;induction x with
 |nil=>intro a m;cases m
 |cons e h c ih=>
  intro a m;rw[e]at m;rcases EO.mp m with m|m
  ·exact h.there a m
  exact ih a m
theorem RepL.app :∀{Γ Δ:Fm}{L M:List I_},RepL K Hz H Γ L->RepL K Hz H Δ M->RepL K Hz H (Γ++Δ) (L++M):=by
 intro Γ Δ L M x d;induction x with
 |nil=>exact d
 |cons e h c ih=>exact .cons (by rw[e,n_]) h ih
theorem RepL.split :∀{Γ Δ:Fm}{N:List I_},RepL K Hz H (Γ++Δ) N->∃L M,N=L++M/\RepL K Hz H Γ L/\RepL K Hz H Δ M
 | [],_,N,h=>⟨[],N,rfl,.nil,h⟩
 | (t,x)::r,_,N,.cons e h c=>by obtain⟨L,M,rfl,h1,h2⟩:=c.split;exact⟨_,M,by rw[e,n_],.cons rfl h h1,h2⟩
theorem RepL.perm {Γ Δ:Fm}(p:Γ.Perm Δ):∀{L:List I_},RepL K Hz H Γ L->∃M,L.Perm M/\RepL K Hz H Δ M:=by
 induction p with
 |nil=>intro L h;exact⟨L,.refl _,h⟩
 |cons x q ih=>
  intro L h;cases h with
  |cons e h c=>
   obtain⟨M,p1,h1⟩:=ih c;exact⟨_,by rw[e];exact p1.append_left _,.cons rfl h h1⟩
 |swap x y l=>
  intro L h;cases h with
  |cons e h c=>
   cases c with
   |cons e' h' c'=>
    refine⟨_,?_,.cons rfl h' (.cons rfl h c')⟩;rw[e,e',<-n_,<-n_];exact F7.append_right _
 |trans p q ih1 ih2=>
  intro L h;obtain⟨M,p1,h1⟩:=ih1 h;obtain⟨N,p2,h2⟩:=ih2 h1;exact⟨N,p1.trans p2,h2⟩
theorem Rp.perm {Γ Δ:Fm}(h:Rp K H Γ)(p:Γ.Perm Δ):Rp K H Δ:=by obtain⟨Hz,L,h,nd,g,d⟩:=h;obtain⟨M,q,h'⟩:=h.perm p;exact⟨Hz,M,h',q.nodup_iff.mp nd,g,λb m=>d b (q.mem_iff.mpr m)⟩
theorem Rp.part {Γ Δ:Fm}(h:Rp K H (Γ++Δ)):Rp K H Δ:=by obtain⟨Hz,L,h,nd,g,d⟩:=h;obtain⟨L1,L2,rfl,_,h2⟩:=h.split;exact⟨Hz,L2,h2,(FG.mp nd).2.1,g,λb m=>d b (l_ _ m)⟩
theorem Rp.tail {x:T×Option V}{Γ:Fm}(h:Rp K H (x::Γ)):Rp K H Γ:=Rp.part (Γ:=[x]) h
theorem gL(s:aJ H H')(a:I_)(u:HO)(e:H a=some u):H' a=some u/\((∀xs,H a≠some (.tup xs))->∀xs,H' a≠some (.tup xs)):=
 ⟨s _ _ e,λn xs r=>n xs (by rw[s _ _ e]at r;exact e.trans r)⟩
theorem Rp.same {Γ:Fm}(h:Rp K H Γ)(s:aJ H H'):Rp K H' Γ:=by obtain⟨Hz,L,h,nd,g,d⟩:=h;exact⟨Hz,L,h.move (aJ.tk s) .ck (λa m u e=>gL s a u e),nd,g.trans (.of s),d⟩
theorem pS{o:HO}(s:Put H p o H')(a:I_)(n:a≠p)(u:HO)(e:H a=some u):H' a=some u/\((∀xs,H a≠some (.tup xs))->∀xs,H' a≠some (.tup xs)):=
 ⟨by rw[s.else_ a n];exact e,λm xs r=>m xs (by rw[s.else_ a n]at r;exact r)⟩
theorem RepTs.len :∀{ts:List T}{vs:List V}{L:List I_},RepTs K Hz H ts vs L->ts.length=vs.length:=λ{ts}=>by
 induction ts with
 |nil=>intro vs L h;cases h;rfl
 |cons t ts ih=>
  intro vs L h;cases h with
  |cons _ _ c=>rw[g_,g_,ih c]
abbrev zz(ts:List T)(vs:List V):Fm:=ts.zip (vs.map some)
theorem RepTs.toL :∀{ts:List T}{vs:List V}{L:List I_},RepTs K Hz H ts vs L->RepL K Hz H (zz ts vs) L:=λ{ts}=>by
 induction ts with
 |nil=>intro vs L h;cases h;exact .nil
 |cons t ts ih=>
  intro vs L h;cases h with
  |cons e h c=>exact .cons e (.inr ⟨_,rfl,h⟩) (ih c)
theorem RepL.rK :∀{ts:List T}{vs:List V}{L:List I_},ts.length=vs.length->RepL K Hz H (zz ts vs) L->RepTs K Hz H ts vs L
 | [],[],_,_,.nil=>.nil
 | [],v::vs,_,l,_=>by simp at l
 |t::ts,[],_,l,_=>by simp at l
 |t::ts,v::vs,L,l,h=>by
  have h:RepL K Hz H ((t,some v)::zz ts vs) L:=h;cases h with
  |cons e h c=>
   refine .cons e ?_ (c.rK (by simpa using l));rcases h with⟨rfl,rfl⟩|⟨w,e2,h⟩
   ·exact .any
   cases e2;exact h
theorem RepKs.toL :∀{ts:List (Key×T)}{vs:List (Key×V)}{L:List I_},RepKs K Hz H ts vs L->ts.map (·.1)=vs.map (·.1)/\RepTs K Hz H (ts.map (·.2)) (vs.map (·.2)) L:=λ{ts}=>by
 induction ts with
 |nil=>intro vs L h;cases h;exact⟨rfl,.nil⟩
 |cons t ts ih=>
  intro vs L h;cases h with
  |cons e h c=>exact⟨by rw[f',f',(ih c).1],.cons e h (ih c).2⟩
theorem RepKs.ofL :∀{ts:List (Key×T)}{vs:List (Key×V)}{L:List I_},ts.map (·.1)=vs.map (·.1)->RepTs K Hz H (ts.map (·.2)) (vs.map (·.2)) L->RepKs K Hz H ts vs L:=λ{ts}=>by
 induction ts with
 |nil=>
  intro vs L e h;cases vs with
  |nil=>cases h;exact .nil
  |cons v vs=>cases e
 |cons t ts ih=>
  intro vs L e h;cases vs with
  |nil=>cases e
  |cons v vs=>
   obtain⟨k,t⟩:=t;obtain⟨k',v⟩:=v;cases h with
   |cons e2 h c=>
    rw[f',f',FZ]at e;have e0:k=k':=e.1;subst e0;exact .cons e2 h (ih e.2 c)
theorem RepXs.toL :∀{ts:List (List Key×T)}{vs:List (List Key×V)}{L:List I_},RepXs K Hz H ts vs L->ts.map (·.1)=vs.map (·.1)/\RepTs K Hz H (ts.map (·.2)) (vs.map (·.2)) L:=λ{ts}=>by
 induction ts with
 |nil=>intro vs L h;cases h;exact⟨rfl,.nil⟩
 |cons t ts ih=>
  intro vs L h;cases h with
  |cons e h c=>exact⟨by rw[f',f',(ih c).1],.cons e h (ih c).2⟩
theorem RepXs.ofL :∀{ts:List (List Key×T)}{vs:List (List Key×V)}{L:List I_},ts.map (·.1)=vs.map (·.1)->RepTs K Hz H (ts.map (·.2)) (vs.map (·.2)) L->RepXs K Hz H ts vs L:=λ{ts}=>by
 induction ts with
 |nil=>
  intro vs L e h;cases vs with
  |nil=>cases h;exact .nil
  |cons v vs=>cases e
 |cons t ts ih=>
  intro vs L e h;cases vs with
  |nil=>cases e
  |cons v vs=>
   obtain⟨k,t⟩:=t;obtain⟨k',v⟩:=v;cases h with
   |cons e2 h c=>
    rw[f',f',FZ]at e;have e0:k=k':=e.1;subst e0;exact .cons e2 h (ih e.2 c)
theorem sh{o:HO}{Γ Δ:Fm}(h:Rp K H (Γ++Δ))(hp:H p=none)(s:aJ H H')(hn:H' p=some o)
  (mk:∀Hz L,RepL K Hz H' Γ L->RepT K Hz H' t (.ref p) (p::L)):Rp K H' ((t,some (.ref p))::Δ):=by
 obtain⟨Hz,N,h,nd,g,d⟩:=h;obtain⟨L,M,rfl,h1,h2⟩:=h.split;have mv:∀a∈L++M,∀u,H a=some u->H' a=some u/\((∀xs,H a≠some (.tup xs))->∀xs,H' a≠some (.tup xs)):=λa _ u e=>gL s a u e;have h1':=h1.move (aJ.tk s) .ck λa m=>mv a (EL _ m);have h2':=h2.move (aJ.tk s) .ck λa m=>mv a (l_ _ m);refine⟨Hz,(p::L)++M,.cons rfl (.inr ⟨_,rfl,mk Hz L h1'⟩) h2',?_,g.trans (.of s),?_⟩
 ·rw[E_,y_];refine⟨λm=>?_,nd⟩;obtain⟨⟨u,e⟩,_⟩:=h.there p m;rw[hp]at e;cases e
 intro b m;rcases k_.mp m with rfl|m
 ·exact g.none hp
 exact d b m
theorem dU{Δ:Fm}(h:Rp K H (zz ts vs++Δ))(l:ts.length=vs.length)(hp:H p=none)(s:aJ H H')(hn:H' p=some (.lst vs)):Rp K H' ((.lst true ts,some (.ref p))::Δ):=
 sh h hp s hn λ_ _ q=>.lstO hn (q.rK l)
theorem fZ{Δ:Fm}(h:Rp K H (zz ts vs++Δ))(l:ts.length=vs.length)(s:aJ H H')(hn:H' p=some (.tup vs)):Rp K H' ((.tup ts,some (.ref p))::Δ):=by obtain⟨Hz,N,h,nd,g,d⟩:=h.same s;obtain⟨L,M,rfl,h1,h2⟩:=h.split;exact⟨Hz,L++M,.cons rfl (.inr ⟨_,rfl,.tup hn (h1.rK l)⟩) h2,nd,g,d⟩
theorem eO{Γ:Fm}(h:Rp K H ((.lst true ts,x)::Γ)):∃a vs,x=some (.ref a)/\H a=some (.lst vs)/\ts.length=vs.length/\Rp K H ((.bare,some (.ref a))::(zz ts vs++Γ)):=by
 obtain⟨Hz,N,h,nd,g,d⟩:=h;cases h with
 |cons e h c=>
  rcases h with⟨h,_⟩|⟨v,rfl,h⟩
  ·cases h
  cases h with
  |lstO h1 c1=>
   refine⟨_,_,rfl,h1,c1.len,Hz,N,.cons (L:=[_]) (M:=_++_) (by rw[e];rfl) (.inr ⟨_,rfl,.bare h1 λxs r=>?_⟩) (c1.toL.app c),nd,g,d⟩;rw[h1]at r;cases r
theorem oR{o:HO}{Γ Δ:Fm}(h:Rp K H ((.bare,some (.ref a))::(Γ++Δ)))(p:Put H a o H')
  (mk:∀Hz L,RepL K Hz H' Γ L->RepT K Hz H' t (.ref a) (a::L)):Rp K H' ((t,some (.ref a))::Δ):=by
 obtain⟨Hz,N,h,nd,g,d⟩:=h;cases h with
 |cons e h c=>
  rcases h with⟨h,_⟩|⟨v,ev,h⟩
  ·cases h
  cases ev;cases h with
  |bare h1 nt=>
   obtain⟨L,M,e2,h2,h3⟩:=c.split;subst e;subst e2;rw[HD,y_]at nd;have tk:TK H H':=Put.tk p nt;have ne:∀b∈L++M,b≠a:=λb m z=>nd.1 (z▸m);have g':Gr Hz H':=λb u r=>by
    have hb:b≠a:=λz=>by obtain⟨w,q⟩:=Rd.some r;rw[z,d a (by rw[HD];exact q_)]at q;cases q
    rcases g b u r with r|⟨o,r⟩
    ·exact .inl (by rw[p.else_ b hb];exact r)
    exact .inr ⟨o,by rw[p.else_ b hb];exact r⟩
   refine⟨Hz,(a::L)++M,.cons rfl (.inr ⟨_,rfl,mk Hz L ?_⟩) ?_,?_,g',?_⟩
   ·exact h2.move tk .ck λb m=>pS p b (ne b (EL _ m))
   ·exact h3.move tk .ck λb m=>pS p b (ne b (l_ _ m))
   ·rw[E_,y_];exact nd
   exact d
theorem dI{Γ:Fm}(h:Rp K H ((.bare,some (.ref a))::(zz ts vs++Γ)))(l:ts.length=vs.length)(p:Put H a (.lst vs) H'):Rp K H' ((.lst true ts,some (.ref a))::Γ):=
 oR h p λ_ _ q=>.lstO p.at_ (q.rK l)
theorem pP{ts:List (Key×T)}{Γ:Fm}(h:Rp K H ((.dK true ts,x)::Γ)):∃a vs,x=some (.ref a)/\H a=some (.dK vs)/\ts.map (·.1)=vs.map (·.1)/\Rp K H ((.bare,some (.ref a))::(zz (ts.map (·.2)) (vs.map (·.2))++Γ)):=by
 obtain⟨Hz,N,h,nd,g,d⟩:=h;cases h with
 |cons e h c=>
  rcases h with⟨h,_⟩|⟨v,rfl,h⟩
  ·cases h
  cases h with
  |dKO h1 c1=>
   obtain⟨e1,c2⟩:=c1.toL;refine⟨_,_,rfl,h1,e1,Hz,N,.cons (L:=[_]) (M:=_++_) (by rw[e];rfl) (.inr ⟨_,rfl,.bare h1 λxs r=>?_⟩) (c2.toL.app c),nd,g,d⟩;rw[h1]at r;cases r
theorem vW{ts:List (List Key×T)}{Γ:Fm}(h:Rp K H ((.dT true ts,x)::Γ)):∃a vs,x=some (.ref a)/\H a=some (.dT vs)/\ts.map (·.1)=vs.map (·.1)/\Rp K H ((.bare,some (.ref a))::(zz (ts.map (·.2)) (vs.map (·.2))++Γ)):=by
 obtain⟨Hz,N,h,nd,g,d⟩:=h;cases h with
 |cons e h c=>
  rcases h with⟨h,_⟩|⟨v,rfl,h⟩
  ·cases h
  cases h with
  |dTO h1 c1=>
   obtain⟨e1,c2⟩:=c1.toL;refine⟨_,_,rfl,h1,e1,Hz,N,.cons (L:=[_]) (M:=_++_) (by rw[e];rfl) (.inr ⟨_,rfl,.bare h1 λxs r=>?_⟩) (c2.toL.app c),nd,g,d⟩;rw[h1]at r;cases r
theorem aY{κ β:Type}{ts:List (κ×α)}{vs:List (κ×β)}(e:ts.map (·.1)=vs.map (·.1)):ts.length=vs.length:=by have:=congrArg G3 e;rwa[a_,a_]at this
theorem nS{ts:List (Key×T)}{vs:List (Key×V)}{Γ:Fm}(h:Rp K H ((.bare,some (.ref a))::(zz (ts.map (·.2)) (vs.map (·.2))++Γ)))(l:ts.map (·.1)=vs.map (·.1))(p:Put H a (.dK vs) H'):Rp K H' ((.dK true ts,some (.ref a))::Γ):=
 oR h p λ_ _ q=>.dKO p.at_ (RepKs.ofL l (q.rK (by rw[a_,a_];exact aY l)))
theorem ux{ts:List (List Key×T)}{vs:List (List Key×V)}{Γ:Fm}(h:Rp K H ((.bare,some (.ref a))::(zz (ts.map (·.2)) (vs.map (·.2))++Γ)))(l:ts.map (·.1)=vs.map (·.1))(p:Put H a (.dT vs) H'):Rp K H' ((.dT true ts,some (.ref a))::Γ):=
 oR h p λ_ _ q=>.dTO p.at_ (RepXs.ofL l (q.rK (by rw[a_,a_];exact aY l)))
theorem zA{Δ:Fm}(h:Rp K H Δ)(hp:H p=none)(s:aJ H H')(hn:H' p=some (.dK [])):Rp K H' ((.dK true [],some (.ref p))::Δ):=
 sh (Γ:=[]) h hp s hn λ_ _ q=>by cases q;exact .dKO hn .nil
theorem xX{Δ:Fm}(h:Rp K H Δ)(hp:H p=none)(s:aJ H H')(hn:H' p=some (.dT [])):Rp K H' ((.dT true [],some (.ref p))::Δ):=
 sh (Γ:=[]) h hp s hn λ_ _ q=>by cases q;exact .dTO hn .nil
theorem pC{Γ:Fm}(h:Rp K H ((t,x)::Γ)):Rp K H ((er t,x)::Γ):=by
 obtain⟨Hz,N,h,nd,g,d⟩:=h;cases h with
 | @cons _ _ L M _ _ e h c=>
  rcases h with⟨rfl,rfl⟩|⟨v,rfl,h⟩
  ·exact⟨Hz,N,.cons e (.inl ⟨rfl,rfl⟩) c,nd,g,d⟩
  subst e;have dz:∀b∈L,Hz b=none:=λb m=>d b (EL _ m)
  let Z:Hp:=λb=>if b∈L then H b else Hz b
  have hz:Gr Hz Z:=λb u r=>by
   have nb:b ∉ L:=λm=>by obtain⟨w,q⟩:=Rd.some r;rw[dz b m]at q;cases q
   rcases r with r|⟨o,r⟩
   ·exact .inl (by show(if b∈L then H b else Hz b)=_;rw[if_neg nb];exact r)
   exact .inr ⟨o,by show(if b∈L then H b else Hz b)=_;rw[if_neg nb];exact r⟩
  have zh:Gr Z H:=λb u r=>by
   by_cases nb:b∈L
   ·rcases r with r|⟨o,r⟩
    ·exact .inl (by have r:(if b∈L then H b else Hz b)=_:=r;rw[if_pos nb]at r;exact r)
    exact .inr ⟨o,by have r:(if b∈L then H b else Hz b)=_:=r;rw[if_pos nb]at r;exact r⟩
   refine g b u ?_;rcases r with r|⟨o,r⟩
   ·exact .inl (by have r:(if b∈L then H b else Hz b)=_:=r;rw[if_neg nb]at r;exact r)
   exact .inr ⟨o,by have r:(if b∈L then H b else Hz b)=_:=r;rw[if_neg nb]at r;exact r⟩
  have nd2:=FG.mp nd;refine⟨Z,[]++M,.cons rfl (.inr ⟨v,rfl,h.frz hz λb m=>?_⟩) (c.move (λ_ _ r=>r) hz λb m u e=>⟨e,λn=>n⟩),nd2.2.1,zh,λb m=>?_⟩
  ·show(if b∈L then H b else Hz b)=_;rw[if_pos m]
  show(if b∈L then H b else Hz b)=_;rw[if_neg (λz=>nd2.2.2 b z b m rfl)];exact d b (l_ _ m)
theorem kj{Γ:Fm}(h:Rp K H ((t,x)::Γ))(n:aD t=true):Rp K H ((t,x)::(t,x)::Γ):=by
 obtain⟨Hz,N,h,nd,g,d⟩:=h;cases h with
 | @cons _ _ L M _ _ e h c=>
  have hL:L=[]:=by
   rcases h with⟨_,rfl⟩|⟨v,_,h⟩
   ·rfl
   exact h.nil_of n
  subst hL;exact⟨Hz,N,.cons (L:=[]) (M:=N) rfl h (.cons e h c),nd,g,d⟩
theorem n6.view (g:Gr Hz H)(h:n6 K Hz H t x L):n6 K H H (er t) x []:=by
 rcases h with⟨rfl,rfl⟩|⟨v,rfl,h⟩
 ·exact .inl ⟨rfl,rfl⟩
 exact .inr ⟨v,rfl,h.frz g λ_ _=>rfl⟩
theorem RepL.view (g:Gr Hz H):∀{Γ:Fm}{L:List I_},RepL K Hz H Γ L->RepL K H H (Γ.map λp=>(er p.1,p.2)) []:=by
 intro Γ L x;induction x with
 |nil=>exact .nil
 |cons e h c ih=>exact .cons rfl (h.view g) ih
theorem pE{Γ:Fm}(h:Rp K H Γ):Rp K H ((Γ.map λp=>(er p.1,p.2))++[(.kp H,some .non)]):=by obtain⟨Hz,N,h,nd,g,d⟩:=h;refine⟨H,[]++[],(h.view g).app (.cons rfl (.inr ⟨_,rfl,.kp .ck⟩) .nil),F6,.ck,λb m=>by cases m⟩
noncomputable def over(H H':Hp):Hp:=λb=>match H b with
 |some u=>some u
 |none=>H' b
theorem dF{b:I_}(e:H b=some u):over H H' b=some u:=by unfold over;rw[e]
theorem jN{b:I_}(e:H b=none):over H H' b=H' b:=by unfold over;rw[e]
theorem uv(H H':Hp):aJ H (over H H'):=λb u e=>dF e
theorem oU(g:Gr H H'){b:I_}:over H H' b=H' b\/∃o u,H' b=some (.frz o u)/\over H H' b=some u:=by
 cases q:H b with
 |none=>exact .inl (jN q)
 |some u=>
  rw[dF q];rcases g b u (.inl q)with r|⟨o,r⟩
  ·exact .inl r.symm
  exact .inr ⟨o,u,r,rfl⟩
theorem qA(g:Gr H H'){b:I_}(r:H' b=some (.tup xs)):over H H' b=some (.tup xs):=by
 rcases oU g (b:=b)with e|⟨o,u,e,_⟩
 ·rw[e];exact r
 rw[r]at e;cases e
theorem oo{Γ Δ:Fm}(h:Rp K H Γ)(q:Rp K H' ((t,x)::(Δ++[(.kp H,some .non)])))(n:b7 t=true):Gr H H'/\Rp K (over H H') ((t,x)::Γ):=by
 obtain⟨Hy,N',q,nd',g',d'⟩:=q;cases q with
 | @cons _ _ L M _ _ e h1 c=>
  have hkp:Gr H Hy:=by
   obtain⟨_,_,_,_,c2⟩:=c.split;cases c2 with
   |cons _ h2 _=>
    rcases h2 with⟨z,_⟩|⟨_,_,h2⟩
    ·cases z
    cases h2 with
    |kp z=>exact z
  have gr:=hkp.trans g';refine⟨gr,?_⟩;subst e;have nd2:=FG.mp nd';have hL:∀b∈L,H b=none:=λb m=>hkp.none (d' b (EL _ m));obtain⟨Hz,N,h,nd,g,d⟩:=h;have so:=uv H H';have tk:TK H' (over H H'):=λb xs r=>qA gr r;have h1':n6 K Hz (over H H') t x L:=by
   rcases h1 with⟨rfl,rfl⟩|⟨v,rfl,h1⟩
   ·exact .inl ⟨rfl,rfl⟩
   refine .inr ⟨v,rfl,h1.Ay tk n λb m u e=>?_⟩;have eo:=jN (H':=H') (hL b m);exact⟨eo.trans e,λnt xs r=>nt xs (by rw[<-eo];exact r)⟩
  refine⟨Hz,L++N,.cons rfl h1' (h.move (aJ.tk so) .ck λb m u e=>gL so b u e),?_,g.trans (.of so),?_⟩
  ·rw[FG];refine⟨nd2.1,nd,λb m b' m' z=>?_⟩;subst z;obtain⟨⟨u,e⟩,_⟩:=h.there b m';rw[hL b m]at e;cases e
  intro b m;rcases EO.mp m with m|m
  ·exact g.none (hL b m)
  exact d b m
theorem pg:∀{ts:List T}{vs:List V}{i:Nat}{t:T},ts.length=vs.length->ts[i]?=some t->∃w,vs[i]?=some w
 |ts,vs,i,t,l,e=>by have h:i<ts.length:=(b_.mp e).1;exact⟨vs[i]'(by omega),d_ (by omega)⟩
theorem js{α:Type}:∀{l:List α}{i:Nat}{x y:α},l[i]?=some y->(l.set i x).set i y=l
 | [],i,x,y,e=>by simp at e
 |a::l,0,x,y,e=>by simp at e;subst e;rfl
 |a::l,i+1,x,y,e=>by simp only[FX]at e;rw[G4,G4,js e]
end
theorem ju{α β:Type}:∀{l:List α}{m:List β}{i:Nat}{a:α}{b:β} (t:α) (y:β),l[i]?=some a->m[i]?=some b->((a,b)::(l.set i t).zip (m.set i y)).Perm ((t,y)::l.zip m)
 | [],m,i,a,b,t,y,h,_=>by simp at h
 |x::l,[],i,a,b,t,y,_,h=>by simp at h
 |x::l,z::m,0,a,b,t,y,h,g=>by simp only[Gx,Ig]at h g;subst h;subst g;exact .swap _ _ _
 |x::l,z::m,i+1,a,b,t,y,h,g=>by simp only[FX]at h g;have p:=ju t y h g;show Hu ((a,b)::(x,z)::(l.set i t).zip (m.set i y)) ((t,y)::(x,z)::l.zip m);exact(G2 _ _ _).trans ((p.cons _).trans (.swap _ _ _))
variable {i:Nat}
theorem set_same{l:List α}{x:α}(h:l[i]?=some x):l.set i x=l:=by have:=js (x:=x) h;rw[GX]at this;exact this
variable {Fr Γ:Fm}{env:Ev}{σ:St}
section
variable{K:Ja}
def Rs(K:Ja)(H:Hp)(env:Ev)(σ:St)(Fr:Fm):Prop:=env.length=σ.length/\Rp K H (env.zip σ++Fr)
theorem eY(h:Rp K H Γ):Rp K H ((.any,x)::Γ):=by obtain⟨Hz,N,h,nd,g,d⟩:=h;exact⟨Hz,N,.cons (L:=[]) rfl (.inl ⟨rfl,rfl⟩) h,nd,g,d⟩
theorem Rs.perm {Gr:Fm}(h:Rs K H env σ Fr)(p:Fr.Perm Gr):Rs K H env σ Gr:=⟨h.1,h.2.perm (p.append_left _)⟩
theorem Rs.drop {x:T×Option V}(h:Rs K H env σ (x::Fr)):Rs K H env σ Fr:=⟨h.1,(h.2.perm e_).tail⟩
theorem Rs.same (h:Rs K H env σ Fr)(s:aJ H H'):Rs K H' env σ Fr:=⟨h.1,h.2.same s⟩
theorem Rs.head {x:T×Option V}(h:Rs K H env σ (x::Fr)):Rp K H (x::(env.zip σ++Fr)):=h.2.perm e_
theorem Rs.of {x:T×Option V}(l:env.length=σ.length)(h:Rp K H (x::(env.zip σ++Fr))):Rs K H env σ (x::Fr):=⟨l,h.perm e_.symm⟩
theorem Rs.chg {Δ Δ':Fm}(h:Rs K H env σ (Δ++Fr))(f:∀ Γ,Rp K H (Δ++Γ)->Rp K H' (Δ'++Γ)):Rs K H' env σ (Δ'++Fr):=by
 refine⟨h.1,?_⟩;have p:∀A:Fm,(A++(env.zip σ++Fr)).Perm (env.zip σ++(A++Fr)):=λA=>by rw[<-n_,<-n_];exact F7.append_right _
 exact(f _ (h.2.perm (p Δ).symm)).perm (p Δ')
theorem Rs.slot (h:Rs K H env σ Fr)(e:env[i]?=some t):∃x,σ[i]?=some x/\Rs K H (env.set i .any) σ ((t,x)::Fr):=by
 have hi:i<env.length:=(b_.mp e).1;have hs:i<σ.length:=by rw[<-h.1];exact hi
 have ex:σ[i]?=some σ[i]:=d_ hs;refine⟨σ[i],ex,by rw[D_];exact h.1,?_⟩;have p:=ju (T.any) σ[i] e ex;rw[set_same ex]at p;refine(eY (x:=σ[i]) h.2).perm ?_;refine C_ ?_ e_.symm;exact(p.symm.append_right Fr)
theorem Rs.kC (h:Rs K H env σ ((t,x)::Fr))(hi:i<env.length)(ex:σ[i]?=some x):Rs K H (env.set i t) σ Fr:=by have e:env[i]?=some env[i]:=d_ hi;refine⟨by rw[D_];exact h.1,?_⟩;have p:=ju t x e ex;rw[set_same ex]at p;refine Rp.tail (x:=(env[i],x)) (h.2.perm ?_);refine e_.trans ?_;exact(p.symm.append_right Fr)
theorem Rs.store (h:Rs K H env σ ((t,some v)::Fr))(hi:i<env.length):Rs K H (env.set i t) (σ.set i (some v)) Fr:=by
 have e:env[i]?=some env[i]:=d_ hi;have hs:i<σ.length:=by rw[<-h.1];exact hi
 have ex:σ[i]?=some σ[i]:=d_ hs;refine⟨by rw[D_,D_];exact h.1,?_⟩;have p:=ju t (some v) e ex;refine Rp.tail (x:=(env[i],σ[i])) (h.2.perm ?_);refine e_.trans ?_;exact(p.symm.append_right Fr)
end
variable {X:Cx}{ac:List (I_×Obj)}{s:Jc}
theorem lT{bv:St}{s':Jc}(I:Inv X ac σ H s)(J:Inv X ac bv H' s')(g:Gr H H'):Inv X ac bv (over H H') s':=by
 have nn:∀b,H' b=none->over H H' b=none:=λb e=>by rw[jN (g.none e)];exact e
 refine⟨J.ok,J.os,J.bare,⟨J.base.keep,J.base.slot,?_,J.base.there,?_,?_,?_⟩,J.loc,J.cell,nn _ J.free,λx c e=>nn _ (J.freeC x c e),λp hp=>?_,?_,J.len⟩
 ·exact λb o e1 e2 e3=>nn _ (J.base.free b o e1 e2 e3)
 ·exact λb xs e=>dF (I.base.tups b xs e)
 ·exact λb o u e=>dF (I.base.frzs b o u e)
 ·exact λb ps e=>by obtain⟨m,em⟩:=I.base.tbls b ps e;exact⟨m,dF em⟩
 ·obtain⟨h1,h2,h3⟩:=J.pin p hp;exact⟨h1,nn _ h2,h3⟩
 intro b u e;have ho:∀c y,H' c=some (.own y)->over H H' c=some (.own y):=λc y q=>by
  rcases oU g (b:=c)with z|⟨o,w,z,_⟩
  ·rw[z];exact q
  rw[q]at z;cases z
 have ht:∀c xs,H' c=some (.tup xs)->over H H' c=some (.tup xs):=λc xs q=>qA g q;have key:aR X.prog X.w H' s'.heap b u:=by
  rcases oU g (b:=b)with z|⟨o,w,z,zw⟩
  ·rw[z]at e;exact J.hok b u e
  rw[zw]at e;cases e;exact(J.hok b _ z).2
 exact key.mV (λc v _ q=>q) (λc=>ho c b) ht
variable {e:Jn}
theorem zV{t:TE}(h:PE X e t):PE X e (λσ H Q=>t σ H λv H'=>Gr H H'/\Q v (over H H')):=λac s σ H Q I q=>
 thn (h ac s σ H _ I q) λu s' ⟨v,H',I',r,g,q'⟩=>⟨v,over H H',lT I I' g,r,q'⟩
theorem zU{t:TT}(h:PT X e t):PT X e (λσ H Q=>t σ H λb H'=>Gr H H'/\Q b (over H H')):=λac s σ H Q I q=>
 thn (h ac s σ H _ I q) λb s' ⟨H',I',g,q'⟩=>⟨over H H',lT I I' g,q'⟩
abbrev PF:=Ev->(T->Ev->Prop)->Prop
abbrev PB:=Ev->(Bool->Ev->Prop)->Prop
abbrev PFs:=Ev->(List T->Ev->Prop)->Prop
def wE(K:Ja)(f:PF):TE:=λσ H Q=>∃env Fr k,Rs K H env σ Fr/\f env k/\∀t be v H',k t be->Rs K H' be σ ((t,some v)::Fr)->Q v H'
def wB(K:Ja)(f:PB):TT:=λσ H Q=>∃env Fr k,Rs K H env σ Fr/\f env k/\∀b be H',k b be->Rs K H' be σ Fr->Q b H'
def wA(K:Ja)(f:PFs):TA:=λσ H Q=>∃env Fr k,Rs K H env σ Fr/\f env k/\∀ts be vs H',k ts be->ts.length=vs.length->Rs K H' be σ (zz ts vs++Fr)->Q vs H'
def GE(X:Cx)(e:Jn)(f:PF):Prop:=PE X e (wE X.K f)
def GT(X:Cx)(e:Jn)(f:PB):Prop:=PT X e (wB X.K f)
def GW(X:Cx)(e:Jn)(f:PB):Prop:=PW X e (wB X.K f)
def GA(X:Cx)(es:List Jn)(f:PFs):Prop:=PA X es (wA X.K f)
theorem PE.imp {t t':TE}(h:PE X e t)(k:∀ σ H Q,t' σ H Q->t σ H Q):PE X e t':=λac s σ H Q I q=>h ac s σ H Q I (k _ _ _ q)
theorem PT.imp {t t':TT}(h:PT X e t)(k:∀ σ H Q,t' σ H Q->t σ H Q):PT X e t':=λac s σ H Q I q=>h ac s σ H Q I (k _ _ _ q)
theorem PW.imp {t t':TT}(h:PW X e t)(k:∀ σ H Q,t' σ H Q->t σ H Q):PW X e t':=λwh ac s σ H Q I q=>h wh ac s σ H Q I (k _ _ _ q)
theorem PA.imp {es:List Jn}{t t':TA}(h:PA X es t)(k:∀ σ H Q,t' σ H Q->t σ H Q):PA X es t':=λpos ac s σ H Q I q=>h pos ac s σ H Q I (k _ _ _ q)
def fQ(f:PF):PF:=λenv k=>f (erL env) λt _=>b7 t=true/\k t env
def fQT(f:PB):PB:=λenv k=>f (erL env) λb _=>k b env
theorem l8:∀(env:Ev) (σ:St),(env.zip σ).map (λp=>(er p.1,p.2))=(erL env).zip σ
 | [],σ=>by simp[erL]
 |t::env,[]=>by simp
 |t::env,x::σ=>by rw[erL,FL,f',FL,l8 env σ]
theorem aA{X:Cx}{e:Jn}{f:PF}(h:GE X e f):GE X e (fQ f):=by
 refine PE.imp (zV h) ?_;rintro σ H Q ⟨env,Fr,k,rs,q,c⟩;have rv:Rs X.K H (erL env) σ ((Fr.map λp=>(er p.1,p.2))++[(.kp H,some .non)]):=by refine⟨by rw[lh];exact rs.1,?_⟩;have:=pE rs.2;rw[x_,l8,n_]at this;exact this
 refine⟨erL env,_,_,rv,q,?_⟩;rintro t be v H' ⟨n,kt⟩ rs';obtain⟨g,r2⟩:=oo rs.2 (Δ:=be.zip σ++(Fr.map λp=>(er p.1,p.2))) (by rw[n_];exact rs'.head) n;exact⟨g,c t env v _ kt (.of rs.1 r2)⟩
variable {K:Ja}
theorem wu{Δ:Fm}(h:Rp K H Γ)(q:Rp K H' (Δ++[(.kp H,some .non)])):Gr H H'/\Rp K (over H H') Γ:=by obtain⟨g,r⟩:=oo (t:=.any) (x:=none) h (eY q) rfl;exact⟨g,r.tail⟩
theorem kY{X:Cx}{e:Jn}{f:PB}(h:GT X e f):GT X e (fQT f):=by
 refine PT.imp (zU h) ?_;rintro σ H Q ⟨env,Fr,k,rs,q,c⟩;have rv:Rs X.K H (erL env) σ ((Fr.map λp=>(er p.1,p.2))++[(.kp H,some .non)]):=by refine⟨by rw[lh];exact rs.1,?_⟩;have:=pE rs.2;rw[x_,l8,n_]at this;exact this
 refine⟨erL env,_,_,rv,q,?_⟩;rintro b be H' kt rs';obtain⟨g,r2⟩:=wu rs.2 (Δ:=be.zip σ++(Fr.map λp=>(er p.1,p.2))) (by rw[n_];exact rs'.2);exact⟨g,c b env _ kt ⟨rs.1,r2⟩⟩
noncomputable def fK(t:T):PF:=λenv k=>k t env
variable {b:Bool}{j:Nat}
section
variable{X:Cx}{pos:Pos}
theorem jG(h:Rs K H env σ Fr)(r:∀Hz,RepT K Hz H t v []):Rs K H env σ ((t,some v)::Fr):=by refine .of h.1 ?_;obtain⟨Hz,N,q,nd,g,d⟩:=h.2;exact⟨Hz,N,.cons (L:=[]) rfl (.inr ⟨v,rfl,r Hz⟩) q,nd,g,d⟩
theorem ge_int{i:Int}{j:Nat}:GE X (.Constant (.int i) j pos) (fK (.int i)):=PE.imp aX (by rintro σ H Q ⟨env,Fr,k,rs,q,c⟩;exact c _ _ _ _ q (jG rs λ_=>.int))
theorem wN:GE X (.Constant (.bool b) j pos) (fK (.bl b)):=PE.imp Dy (by rintro σ H Q ⟨env,Fr,k,rs,q,c⟩;exact c _ _ _ _ q (jG rs λ_=>.bl))
theorem qX:GE X (.Constant .none j pos) (fK .non):=PE.imp Bv (by rintro σ H Q ⟨env,Fr,k,rs,q,c⟩;exact c _ _ _ _ q (jG rs λ_=>.non))
theorem ge_str{x:Str}:GE X (.Constant (.str x) j pos) (fK (.str x)):=PE.imp cH (by rintro σ H Q ⟨env,Fr,k,rs,q,c⟩;exact c _ _ _ _ q (jG rs λ_=>.str))
noncomputable def isAny:T->Bool
 | .any=>true
 | _=>false
def v8(i:Nat):PF:=λenv k=>match env[i]? with
 |some t=>isAny t=false/\aD t=true/\k t env
 |none=>False
def fFz(i:Nat):PF:=λenv k=>match env[i]? with
 |some t=>isAny t=false/\k (er t) (env.set i (er t))
 |none=>False
def fMv(i:Nat):PF:=λenv k=>match env[i]? with
 |some t=>isAny t=false/\k t (env.set i .any)
 |none=>False
theorem cO(h:Rs K H env σ ((t,x)::Fr))(n:isAny t=false):∃v,x=some v:=by
 obtain⟨Hz,N,q,_⟩:=h.head;cases q with
 |cons e h c=>
  rcases h with⟨rfl,_⟩|⟨v,e,_⟩
  ·cases n
  exact⟨v,e⟩
theorem a7(i:Nat){x:Str}(hN:X.N[i]?=some x:=by rfl)(hv:Vis X.env.scope x:=by first|exact f_ rfl|exact gV (f_ rfl)|exact gV (gV rfl))(hd:(x ==("__debug__":Str))=false:=by decide)(hcd:(x ==("__classdict__":Str))=false:=by decide):GE X (.Name x pos) (v8 i):=by
 refine PE.imp (cq hN hv hd hcd) ?_;rintro σ H Q ⟨env,Fr,k,rs,q,c⟩;unfold v8 at q;split at q
 ·rename_i t e;obtain⟨na,no,q⟩:=q;obtain⟨y,ey,rs2⟩:=rs.slot e;obtain⟨v,rfl⟩:=cO rs2 na;refine⟨v,ey,c _ _ _ _ q ?_⟩;have hi:i<env.length:=(b_.mp e).1;have r3:Rs X.K H (env.set i .any) σ ((t,some v)::(t,some v)::Fr):=.of rs2.1 ((kj rs2.head no).perm (by refine Gv _ ?_;exact e_.symm))
  have r4:=Rs.kC (i:=i) r3 (by rw[D_];exact hi) ey;rw[js e]at r4;exact r4
 exact q.elim
theorem aW(i:Nat){x:Str}(hN:X.N[i]?=some x:=by rfl)(hv:Vis X.env.scope x:=by first|exact f_ rfl|exact gV (f_ rfl)|exact gV (gV rfl))(hd:(x ==("__debug__":Str))=false:=by decide)(hcd:(x ==("__classdict__":Str))=false:=by decide):GE X (.Name x pos) (fFz i):=by
 refine PE.imp (cq hN hv hd hcd) ?_;rintro σ H Q ⟨env,Fr,k,rs,q,c⟩;unfold fFz at q;split at q
 ·rename_i t e;obtain⟨na,q⟩:=q;obtain⟨y,ey,rs2⟩:=rs.slot e;obtain⟨v,rfl⟩:=cO rs2 na;refine⟨v,ey,c _ _ _ _ q ?_⟩;have hi:i<env.length:=(b_.mp e).1;have no:aD (er t)=true:=aG t;have r3:Rs X.K H (env.set i .any) σ ((er t,some v)::(er t,some v)::Fr):=.of rs2.1 ((kj (pC rs2.head) no).perm (by refine Gv _ ?_;exact e_.symm))
  have r4:=Rs.kC (i:=i) r3 (by rw[D_];exact hi) ey;rw[GX]at r4;exact r4
 exact q.elim
theorem qF(i:Nat){x:Str}(hN:X.N[i]?=some x:=by rfl)(hv:Vis X.env.scope x:=by first|exact f_ rfl|exact gV (f_ rfl)|exact gV (gV rfl))(hd:(x ==("__debug__":Str))=false:=by decide)(hcd:(x ==("__classdict__":Str))=false:=by decide):GE X (.Name x pos) (fMv i):=by
 refine PE.imp (cq hN hv hd hcd) ?_;rintro σ H Q ⟨env,Fr,k,rs,q,c⟩;unfold fMv at q;split at q
 ·rename_i t e;obtain⟨na,q⟩:=q;obtain⟨y,ey,rs2⟩:=rs.slot e;obtain⟨v,rfl⟩:=cO rs2 na;exact⟨v,ey,c _ _ _ _ q rs2⟩
 exact q.elim
end
variable {y:V}
section
variable{K:Ja}{H:Hp}{Γ:Fm}
theorem iM(h:Rp K H ((t,some y)::Γ))(n:isAny t=false):∃Hz L,RepT K Hz H t y L/\Gr Hz H:=by
 obtain⟨Hz,N,h,nd,g,d⟩:=h;cases h with
 |cons e h c=>
  rcases h with⟨rfl,_⟩|⟨v,e2,h⟩
  ·cases n
  cases e2;exact⟨Hz,_,h,g⟩
theorem aE{i:Int}(h:Rp K H ((.int i,some y)::Γ)):y=.int i:=by obtain⟨_,_,r,_⟩:=iM h rfl;cases r;rfl
theorem vq{i:Bool}(h:Rp K H ((.bl i,some y)::Γ)):y=.bl i:=by obtain⟨_,_,r,_⟩:=iM h rfl;cases r;rfl
theorem gi{i:Str}(h:Rp K H ((.str i,some y)::Γ)):y=.str i:=by obtain⟨_,_,r,_⟩:=iM h rfl;cases r;rfl
theorem xc(h:Rp K H ((.non,some y)::Γ)):y=.non:=by obtain⟨_,_,r,_⟩:=iM h rfl;cases r;rfl
theorem bH(h:Rp K H Γ)(r:∀Hz,RepT K Hz H t v []):Rp K H ((t,some v)::Γ):=by obtain⟨Hz,N,q,nd,g,d⟩:=h;exact⟨Hz,N,.cons (L:=[]) rfl (.inr ⟨v,rfl,r Hz⟩) q,nd,g,d⟩
noncomputable def items:T->Option (List T)
 | .tup ts=>some ts
 | .cst ts=>some ts
 | .lst _ ts=>some ts
 | _=>none
noncomputable def oJ:T->Bool
 | .tup _=>true
 | .cst _=>true
 | _=>false
theorem sT(h:SqT K (λ_=>none) a vs)(H:Hp):SqT K H a vs:=by
 rcases h with (h|⟨_,h⟩)|h
 ·cases h
 ·cases h
 exact .inr h
theorem ay(e:items t=some ts)(h:Rp K H ((t,some y)::Γ)):∃a vs,y=.ref a/\SqG (oJ t) K H a vs/\ts.length=vs.length/\Rp K H (zz ts vs++Γ):=by
 obtain⟨Hz,N,h,nd,g,d⟩:=h;cases h with
 |cons e1 h c=>
  rcases h with⟨rfl,_⟩|⟨v,e2,h⟩
  ·cases e
  cases e2;cases h <;> cases e
  ·rename_i a vs h c1;exact⟨a,vs,rfl,SqT.of h,c1.len,Hz,_,c1.toL.app c,by rw[<-e1];exact nd,g,λb m=>d b (by rw[e1];exact m)⟩
  ·rename_i a vs h c1;exact⟨a,vs,rfl,sT h H,c1.len,Hz,_,c1.toL.app c,by rw[<-e1];exact nd,g,λb m=>d b (by rw[e1];exact m)⟩
  ·rename_i a vs L h c1;rw[e1,E_,y_]at nd;exact⟨a,vs,rfl,SqL.of h,c1.len,Hz,_,c1.toL.app c,nd.2,g,λb m=>d b (by rw[e1,E_];exact i_ _ m)⟩
  rename_i a vs h c1;exact⟨a,vs,rfl,.inl (g _ _ h),c1.len,Hz,_,c1.toL.app c,by rw[<-e1];exact nd,g,λb m=>d b (by rw[e1];exact m)⟩
theorem uo:∀{ts:List T}{vs:List V}{i:Nat}{t:T}{w:V},ts[i]?=some t->vs[i]?=some w->∃r,(zz ts vs).Perm ((t,some w)::r)
 | [],vs,i,t,w,e,f=>by simp at e
 |t::ts,[],i,_,w,e,f=>by simp at f
 |t::ts,v::vs,0,u,w,e,f=>by simp only[Gx,Ig]at e f;subst e;subst f;exact⟨_,.refl _⟩
 |t::ts,v::vs,i+1,u,w,e,f=>by simp only[FX]at e f;obtain⟨r,h⟩:=uo (ts:=ts) (vs:=vs) e f;exact⟨(t,some v)::r,(h.cons _).trans (.swap _ _ _)⟩
theorem jv{w:V}(h:Rp K H (zz ts vs++Γ))(e:ts[i]?=some t)(f:vs[i]?=some w):Rp K H ((t,some w)::Γ):=by obtain⟨r,p⟩:=uo e f;refine Rp.part (Γ:=r) (h.perm ?_);refine(p.append_right Γ).trans ?_;exact e_.symm
theorem vY{i:Int}(l:ts.length=vs.length)(e:atI ts i=some t)(h:Rp K H (zz ts vs++Γ)):∃w,atI vs i=some w/\Rp K H ((t,some w)::Γ):=by
 unfold atI at e ⊢;rw[l]at e;cases q:ixN vs.length i with
 |none=>rw[q]at e;cases e
 |some j=>
  rw[q]at e;have e:ts[j]?=some t:=e;obtain⟨w,f⟩:=pg l e;exact⟨w,f,jv h e f⟩
end
noncomputable def got(o:Option α)(k:α->Prop):Prop:=match o with
 |some u=>k u
 |none=>False
theorem B3{o:Option α}{u:α}{k:α->Prop}(e:o=some u)(h:k u):got o k:=by rw[e];exact h
theorem aB{o:Option α}{k:α->Prop}(h:got o k):∃u,o=some u/\k u:=by
 cases o with
 |none=>exact h.elim
 |some u=>exact⟨u,rfl,h⟩
noncomputable def cnd(b:Bool)(A B:Prop):Prop:=(b=true->A)/\(b=false->B)
theorem A4{A B:Prop}(h:A):cnd true A B:=⟨λ_=>h,λe=>by cases e⟩
theorem Cp{A B:Prop}(h:B):cnd false A B:=⟨λe=>(by cases e),λ_=>h⟩
theorem gA{A B:Prop}(h:cnd b A B):if b=true then A else B:=by
 cases b with
 |true=>rw[if_pos rfl];exact h.1 rfl
 |false=>rw[if_neg (by decide)];exact h.2 rfl
abbrev P2:=T->T->(T->Prop)->Prop
def w2(K:Ja)(g:P2):R2:=λx y H Q=>∃tx ty Γ k,Rp K H ((ty,some y)::(tx,some x)::Γ)/\g tx ty k/\∀t v H',k t->Rp K H' ((t,some v)::Γ)->Q v H'
def OpP(X:Cx)(f:IY->IY->Sem IY)(g:P2):Prop:=OpR X f (w2 X.K g)
variable {f:IY->IY->Sem IY}
theorem OpP.of {g:P2}{r:R2}(h:OpR X f r)(k:∀tx ty x y H Γ (k:T->Prop) (Q:VK),Rp X.K H ((ty,some y)::(tx,some x)::Γ)->g tx ty k->(∀t v H',k t->Rp X.K H' ((t,some v)::Γ)->Q v H')->r x y H Q):OpP X f g:=
 λac s σ H x y v u Q I rx ry ⟨tx,ty,Γ,kk,rp,g,c⟩=>h ac s σ H x y v u Q I rx ry (k tx ty x y H Γ kk Q rp g c)
noncomputable def uQ(g:P2)(a b:PF):PF:=λenv k=>a env λx al=>b al λy bi=>g x y λt=>k t bi
variable {fa:PF}
theorem sP{g:P2}{fb:PF}:∀ σ H Q,wE X.K (uQ g fa fb) σ H Q->tOp (w2 X.K g) (wE X.K fa) (wE X.K fb) σ H Q:=by rintro σ H Q ⟨env,Fr,k,rs,q,c⟩;refine⟨env,Fr,_,rs,q,λtx al x H1 q1 cr=>⟨al,_,_,cr,q1,λty bi y H2 q2 rs2=>?_⟩⟩;refine⟨tx,ty,bi.zip σ++Fr,_,?_,q2,λt v H' kt rp=>c _ _ _ _ kt (.of rs2.1 rp)⟩;exact rs2.head.perm (.cons _ e_)
section
variable{X:Cx}{a b c d:Jn}{fa fb fc fd:PF}{pos:Pos}
theorem aO{op:MP}{g:P2}(ho:OpP X (JQ op) g)(ha:GE X a fa)(hb:GE X b fb):GE X (.BinOp a op b pos) (uQ g fa fb):=PE.imp (bq ho ha hb) sP
theorem Bc{op:PJ}{g:P2}(ho:OpP X (J8 op) g)(ha:GE X a fa)(hb:GE X b fb)(hm:Lm op b=false):GE X (.Compare a [op] [b] pos) (uQ g fa fb):=PE.imp (xU ho ha hb hm) sP
noncomputable def C2(f:PF):PB:=λenv k=>f env λt be=>match t with
 | .bl b=>k b be
 | _=>False
theorem C0{f:PF}:∀ σ H Q,wB K (C2 f) σ H Q->Ak (wE K f) σ H Q:=by
 rintro σ H Q ⟨env,Fr,k,rs,q,c⟩;refine⟨env,Fr,_,rs,q,λt be v H' q1 cr=>?_⟩;cases t <;> first|exact q1.elim|skip
 rename_i b;exact⟨b,vq cr.head,c _ _ _ q1 cr.drop⟩
theorem bc{op:PJ}{g:P2}(ho:OpP X (J8 op) g)(ha:GE X a fa)(hb:GE X b fb)(hm:Lm op b=false):GT X (.Compare a [op] [b] pos) (C2 (uQ g fa fb)):=by refine PT.imp (o9 ho ha hb hm) λσ H Q h=>?_;obtain⟨env,Fr,k,rs,q,c⟩:=C0 σ H Q h;exact sP σ H _ ⟨env,Fr,k,rs,q,c⟩
noncomputable def vQ:T->(Bool->Prop)->Prop
 | .non,k=>k false
 | .bl b,k=>k b
 | .int i,k=>k (i != 0)
 | .str x,k=>x.length<=sizeLine/\k ((x.length:Int) != 0)
 | .tup ts,k=>k (!ts.isEmpty)
 | .cst ts,k=>k (!ts.isEmpty)
 | .lst _ ts,k=>k (!ts.isEmpty)
 | _,_=>False
def Dp(f:PF):PB:=λenv k=>f env λt be=>vQ t λb=>k b be
theorem pW{β:Type}{l:List α}{m:List β}(h:l.length=m.length):l.isEmpty=m.isEmpty:=by cases l <;> cases m <;> first|rfl|simp at h
theorem kc(ha:GE X a fa)(he:∀whole,Nd a X.env whole=(do let v <-whole;N4 a.pos;Lq [v] (PV v)):=by intro _;rfl):GT X a (Dp fa):=by
 refine PT.imp (vC ha he) ?_;rintro σ H Q ⟨env,Fr,k,rs,q,c⟩;refine⟨env,Fr,_,rs,q,λt be v H' q1 cr=>?_⟩;have fin:∀b,k b be->Q b H':=λb kb=>c _ _ _ kb cr.drop;have sq:∀ts b,items t=some ts->b=(!ts.isEmpty)->k b be->∃b,Bp X.K v H' b/\Q b H':=λts b e eb kb=>by
  obtain⟨a,vs,rfl,hq,l,_⟩:=ay e cr.head;refine⟨b,?_,fin b kb⟩;rw[pW l]at eb;revert hq;cases oJ t with
  |true=>exact λhq=>.inr (.inl ⟨vs,hq,eb⟩)
  |false=>exact λhq=>.inl ⟨vs,hq,eb⟩
 cases t with
 |non=>rw[xc cr.head];exact⟨_,rfl,fin _ q1⟩
 |bl b=>rw[vq cr.head];exact⟨_,rfl,fin _ q1⟩
 |int i=>rw[aE cr.head];exact⟨_,rfl,fin _ q1⟩
 |str x=>rw[gi cr.head];exact⟨_,⟨q1.1,rfl⟩,fin _ q1.2⟩
 |tup ts=>exact sq _ _ rfl rfl q1
 |cst ts=>exact sq _ _ rfl rfl q1
 |lst o ts=>exact sq _ _ rfl rfl q1
 | _=>exact q1.elim
def A8(ta tb:PB):PB:=λenv k=>ta env λb al=>cnd b (tb al k) (k false al)
def Cy(ta tb:PB):PB:=λenv k=>ta env λb al=>cnd b (k true al) (tb al k)
noncomputable def A6(ta:PB):PB:=λenv k=>ta env λb al=>k (!b) al
variable{ta tb:PB}{rest:List Jn}
theorem y3(ha:GT X a ta):GW X (.BoolOp .And [a] pos) ta:=zg ha
theorem C5(ha:GT X a ta):GW X (.BoolOp .Or [a] pos) ta:=ve ha
theorem AX(ha:GT X a ta)(hb:GW X (.BoolOp .And (b::rest) pos) tb):GW X (.BoolOp .And (a::b::rest) pos) (A8 ta tb):=by
 refine PW.imp (C3 ha hb) ?_;rintro σ H Q ⟨env,Fr,k,rs,q,c⟩;refine⟨env,Fr,_,rs,q,λb be H' q1 cr=>gA ⟨λe=>?_,λe=>?_⟩⟩
 ·exact⟨be,Fr,k,cr,q1.1 e,c⟩
 exact c _ _ _ (q1.2 e) cr
theorem Ap(ha:GT X a ta)(hb:GW X (.BoolOp .Or (b::rest) pos) tb):GW X (.BoolOp .Or (a::b::rest) pos) (Cy ta tb):=by
 refine PW.imp (xj ha hb) ?_;rintro σ H Q ⟨env,Fr,k,rs,q,c⟩;refine⟨env,Fr,_,rs,q,λb be H' q1 cr=>gA ⟨λe=>?_,λe=>?_⟩⟩
 ·exact c _ _ _ (q1.1 e) cr
 exact⟨be,Fr,k,cr,q1.2 e,c⟩
theorem Dj{f:PB}(h:GW X a f):GT X a f:=PW.pt h
theorem AN(ha:GT X a ta):GT X (.UnaryOp .Not a pos) (A6 ta):=by refine PT.imp (rX ha) ?_;rintro σ H Q ⟨env,Fr,k,rs,q,c⟩;exact⟨env,Fr,_,rs,q,λb be H' q1 cr=>c _ _ _ q1 cr⟩
def fIf(tc:PB)(fa fb:PF):PF:=λenv k=>tc env λb al=>cnd b (fa al k) (fb al k)
theorem ge_if(hc:GT X c ta)(ha:GE X a fa)(hb:GE X b fb):GE X (.IfExp c a b pos) (fIf ta fa fb):=by
 refine PE.imp (xv hc ha hb) ?_;rintro σ H Q ⟨env,Fr,k,rs,q,c⟩;refine⟨env,Fr,_,rs,q,λb be H' q1 cr=>gA ⟨λe=>?_,λe=>?_⟩⟩
 ·exact⟨be,Fr,k,cr,q1.1 e,c⟩
 exact⟨be,Fr,k,cr,q1.2 e,c⟩
noncomputable def E2:PFs:=λenv k=>k [] env
noncomputable def Ar(f:PF)(r:PFs):PFs:=λenv k=>f env λt al=>r al λts bi=>k (t::ts) bi
variable{es:List Jn}{fr:PFs}
theorem ah:GA X [] E2:=PA.imp bU (by rintro σ H Q ⟨env,Fr,k,rs,q,c⟩;exact c [] env [] H q rfl rs)
theorem a9(ha:GE X a fa)(hr:GA X es fr)(hs:Jo (a::es) X.env=(false,JC a X.env)::Jo es X.env:=by rfl):GA X (a::es) (Ar fa fr):=by refine PA.imp (aC ha hr hs) ?_;rintro σ H Q ⟨env,Fr,k,rs,q,c⟩;refine⟨env,Fr,_,rs,q,λt al v H1 q1 cr=>⟨al,_,_,cr,q1,λts bi vs H2 q2 l rs2=>c _ _ _ _ q2 (by rw[g_,g_,l]) ?_⟩⟩;exact rs2.perm e_
noncomputable def Dk(fr:PFs):PF:=λenv k=>fr env λts al=>ts.length<=sizeLine/\k (.tup ts) al
noncomputable def Cu(fr:PFs):PF:=λenv k=>fr env λts al=>ts.length<=sizeLine/\k (.lst true ts) al
theorem cy{x1}(h:GA X es fr):GE X (.Tuple es x1 pos) (Dk fr):=by refine PE.imp (yk h) ?_;rintro σ H Q ⟨env,Fr,k,rs,q,c⟩;refine⟨env,Fr,_,rs,q,λts al vs H1 ⟨z,q1⟩ l cr=>⟨by rw[<-l];exact z,λp H2 hp g e=>c _ _ _ _ q1 ?_⟩⟩;exact Rs.chg (Δ:=zz ts vs) (Δ':=[(.tup ts,some (.ref p))]) cr λΓ r=>fZ r l g e
theorem bP(h:GA X es fr):GE X (.List es pos) (Cu fr):=by refine PE.imp (ye h) ?_;rintro σ H Q ⟨env,Fr,k,rs,q,c⟩;refine⟨env,Fr,_,rs,q,λts al vs H1 ⟨z,q1⟩ l cr=>⟨by rw[<-l];exact z,λp H2 hp g e=>c _ _ _ _ q1 ?_⟩⟩;exact Rs.chg (Δ:=zz ts vs) (Δ':=[(.lst true ts,some (.ref p))]) cr λΓ r=>dU r l hp g e
end
open PySem PySem.Spec PyProof.Rows L2
mutual
noncomputable def dt:T->Dt
 | .int i=>.int i
 | .bl b=>.bl b
 | .str x=>.str x
 | .tup ts=>.tup (dtL ts)
 | .cst ts=>.tup (dtL ts)
 | .lst _ ts=>.lst (dtL ts)
 | _=>.non
noncomputable def dtL:List T->List Dt
 | []=>[]
 |t::r=>dt t::dtL r
end
mutual
noncomputable def isD:T->Bool
 | .tup ts=>gO ts
 | .cst ts=>gO ts
 | .lst _ ts=>gO ts
 | .int _=>true
 | .bl _=>true
 | .str _=>true
 | .non=>true
 | _=>false
noncomputable def gO:List T->Bool
 | []=>true
 |t::r=>isD t&&gO r
end
theorem t5{α:Type}(g:α->T):∀l:List α,dtL (l.map g)=l.map λx=>dt (g x)
 | []=>rfl
 |x::r=>by rw[f',dtL,t5 g r,f']
theorem BY(l:List T):dtL l=l.map dt:=by have:=t5 (λx=>x) l;rw[List.map_id']at this;exact this
section
variable{K:Ja}
theorem tU(g:Gr Hz H):(∀{t v L},RepT K Hz H t v L->isD t=true->Has K H (dt t) v)/\(∀{t v L},RepTs K Hz H t v L->gO t=true->aM K H (dtL t) v)/\(∀{t v L},RepKs K Hz H t v L->True)/\(∀{t v L},RepXs K Hz H t v L->True):=
 gM (P:=λt v L=>isD t=true->Has K H (dt t) v) (Ps:=λt v L=>gO t=true->aM K H (dtL t) v) (Pk:=λt v L=>True) (Px:=λt v L=>True)
  (λn=>nomatch n) (λn=>nomatch n) (λ_ _ n=>nomatch n) (λ_ n=>nomatch n) (λ_=>by show Has K H .non .non;rw[Has]) (λ_=>by rw[dt,Has]) (λ_=>by rw[dt,Has]) (λ_=>by rw[dt,Has]) (λn=>nomatch n)
  (λh c n=>by rw[dt,Has];exact⟨_,_,rfl,SqT.of h,c (by rw[isD]at n;exact n)⟩) (λh c n=>by rw[dt,Has];exact⟨_,_,rfl,sT h H,c (by rw[isD]at n;exact n)⟩)
  (λh c n=>by rw[dt,Has];exact⟨_,_,rfl,SqL.of h,c (by rw[isD]at n;exact n)⟩) (λh c n=>by rw[dt,Has];exact⟨_,_,rfl,.inl (g _ _ h),c (by rw[isD]at n;exact n)⟩)
  (λ_ _ n=>nomatch n) (λ_ _ n=>nomatch n) (λ_ _ n=>nomatch n) (λ_ _ n=>nomatch n)
  (λ_=>by rw[dtL];exact qU) (λi j n=>by rw[gO,EN]at n;rw[dtL];exact nW (i n.1) (j n.2)) trivial (λ_ _=>trivial) trivial (λ_ _=>trivial)
theorem RepT.has (g:Gr Hz H)(n:isD t=true)(h:RepT K Hz H t v L):Has K H (dt t) v:=(tU g).1 h n
theorem RepTs.has (g:Gr Hz H){t:List T}{v:List V}(n:gO t=true)(h:RepTs K Hz H t v L):aM K H (dtL t) v:=(tU g).2.1 h n
theorem zS(h:isD t=true):isAny t=false:=by cases t <;> first|rfl|cases h
theorem jT(h:Rp K H ((t,some y)::Γ))(n:isD t=true):Has K H (dt t) y:=by obtain⟨Hz,L,r,g⟩:=iM h (zS n);exact r.has g n
theorem ui(h:Rp K H (zz ts vs++Γ))(l:ts.length=vs.length)(n:gO ts=true):aM K H (dtL ts) vs:=by obtain⟨Hz,N,h,nd,g,d⟩:=h;obtain⟨L,M,_,h1,_⟩:=h.split;exact(h1.rK l).has g n
end
noncomputable def Bo:P2
 | .int i,.int j,k=>k (.int (i+j))
 | .str x,.str y,k=>x.length+y.length<=sizeLine/\k (.str (x++y))
 | .lst _ ts,.lst _ us,k=>ts.length+us.length<=sizeLine/\k (.lst true (ts++us))
 | .tup ts,.tup us,k=>ts.length+us.length<=sizeLine/\k (.tup (ts++us))
 | _,_,_=>False
noncomputable def CQ:P2
 | .int i,.int j,k=>k (.int (i-j))
 | _,_,_=>False
noncomputable def DS:P2
 | .int i,.int j,k=>0<j/\k (.int (i%j))
 | _,_,_=>False
def Cz:P2
 | .int i,.int j,k=>vI i j/\k (.int (i*2 ^ j.toNat))
 | _,_,_=>False
noncomputable def DR:P2
 | .int i,.int j,k=>k (.int (LH i j))
 | _,_,_=>False
noncomputable def orT:P2
 | .int i,.int j,k=>k (.int (Kw i j))
 | _,_,_=>False
noncomputable def Er(p:Int->Int->Bool):P2
 | .int i,.int j,k=>k (.bl (p i j))
 | _,_,_=>False
def gtT:P2:=Er λi j=>decide (j<i)
def eqT:P2:=λt u k=>isD t=true/\isD u=true/\dpt (dt t)<190/\k (.bl (eqD (dt t) (dt u)))
def neT:P2:=λt u k=>isD t=true/\isD u=true/\dpt (dt t)<190/\k (.bl (!eqD (dt t) (dt u)))
variable {n:Nat}{o:Bool}{r':Int->Int->V}
section
variable{X:Cx}
theorem t6{C:Int->Int->Prop}{r:Int->Int->T}(h:OpR X f (rI C r'))(hr:∀i j K Hz H,RepT K Hz H (r i j) (r' i j) []):OpP X f (λt u k=>match t,u with | .int i,.int j=>C i j/\k (r i j) | _,_=>False):=by
 refine .of h ?_;intro tx ty x y H Γ k Q rp g c;cases tx <;> cases ty <;> first|exact g.elim|skip
 rename_i i j;rw[aE rp,aE rp.tail];exact⟨i,j,rfl,rfl,g.1,c _ _ _ g.2 (bH rp.tail.tail λHz=>hr i j _ _ _)⟩
theorem j7{r:Int->Int->T}(h:OpR X f (rI0 r'))(hr:∀i j K Hz H,RepT K Hz H (r i j) (r' i j) []):OpP X f (λt u k=>match t,u with | .int i,.int j=>k (r i j) | _,_=>False):=by
 refine .of h ?_;intro tx ty x y H Γ k Q rp g c;cases tx <;> cases ty <;> first|exact g.elim|skip
 rename_i i j;rw[aE rp,aE rp.tail];exact⟨i,j,rfl,rfl,c _ _ _ g (bH rp.tail.tail λHz=>hr i j _ _ _)⟩
theorem OpP.imp {g g':P2}(h:OpP X f g)(k:∀tx ty k,g' tx ty k->g tx ty k):OpP X f g':=OpR.imp h (by rintro x y H Q ⟨tx,ty,Γ,kk,rp,gg,c⟩;exact⟨tx,ty,Γ,kk,rp,k _ _ _ gg,c⟩)
theorem Inv.Dl {σ:L2.St}{l:I_}(I:Inv X ac σ H s)(hH:Rd H l (.lst xs)):xs.length<=sizeLine/\∃(bd:List IY) (n:Nat),Vals xs bd/\xs.length=bd.length/\s.heap.get? l=some { cls:=.type "list",data:=.seq bd.toArray n}:=by obtain⟨z,bd,n,r,e⟩:=hH.ok I.hok;exact⟨z,bd,n,r,r.length,e⟩
theorem zG:OpR X (JQ .Add) (λx y H Q=>∃l b xs zs,x=.ref l/\y=.ref b/\Rd H l (.lst xs)/\Rd H b (.lst zs)/\xs.length+zs.length<=sizeLine/\New (.lst (xs++zs)) H Q):=by
 intro ac s σ H x y v u Q I rx ry h;obtain⟨l,b,xs,zs,rfl,rfl,hH,hB,hz,q⟩:=h;cases rx;cases ry;obtain⟨z,bd,n,r,hl,e⟩:=Inv.Dl I hH;obtain⟨z2,its2,n2,r2,hl2,e2⟩:=Inv.Dl I hB;refine PySem.P.add_list e e2 ?_ (by rw[h_,h_];lia);have ea:bd.toArray++its2.toArray=(bd++its2).toArray:=by simp
 rw[ea];exact⟨.ref _,_,I.Dn (t':=s.toks) (r.append r2) (by rw[j_];omega),rfl,q.at I.fresh⟩
theorem oj(h:Rp K H ((.lst o ts,some y)::Γ)):∃a vs,y=.ref a/\Rd H a (.lst vs)/\ts.length=vs.length/\Rp K H (zz ts vs++Γ):=by
 obtain⟨Hz,N,h,nd,g,d⟩:=h;cases h with
 |cons e1 h c=>
  rcases h with⟨z,_⟩|⟨v,e2,h⟩
  ·cases z
  cases e2;cases h
  ·rename_i a vs L h c1;rw[e1,E_,y_]at nd;exact⟨a,vs,rfl,.inl h,c1.len,Hz,_,c1.toL.app c,nd.2,g,λb m=>d b (by rw[e1,E_];exact i_ _ m)⟩
  rename_i a vs h c1;exact⟨a,vs,rfl,g _ _ h,c1.len,Hz,_,c1.toL.app c,by rw[<-e1];exact nd,g,λb m=>d b (by rw[e1];exact m)⟩
theorem sW(h:Rp K H ((.tup ts,some y)::Γ)):∃a vs,y=.ref a/\H a=some (.tup vs)/\ts.length=vs.length/\Rp K H (zz ts vs++Γ):=by
 obtain⟨Hz,N,h,nd,g,d⟩:=h;cases h with
 |cons e1 h c=>
  rcases h with⟨z,_⟩|⟨v,e2,h⟩
  ·cases z
  cases e2;cases h with
  |tup h c1=>exact⟨_,_,rfl,h,c1.len,Hz,_,c1.toL.app c,by rw[<-e1];exact nd,g,λb m=>d b (by rw[e1];exact m)⟩
theorem jP{us:List T}{ws:List V}(l:ts.length=vs.length):zz (ts++us) (vs++ws)=zz ts vs++zz us ws:=by show(ts++us).zip ((vs++ws).map some)=_;rw[x_,Iv (by rw[a_];exact l)]
theorem yg:OpR X (JQ .Add) (λx y H Q=>∃a b ys,x=.ref a/\y=.ref b/\SqT X.K H a []/\SqT X.K H b ys/\Q (.ref b) H):=by
 intro ac s σ H x y v u Q I rx ry h;obtain⟨a,b,ys,rfl,rfl,ha,hb,q⟩:=h;cases rx;cases ry;obtain⟨bd,r1,p1,_⟩:=I.tuple ha;obtain⟨its2,r2,p2,_⟩:=I.tuple hb;cases r1;obtain⟨⟨cls,dd,data,sl⟩,ho,hc,n,hd⟩:=id p1;obtain⟨⟨cls2,dd2,data2,sl2⟩,ho2,hc2,n2,hd2⟩:=id p2;simp only at hc hd hc2 hd2;subst hc hd hc2 hd2;exact NY ⟨_,ho,rfl⟩ ⟨_,ho2,rfl⟩ MQ NK LV LL (LB _ _)
  (tuple_addW0 a b _ its2.toArray n n2 dd dd2 sl sl2 (by simp)) ⟨ho,ho2,⟨.ref b,H,I,rfl,q⟩⟩
theorem da:OpP X (JQ .Add) Bo:=by
 rintro ac s σ H x y v u Q I rx ry ⟨tx,ty,Γ,k,rp,g,c⟩;cases tx <;> cases ty <;> first|exact Jq g|skip
 ·rename_i i j;rw[aE rp]at ry;rw[aE rp.tail]at rx;exact mL ac s σ H _ _ v u Q I rx ry ⟨i,j,rfl,rfl,c _ _ _ g (bH rp.tail.tail λ_=>.int)⟩
 ·rename_i i j;rw[gi rp]at ry;rw[gi rp.tail]at rx;exact sj ac s σ H _ _ v u Q I rx ry ⟨i,j,rfl,rfl,g.1,c _ _ _ g.2 (bH rp.tail.tail λ_=>.str)⟩
 ·rename_i ts us;obtain⟨b,ws,rfl,hb,lb,ce⟩:=sW rp;obtain⟨a,vs,rfl,ha,la,cl⟩:=sW (ce.perm e_);have lz:vs.length+ws.length<=sizeLine:=by rw[<-la,<-lb];exact g.1
  have rp4:Rp X.K H (zz (ts++us) (vs++ws)++Γ):=by rw[jP la,n_];exact cl
  by_cases hx:vs=[]
  ·subst hx;refine yg ac s σ H _ _ v u Q I rx ry ⟨a,b,ws,rfl,rfl,SqT.of ha,SqT.of hb,?_⟩;refine c _ _ _ g.2 (fZ rp4 (by rw[j_,j_,la,lb]) .ck ?_);rw[Gn];exact hb
  refine zI ac s σ H _ _ v u Q I rx ry ⟨a,b,vs,ws,rfl,rfl,SqT.of ha,SqT.of hb,hx,lz,λe=>?_,λ_ p hp=>c _ _ _ g.2 (fZ rp4 (by rw[j_,j_,la,lb]) (aF hp _) aq)⟩;refine c _ _ _ g.2 (fZ rp4 (by rw[j_,j_,la,lb]) .ck ?_);rw[e,ET];exact ha
 rename_i o ts o' us;obtain⟨b,ws,rfl,hb,lb,ce⟩:=oj rp;obtain⟨a,vs,rfl,ha,la,cl⟩:=oj (ce.perm e_);have lz:vs.length+ws.length<=sizeLine:=by rw[<-la,<-lb];exact g.1
 have rp4:Rp X.K H (zz (ts++us) (vs++ws)++Γ):=by rw[jP la,n_];exact cl
 exact zG ac s σ H _ _ v u Q I rx ry ⟨a,b,vs,ws,rfl,rfl,ha,hb,lz,λp H' hp g' e=>c _ _ _ g.2 (dU rp4 (by rw[j_,j_,la,lb]) hp g' e)⟩
theorem yC:OpP X (JQ .Sub) CQ:=(j7 (r:=λi j=>.int (i-j)) AF λ_ _ _ _ _=>.int).imp λtx ty k g=>by cases tx <;> cases ty <;> exact g
theorem zO:OpP X (JQ .Mod) DS:=(t6 (r:=λi j=>.int (i%j)) iC λ_ _ _ _ _=>.int).imp λtx ty k g=>by cases tx <;> cases ty <;> exact g
theorem gJ:OpP X (JQ .LShift) Cz:=(t6 (r:=λi j=>.int (i*2 ^ j.toNat)) AY λ_ _ _ _ _=>.int).imp λtx ty k g=>by cases tx <;> cases ty <;> exact g
theorem p3:OpP X (JQ .BitAnd) DR:=(j7 (r:=λi j=>.int (LH i j)) Br λ_ _ _ _ _=>.int).imp λtx ty k g=>by cases tx <;> cases ty <;> exact g
theorem Az:OpP X (JQ .BitOr) orT:=(j7 (r:=λi j=>.int (Kw i j)) Dc λ_ _ _ _ _=>.int).imp λtx ty k g=>by cases tx <;> cases ty <;> exact g
theorem C8:OpP X (J8 .Gt) gtT:=(j7 (r:=λi j=>.bl (decide (j<i))) E1 λ_ _ _ _ _=>.bl).imp λtx ty k g=>by cases tx <;> cases ty <;> exact g
theorem Al{k:Nat}{A:Jr}(r:Room k A)(h:n<190):A.units+n<cLine:=by have:=r.un;lia
theorem ip{k:Nat}(hr:Room k X.A):OpP X (J8 .Eq) eqT:=.of vt λtx ty x y H Γ k Q rp ⟨d1,d2,z,g⟩ c=>
 ⟨dt tx,dt ty,jT rp.tail d1,jT rp d2,Al hr z,c _ _ _ g (bH rp.tail.tail λ_=>.bl)⟩
theorem hU{k:Nat}(hr:Room k X.A):OpP X (J8 .NotEq) neT:=.of BV λtx ty x y H Γ k Q rp ⟨d1,d2,z,g⟩ c=>
 ⟨dt tx,dt ty,jT rp.tail d1,jT rp d2,Al hr z,c _ _ _ g (bH rp.tail.tail λ_=>.bl)⟩
end
open PySem PySem.Spec PyProof.Rows L2
noncomputable def pT:T->Option Key
 | .int i=>some (.inl i)
 | .str x=>some (.inr x)
 | .non=>some (.inr none)
 | _=>none
def ff:List T->Option (List Key)
 | []=>some []
 |t::r=>match pT t,ff r with
  |some k,some ks=>some (k::ks)
  | _,_=>none
section
variable{κ:Type}[DecidableEq κ]
noncomputable def mP(am:List (κ×T))(k:κ):Option T:=(am.find? λkv=>decide (kv.1=k)).map (·.2)
noncomputable def gP(am:List (κ×T))(k:κ)(v:T):List (κ×T):=
 if(am.any λkv=>decide (kv.1=k))=true then am.map (λkv=>if kv.1=k then(kv.1,v)else kv)else am++[(k,v)]
theorem kH:∀{ts:List (κ×T)}{vs:List (κ×V)}{q:κ}{u:T},ts.map (·.1)=vs.map (·.1)->mP ts q=some u->∃(w:V) (i:Nat),cg vs q=some w/\(ts.map (·.2))[i]?=some u/\(vs.map (·.2))[i]?=some w
 | [],vs,q,u,e,h=>by cases h
 | (k,t)::ts,[],q,u,e,h=>by cases e
 | (k,t)::ts,(k',v)::vs,q,u,e,h=>by
  rw[f',f',FZ]at e;have e0:k=k':=e.1;subst e0;unfold mP at h;rw[EY]at h;unfold cg;rw[EY];by_cases hk:k=q
  ·have hk':decide (k=q)=true:=decide_eq_true hk;rw[show decide ((k,t).1=q)=true from hk']at h;rw[show decide ((k,v).1=q)=true from hk'];cases h;exact⟨v,0,rfl,rfl,rfl⟩
  have hk':decide (k=q)=false:=decide_eq_false hk;rw[show decide ((k,t).1=q)=false from hk']at h;rw[show decide ((k,v).1=q)=false from hk'];obtain⟨w,i,h1,h2,h3⟩:=kH (ts:=ts) (vs:=vs) e.2 h;exact⟨w,i+1,h1,by simpa using h2,by simpa using h3⟩
theorem kg:∀{ts:List (κ×T)}{vs:List (κ×V)} (q:κ),ts.map (·.1)=vs.map (·.1)->(mP ts q).isSome=(cg vs q).isSome
 | [],[],q,e=>rfl
 | [],_::_,q,e=>by cases e
 | (k,t)::ts,[],q,e=>by cases e
 | (k,t)::ts,(k',v)::vs,q,e=>by
  rw[f',f',FZ]at e;have e0:k=k':=e.1;subst e0;have ih:=kg (ts:=ts) (vs:=vs) q e.2;unfold mP cg at ih ⊢;rw[EY,EY];by_cases hk:k=q
  ·have hk':decide (k=q)=true:=decide_eq_true hk;rw[show decide ((k,t).1=q)=true from hk']
   rfl
  have hk':decide (k=q)=false:=decide_eq_false hk;rw[show decide ((k,t).1=q)=false from hk'];exact ih
end
section
variable{K:Ja}{H:Hp}{Γ:Fm}
theorem oE{ts:List (Key×T)}(h:Rp K H ((.dK o ts,some y)::Γ)):∃a vs,y=.ref a/\Rd H a (.dK vs)/\ts.map (·.1)=vs.map (·.1)/\Rp K H (zz (ts.map (·.2)) (vs.map (·.2))++Γ):=by
 obtain⟨Hz,N,h,nd,g,d⟩:=h;cases h with
 |cons e1 h c=>
  rcases h with⟨z,_⟩|⟨v,e2,h⟩
  ·cases z
  cases e2;cases h
  ·rename_i a vs L h c1;obtain⟨ek,c2⟩:=c1.toL;rw[e1,E_,y_]at nd;exact⟨a,vs,rfl,.inl h,ek,Hz,_,c2.toL.app c,nd.2,g,λb m=>d b (by rw[e1,E_];exact i_ _ m)⟩
  rename_i a vs h c1;obtain⟨ek,c2⟩:=c1.toL;exact⟨a,vs,rfl,g _ _ h,ek,Hz,_,c2.toL.app c,by rw[<-e1];exact nd,g,λb m=>d b (by rw[e1];exact m)⟩
theorem rM{ts:List (List Key×T)}(h:Rp K H ((.dT o ts,some y)::Γ)):∃a vs,y=.ref a/\Rd H a (.dT vs)/\ts.map (·.1)=vs.map (·.1)/\Rp K H (zz (ts.map (·.2)) (vs.map (·.2))++Γ):=by
 obtain⟨Hz,N,h,nd,g,d⟩:=h;cases h with
 |cons e1 h c=>
  rcases h with⟨z,_⟩|⟨v,e2,h⟩
  ·cases z
  cases e2;cases h
  ·rename_i a vs L h c1;obtain⟨ek,c2⟩:=c1.toL;rw[e1,E_,y_]at nd;exact⟨a,vs,rfl,.inl h,ek,Hz,_,c2.toL.app c,nd.2,g,λb m=>d b (by rw[e1,E_];exact i_ _ m)⟩
  rename_i a vs h c1;obtain⟨ek,c2⟩:=c1.toL;exact⟨a,vs,rfl,g _ _ h,ek,Hz,_,c2.toL.app c,by rw[<-e1];exact nd,g,λb m=>d b (by rw[e1];exact m)⟩
theorem oZ{k:Key}(e:pT t=some k)(h:Rp K H ((t,some y)::Γ)):y=kV k:=by
 cases t <;> cases e
 ·rw[xc h];rfl
 ·rw[aE h];rfl
 rw[gi h];rfl
theorem w4{k:Key}(e:pT t=some k)(h:RepT K Hz H t v L):v=kV k:=by
 cases t <;> cases e
 ·cases h;rfl
 ·cases h;rfl
 cases h;rfl
theorem nD{Hz:Hp}:∀{ts:List T}{ks:List Key}{vs:List V}{L:List I_},ff ts=some ks->RepTs K Hz H ts vs L->vs=ks.map kV
 | [],ks,_,_,e,r=>by cases r;cases e;rfl
 |t::ts,ks,_,_,e,r=>by
  cases r with
  |cons _ h c=>
   rw[ff]at e;split at e
   ·rename_i k r e1 e2;cases e;rw[w4 e1 h,nD e2 c]
    rfl
   cases e
theorem oP{ks:List Key}(e:ff ts=some ks)(h:Rp K H ((.tup ts,some y)::Γ)):∃b,y=.ref b/\H b=some (.tup (ks.map kV)):=by
 obtain⟨Hz,L,r,g⟩:=iM h rfl;cases r with
 |tup h1 c1=>exact⟨_,rfl,by rw[h1,nD e c1]⟩
end
def ixT:P2
 | .tup ts,.int i,k=>got (atI ts i) k
 | .cst ts,.int i,k=>got (atI ts i) k
 | .lst _ ts,.int i,k=>got (atI ts i) k
 | .str x,.int i,k=>x.length<=sizeLine/\got (atI x.cps.toList i) λc=>k (.str ⟨#[c]⟩)
 | .dK _ am,y,k=>got (pT y) λq=>got (mP am q) k
 | .dT _ am,.tup ts,k=>got (ff ts) λq=>got (mP am q) k
 | _,_,_=>False
variable {kr:Nat}{pos:Pos}
section
variable{X:Cx}
theorem sZ(hu:X.A.units+1<cLine):IxR X (λx y H Q=>∃a v,x=.ref a/\jI H a y (some v)/\Q v H):=by
 intro value slice ac s σ H x y v u Q I rx ry h hs;obtain⟨a,z,rfl,g,q⟩:=h;cases rx;have hT:=kK I g;unfold LY;refine IZ ?_;rw[Nj hT.not_modules];refine IZ (M3 hT MJ.lookup ?_);have fin:Jf (Jh X.prog X.w) X.A (Mh slice false (.ref a) u) (λr s₃=>Jf (Jh X.prog X.w) X.A (O3 value (.ref a) r >>= λ_=>pure r) (EP X ac σ Q) X.xe s₃) X.xe s:=by rw[hs];refine OG (nj hu I g ry λw' s' I' r'=>IZ (NH (Jd ⟨z,H,I',r',q⟩)))
 first
  |exact Jd (IZ fin)
  |exact IZ (Jd (IZ fin))
  |exact IZ fin
theorem EB(hr:Room kr X.A):IxR X (w2 X.K ixT):=by
 rintro value slice ac s σ H x y v u Q I rx ry ⟨tx,ty,Γ,k,rp,g,c⟩ hs;have sq:∀ts i,items tx=some ts->ty=.int i->got (atI ts i) k->Jf (Jh X.prog X.w) X.A (LY value slice v u) (EP X ac σ Q) X.xe s:=λts i e1 e2 g=>by obtain⟨t,et,kt⟩:=aB g;subst e2;rw[aE rp]at ry;obtain⟨a,vs,rfl,hq,l,ce⟩:=ay e1 rp.tail;obtain⟨w,ew,cl⟩:=vY l et ce;exact Eb value slice ac s σ H _ _ v u Q I rx ry ⟨_,a,vs,i,w,rfl,rfl,hq,ew,c _ _ _ kt cl⟩ hs
 cases tx with
 |tup ts=>cases ty <;> first|exact Jq g|exact sq _ _ rfl rfl g
 |cst ts=>cases ty <;> first|exact Jq g|exact sq _ _ rfl rfl g
 |lst o ts=>cases ty <;> first|exact Jq g|exact sq _ _ rfl rfl g
 |str z=>
  cases ty <;> first|exact Jq g|skip
  rename_i i;obtain⟨hz,g⟩:=g;obtain⟨t,et,kt⟩:=aB g;rw[aE rp]at ry;rw[gi rp.tail]at rx;exact wc value slice ac s σ H _ _ v u Q I rx ry ⟨z,i,t,rfl,rfl,hz,et,c _ _ _ kt (bH rp.tail.tail λ_=>.str)⟩ hs
 |dK o am=>
  have g:got (pT ty) λq=>got (mP am q) k:=by cases ty <;> exact g
  obtain⟨q,eq,g⟩:=aB g;obtain⟨t,et,kt⟩:=aB g;rw[oZ eq rp]at ry;obtain⟨a,vs,rfl,hq,ek,ce⟩:=oE rp.tail;obtain⟨w,i,ew,e1,e2⟩:=kH ek et;exact sZ (kS hr) value slice ac s σ H _ _ v u Q I rx ry ⟨a,w,rfl,.inl ⟨vs,q,hq,rfl,ew.symm⟩,c _ _ _ kt (jv ce e1 e2)⟩ hs
 |dT o am=>
  cases ty <;> first|exact Jq g|skip
  rename_i ts;obtain⟨q,eq,g⟩:=aB g;obtain⟨t,et,kt⟩:=aB g;obtain⟨b,rfl,hb⟩:=oP eq rp;obtain⟨a,vs,rfl,hq,ek,ce⟩:=rM rp.tail;obtain⟨w,i,ew,e1,e2⟩:=kH ek et;exact sZ (kS hr) value slice ac s σ H _ _ v u Q I rx ry ⟨a,w,rfl,.inr ⟨vs,q,b,hq,rfl,hb,ew.symm⟩,c _ _ _ kt (jv ce e1 e2)⟩ hs
 | _=>cases ty <;> exact Jq g
theorem aH{kr:Nat}{a b:Jn}{fa fb:PF}{pos:Pos}(hr:Room kr X.A)(ha:GE X a fa)(hb:GE X b fb)(hs:u6 b:=by intro _ _;rfl):GE X (.Subscript a b pos) (uQ ixT fa fb):=PE.imp (Aj (EB hr) ha hb hs) sP
def pK(x:T)(ts:List T):Bool:=ts.any λe=>eqD (dt e) (dt x)
def inT:P2:=λx y k=>match y with
 | .dK _ am=>got (pT x) λq=>k (.bl (mP am q).isSome)
 | .dT _ am=>match x with
  | .tup ts=>got (ff ts) λq=>k (.bl (mP am q).isSome)
  | _=>False
 | .str b=>match x with
  | .str a=>k (.bl (!(MY b a 0 b.length 1).isEmpty))
  | _=>False
 |y=>got (items y) λts=>isD x=true/\gO ts=true/\bw (dtL ts)<180/\k (.bl (pK x ts))
def BQ:P2:=λx y k=>inT x y λt=>match t with
 | .bl b=>k (.bl (!b))
 | _=>False
theorem uN:OpR X (J8 .NotIn) (λx y H Q=>∃p xs d ds,y=.ref p/\SqT X.K H p xs/\Has X.K H d x/\aM X.K H ds xs/\X.A.in1.units+bw ds<cLine/\Q (.bl (!ds.any λe=>eqD e d)) H):=by intro ac s σ H x y v u Q I rx ry h;obtain⟨p,xs,d,ds,rfl,hq,hd,hl,hA,q⟩:=h;cases ry;obtain⟨bd,r,pl,hz⟩:=I.tuple hq;obtain⟨e,e1,_,e3⟩:=rP I (A:=X.A.in1) hA hd rx (c_ _) hl r;refine SeqAt.notIn_tupleAt e pl (λw hw=>e1 w (by simpa using hw)) ⟨.bl _,H,I,rfl,?_⟩;rw[show bd.toArray.any e=bd.any e by simp,e3];exact q
theorem yr(x:T)(ts:List T):pK x ts=(dtL ts).any λe=>eqD e (dt x):=by
 unfold pK;rw[BY,HW]
 rfl
theorem yi(hr:Room kr X.A):OpP X (J8 .NotIn) BQ:=by
 rintro ac s σ H x y v u Q I rx ry ⟨tx,ty,Γ,k,rp,g,c⟩;unfold BQ at g;have sq:(got (items ty) λts=>isD tx=true/\gO ts=true/\bw (dtL ts)<180/\k (.bl (!pK tx ts)))->Jf (Jh X.prog X.w) X.A (J8 .NotIn v u) (EP X ac σ Q) X.xe s:=λg=>by
  obtain⟨ts,e,d1,d2,z,kt⟩:=aB g;obtain⟨a,vs,rfl,hq,l,ce⟩:=ay e rp;have fin:=c _ _ _ kt (bH (H:=H) (v:=.bl (!pK tx ts)) rp.tail.tail λ_=>.bl);rw[yr]at fin;have hA:X.A.in1.units+bw (dtL ts)<cLine:=by have:=hr.un;show X.A.units+1+_<_;omega
  revert hq;cases oJ ty with
  |true=>exact λhq=>uN ac s σ H _ _ v u Q I rx ry ⟨a,vs,_,_,rfl,hq,jT rp.tail d1,ui ce l d2,hA,fin⟩
  |false=>exact λhq=>uJ ac s σ H _ _ v u Q I rx ry ⟨a,vs,_,_,rfl,hq,jT rp.tail d1,ui ce l d2,hA,fin⟩
 cases ty with
 |tup ts=>exact sq g
 |cst ts=>exact sq g
 |lst o ts=>exact sq g
 |str b=>
  cases tx <;> first|exact Jq g|skip
  rename_i a;rw[gi rp]at ry;rw[gi rp.tail]at rx;exact pq ac s σ H _ _ v u Q I rx ry ⟨a,b,rfl,rfl,c _ _ _ g (bH rp.tail.tail λ_=>.bl)⟩
 |dK o am=>
  obtain⟨q,eq,g⟩:=aB g;rw[oZ eq rp.tail]at rx;obtain⟨a,vs,rfl,hq,ek,ce⟩:=oE rp;cases ry;rw[kg q ek]at g;exact t7 (kS hr) I (.inl ⟨vs,q,hq,rfl,rfl⟩) rx λs' I'=>⟨.bl _,H,I',rfl,c _ _ _ g (bH rp.tail.tail λ_=>.bl)⟩
 |dT o am=>
  cases tx <;> first|exact Jq g|skip
  rename_i ts;obtain⟨q,eq,g⟩:=aB g;obtain⟨b,rfl,hb⟩:=oP eq rp.tail;obtain⟨a,vs,rfl,hq,ek,ce⟩:=rM rp;cases ry;rw[kg q ek]at g;exact t7 (kS hr) I (.inr ⟨vs,q,b,hq,rfl,hb,rfl⟩) rx λs' I'=>⟨.bl _,H,I',rfl,c _ _ _ g (bH rp.tail.tail λ_=>.bl)⟩
 | _=>exact Jq g
noncomputable def fUn(g:T->(T->Prop)->Prop)(fa:PF):PF:=λenv k=>fa env λt al=>g t λu=>k u al
noncomputable def D3:T->(T->Prop)->Prop
 | .int i,k=>k (.int (-i))
 | _,_=>False
theorem lK{a:Jn}(ha:GE X a fa):GE X (.UnaryOp .USub a pos) (fUn D3 fa):=by
 refine PE.imp (Ct Bj ha) ?_;rintro σ H Q ⟨env,Fr,k,rs,q,c⟩;refine⟨env,Fr,_,rs,q,λt al v H1 q1 cr=>?_⟩;cases t <;> first|exact Jq q1|skip
 rename_i i;exact⟨i,aE cr.head,c _ _ _ _ q1 (jG cr.drop λ_=>.int)⟩
end
open PySem PySem.Spec PyProof.Rows L2
abbrev P1s:=List T->(T->Prop)->Prop
def w1s(K:Ja)(g:P1s):List V->Hp->VK->Prop:=λxs H Q=>∃ts Γ k,ts.length=xs.length/\Rp K H (zz ts xs++Γ)/\g ts k/\∀t v H',k t->Rp K H' ((t,some v)::Γ)->Q v H'
def nF(X:Cx)(f:IY)(g:P1s):Prop:=cf X f (w1s X.K g)
noncomputable def fCl(g:P1s)(fr:PFs):PF:=λenv k=>fr env λts al=>g ts λt=>k t al
section
variable{X:Cx}{e:Jn}{es:List Jn}{fr:PFs}{pos p:Pos}{x:Str}{g:P1s}
theorem A5:∀ σ H Q,wE X.K (fCl g fr) σ H Q->tCB (w1s X.K g) (wA X.K fr) σ H Q:=by rintro σ H Q ⟨env,Fr,k,rs,q,c⟩;refine⟨env,Fr,_,rs,q,λts al vs H1 q1 l cr=>?_⟩;refine⟨ts,al.zip σ++Fr,_,l,?_,q1,λt v H' kt rp=>c _ _ _ _ kt (.of cr.1 rp)⟩;refine cr.2.perm ?_;rw[<-n_,<-n_];exact F7.append_right _
theorem dP{id:String}(hc:nF X (.builtin id) g)(hg:Gl X x)(hm:X.mg x=none)(hv:KU x=some (.builtin id))(ha:GA X (e::es) fr)(hn:x≠"__name__":=by decide)(hdb:(x ==("__debug__":Str))=false:=by decide)
  (he:Jo (e::es) X.env=(false,JC e X.env)::Jo es X.env:=by rfl) (hpl:(KH pos (Jo es X.env)).any (·.1)=false:=by rfl):GE X (.Call (.Name x p) (e::es) [] pos) (fCl g fr):=PE.imp (dJ hc hg hm hv ha hn hdb he hpl) A5
theorem dC{id:String}(hc:nF X (.type id) g)(hg:Gl X x)(hm:X.mg x=none)(hv:KU x=some (.type id))(ha:GA X (e::es) fr)(hn:x≠"__name__":=by decide)(hdb:(x ==("__debug__":Str))=false:=by decide)
  (he:Jo (e::es) X.env=(false,JC e X.env)::Jo es X.env:=by rfl) (hpl:(KH pos (Jo es X.env)).any (·.1)=false:=by rfl):GE X (.Call (.Name x p) (e::es) [] pos) (fCl g fr):=PE.imp (nJ hc hg hm hv ha hn hdb he hpl) A5
end
variable {E Q:IY->Jc->Prop}{w:Jm}
section
variable{X:Cx}
theorem zz1(l:ts.length=xs.length)(e:ts=[t]):∃x,xs=[x]:=by
 subst e;rcases xs with _|⟨x,_|⟨y,xs⟩⟩
 ·cases l
 ·exact⟨x,rfl⟩
 cases l
theorem zz2{u:T}(l:ts.length=xs.length)(e:ts=[t,u]):∃x y,xs=[x,y]:=by
 subst e;rcases xs with _|⟨x,xs⟩
 ·cases l
 obtain⟨y,rfl⟩:=zz1 (ts:=[u]) (FV l) rfl;exact⟨x,y,rfl⟩
theorem rZ{prog:Ji}(d:I_)(nd:(d == J9)=false) :
  MeetsIn prog w (Kq.«dict.__len__» ⟨[.ref d],[]⟩) (λ_ R s=>∃o es ep,s.heap.get? d=some o/\o.data=.dict es ep/\R (.ok (.ret (.int es.size s.toks))) {s with toks:=s.toks+1}):=
 .of_wp λA R s ⟨o,es,ep,ho,hdat,q⟩=>by show Jf _ _ (dictSize d >>= _) _ _ s;unfold dictSize;refine IZ (IZ (LO ho hdat (Jd ?_)));show Jf _ _ (PQ d >>= _) _ _ s;exact IZ (wpAny_pendingCount_other nd (wpAny_ret_mkInt (by rw[IK];exact q)))
theorem yz{prog:Ji}{A:Jr}{d:I_}{o:Obj}{es:Array K8}{ep:Nat}(nd:(d == J9)=false)(ho:s.heap.get? d=some o)(hc:o.ExactDict)(hdat:o.data=.dict es ep)
  (fit:(es.size:Int)<2 ^ 63) (q:∀t tk,Q (.int es.size t) {s with toks:=tk}):Jf (Jh prog w) A (call (.builtin "len") [.ref d]) Q E s:=by
 have ty:s.TypeIs (.ref d) "dict":=⟨_,ho,hc.1⟩;refine MK kind_len plain_len entry_len (args_len1 _) ?_;unfold Kq.«len»;refine IZ (m:=oneArg "len" _) (Jd ?_);refine IZ (m:=callSpecial? (.ref d) (JZ "__len__")) (JR (name:=JZ "__len__") ty Np
  (call_meetsIn Np ty PySem.F.entry_dict_len (PySem.F.args_dict_len_1 _) (rZ d nd) ⟨o,es,ep,ho,hdat,?_⟩))
 show Jf _ _ _ _ _ {s with toks:=s.toks+1};refine IZ (Jy (Jd (IZ (Mi ?_))));show Jf _ _ (if((es.size:Nat):Int)<0 then _ else _) _ _ _;rw[if_neg (by lia)];show Jf _ _ (if((es.size:Nat):Int)>=2 ^ 63 then _ else _) _ _ _;rw[if_neg (by lia)];exact IZ (Qi (Jd ⟨_,rfl,q _ _⟩))
theorem AO{σ:L2.St}{am:List (List Key×V)}(I:Inv X ac σ H s)(e:Rd H a (.dT am))(q:∀t s',Inv X ac σ H s'->Q (.int am.length t) s'):Jf (Jh X.prog X.w) X.A (call (.builtin "len") [.ref a]) Q E s:=by
 obtain⟨z,hd,xs,rel,o,es,ep,h1,h2,h3,h4,_⟩:=pX I.hok e;have hs:es.size=am.length:=by have:=congrArg G3 h4;rw[a_]at this;rw[<-r_,this];exact(LW rel).symm
 refine yz hd h1 h2 h3 (by rw[JG]at z;lia) λt tk=>?_
 rw[hs];exact q _ _ (I.tok _)
def DO:P1s
 | [t],k=>match t with
  | .str x=>x.length<=sizeLine/\k (.int x.length)
  | .dK _ am=>k (.int am.length)
  | .dT _ am=>k (.int am.length)
  |t=>got (items t) λts=>k (.int ts.length)
 | _,_=>False
theorem cx:nF X (.builtin "len") DO:=by
 rintro ac s σ H xs us Q I r ⟨ts,Γ,k,l,rp,g,c⟩
 match ts,l,g with
 | [t],l,g=>
  obtain⟨x,rfl⟩:=zz1 l rfl;have rp:Rp X.K H ((t,some x)::Γ):=rp;have sq:(got (items t) λts=>k (.int ts.length))->Jf (Jh X.prog X.w) X.A (call (.builtin "len") us) (EP X ac σ Q) X.xe s:=λg=>by obtain⟨us',e,kt⟩:=aB g;obtain⟨a,vs,rfl,hq,l2,ce⟩:=ay e rp;rw[l2]at kt;exact v3 ac s σ H _ us Q I r ⟨_,a,vs,rfl,hq,c _ _ _ kt (bH rp.tail λ_=>.int)⟩
  cases t with
  |str z=>
   rw[gi rp]at r;exact oD ac s σ H _ us Q I r ⟨z,rfl,g.1,c _ _ _ g.2 (bH rp.tail λ_=>.int)⟩
  |dK o am=>
   obtain⟨a,vs,rfl,hq,ek,ce⟩:=oE rp;obtain⟨u,rfl,ru⟩:=vals1 r;cases ru;have g:k (.int am.length):=g;rw[aY ek]at g;exact CW I hq λt s' I'=>⟨.int vs.length,H,I',⟨t,rfl⟩,c _ _ _ g (bH rp.tail λ_=>.int)⟩
  |dT o am=>
   obtain⟨a,vs,rfl,hq,ek,ce⟩:=rM rp;obtain⟨u,rfl,ru⟩:=vals1 r;cases ru;have g:k (.int am.length):=g;rw[aY ek]at g;exact AO I hq λt s' I'=>⟨.int vs.length,H,I',⟨t,rfl⟩,c _ _ _ g (bH rp.tail λ_=>.int)⟩
  | _=>exact sq g
 | [],_,g=>exact Jq g
 | _::_::_,_,g=>exact Jq g
noncomputable def intsOf:List T->Option (List Int)
 | []=>some []
 | .int i::r=>match intsOf r with
  |some ns=>some (i::ns)
  |none=>none
 | _::_=>none
theorem lW(ns:List Int):intsOf (ns.map T.int)=some ns:=by
 induction ns with
 |nil=>rfl
 |cons n r ih=>rw[f',intsOf,ih]
theorem kF:∀{ts:List T}{ns:List Int},intsOf ts=some ns->ts=ns.map T.int
 | [],ns,e=>by cases e;rfl
 |t::ts,ns,e=>by
  cases t <;> first|cases e|skip
  rename_i i;rw[intsOf]at e;split at e
  ·rename_i ms em;cases e;rw[f',kF em]
  cases e
theorem jD{K:Ja}{H:Hp}{Γ:Fm}:∀{ns:List Int}{vs:List V},(ns.map T.int).length=vs.length->Rp K H (zz (ns.map T.int) vs++Γ)->vs=ns.map V.int
 | [],[],_,_=>rfl
 | [],_::_,l,_=>by simp at l
 | _::_,[],l,_=>by simp at l
 |n::ns,v::vs,l,h=>by
  have h:Rp K H ((.int n,some v)::(zz (ns.map T.int) vs++Γ)):=h;rw[aE h,jD (by simpa using l) h.tail]
  rfl
def tG:P1s
 | [t],k=>got (items t) λts=>k (.lst true ts)
 | _,_=>False
theorem iT:nF X (.type "list") tG:=by
 rintro ac s σ H xs us Q I r ⟨ts,Γ,k,l,rp,g,c⟩;unfold tG at g;split at g
 ·rename_i k t;obtain⟨x,rfl⟩:=zz1 l rfl;have rp:Rp X.K H ((t,some x)::Γ):=rp;obtain⟨us',e,kt⟩:=aB g;obtain⟨a,vs,rfl,hq,l2,ce⟩:=ay e rp;exact sH ac s σ H _ us Q I r ⟨_,a,vs,rfl,hq,λp H' hp g' e'=>c _ _ _ kt (dU ce l2 hp g' e')⟩
 exact Jq g
noncomputable def rj:P1s
 | [.tup ts],k=>k (.tup ts)
 | [.cst ts],k=>k (.cst ts)
 | [.lst _ ts],k=>k (.tup ts)
 | _,_=>False
theorem qv:nF X (.type "tuple") rj:=by
 rintro ac s σ H xs us Q I r ⟨ts,Γ,k,l,rp,g,c⟩;unfold rj at g;split at g
 ·rename_i k ts;obtain⟨x,rfl⟩:=zz1 l rfl;have rp:Rp X.K H ((.tup ts,some x)::Γ):=rp;obtain⟨a,vs,rfl,hq,l2,ce⟩:=ay rfl rp;exact kN ac s σ H _ us Q I r ⟨a,vs,rfl,hq,c _ _ _ g rp⟩
 ·rename_i k ts;obtain⟨x,rfl⟩:=zz1 l rfl;have rp:Rp X.K H ((.cst ts,some x)::Γ):=rp;obtain⟨a,vs,rfl,hq,l2,ce⟩:=ay rfl rp;exact kN ac s σ H _ us Q I r ⟨a,vs,rfl,hq,c _ _ _ g rp⟩
 ·rename_i k o ts;obtain⟨x,rfl⟩:=zz1 l rfl;have rp:Rp X.K H ((.lst o ts,some x)::Γ):=rp;obtain⟨a,vs,rfl,hq,l2,ce⟩:=ay rfl rp;exact pO ac s σ H _ us Q I r ⟨a,vs,rfl,hq,λp H' hp g' e'=>c _ _ _ g (fZ ce l2 g' e')⟩
 exact Jq g
abbrev PO':=Ev->(Option Int->Ev->Prop)->Prop
def wO(K:Ja)(f:PO'):TO:=λσ H Q=>∃env Fr k,Rs K H env σ Fr/\f env k/\∀o be H',k o be->Rs K H' be σ Fr->Q o H'
def GO(X:Cx)(e:Option Jn)(f:PO'):Prop:=PO X e (wO X.K f)
noncomputable def Dv(f:PF):PO':=λenv k=>f env λt al=>match t with
 | .int i=>k (some i) al
 | _=>False
theorem tY{f:PF}(h:GE X e f):GO X (some e) (Dv f):=by
 rintro ac s σ H Q I ⟨env,Fr,k,rs,q,c⟩;refine sU h ac s σ H Q I ⟨env,Fr,_,rs,q,λt al v H1 q1 cr=>?_⟩;cases t <;> first|exact Jq q1|skip
 exact⟨_,aE cr.head,c _ _ _ q1 cr.drop⟩
def oN(ts:List T)(lo hi:Option Int):List T:=(ts.drop (HT.sIx ts.length 0 lo)).take (HT.sIx ts.length ts.length hi-HT.sIx ts.length 0 lo)
def slT:T->Option Int->Option Int->(T->Prop)->Prop
 | .lst _ ts,lo,hi,k=>k (.lst true (oN ts lo hi))
 | .tup ts,lo,hi,k=>¬(HT.sIx ts.length 0 lo=0/\HT.sIx ts.length ts.length hi=ts.length)/\k (.tup (oN ts lo hi))
 | .cst ts,lo,hi,k=>¬(HT.sIx ts.length 0 lo=0/\HT.sIx ts.length ts.length hi=ts.length)/\k (.tup (oN ts lo hi))
 | _,_,_,_=>False
theorem oF:∀(ts:List T) (vs:List V) (n:Nat),zz (ts.drop n) (vs.drop n)=(zz ts vs).drop n
 |ts,vs,0=>rfl
 | [],vs,n+1=>by simp[zz]
 |t::ts,[],n+1=>by simp[zz]
 |t::ts,v::vs,n+1=>by show zz (ts.drop n) (vs.drop n)=(zz ts vs).drop n;exact oF ts vs n
theorem pz:∀(ts:List T) (vs:List V) (n:Nat),zz (ts.take n) (vs.take n)=(zz ts vs).take n
 |ts,vs,0=>by simp[zz]
 | [],vs,n+1=>by simp[zz]
 |t::ts,[],n+1=>by simp[zz]
 |t::ts,v::vs,n+1=>by show(t,some v)::zz (ts.take n) (vs.take n)=(t,some v)::(zz ts vs).take n;rw[pz ts vs n]
theorem rS(l:ts.length=vs.length)(lo hi:Option Int)(h:Rp K H (zz ts vs++Γ)):Rp K H (zz (oN ts lo hi) (gu vs lo hi)++Γ)/\(oN ts lo hi).length=(gu vs lo hi).length:=by
 unfold oN gu;rw[<-l];refine⟨?_,?_⟩
 ·rw[pz,oF];have e1:=Fy (HT.sIx ts.length 0 lo) (zz ts vs);have e2:=Fy (HT.sIx ts.length ts.length hi-HT.sIx ts.length 0 lo) ((zz ts vs).drop (HT.sIx ts.length 0 lo));have h2:Rp K H ((zz ts vs).drop (HT.sIx ts.length 0 lo)++Γ):=by rw[<-e1,n_]at h;exact h.part
  rw[<-e2,n_]at h2;have h3:=h2.perm (m_ _ _ _);exact h3.part
 rw[Fd,Fd,Fi,Fi,l]
def fSl(fa:PF)(fl fh:PO'):PF:=λenv k=>fa env λt al=>fl al λlo bi=>fh bi λhi bn=>slT t lo hi λu=>k u bn
theorem xi{lo hi:Option Jn}{fl fh:PO'}{p2:Pos}(he:GE X e fa)(hl:GO X lo fl)(hh:GO X hi fh):GE X (.Subscript e (.Slice lo hi none p2) pos) (fSl fa fl fh):=by
 have sl:SlR X (λx lo hi H Q=>∃t Γ k,Rp X.K H ((t,some x)::Γ)/\slT t lo hi k/\∀u v H',k u->Rp X.K H' ((u,some v)::Γ)->Q v H'):=by
  rintro ac s σ H x v vl vu lo hi sl Q I rx hs pl pu ⟨t,Γ,k,rp,g,c⟩;cases t with
  |lst o ts=>
   obtain⟨a,vs,rfl,hq,l,ce⟩:=ay rfl rp;obtain⟨cl,l3⟩:=rS l lo hi ce;exact vV ac s σ H _ v vl vu lo hi sl Q I rx hs pl pu ⟨a,vs,rfl,hq,λp H' hp g' e=>c _ _ _ g (dU cl l3 hp g' e)⟩
  |tup ts=>
   obtain⟨a,vs,rfl,hq,l,ce⟩:=ay rfl rp;obtain⟨cl,l3⟩:=rS l lo hi ce;exact u5 ac s σ H _ v vl vu lo hi sl Q I rx hs pl pu ⟨a,vs,rfl,hq,by rw[<-l];exact g.1,λp H' hp g' e=>c _ _ _ g.2 (fZ cl l3 g' e)⟩
  |cst ts=>
   obtain⟨a,vs,rfl,hq,l,ce⟩:=ay rfl rp;obtain⟨cl,l3⟩:=rS l lo hi ce;exact u5 ac s σ H _ v vl vu lo hi sl Q I rx hs pl pu ⟨a,vs,rfl,hq,by rw[<-l];exact g.1,λp H' hp g' e=>c _ _ _ g.2 (fZ cl l3 g' e)⟩
  | _=>exact Jq g
 refine PE.imp (pJ sl he hl hh) ?_;rintro σ H Q ⟨env,Fr,k,rs,q,c⟩;refine⟨env,Fr,_,rs,q,λt al v H1 q1 cr=>⟨al,_,_,cr,q1,λlo bi H2 q2 rs2=>⟨bi,_,_,rs2,q2,λhi bn H3 q3 rs3=>?_⟩⟩⟩;exact⟨t,_,_,rs3.head,q3,λu w H' ku rp=>c _ _ _ _ ku (.of rs3.1 rp)⟩
end
open PySem PySem.Spec PyProof.Rows L2
inductive Arg where
 |val (t:T)|bor (i:Nat)
noncomputable def l4:Arg->T
 | .val t=>t
 | .bor _=>.any
noncomputable def lend:List Arg->Ev->List T×Ev
 | [],env=>([],env)
 | .val t::r,env=>(t::(lend r env).1,(lend r env).2)
 | .bor i::r,env=>match env[i]? with
  |some t=>(t::(lend r (env.set i .any)).1,(lend r (env.set i .any)).2)
  |none=>(.any::(lend r env).1,(lend r env).2)
noncomputable def back:List Arg->List T->Ev->Ev
 | .bor i::r,t::ts,env=>back r ts (env.set i t)
 | .val _::r,_::ts,env=>back r ts env
 | _,_,env=>env
noncomputable def gS:List Arg->List (Option V)->L2.St->Prop
 | [],[],_=>True
 | .val _::r,_::xs,σ=>gS r xs σ
 | .bor i::r,x::xs,σ=>(σ[i]?=some x\/σ.length<=i)/\gS r xs σ
 | _,_,_=>False
section
variable{K:Ja}{H:Hp}{σ:L2.St}
theorem gB:∀{as:List Arg}{xs:List (Option V)}{env:Ev}{Fr:Fm},gS as xs σ->Rs K H env σ ((as.map l4).zip xs++Fr)->Rs K H (lend as env).2 σ ((lend as env).1.zip xs++Fr)
 | [],[],env,Fr,_,h=>h
 | [],_::_,env,Fr,o,_=>o.elim
 | .val t::r,[],env,Fr,o,_=>o.elim
 | .bor i::r,[],env,Fr,o,_=>o.elim
 | .val t::r,x::xs,env,Fr,o,h=>by have h:Rs K H env σ ((t,x)::((r.map l4).zip xs++Fr)):=h;have h2:Rs K H env σ ((r.map l4).zip xs++((t,x)::Fr)):=h.perm e_.symm;exact(gB (as:=r) o h2).perm e_
 | .bor i::r,x::xs,env,Fr,o,h=>by
  have h:Rs K H env σ ((.any,x)::((r.map l4).zip xs++Fr)):=h;have h:=h.drop;rw[lend];split
  ·rename_i t e;obtain⟨y,ey,h2⟩:=h.slot e;have o1:σ[i]?=some x:=by
    rcases o.1 with z|z
    ·exact z
    have:=(b_.mp ey).1;lia
   rw[o1]at ey;cases ey;have h3:Rs K H (env.set i .any) σ ((r.map l4).zip xs++((t,x)::Fr)):=h2.perm e_.symm;exact(gB (as:=r) o.2 h3).perm e_
  have h3:Rs K H env σ ((r.map l4).zip xs++((.any,x)::Fr)):=(Rs.of h.1 (eY (x:=x) h.2)).perm e_.symm;exact(gB (as:=r) o.2 h3).perm e_
theorem gC:∀{as:List Arg}{xs:List (Option V)}{ts:List T}{env:Ev}{Fr:Fm},gS as xs σ->Rs K H env σ (ts.zip xs++Fr)->Rs K H (back as ts env) σ Fr
 | [],xs,ts,env,Fr,_,h=>by
  have:back [] ts env=env:=by cases ts <;> rfl
  rw[this];exact⟨h.1,(h.2.perm (m_ _ _ _)).part⟩
 |a::r,xs,[],env,Fr,_,h=>by
  have:back (a::r) [] env=env:=by cases a <;> rfl
  rw[this];exact h
 | .val t::r,[],u::ts,env,Fr,o,_=>o.elim
 | .bor i::r,[],u::ts,env,Fr,o,_=>o.elim
 | .val t::r,x::xs,u::ts,env,Fr,o,h=>by have h:Rs K H env σ ((u,x)::(ts.zip xs++Fr)):=h;exact gC (as:=r) o h.drop
 | .bor i::r,x::xs,u::ts,env,Fr,o,h=>by
  have h:Rs K H env σ ((u,x)::(ts.zip xs++Fr)):=h;rw[back];by_cases hi:i<env.length
  ·have o1:σ[i]?=some x:=by
    rcases o.1 with z|z
    ·exact z
    have:=h.1;lia
   exact gC (as:=r) o.2 (h.kC hi o1)
  have e:env.set i u=env:=FE (by lia);rw[e];exact gC (as:=r) o.2 h.drop
theorem Rs.put (h:Rs K H env σ ((t,some v)::Fr)):Rs K H (env.set i t) (σ.set i (some v)) Fr:=by
 by_cases hi:i<env.length
 ·exact h.store hi
 rw[FE (by lia),FE (by rw[<-h.1];lia)];exact h.drop
end
abbrev PAs:=Ev->(List Arg->Ev->Prop)->Prop
def wR(K:Ja)(f:PAs):TA:=λσ H Q=>∃env Fr k,Rs K H env σ Fr/\f env k/\∀as be vs H',k as be->as.length=vs.length->gS as (vs.map some) σ->Rs K H' be σ ((as.map l4).zip (vs.map some)++Fr)->Q vs H'
def GR(X:Cx)(es:List Jn)(f:PAs):Prop:=PA X es (wR X.K f)
noncomputable def Dq:PAs:=λenv k=>k [] env
noncomputable def DQ(f:PF)(r:PAs):PAs:=λenv k=>f env λt al=>r al λas bi=>k (.val t::as) bi
def Ce(i:Nat)(r:PAs):PAs:=λenv k=>(match env[i]? with
 |some t=>isAny t=false
 |none=>False)/\r env λas bi=>k (.bor i::as) bi
section
variable{X:Cx}{e:Jn}{es:List Jn}{f:PF}{fr:PAs}
theorem ag:GR X [] Dq:=PA.imp bU (by rintro σ H Q ⟨env,Fr,k,rs,q,c⟩;exact c [] env [] H q rfl trivial rs)
theorem ae(he:GE X e f)(hr:GR X es fr)(hs:Jo (e::es) X.env=(false,JC e X.env)::Jo es X.env:=by rfl):GR X (e::es) (DQ f fr):=by refine PA.imp (aC he hr hs) ?_;rintro σ H Q ⟨env,Fr,k,rs,q,c⟩;refine⟨env,Fr,_,rs,q,λt al v H1 q1 cr=>⟨al,_,_,cr,q1,λas bi vs H2 q2 l ao rs2=>c _ _ _ _ q2 (by rw[g_,g_,l]) ao ?_⟩⟩;exact rs2.perm e_
theorem bF(i:Nat){x:Str}{pos:Pos}(hr:GR X es fr)(hN:X.N[i]?=some x:=by rfl)(hv:Vis X.env.scope x:=by first|exact f_ rfl|exact gV (f_ rfl)|exact gV (gV rfl))(hd:(x ==("__debug__":Str))=false:=by decide)(hcd:(x ==("__classdict__":Str))=false:=by decide)
  (hs:Jo (.Name x pos::es) X.env=(false,JC (.Name x pos) X.env)::Jo es X.env:=by rfl):GR X (.Name x pos::es) (Ce i fr):=by
 refine PA.imp (aC (cq hN hv hd hcd) hr hs) ?_;rintro σ H Q ⟨env,Fr,k,rs,⟨na,q⟩,c⟩;split at na
 ·rename_i t e;obtain⟨y,ey,rs2⟩:=rs.slot e;obtain⟨v,rfl⟩:=cO rs2 na;refine⟨v,ey,env,Fr,_,rs,q,λas bi vs H2 q2 l ao rs2=>c _ _ _ _ q2 (by rw[g_,g_,l]) ⟨.inl ey,ao⟩ ?_⟩;exact .of rs2.1 (eY rs2.2)
 exact na.elim
end
abbrev FP:=List T->(T->List T->Prop)->Prop
def ax(K:Ja)(n:Nat)(P:FP):Sp:=λvs H Q _=>∃ts Fr k,ts.length=vs.length/\vs.length=n/\Rp K H (zz ts vs++Fr)/\P ts k/\∀t ts' v H',k t ts'->Rp K H' ((t,some v)::(zz ts' vs++Fr))->Q v H'
noncomputable def CZ(P:FP)(ts:List T)(k:T->List T->Prop):Prop:=P ts k
def B6(n:Nat)(P:FP)(fr:PAs):PF:=λenv k=>fr env λas al=>as.length=n/\CZ P (lend as al).1 λt ts'=>k t (back as ts' (lend as al).2)
section
variable{X:Cx}
theorem dO:∀(as:List Arg) (env:Ev),(lend as env).1.length=as.length
 | [],env=>rfl
 | .val t::r,env=>by rw[lend,g_,g_,dO r]
 | .bor i::r,env=>by
  rw[lend];split
  ·rw[g_,g_,dO r]
  rw[g_,g_,dO r]
theorem xW{P:FP}{fr:PAs}:∀ σ H Q,wE X.K (B6 n P fr) σ H Q->xG (ax X.K n P) [] E0 (wR X.K fr) σ H Q:=by
 rintro σ H Q ⟨env,Fr,k,rs,q,c⟩;refine⟨env,Fr,_,rs,q,λas al vs H1 ⟨hn,q1⟩ l ao cr=>?_⟩;show ax X.K n P (vs++[]) H1 Q E0;rw[ET];have rs2:=gB ao cr;refine⟨(lend as al).1,(lend as al).2.zip σ++Fr,_,by rw[dO,l],by rw[<-l];exact hn,?_,q1,λt ts' v H' kt rp=>c _ _ _ _ kt ?_⟩
 ·exact rs2.2.perm (m_ _ _ _)
 have h3:Rs X.K H' (lend as al).2 σ (zz ts' vs++((t,some v)::Fr)):=⟨rs2.1,rp.perm (by refine C_ ?_ (m_ _ _ _);refine C_ e_.symm ?_;exact F8 _ e_.symm)⟩
 exact gC ao h3
theorem ai{j k n:Nat}{x:Str}{ps:List Str}{P:FP}{e:Jn}{es:List Jn}{fr:PAs}{p pos:Pos}(D:Cal X.prog X.w X.K X.mg X.base j x ps (ax X.K n P))(hr:Room k X.A)(hg:Gl X x)(ha:GR X (e::es) fr)(hjk:j<=k:=by omega)(hdb:(x ==("__debug__":Str))=false:=by decide)
  (he:Jo (e::es) X.env=(false,JC e X.env)::Jo es X.env:=by rfl) (hpl:(KH pos (Jo es X.env)).any (·.1)=false:=by rfl):GE X (.Call (.Name x p) (e::es) [] pos) (B6 n P fr):=PE.imp (Cc D hr hg ha hjk hdb he hpl) xW
end
structure PEn where
 nx:Ev->Prop
 rt:T->Ev->Prop
 bk:Ev->Prop:=λ_=>False
 ct:Ev->Prop:=λ_=>False
abbrev PSt:=PEn->Ev->Prop
noncomputable def Kept(κ:Nat->Bool)(σ bv:L2.St):Prop:=bv.length=σ.length/\∀j,κ j=true->bv[j]?=σ[j]?
variable {κ:Nat->Bool}
theorem Kept.refl {σ:L2.St}:Kept κ σ σ:=⟨rfl,λ_ _=>rfl⟩
variable {bv:L2.St}
theorem Kept.trans {σ σ'':L2.St}(a:Kept κ σ bv)(b:Kept κ bv σ''):Kept κ σ σ'':=⟨b.1.trans a.1,λj h=>(b.2 j h).trans (a.2 j h)⟩
theorem Kept.set {σ:L2.St}(h:κ i=false):Kept κ σ (σ.set i x):=⟨D_,λj hj=>by
 by_cases e:i=j
 ·subst e;rw[h]at hj;cases hj
 rw[FC e]⟩
structure EndOk (K:Ja) (κ:Nat->Bool) (σ:L2.St) (Fr:Fm) (pe:PEn) (D:Ends):Prop where
 nx:∀be bv H',pe.nx be->Rs K H' be bv Fr->Kept κ σ bv->D.nx bv H'
 rt:∀t be v bv H',pe.rt t be->Rs K H' be bv ((t,some v)::Fr)->Kept κ σ bv->D.rt v H'
 bk:∀be bv H',pe.bk be->Rs K H' be bv Fr->Kept κ σ bv->D.bk bv H'
 ct:∀be bv H',pe.ct be->Rs K H' be bv Fr->Kept κ σ bv->D.ct bv H'
variable {pe:PEn}
theorem EndOk.later {σ:L2.St}{D:Ends}(h:EndOk K κ σ Fr pe D)(k:Kept κ σ bv):EndOk K κ bv Fr pe D:=
 ⟨λa b c p q r=>h.nx a b c p q (k.trans r),λa b c d e p q r=>h.rt a b c d e p q (k.trans r),λa b c p q r=>h.bk a b c p q (k.trans r),λa b c p q r=>h.ct a b c p q (k.trans r)⟩
def wS(K:Ja)(κ:Nat->Bool)(f:PSt):TS:=λD σ H=>∃env Fr pe,Rs K H env σ Fr/\f pe env/\EndOk K κ σ Fr pe D
def GS(κ:Nat->Bool)(X:Cx)(st:JA)(f:PSt):Prop:=PS X st (wS X.K κ f)
def GSs(κ:Nat->Bool)(X:Cx)(sts:List JA)(f:PSt):Prop:=PSs X sts (wS X.K κ f)
variable {st:JA}
theorem PS.imp {t t':TS}(h:PS X st t)(k:∀D σ H,t' D σ H->t D σ H):PS X st t':=λac s σ H D I q=>h ac s σ H D I (k _ _ _ q)
theorem PSs.imp {st:List JA}{t t':TS}(h:PSs X st t)(k:∀D σ H,t' D σ H->t D σ H):PSs X st t':=λac s σ H D I q=>h ac s σ H D I (k _ _ _ q)
noncomputable def xg:PSt:=λpe env=>pe.nx env
noncomputable def BX(f g:PSt):PSt:=λpe env=>f {pe with nx:=g pe} env
variable {c:Jn}{tc:PB}
section
variable{X:Cx}{κ:Nat->Bool}{pos:Pos}{st:JA}{rest:List JA}{f g:PSt}{e:Jn}{fe:PF}
theorem oy:GSs κ X [] xg:=PSs.imp jr (by rintro D σ H ⟨env,Fr,pe,rs,q,c⟩;exact c.nx _ _ _ q rs .refl)
theorem aa(h1:GS κ X st f)(h2:GSs κ X rest g):GSs κ X (st::rest) (BX f g):=by refine PSs.imp (aN h1 h2) ?_;rintro D σ H ⟨env,Fr,pe,rs,q,c⟩;refine⟨env,Fr,_,rs,q,⟨λbe bv H' q1 cr k1=>⟨be,Fr,pe,cr,q1,c.later k1⟩,c.rt,c.bk,c.ct⟩⟩
theorem aj(h1:GS κ X st f):GSs κ X [st] f:=cw h1
noncomputable def A9(fe:PF):PSt:=λpe env=>fe env λ_ al=>pe.nx al
theorem dq(he:GE X e fe)(hs:Kv e none pos.line X.env=pure false:=by rfl):GS κ X (.Expr e pos) (A9 fe):=by refine PS.imp (zq he hs) ?_;rintro D σ H ⟨env,Fr,pe,rs,q,c⟩;exact⟨env,Fr,_,rs,q,λt be v H' q1 cr=>c.nx _ _ _ q1 cr.drop .refl⟩
noncomputable def yb(fe:PF):PSt:=λpe env=>fe env λt al=>pe.rt t al
theorem aU(he:GE X e fe):GS κ X (.Return (some e) pos) (yb fe):=by refine PS.imp (jZ he) ?_;rintro D σ H ⟨env,Fr,pe,rs,q,c⟩;exact⟨env,Fr,_,rs,q,λt be v H' q1 cr=>c.rt _ _ _ _ _ q1 cr .refl⟩
def sIf(tc:PB)(f g:PSt):PSt:=λpe env=>tc env λb al=>cnd b (f pe al) (g pe al)
theorem uh{a b:List JA}(hc:GT X c tc)(ha:GSs κ X a f)(hb:GSs κ X b g):GS κ X (.If c a b pos) (sIf tc f g):=by refine PS.imp (pG hc ha hb) ?_;rintro D σ H ⟨env,Fr,pe,rs,q,c⟩;refine⟨env,Fr,_,rs,q,λb be H' q1 cr=>gA ⟨λh=>⟨be,Fr,pe,cr,q1.1 h,c⟩,λh=>⟨be,Fr,pe,cr,q1.2 h,c⟩⟩⟩
noncomputable def zM(i:Nat)(fe:PF):PSt:=λpe env=>fe env λt al=>pe.nx (al.set i t)
theorem ak{i:Nat}{x:Str}{pos':Pos}(hN:X.N.Nodup)(hi:X.N[i]?=some x)(hx:Loc X.env.scope x)(hκ:κ i=false)(he:GE X e fe)(hs:Kv e (some (.Name x pos')) pos.line X.env=pure false:=by rfl)(hf:X.fn x=true\/X.env.scope.names.lookup x=some .local:=by first|exact .inl rfl|exact .inr rfl|assumption) :
  GS κ X (.Assign [.Name x pos'] e pos) (zM i fe):=by
 refine PS.imp (dy hN hi hx he hs hf) ?_;rintro D σ H ⟨env,Fr,pe,rs,q,c⟩;exact⟨env,Fr,_,rs,q,λt be v H' q1 cr=>c.nx _ _ _ q1 cr.put (.set hκ)⟩
abbrev PG':=T->Ev->(Ev->Prop)->Prop
abbrev qd:=List T->Ev->(Ev->Prop)->Prop
def wG(K:Ja)(κ:Nat->Bool)(f:PG'):TG:=λv σ H Q=>∃t env Fr k,Rs K H env σ ((t,some v)::Fr)/\f t env k/\∀be bv H',k be->Rs K H' be bv Fr->Kept κ σ bv->Q bv H'
def wGs(K:Ja)(κ:Nat->Bool)(f:qd):TGs:=λvs σ H Q=>∃ts env Fr k,ts.length=vs.length/\Rs K H env σ (zz ts vs++Fr)/\f ts env k/\∀be bv H',k be->Rs K H' be bv Fr->Kept κ σ bv->Q bv H'
def GG(κ:Nat->Bool)(X:Cx)(tg:Jn)(f:PG'):Prop:=PG X tg (wG X.K κ f)
def GGs(κ:Nat->Bool)(X:Cx)(tgs:List Jn)(f:qd):Prop:=PGs X tgs (wGs X.K κ f)
noncomputable def gN(i:Nat):PG':=λt env k=>k (env.set i t)
theorem au{i:Nat}{x:Str}(hN:X.N.Nodup)(hi:X.N[i]?=some x)(hx:Loc X.env.scope x)(hκ:κ i=false)(hf:X.fn x=true\/X.env.scope.names.lookup x=some .local:=by first|exact .inl rfl|exact .inr rfl|assumption):GG κ X (.Name x pos) (gN i):=
 λac s σ H v u Q I r ⟨t,env,Fr,k,rs,q,c⟩=>sN hN hi hx hf ac s σ H v u Q I r (c _ _ _ q rs.put (.set hκ))
noncomputable def Ah:qd:=λts env k=>ts=[]/\k env
noncomputable def xM(f:PG')(r:qd):qd:=λts env k=>match ts with
 |t::ts=>f t env λal=>r ts al k
 | []=>False
noncomputable def gTp(n:Nat)(f:qd):PG':=λt env k=>match t with
 | .tup ts=>ts.length=n/\f ts env k
 | .cst ts=>ts.length=n/\f ts env k
 | _=>False
end
open PySem PySem.Spec PyProof.Rows L2
variable {fb:PSt}
section
variable{X:Cx}{κ:Nat->Bool}{pos:Pos}{e tg:Jn}{es:List Jn}{fe:PF}{g:PG'}{gs:qd}
theorem lq:GGs κ X [] Ah:=by
 rintro ac s σ H vs us Q I r ⟨ts,env,Fr,k,l,rs,⟨e,q⟩,c⟩;subst e;have:vs=[]:=by cases vs with|nil=>rfl|cons _ _=>cases l
 subst this;exact tj ac s σ H [] us Q I r ⟨rfl,c _ _ _ q rs .refl⟩
theorem cb(h1:GG κ X e g)(h2:GGs κ X es gs)(hs:(KG (e::es) X.env).map (·.2)=LQ e X.env::(KG es X.env).map (·.2):=by rfl):GGs κ X (e::es) (xM g gs):=by
 rintro ac s σ H vs us Q I r ⟨ts,env,Fr,k,l,rs,q,c⟩;cases ts with
 |nil=>exact Jq q
 |cons t ts=>
  cases vs with
  |nil=>cases l
  |cons v vs=>
   have q:g t env λal=>gs ts al k:=q;refine lF h1 h2 hs ac s σ H (v::vs) us Q I r ⟨v,vs,rfl,t,env,zz ts vs++Fr,_,rs,q,λal σ1 H1 q1 cr k1=>?_⟩;exact⟨ts,al,Fr,k,by simpa using l,cr,q1,λbi σ2 H2 q2 rs2 k2=>c _ _ _ q2 rs2 (k1.trans k2)⟩
theorem p4{x1 n:Nat}(hc:X.calm=true)(h:GGs κ X es gs)(hn:(KG es X.env).length=n:=by rfl)(hst:(KG es X.env).findIdx? (·.1)=none:=by rfl):GG κ X (.Tuple es x1 pos) (gTp n gs):=by
 rintro ac s σ H v u Q I r ⟨t,env,Fr,k,rs,q,c⟩;have go:∀ts,items t=some ts->oJ t=true->ts.length=n->gs ts env k->Jf (Jh X.prog X.w) X.A (LQ (.Tuple es x1 pos) X.env u) (λ_ s'=>∃ bv H',Inv X ac bv H' s'/\Q bv H') X.xe s:=λts e1 e2 e3 q=>by obtain⟨a,vs,rfl,hq,l,rp⟩:=ay e1 rs.head;rw[e2]at hq;refine x4 hc h hn hst ac s σ H _ u Q I r ⟨a,vs,rfl,hq,by rw[<-l];exact e3,ts,env,Fr,k,l,⟨rs.1,?_⟩,q,c⟩;exact rp.perm (m_ _ _ _)
 cases t with
 |tup ts=>exact go ts rfl rfl q.1 q.2
 |cst ts=>exact go ts rfl rfl q.1 q.2
 | _=>exact Jq q
noncomputable def D7(fe:PF)(g:PG'):PSt:=λpe env=>fe env λt al=>g t al pe.nx
theorem p9(he:GE X e fe)(hg:GG κ X tg g)(hs:Ph [tg] e pos.line X.env=pure false:=by rfl)(hw:Pj [tg] e X.env=pure none:=by rfl)(h1:(KG [tg] X.env).map (·.2)=[LQ tg X.env]:=by rfl) :
  GS κ X (.Assign [tg] e pos) (D7 fe g):=by
 refine PS.imp (xR he hg hs hw h1) ?_;rintro D σ H ⟨env,Fr,pe,rs,q,c⟩;exact⟨env,Fr,_,rs,q,λt be v H' q1 cr=>⟨t,be,Fr,_,cr,q1,λbi σ2 H2 q2 rs2 k2=>c.nx _ _ _ q2 rs2 k2⟩⟩
def Ck(i:Nat)(fe:PF)(g:P2):PSt:=λpe env=>(match env[i]? with
 |some t=>isAny t=false/\aD t=true
 |none=>False)/\fe env λu al=>match env[i]? with
 |some t=>g t u λw=>pe.nx (al.set i w)
 |none=>False
def IpP(X:Cx)(op:MP)(g:P2):Prop:=PIp X op (w2 X.K g)
theorem lJ{x:Str}{op:MP}{g:P2}{pos':Pos}(hN:X.N.Nodup)(hi:X.N[i]?=some x)(hx:Loc X.env.scope x)(hκ:κ i=false)(he:GE X e fe)(ho:IpP X op g)(hf:X.fn x=true\/X.env.scope.names.lookup x=some .local:=by first|exact .inl rfl|exact .inr rfl|assumption) :
  GS κ X (.AugAssign (.Name x pos') op e pos) (Ck i fe g):=by
 refine PS.imp (AG hN hi hx he ho hf) ?_;rintro D σ H ⟨env,Fr,pe,rs,⟨q0,q⟩,c⟩;cases e0:env[i]? with
 |none=>rw[e0]at q0;exact q0.elim
 |some t=>
  simp only[e0]at q0 q;obtain⟨y,ey,rs2⟩:=rs.slot e0;obtain⟨v,rfl⟩:=cO rs2 q0.1;have hi':i<env.length:=(b_.mp e0).1;have r3:Rs X.K H (env.set i .any) σ ((t,some v)::(t,some v)::Fr):=.of rs2.1 ((kj rs2.head q0.2).perm (Gv _ e_.symm));have r4:=Rs.kC (i:=i) r3 (by rw[D_];exact hi') ey;rw[js e0]at r4;refine⟨v,ey,env,(t,some v)::Fr,_,r4,q,λu al w H1 q1 cr=>?_⟩;refine⟨t,u,al.zip σ++Fr,_,cr.head.perm (.cons _ e_),q1,λz b H2 kz rp=>?_⟩;exact c.nx _ _ _ kz (Rs.put (.of cr.1 rp)) (.set hκ)
def rA(tc:PB)(fb:PSt)(pe:PEn)(env:Ev):Prop:=∃W:Nat->Ev->Prop,(∃m,W m env)/\∀m env,W m env->tc env λb al=>cnd b (fb {pe with nx:=λe=>∃m',m'<m/\W m' e,ct:=λe=>∃m',m'<m/\W m' e,bk:=pe.nx} al) (pe.nx al)
def xF(tc:PB)(fb:PSt):PSt:=λpe env=>rA tc fb pe env
theorem gh{body:List JA}(hp:NT (Jh X.prog X.w) X.A X.env X.xe)(hc:GT X c tc)(hb:GSs κ X body fb):GS κ X (.While c body [] pos) (xF tc fb):=by
 refine PS.imp (wk hp hc hb) ?_;rintro D σ H ⟨env,Fr,pe,rs,⟨W,⟨m0,w0⟩,wt⟩,c⟩;refine⟨λm bv H'=>∃be,W m be/\Rs X.K H' be bv Fr/\Kept κ σ bv,⟨m0,env,w0,rs,.refl⟩,?_⟩;rintro m σ1 H1 ⟨al,w1,cr,k1⟩;refine⟨al,Fr,_,cr,wt m al w1,λb bi H2 q2 rs2=>gA ⟨λh=>?_,λh=>c.nx _ _ _ (q2.2 h) rs2 k1⟩⟩;refine⟨λbv H'=>∃m' be,m'<m/\W m' be/\Rs X.K H' be bv Fr/\Kept κ σ bv,λbv H' ⟨m',be,hm,w',r',k'⟩=>⟨m',hm,be,w',r',k'⟩,bi,Fr,_,rs2,q2.1 h,⟨?_,?_,?_,?_⟩⟩
 ·exact λbe bv H' ⟨m',hm,w'⟩ r' k'=>⟨m',be,hm,w',r',k1.trans k'⟩
 ·exact λt be v bv H' p r' k'=>c.rt _ _ _ _ _ p r' (k1.trans k')
 ·exact λbe bv H' p r' k'=>c.nx _ _ _ p r' (k1.trans k')
 exact λbe bv H' ⟨m',hm,w'⟩ r' k'=>⟨m',be,hm,w',r',k1.trans k'⟩
structure ItOk (K:Ja) (J:It) (bd:List T) (Fg:Fm):Prop where
 turn:∀i t H Γ,bd[i]?=some t->Rp K H (Fg++Γ)->J.go i H/\∀x H',J.yld i H x H'->Rp K H' ((t,some x)::(Fg++Γ))
 stop:∀H Γ,Rp K H (Fg++Γ)->J.stop bd.length H
abbrev PIt:=Ev->(List T->Ev->Prop)->Prop
def wI(K:Ja)(f:PIt):TI:=λσ H R=>∃env Fr k,Rs K H env σ Fr/\f env k/\∀bd be J Fg H',k bd be->Rs K H' be σ (Fg++Fr)->ItOk K J bd Fg->R J H'
def GI(X:Cx)(tg iter:Jn)(f:PIt):Prop:=PI X tg iter (wI X.K f)
noncomputable def forL(bd:List T)(g:PG')(fb:PSt)(pe:PEn)(al:Ev):Prop:=∃W:Nat->Ev->Prop,W 0 al/\(∀i t env,W i env->bd[i]?=some t->g t env λbi=>fb {pe with nx:=W (i+1),ct:=W (i+1),bk:=pe.nx} bi)/\∀env,W bd.length env->pe.nx env
def DW(fi:PIt)(g:PG')(fb:PSt):PSt:=λpe env=>fi env λbd al=>forL bd g fb pe al
theorem mh{σ:L2.St}{Fg:Fm}(h:Rs K H env σ (Fg++Fr)):Rs K H env σ Fr:=⟨h.1,(h.2.perm (m_ _ _ _)).part⟩
theorem dv{iter:Jn}{body:List JA}{fi:PIt}{g:PG'}{fb:PSt}(hp:NT (Jh X.prog X.w) X.A X.env X.xe)(hc:X.calm=true)(hi:GI X tg iter fi)(hg:GG κ X tg g)(hb:GSs κ X body fb)(hs:∀x,JY iter X.env x=pure x:=by intro _;rfl):GS κ X (.For tg iter body [] pos) (DW fi g fb):=by
 refine PS.imp (AB hp hc hi hg hb hs) ?_;rintro D σ H ⟨env,Fr,pe,rs,q,c⟩;refine⟨env,Fr,_,rs,q,?_⟩;rintro bd al J Fg H1 ⟨W,w0,wt,we⟩ cr ok;refine⟨λi m bv H'=>∃be,W i be/\Rs X.K H' be bv (Fg++Fr)/\Kept κ σ bv/\m+i=bd.length,⟨bd.length,al,w0,cr,.refl,rfl⟩,?_⟩;rintro i m σ1 H2 ⟨bi,w2,rs2,k2,hm⟩;have ce:Rp X.K H2 (Fg++(bi.zip σ1++Fr)):=rs2.2.perm (m_ _ _ _);by_cases ii:i<bd.length
 ·have ei:bd[i]?=some bd[i]:=d_ ii;obtain⟨hgo,hy⟩:=ok.turn i bd[i] H2 _ ei ce;refine .inr ⟨hgo,λbv H'=>∃be,W (i+1) be/\Rs X.K H' be bv (Fg++Fr)/\Kept κ σ bv,λbv H' ⟨be,w',r',k'⟩=>⟨m-1,by lia,be,w',r',k',by lia⟩,λx H' hx=>?_⟩;have cl:=hy x H' hx;have rs3:Rs X.K H' bi σ1 ((bd[i],some x)::(Fg++Fr)):=.of rs2.1 (cl.perm (.cons _ (m_ _ _ _)));refine⟨bd[i],bi,Fg++Fr,_,rs3,wt i bd[i] bi w2 ei,λbn σ3 H3 q3 rs4 k4=>?_⟩;refine⟨bn,Fg++Fr,_,rs4,q3,⟨?_,?_,?_,?_⟩⟩
  ·exact λbe bv H' w' r' k'=>⟨be,w',r',k2.trans (k4.trans k')⟩
  ·exact λt be v bv H' p r' k'=>c.rt _ _ _ _ _ p (mh (Fg:=Fg) (r'.perm e_.symm)) (k2.trans (k4.trans k'))
  ·exact λbe bv H' p r' k'=>c.nx _ _ _ p (mh r') (k2.trans (k4.trans k'))
  exact λbe bv H' w' r' k'=>⟨be,w',r',k2.trans (k4.trans k')⟩
 have:i=bd.length:=by lia
 subst this;exact .inl ⟨ok.stop H2 _ ce,c.nx _ _ _ (we bi w2) (mh rs2) k2⟩
end
section
variable{X:Cx}{pos:Pos}{e tg:Jn}{fe:PF}
def CI(fe:PF):PIt:=λenv k=>fe env λt al=>got (items t) λts=>k (erL ts) al
theorem BO(e:items t=some ts)(n:aD t=true):ItOk K (Its K (oJ t) a) ts [(t,some (.ref a))] where
 turn:=λi u H Γ ei rp=>by obtain⟨a',vs,ea,hq,l,ce⟩:=ay e (kj rp n);cases ea;obtain⟨w,ew⟩:=pg l ei;refine⟨BG hq rfl i H .ck (by have:=(b_.mp ew).1;exact this),λx H' hy=>?_⟩;obtain⟨rfl,hx⟩:=xV hq .ck hy;rw[ew]at hx;cases hx;exact jv ce ei ew
 stop:=λH Γ rp=>by obtain⟨a',vs,ea,hq,l,ce⟩:=ay e rp;cases ea;exact wm hq l.symm H .ck
theorem qo(e:items t=some ts):items (er t)=some (erL ts)/\oJ (er t)=oJ t:=by cases t <;> cases e <;> exact⟨rfl,rfl⟩
theorem br(h:GE X e fe):GI X tg e (CI fe):=by rintro ac s σ H R I ⟨env,Fr,k,rs,q,c⟩;refine B4 h ac s σ H R I ⟨env,Fr,_,rs,q,λt al v H1 q1 cr=>?_⟩;obtain⟨ts,e1,kt⟩:=aB q1;have rf:Rp X.K H1 ((er t,some v)::(al.zip σ++Fr)):=pC cr.head;obtain⟨e2,e3⟩:=qo e1;obtain⟨a,vs,rfl,hq,l,ce⟩:=ay e2 rf;exact⟨oJ (er t),a,vs,rfl,hq,c _ _ _ _ _ kt (Rs.of (Fr:=Fr) cr.1 rf) (BO e2 (aG t))⟩
noncomputable def jM(lo:Int)(n:Nat):List T:=(u_ n).map λ(i:Nat)=>.int (lo+(i:Int))
theorem Bm(lo:Int)(n:Nat):ItOk K (Itr lo n) (jM lo n) [] where
 turn:=λi t H Γ ei rp=>by
  unfold jM at ei;rw[A_]at ei;have hi:i<n:=by
   cases h:(u_ n)[i]? with
   |none=>rw[h]at ei;cases ei
   |some j=>
    have:=(b_.mp h).1;simpa using this
  rw[Gm hi]at ei;cases ei;refine⟨hi,λx H' ⟨e1,e2⟩=>?_⟩;subst e1;subst e2;exact bH rp λ_=>.int
 stop:=λH Γ rp=>by show n<=_;unfold jM;rw[a_,o_];exact c_ _
def iR1(fr:PFs):PIt:=λenv k=>fr env λts al=>match ts with
 | [.int j]=>(-(2 ^ 62)<=j/\j<2 ^ 62)/\k (jM 0 j.toNat) al
 | _=>False
variable{a b c:Jn}{fr:PFs}{p:Pos}
theorem dH(hg:Gl X "range")(hm:X.mg "range"=none)(ha:GA X [a] fr)(hs:Jo [a] X.env=[(false,JC a X.env)]:=by rfl):GI X tg (.Call (.Name "range" p) [a] [] pos) (iR1 fr):=by
 rintro ac s σ H R I ⟨env,Fr,k,rs,q,c⟩;refine vb hg hm ha hs ac s σ H R I ⟨env,Fr,_,rs,q,λts al vs H1 q1 l cr=>?_⟩;rcases ts with _|⟨t,_|⟨t2,ts⟩⟩
 ·exact q1.elim
 ·cases t <;> first|exact q1.elim|skip
  rename_i j;rcases vs with _|⟨v,_|⟨v2,vs⟩⟩
  ·cases l
  ·have cr:Rs X.K H1 al σ ((.int j,some v)::Fr):=cr;rw[aE cr.head];exact⟨j,rfl,q1.1.1,q1.1.2,c _ _ _ [] _ q1.2 cr.drop (Bm 0 _)⟩
  cases l
 cases t <;> exact q1.elim
noncomputable def dnT(lo:Int)(n:Nat):List T:=(u_ n).map λ(i:Nat)=>.int (lo-(i:Int))
theorem DU(lo:Int)(n:Nat):ItOk K (Idn lo n) (dnT lo n) [] where
 turn:=λi t H Γ ei rp=>by
  unfold dnT at ei;rw[A_]at ei;have hi:i<n:=by
   cases h:(u_ n)[i]? with
   |none=>rw[h]at ei;cases ei
   |some j=>
    have:=(b_.mp h).1;simpa using this
  rw[Gm hi]at ei;cases ei;refine⟨hi,λx H' ⟨e1,e2⟩=>?_⟩;subst e1;subst e2;exact bH rp λ_=>.int
 stop:=λH Γ rp=>by show n<=_;unfold dnT;rw[a_,o_];exact c_ _
def iR3(fr:PFs):PIt:=λenv k=>fr env λts al=>match ts with
 | [.int i,.int j,.int m]=>m=-1/\(-(2 ^ 60)<=i/\i<2 ^ 60/\-(2 ^ 60)<=j/\j<2 ^ 60)/\k (dnT i (i-j).toNat) al
 | _=>False
theorem uY(hg:Gl X "range")(hm:X.mg "range"=none)(ha:GA X [a,b,c] fr)(hs:Jo [a,b,c] X.env=[(false,JC a X.env),(false,JC b X.env),(false,JC c X.env)]:=by rfl)(hs2:Jo [b,c] X.env=[(false,JC b X.env),(false,JC c X.env)]:=by rfl):GI X tg (.Call (.Name "range" p) [a,b,c] [] pos) (iR3 fr):=by
 rintro ac s σ H R I ⟨env,Fr,k,rs,q,c⟩;refine uG hg hm ha hs hs2 ac s σ H R I ⟨env,Fr,_,rs,q,λts al vs H1 q1 l cr=>?_⟩
 match ts,vs,l,q1 with
 | [.int i,.int j,.int m],[v,w,z],l,q1=>
  have cr:Rs X.K H1 al σ ((.int i,some v)::(.int j,some w)::(.int m,some z)::Fr):=cr;rw[aE cr.head,aE cr.drop.head,aE cr.drop.drop.head,q1.1];exact⟨i,j,rfl,q1.2.1,c _ _ _ [] _ q1.2.2 cr.drop.drop.drop (DU i _)⟩
theorem Au{u:T}{x:V}{p:I_}(h:Rp K H ((t,some x)::(u,some y)::Γ))(s:aJ H H')(e:H' p=some (.tup [x,y])):Rp K H' ((.tup [t,u],some (.ref p))::Γ):=
 fZ (ts:=[t,u]) (vs:=[x,y]) h rfl s e
def iEn(fr:PFs):PIt:=λenv k=>fr env λts al=>match ts with
 | [t]=>got (items t) λas=>k ((u_ as.length).zipWith (λ(i:Nat) (x:T)=>T.tup [.int (i:Int),x]) (erL as)) al
 | _=>False
theorem Bu{as:List T}{a:I_}(e1:items t=some as)(n1:aD t=true) :
  ItOk K (Ite K (oJ t) a) ((u_ as.length).zipWith (λ(i:Nat) (x:T)=>T.tup [.int (i:Int),x]) as) [(t,some (.ref a))] where
 turn:=λi w H Γ ei rp=>by
  have rp0:Rp K H ((t,some (.ref a))::Γ):=rp;rw[HE]at ei;cases h1:(u_ as.length)[i]? with
  |none=>rw[h1]at ei;cases ei
  |some j=>
   cases h2:as[i]? with
   |none=>rw[h1,h2]at ei;cases ei
   |some u=>
    rw[h1,h2]at ei;cases ei;have hi:i<as.length:=(b_.mp h2).1;rw[Gm hi]at h1;cases h1;obtain⟨a',vs,ea,ha,la,ce⟩:=ay e1 (kj rp0 n1);cases ea;obtain⟨x,ex⟩:=pg la h2;have cl:=jv ce h2 ex;refine⟨⟨vs,x,ha,ex⟩,λv H' hy=>?_⟩;obtain⟨p,x',hp,ev,eH,h3⟩:=hy;have ex':=h3 vs ha;rw[ex]at ex';cases ex';subst ev;subst eH;exact Au (bH cl λ_=>.int) (aF hp _) aq
 stop:=λH Γ rp=>by have rp0:Rp K H ((t,some (.ref a))::Γ):=rp;obtain⟨a',vs,ea,ha,la,_⟩:=ay e1 rp0;cases ea;refine⟨vs,ha,?_⟩;rw[HP,o_,la,HV]
theorem p5{es:List Jn}{x1:Nat}{tp:Pos}(hg:Gl X "enumerate")(hm:X.mg "enumerate"=none)(ha:GA X [a] fr)(hs:Jo [a] X.env=[(false,JC a X.env)]:=by rfl) :
  GI X (.Tuple es x1 tp) (.Call (.Name "enumerate" p) [a] [] pos) (iEn fr):=by
 rintro ac s σ H R I ⟨env,Fr,k,rs,q,c⟩;refine zT hg hm ha hs ac s σ H R I ⟨env,Fr,_,rs,q,λts al vs H1 q1 l cr=>?_⟩;rcases ts with _|⟨t,_|⟨t2,ts⟩⟩
 ·exact q1.elim
 ·obtain⟨v,rfl⟩:=zz1 l rfl;obtain⟨as,ea,kt⟩:=aB q1;have cr:Rs X.K H1 al σ ((t,some v)::Fr):=cr;have r2:Rs X.K H1 al σ ((er t,some v)::Fr):=.of cr.1 (pC cr.head);obtain⟨e1,_⟩:=qo ea;obtain⟨a',xs,rfl,hq,l1,_⟩:=ay e1 r2.head;rw[<-lh as]at kt;exact⟨_,a',rfl,⟨xs,hq⟩,c _ _ _ [(er t,_)] _ kt r2 (Bu e1 (aG t))⟩
 exact q1.elim
end
open PySem PySem.Spec PyProof.Rows L2
noncomputable def frA(fr:List (Option Nat)):List Arg:=fr.map λo=>match o with
 |some j=>.bor j
 |none=>.val .any
noncomputable def κc(fr:List (Option Nat))(j:Nat):Bool:=match fr[j]? with
 |some (some _)=>true
 | _=>false
theorem eJ:∀(fr:List (Option Nat)) (σ:L2.St),gS (frA fr) (bj fr σ) σ
 | [],σ=>trivial
 |none::r,σ=>eJ r σ
 |some j::r,σ=>by
  refine⟨?_,eJ r σ⟩;by_cases h:j<σ.length
  ·refine .inl ?_;show σ[j]?=some ((σ[j]?).join);rw[d_ h]
   rfl
  exact .inr (by lia)
theorem iY:∀(fr:List (Option Nat)) (τ τ':List (Option V)) (σ:L2.St),τ'.length=τ.length->(∀j,κc fr j=true->τ'[j]?=τ[j]?)->gS (frA fr) τ σ->gS (frA fr) τ' σ
 | [],[],τ',σ,l,_,_=>by
  have:τ'=[]:=by cases τ' with|nil=>rfl|cons _ _=>cases l
  subst this
  trivial
 | [],_::_,_,_,_,_,o=>o.elim
 |none::r,[],_,_,_,_,o=>o.elim
 |some j::r,[],_,_,_,_,o=>o.elim
 |none::r,x::τ,[],σ,l,_,_=>by cases l
 |some j::r,x::τ,[],σ,l,_,_=>by cases l
 |none::r,x::τ,y::τ',σ,l,k,o=>iY r τ τ' σ (by simpa using l) (λj hj=>by simpa using k (j+1) hj) o
 |some i::r,x::τ,y::τ',σ,l,k,o=>by
  have e:y=x:=by have:=k 0 rfl;simpa using this
  subst e;exact⟨o.1,iY r τ τ' σ (by simpa using l) (λj hj=>by simpa using k (j+1) hj) o.2⟩
def As(fr:List (Option Nat))(bd:List T)(g:PG')(ft:PB)(fe:PF)(al:Ev)(k:T->Ev->Prop):Prop:=bd.length<sizeLine/\∃W:Nat->List T->Ev->Prop,W 0 [] (lend (frA fr) al).1/\
 (∀i t acc ie,W i acc ie->bd[i]?=some t->g t ie λie2=>ft ie2 λb ie3=>cnd b (fe ie3 λu ie4=>W (i+1) (acc++[u]) ie4) (W (i+1) acc ie3))/\
 ∀acc ie,W bd.length acc ie->k (.lst true acc) (back (frA fr) ie (lend (frA fr) al).2)
def qu(fr:List (Option Nat))(fi:PIt)(g:PG')(ft:PB)(fe:PF):PF:=λenv k=>fi env λbd al=>As fr bd g ft fe al k
theorem oH:∀fr:List (Option Nat),(frA fr).map l4=fr.map λ_=>T.any
 | []=>rfl
 |none::r=>by show T.any::(frA r).map l4=T.any::r.map λ_=>T.any;rw[oH r]
 |some j::r=>by show T.any::(frA r).map l4=T.any::r.map λ_=>T.any;rw[oH r]
theorem uj{K:Ja}{H:Hp}{Γ:Fm}:∀(fr:List (Option Nat)) (xs:List (Option V)),Rp K H Γ->Rp K H ((fr.map λ_=>T.any).zip xs++Γ)
 | [],xs,h=>h
 | _::r,[],h=>h
 | _::r,x::xs,h=>eY (uj r xs h)
theorem yJ(fr:List (Option Nat)):(frA fr).length=fr.length:=by unfold frA;rw[a_]
theorem sD(fr:List (Option Nat))(σ:L2.St):(bj fr σ).length=fr.length:=by unfold bj;rw[a_]
variable {fe:PF}{fi:PIt}{fr:List (Option Nat)}{ft:PB}{g:PG'}
theorem rL:∀ σ H Q,wE K (qu fr fi g ft fe) σ H Q->t9 (wI K fi) fr (λ_ _ _=>wG K (κc fr) g) (λ_ _ _=>wB K ft) (λ_ _ _=>wE K fe) σ H Q:=by
 rintro σ H Q ⟨env,Fr,k,rs,q,c⟩;refine⟨env,Fr,_,rs,q,?_⟩;rintro bd al J Fg H1 ⟨hz,W,w0,wt,we⟩ cr ok;intro p hp s3 H3' fp;have l0:Rs K H1 al σ (((frA fr).map l4).zip (bj fr σ)++(Fg++Fr)):=⟨cr.1,by refine Rp.perm ?_ (m_ _ _ _);rw[oH];exact uj fr _ cr.2⟩
 have l1:=gB (eJ fr σ) l0;obtain⟨ie0,ou,e0⟩:∃ie0 ou,lend (frA fr) al=(ie0,ou):=⟨_,_,rfl⟩;have lie:ie0.length=(bj fr σ).length:=by have:=dO (frA fr) al;rw[e0,yJ]at this;rw[sD];exact this
 rw[e0]at l1 w0;have rp0:Rp K (upd H1 p (.lst [])) ((.lst true [],some (.ref p))::(ie0.zip (bj fr σ)++(Fg++(ou.zip σ++Fr)))):=by refine dU (ts:=[]) (vs:=[]) (l1.2.perm ?_) rfl hp (aF hp _) aq;show Hu (ou.zip σ++(ie0.zip (bj fr σ)++(Fg++Fr))) (ie0.zip (bj fr σ)++(Fg++(ou.zip σ++Fr)));exact(m_ _ _ _).trans ((m_ _ _ _).append_left _)
 refine⟨λi m bv H'=>∃acc ie,W i acc ie/\Rs K H' ie bv ((.lst true acc,some (.ref p))::(Fg++(ou.zip σ++Fr)))/\Kept (κc fr) (bj fr σ) bv/\m+i=bd.length/\acc.length<=i,⟨bd.length,[],ie0,w0,.of lie rp0,.refl,rfl,c_ _⟩,?_⟩;rintro i m σ1 H2 ⟨acc,ie,w2,rs2,k2,hm,ha⟩;have ce:Rp K H2 (Fg++((.lst true acc,some (.ref p))::(ie.zip σ1++(ou.zip σ++Fr)))):=by refine rs2.head.perm ?_;refine C_ ?_ e_.symm;exact .cons _ (m_ _ _ _)
 by_cases ii:i<bd.length
 ·have ei:bd[i]?=some bd[i]:=d_ ii;obtain⟨hgo,hy⟩:=ok.turn i bd[i] H2 _ ei ce;refine .inr ⟨hgo,λx H' hx=>?_⟩;have cl:=hy x H' hx;have rs3:Rs K H' ie σ1 ((bd[i],some x)::((.lst true acc,some (.ref p))::(Fg++(ou.zip σ++Fr)))):=.of rs2.1 (cl.perm (.cons _ (by refine e_.trans ?_;refine C_ ?_ e_.symm;exact .cons _ (m_ _ _ _))))
  refine⟨bd[i],ie,_,_,rs3,wt i bd[i] acc ie w2 ei,λie3 σ3 H3 q3 rs4 k4=>?_⟩;refine⟨ie3,_,_,rs4,q3,λb ie4 H4 q4 rs5=>gA ⟨λhb=>?_,λhb=>?_⟩⟩
  ·refine⟨ie4,_,_,rs5,q4.1 hb,λu ie5 v H5 q5 rs6=>?_⟩;have r7:=rs6.perm (.swap _ _ _);obtain⟨a',ys,ea,hys,ly,r8⟩:=eO r7.head;cases ea;refine⟨ys,hys,by rw[<-ly];exact Fx ha (Hg ii hz),m-1,by lia,acc++[u],ie5,q5,.of r7.1 ?_,k2.trans k4,by lia,by rw[j_];simp;omega⟩;refine dI (ts:=acc++[u]) (vs:=ys++[v]) (r8.perm (.cons _ ?_)) (by rw[j_,j_,ly];rfl) Put.up;rw[jP ly,n_];refine F8 _ ?_;exact e_
  exact⟨m-1,by lia,acc,ie4,q4.2 hb,rs5,k2.trans k4,by lia,by lia⟩
 have:i=bd.length:=by lia
 subst this;refine .inl ⟨ok.stop H2 _ ce,c _ _ _ _ (we acc ie w2) ?_⟩;rw[e0];have ao:gS (frA fr) σ1 σ:=iY fr (bj fr σ) σ1 σ k2.1 k2.2 (eJ fr σ);refine gC ao (env:=ou) ⟨l1.1,?_⟩;refine ce.part.perm ?_;refine C_ ?_ (m_ _ _ _);refine C_ e_.symm ?_;exact F8 _ e_.symm
def GTs(X:Cx)(ifs:List Jn)(f:PB):Prop:=PTs X ifs (wB X.K f)
noncomputable def qL:PB:=λenv k=>k true env
theorem df{X:Cx}:GTs X [] qL:=by rintro ac s σ H Q I ⟨env,Fr,k,rs,q,c⟩;exact yt ac s σ H Q I (c _ _ _ q rs)
theorem jg{f:PB}(h:GT X c f):GTs X [c] f:=zW h
variable {N ps:List Str}{ifs:List Jn}{target:Jn}
theorem dc{esc:JX}(S:FnScope N ps esc)(N':List Str)(fr:List (Option Nat))(nd:N'.Nodup){elt iter:Jn}{sc:JX}(C:gn N esc sc N' fr=true)
  (hi:GI X target iter fi) (hg:∀s3 H3 fp,GG (κc fr) (az X N' sc s3 H3 fp) target g) (ht:∀s3 H3 fp,GTs (az X N' sc s3 H3 fp) ifs ft) (he:∀s3 H3 fp,GE (az X N' sc s3 H3 fp) elt fe)
  (hc:X.calm=true:=by rfl) (hN:X.N=N:=by rfl) (hS:X.env.scope=esc:=by rfl) (hs:∀x,JY iter X.env x=pure x:=by intro _;rfl):GE X (.ListComp elt [⟨target,iter,ifs,0⟩] sc pos) (qu fr fi g ft fe):=
 PE.imp (vn S N' fr nd C hi hg ht he hc hN hS hs) rL
theorem uq{X:Cx}{κ:Nat->Bool}{N ps:List Str}{esc:JX}(S:FnScope N ps esc){i:Nat}{x:Str}{pos pos':Pos}(N':List Str)(fr:List (Option Nat))(nd:N'.Nodup){elt target iter:Jn}{ifs:List Jn}{sc:JX}{jp:Pos}{fi:PIt}{g:PG'}{ft:PB}{fe:PF}(C:gn N esc sc N' fr=true)
  (hi:X.N[i]?=some x) (hx:Loc X.env.scope x) (hκ:κ i=false) (hit:GI X target iter fi) (hg:∀s3 H3 fp,GG (κc fr) (az X N' sc s3 H3 fp) target g) (ht:∀s3 H3 fp,GTs (az X N' sc s3 H3 fp) ifs ft) (he:∀s3 H3 fp,GE (az X N' sc s3 H3 fp) elt fe)
  (hsw:Kv (.ListComp elt [⟨target,iter,ifs,0⟩] sc jp) (some (.Name x pos')) pos.line X.env=pure true) (hf:X.fn x=true:=by rfl)
  (hc:X.calm=true:=by rfl) (hN:X.N=N:=by rfl) (hS:X.env.scope=esc:=by rfl) (hs:∀x,JY iter X.env x=pure x:=by intro _;rfl):GS κ X (.Assign [.Name x pos'] (.ListComp elt [⟨target,iter,ifs,0⟩] sc jp) pos) (zM i (qu fr fi g ft fe)):=by
 refine PS.imp (tX S N' fr nd C hi hx hit hg ht he hsw hf hc hN hS hs) ?_;rintro D σ H ⟨env,Fr,pe,rs,q,c⟩;exact rL σ H _ ⟨env,Fr,_,rs,q,λt be v H' q1 cr=>c.nx _ _ _ q1 cr.put (.set hκ)⟩
abbrev PM:=T->List T->(T->T->Prop)->Prop
def MtP(X:Cx)(id:String)(m:PM):Prop:=MtM X id (λx xs H Q=>∃t ts Γ k,ts.length=xs.length/\Rp X.K H ((t,some x)::(zz ts xs++Γ))/\m t ts k/\∀t' r v H',k t' r->Rp X.K H' ((r,some v)::(t',some x)::Γ)->Q v H')
noncomputable def isL:T->Bool
 | .lst _ _=>true
 | _=>false
def vc(i:Nat)(m:PM)(fr:PFs):PF:=λenv k=>got (env[i]?) λt0=>isL t0=true/\fr env λts al=>got (al[i]?) λt=>m t ts λt' r=>k r (al.set i t')
section
variable{X:Cx}{e o:Jn}{es:List Jn}{fr:PFs}{fe:PF}{m:PM}{name:Str}{id:String}{apos io pos:Pos}
theorem yI(h:isL t=true)(rp:Rp X.K H ((t,some v)::Γ)):tyV X.K "list" v H:=by
 cases t <;> first|cases h|skip
 obtain⟨a,vs,rfl,hq,l,_⟩:=oj rp;exact .inl ⟨rfl,vs,.inl hq⟩
theorem ze(h:isL t=true):isAny t=false:=by cases t <;> first|rfl|cases h
theorem CD:∀ σ H Q,wE X.K (vc i m fr) σ H Q->tBM X.K "list" (λx xs H Q=>∃t ts Γ k,ts.length=xs.length/\Rp X.K H ((t,some x)::(zz ts xs++Γ))/\m t ts k/\∀t' r v H',k t' r->Rp X.K H' ((r,some v)::(t',some x)::Γ)->Q v H') (BM i) (wA X.K fr) σ H Q:=by
 rintro σ H Q ⟨env,Fr,k,rs,q,c⟩;obtain⟨t0,e0,hl,q⟩:=aB q;obtain⟨y,ey,rs2⟩:=rs.slot e0;obtain⟨v,rfl⟩:=cO rs2 (ze hl);refine⟨v,ey,yI hl rs2.head,env,Fr,_,rs,q,λts al vs H1 q1 l cr=>?_⟩;obtain⟨t,et,q1⟩:=aB q1;obtain⟨y',ey',rs3⟩:=cr.slot et;rw[ey]at ey';cases ey';have hi:i<al.length:=(b_.mp et).1;refine⟨t,ts,(al.set i .any).zip σ++Fr,_,l,?_,q1,λt' r w H' kt rp=>c _ _ _ _ kt ?_⟩
 ·refine rs3.head.perm (.cons _ ?_);exact m_ _ _ _
 have r4:Rs X.K H' (al.set i .any) σ ((t',some v)::(r,some w)::Fr):=.of rs3.1 (rp.perm (by refine C_ (.swap _ _ _) ?_;exact .cons _ e_.symm))
 have r5:=Rs.kC (i:=i) r4 (by rw[D_];exact hi) ey;rw[GX]at r5;exact r5
theorem gy(i:Nat){x:Str}{xp:Pos}(slot:Slot "list" name id)(hty:typeOf (.builtin id)=pure (.type "method_descriptor"))(hm:MtP X id m)(ha:GA X (e::es) fr)(hN:X.N[i]?=some x:=by rfl)(hv:Vis X.env.scope x:=by first|exact f_ rfl|exact gV (f_ rfl)|exact gV (gV rfl))(hd:(x ==("__debug__":Str))=false:=by decide)(hcd:(x ==("__classdict__":Str))=false:=by decide)
  (hbase:Pp (.Name x xp) name X.env (JC (.Name x xp) X.env)=JC (.Name x xp) X.env:=by rfl)
  (hfew:((KH io (Jo (e::es) X.env)).all (λx=>!x.1)&&(backToKw io (Ql [] X.env)).all (λx=>x.1.isSome)&&decide ((e::es).length+([]:List O1).length+(if([]:List O1).isEmpty then 0 else 1)<30))=true:=by rfl)
  (hline:(apos.endLine == io.line)=true:=by rfl) (hs:Jo (e::es) X.env=(false,JC e X.env)::Jo es X.env:=by rfl) (hplain:(KH io (Jo es X.env)).any (·.1)=false:=by rfl) :
  GE X (.Call (.Attribute (.Name x xp) name apos) (e::es) [] io) (vc i m fr):=PE.imp (E6 PySem.F.plainAttrs_list slot hty hm (cq hN hv hd hcd) ha hbase hfew hline hs hplain) CD
noncomputable def oO:PM
 | .lst true ts,[t],k=>ts.length<sizeLine/\k (.lst true (ts++[t])) .non
 | _,_,_=>False
noncomputable def o5:PM
 | .lst true ts,[.int i,t],k=>(0<=i/\i<=(ts.length:Int)/\ts.length<2 ^ 20)/\k (.lst true (ts.take i.toNat++t::ts.drop i.toNat)) .non
 | _,_,_=>False
theorem iq:MtP X "list.append" oO:=by
 rintro ac s σ H x xs v us Q I rx r ⟨t,ts,Γ,k,l,rp,g,c⟩;unfold oO at g;split at g
 ·rename_i k ts t;obtain⟨y,rfl⟩:=zz1 l rfl;obtain⟨a,vs,ea,ha,la,ce⟩:=eO rp;cases ea;refine r6 ac s σ H _ _ v us Q I rx r ⟨a,vs,y,rfl,rfl,ha,by rw[<-la];exact g.1,λH' hp=>c _ _ _ _ g.2 (bH ?_ λ_=>.non)⟩;refine dI (ts:=ts++[t]) (vs:=vs++[y]) ?_ (by rw[j_,j_,la];rfl) hp;rw[jP la,n_];exact ce
 exact Jq g
theorem rm:MtP X "list.insert" o5:=by
 rintro ac s σ H x xs v us Q I rx r ⟨t,ts,Γ,k,l,rp,g,c⟩;unfold o5 at g;split at g
 ·rename_i k ts i t;obtain⟨y,z,rfl⟩:=zz2 l rfl;obtain⟨a,vs,ea,ha,la,ce⟩:=eO rp;cases ea;have hy:y=.int i:=aE (ce.perm ((m_ _ _ _).cons _ |>.trans (.swap _ _ _)));subst hy;refine sG ac s σ H _ _ v us Q I rx r ⟨a,vs,i,z,rfl,rfl,ha,g.1.1,by rw[<-la];exact g.1.2.1,by rw[<-la];exact g.1.2.2,λH' hp=>c _ _ _ _ g.2 (bH ?_ λ_=>.non)⟩;refine dI (ts:=ts.take i.toNat++t::ts.drop i.toNat) (vs:=vs.take i.toNat++z::vs.drop i.toNat) ?_ (by simp[la]) hp;rw[jP (by rw[Fd,Fd,la])];have cl:Rp X.K H ((.bare,some (.ref a))::(zz ts vs++((t,some z)::Γ))):=by
   have:Rp X.K H ((.int i,some (.int i))::((.bare,some (.ref a))::(zz ts vs++((t,some z)::Γ)))):=ce.perm (by refine C_ (.cons _ e_) ?_;exact .swap _ _ _)
   exact this.tail
  refine cl.perm (.cons _ ?_);show Hu (zz ts vs++((t,some z)::Γ)) ((zz (ts.take i.toNat) (vs.take i.toNat)++((t,some z)::zz (ts.drop i.toNat) (vs.drop i.toNat)))++Γ);rw[pz,oF];refine e_.trans ?_;rw[n_];refine C_ ?_ e_.symm;refine Gv _ ?_;show Hu (zz ts vs++Γ) (IW i.toNat (zz ts vs)++(IX i.toNat (zz ts vs)++Γ));rw[<-n_,Fy]
 exact Jq g
end
noncomputable def outs(ms:List Bool)(env:Ev):List T:=ms.zipWith (λb t=>if b then t else .any) env
noncomputable def κm(ms:List Bool)(j:Nat):Bool:=match ms[j]? with
 |some b=>b
 |none=>false
theorem gI{K:Ja}{H:Hp}{Γ:Fm}:∀{ms:List Bool}{env:Ev}{σ:L2.St}{vs:List V},ms.length=vs.length->(∀j,κm ms j=true->σ[j]?=(vs[j]?).map some)->Rp K H (env.zip σ++Γ)->Rp K H (zz (outs ms env) vs++Γ)
 | [],env,σ,vs,l,k,h=>h.part
 | _::_,_,_,[],l,_,_=>by cases l
 |m::ms,[],σ,v::vs,l,k,h=>h
 |m::ms,t::env,[],v::vs,l,k,h=>by
  have ih:=gI (ms:=ms) (env:=env) (σ:=[]) (vs:=vs) (by simpa using l) (λj hj=>by have:=k (j+1) hj;simpa using this) (by simpa using h)
  cases m with
  |true=>have:=k 0 rfl;simp at this
  |false=>exact eY ih
 |m::ms,t::env,x::σ,v::vs,l,k,h=>by
  have h:Rp K H ((t,x)::(env.zip σ++Γ)):=h;have ks:∀j,κm ms j=true->σ[j]?=(vs[j]?).map some:=λj hj=>by have:=k (j+1) hj;simpa using this
  cases m with
  |true=>
   have e:x=some v:=by have:=k 0 rfl;simpa using this
   subst e;have h2:Rp K H (env.zip σ++((t,some v)::Γ)):=h.perm e_.symm;exact(gI (ms:=ms) (by simpa using l) ks h2).perm e_
  |false=>exact eY (gI (ms:=ms) (by simpa using l) ks h.tail)
theorem qC(l:ts.length=vs.length)(n:Nat)(h:Rp K H (zz ts vs++Γ)):Rp K H ((ts++p_ n T.any).zip (vs.map some++p_ n none)++Γ):=by
 rw[Iv (by rw[a_];exact l),n_];have:∀n,Rp K H (zz ts vs++((p_ n T.any).zip (p_ n (none:Option V))++Γ)):=by
  intro n;induction n with
  |zero=>exact h
  |succ n ih=>
   rw[Fb,Fb];exact(eY (x:=none) ih).perm e_.symm
 exact this n
variable {P:Ji}
theorem bC{mg:Str->Option IY}{base:Jp}{x qual:Str}{f:I_}{fd:Jt}{k:Nat}{Pr:FP}(F:Fun K x qual st f fd)(S:FnScope N ps (af st))(ms:List Bool)(hms:ms.length=ps.length)
  (body:∀(cdv:IY) (A:Jr) (outer:List Env) (s:Jc) (H:Hp) (E:XK),Room k (A.deeper (Kn qual (af st) s.heap.objs.size f cdv))->
   ∃fb,GSs (κm ms) (gm CX0 P w K mg base N qual (af st) f cdv A outer s H E).nox (b8 st) fb/\∀ts kk,ts.length=ps.length->Pr ts kk->fb { nx:=λenv=>kk .non (outs ms env),rt:=λt env=>kk t (outs ms env) } (ts++p_ (N.length-ps.length) .any)) :
  FnOk P w K mg base CX0 (k+1) f fd ps (ax K ps.length Pr):=by
 refine F.ok S (by rintro vs H Q E ⟨ts,Fr,kk,h1,h2,_⟩;exact h2) ?_;rintro cdv A outer s H vs Q E hr ⟨ts,Fr,kk,h1,h2,rp,pr,c⟩;obtain⟨fb,hb,q⟩:=body cdv A outer s H E hr;refine⟨_,hb,ts++p_ (N.length-ps.length) .any,Fr,_,?_,q ts kk (by rw[h1,h2]) pr,?_⟩
 ·unfold L2.start;rw[h2];refine⟨by simp[h1],qC h1 _ rp⟩
 have kv:∀{bv},Kept (κm ms) (L2.start N vs) bv->∀j,κm ms j=true->bv[j]?=(vs[j]?).map some:=λ{bv} kp j hj=>by
  rw[kp.2 j hj];unfold L2.start;have hj2:j<vs.length:=by
   rw[h2,<-hms];unfold κm at hj;split at hj
   ·rename_i b e;exact(b_.mp e).1
   cases hj
  rw[FR (by rw[a_];exact hj2),A_]
 refine⟨λbe bv H' q' rs' k'=>c _ _ _ _ q' ?_,λt be v bv H' q' rs' k'=>c _ _ _ _ q' ?_,λ_ _ _ z=>z.elim,λ_ _ _ z=>z.elim⟩
 ·exact bH (gI (by rw[hms,h2]) (kv k') rs'.2) λ_=>.non
 exact(gI (Γ:=(t,some v)::Fr) (by rw[hms,h2]) (kv k') rs'.2).perm e_
open PySem PySem.Spec PyProof.Rows L2
section
variable{X:Cx}{pos:Pos}
theorem vz{te:TE}(h:PS X st (zX te (tS i))):PS X st (λD σ H=>te σ H λv H'=>Gr H H'/\D.nx (σ.set i (some v)) (over H H')):=by
 intro ac s σ H D I q;have key:=h ac s σ H { nx:=λbv H'=>Gr H H'/\D.nx bv (over H H'),rt:=λ_ _=>False} I q;refine thn key λf s' hs=>?_;cases f with
 |next=>
  obtain⟨bv,H',I',g,q'⟩:=hs;exact⟨bv,over H H',lT I I' g,q'⟩
 |brk=>obtain⟨_,_,_,z⟩:=hs;exact z.elim
 |cont=>obtain⟨_,_,_,z⟩:=hs;exact z.elim
 |ret u=>obtain⟨_,_,_,_,_,z⟩:=hs;exact z.elim
theorem yF{f:PF}{σ:L2.St}{Q:VK}(h:wE K (fQ f) σ H Q):wE K f σ H λv H'=>Gr H H'/\Q v (over H H'):=by
 obtain⟨env,Fr,k,rs,q,c⟩:=h;have rv:Rs K H (erL env) σ ((Fr.map λp=>(er p.1,p.2))++[(.kp H,some .non)]):=by refine⟨by rw[lh];exact rs.1,?_⟩;have:=pE rs.2;rw[x_,l8,n_]at this;exact this
 refine⟨erL env,_,_,rv,q,?_⟩;rintro t be v H' ⟨n,kt⟩ rs';obtain⟨g,r2⟩:=oo rs.2 (Δ:=be.zip σ++(Fr.map λp=>(er p.1,p.2))) (by rw[n_];exact rs'.head) n;exact⟨g,c t env v _ kt (.of rs.1 r2)⟩
theorem lU{esc:JX}(S:FnScope N ps esc){x:Str}{pos pos':Pos}(N':List Str)(fr:List (Option Nat))(nd:N'.Nodup){elt iter:Jn}{sc:JX}{jp:Pos}(C:gn N esc sc N' fr=true)
  (hi:X.N[i]?=some x) (hx:Loc X.env.scope x) (hκ:κ i=false) (hit:GI X target iter fi) (hg:∀s3 H3 fp,GG (κc fr) (az X N' sc s3 H3 fp) target g) (ht:∀s3 H3 fp,GTs (az X N' sc s3 H3 fp) ifs ft) (he:∀s3 H3 fp,GE (az X N' sc s3 H3 fp) elt fe)
  (hsw:Kv (.ListComp elt [⟨target,iter,ifs,0⟩] sc jp) (some (.Name x pos')) pos.line X.env=pure true) (hf:X.fn x=true:=by rfl)
  (hc:X.calm=true:=by rfl) (hN:X.N=N:=by rfl) (hS:X.env.scope=esc:=by rfl) (hs:∀x,JY iter X.env x=pure x:=by intro _;rfl):GS κ X (.Assign [.Name x pos'] (.ListComp elt [⟨target,iter,ifs,0⟩] sc jp) pos) (zM i (fQ (qu fr fi g ft fe))):=by
 refine PS.imp (vz (tX S N' fr nd C hi hx hit hg ht he hsw hf hc hN hS hs)) ?_;rintro D σ H ⟨env,Fr,pe,rs,q,c⟩;exact rL σ H _ (yF (Q:=λv H'=>D.nx (σ.set i (some v)) H') ⟨env,Fr,_,rs,q,λt be v H' q1 cr=>c.nx _ _ _ q1 cr.put (.set hκ)⟩)
theorem Bi:GE X (.Dict [] [] pos) (fK (.dK true [])):=PE.imp xP (by rintro σ H Q ⟨env,Fr,k,rs,q,c⟩;exact λp hp=>c _ _ _ _ q (.of rs.1 (zA rs.2 hp (aF hp _) aq)))
theorem Cd:GE X (.Dict [] [] pos) (fK (.dT true [])):=PE.imp wF (by rintro σ H Q ⟨env,Fr,k,rs,q,c⟩;exact λp hp=>c _ _ _ _ q (.of rs.1 (xX rs.2 hp (aF hp _) aq)))
end
section
variable{κ':Type}[DecidableEq κ']
theorem qa:∀{ts:List (κ'×T)}{vs:List (κ'×V)} (q:κ') (t:T) (w:V),ts.map (·.1)=vs.map (·.1)->(gP ts q t).map (·.1)=(putK vs q w).map (·.1):=by
 intro ts vs q t w e;have ha:(ts.any λkv=>decide (kv.1=q))=(vs.any λkv=>decide (kv.1=q)):=by
  have e1:(ts.any λkv=>decide (kv.1=q))=(ts.map (·.1)).any λk=>decide (k=q):=by rw[HW];rfl
  have e2:(vs.any λkv=>decide (kv.1=q))=(vs.map (·.1)).any λk=>decide (k=q):=by rw[HW];rfl
  rw[e1,e2,e]
 unfold gP putK;rw[ha];split
 ·rw[Fp,Fp];have f1:((λx:κ'×T=>x.1) ∘ λkv=>if kv.1=q then(kv.1,t)else kv)=λx=>x.1:=by funext kv;show(if kv.1=q then(kv.1,t)else kv).1=kv.1;split <;> rfl
  have f2:((λx:κ'×V=>x.1) ∘ λkv=>if kv.1=q then(kv.1,w)else kv)=λx=>x.1:=by funext kv;show(if kv.1=q then(kv.1,w)else kv).1=kv.1;split <;> rfl
  rw[f1,f2,e]
 rw[x_,x_,e]
 rfl
theorem nZ:∀{ts:List (κ'×T)}{vs:List (κ'×V)} (q:κ') (t:T) (w:V),ts.map (·.1)=vs.map (·.1)->(vs.map (·.1)).Nodup->∃r,((t,some w)::zz (ts.map (·.2)) (vs.map (·.2))).Perm (r++zz ((gP ts q t).map (·.2)) ((putK vs q w).map (·.2))):=by
 intro ts vs q t w e nd;by_cases hm:q∈vs.map (·.1)
 ·
  have ha:(vs.any λkv=>decide (kv.1=q))=true:=by obtain⟨kv,h1,h2⟩:=EV.mp hm;exact Gg.mpr ⟨kv,h1,decide_eq_true h2⟩
  have hb:(ts.any λkv=>decide (kv.1=q))=true:=by rw[<-e]at hm;obtain⟨kv,h1,h2⟩:=EV.mp hm;exact Gg.mpr ⟨kv,h1,decide_eq_true h2⟩
  unfold gP putK;rw[if_pos ha,if_pos hb];clear ha hb;induction ts generalizing vs with
  |nil=>
   have:vs=[]:=by cases vs with|nil=>rfl|cons _ _=>cases e
   subst this;cases hm
  |cons a ts ih=>
   cases vs with
   |nil=>cases e
   |cons b vs=>
    obtain⟨k1,t1⟩:=a;obtain⟨k2,v1⟩:=b;rw[f',f',FZ]at e;have ek:k1=k2:=e.1;subst ek;rw[f',y_]at nd;by_cases hk:k1=q
    ·subst hk;have n1:∀kv∈ts,kv.1≠k1:=λkv hkv z=>nd.1 (by rw[<-e.2];exact EV.mpr ⟨kv,hkv,z⟩)
     have n2:∀kv∈vs,kv.1≠k1:=λkv hkv z=>nd.1 (EV.mpr ⟨kv,hkv,z⟩);have m1:ts.map (λkv=>if kv.1=k1 then(kv.1,t)else kv)=ts:=by
      conv=>rhs;rw[<-Il ts]
      exact Ft λkv hkv=>if_neg (n1 kv hkv)
     have m2:vs.map (λkv=>if kv.1=k1 then(kv.1,w)else kv)=vs:=by
      conv=>rhs;rw[<-Il vs]
      exact Ft λkv hkv=>if_neg (n2 kv hkv)
     refine⟨[(t1,some v1)],?_⟩;simp only[f',if_true,m1,m2];exact .swap _ _ _
    have hm':q∈vs.map (·.1):=by
     rcases k_.mp hm with z|z
     ·exact absurd z.symm hk
     exact z
    obtain⟨r,p⟩:=ih e.2 nd.2 hm';refine⟨r,?_⟩;simp only[f',if_neg hk];show Hu ((t,some w)::(t1,some v1)::zz (ts.map (·.2)) (vs.map (·.2))) (r++((t1,some v1)::zz ((ts.map λkv=>if kv.1=q then(kv.1,t)else kv).map (·.2)) ((vs.map λkv=>if kv.1=q then(kv.1,w)else kv).map (·.2))));exact(G2 _ _ _).trans ((p.cons _).trans e_.symm)
 have ha:(vs.any λkv=>decide (kv.1=q))=false:=by rw[Fs];intro z;obtain⟨kv,h1,h2⟩:=Gg.mp z;exact hm (EV.mpr ⟨kv,h1,of_decide_eq_true h2⟩)
 have hb:(ts.any λkv=>decide (kv.1=q))=false:=by rw[Fs];intro z;obtain⟨kv,h1,h2⟩:=Gg.mp z;exact hm (by rw[<-e];exact EV.mpr ⟨kv,h1,of_decide_eq_true h2⟩)
 unfold gP putK;rw[ha,hb];refine⟨[],?_⟩;simp only[Fl,if_false,Gn];rw[x_,x_,jP (by rw[a_,a_];exact aY e)];exact(F7 (l₁:=[(t,some w)]))
end
def rz:T->T->T->(T->Prop)->Prop
 | .lst true ts,.int i,v,k=>got (ixN ts.length i) λj=>k (.lst true (ts.set j v))
 | .dK true am,y,v,k=>got (pT y) λq=>am.length<sizeLine/\k (.dK true (gP am q v))
 | .dT true am,.tup ks,v,k=>got (ff ks) λq=>am.length<sizeLine/\k (.dT true (gP am q v))
 | _,_,_,_=>False
section
variable{X:Cx}{κ:Nat->Bool}{pos:Pos}
theorem xO{h:Jp}{am:List (List Key×V)}(ok:HOk P w H h)(e:H a=some (.dT am)):(am.map (·.1)).Nodup:=by
 obtain⟨z,y,xs,r,o,es,ep,h1,h2,h3,h4,h5⟩:=ok a _ e;have:am.map (·.1)=xs.map (·.1):=by
  clear h4 h5 h1 z e;induction r with
  |nil=>rfl
  |cons q _ ih=>rw[f',f',ih,q.1]
 rw[this];exact h5
theorem vx{h:Jp}{am:List (Key×V)}(ok:HOk P w H h)(e:H a=some (.dK am)):(am.map (·.1)).Nodup:=by
 obtain⟨z,y,vs,r,o,es,ep,h1,h2,h3,h4,h5,h6⟩:=ok a _ e;have:am.map (·.1)=vs.map (·.1):=by
  clear h6 h5 h4 h1 z e;induction r with
  |nil=>rfl
  |cons q _ ih=>rw[f',f',ih,q.1]
 rw[this];exact h6
theorem x9:∀{ts:List T}{vs:List V}{j:Nat}{t:T}{w:V},ts.length=vs.length->j<ts.length->∃r,((t,some w)::zz ts vs).Perm (r::zz (ts.set j t) (vs.set j w))
 | [],vs,j,t,w,l,h=>by cases h
 |a::ts,[],j,t,w,l,h=>by cases l
 |a::ts,b::vs,0,t,w,l,h=>⟨(a,some b),.swap _ _ _⟩
 |a::ts,b::vs,j+1,t,w,l,h=>by obtain⟨r,p⟩:=x9 (ts:=ts) (vs:=vs) (j:=j) (t:=t) (w:=w) (by simpa using l) (by simpa using h);exact⟨r,(G2 _ _ _).trans ((p.cons _).trans (.swap _ _ _))⟩
theorem DF(hr:Room kr X.A):su X (λo i v H Q=>∃t ti tv Γ k,Rp X.K H ((t,some o)::(ti,some i)::(tv,some v)::Γ)/\rz t ti tv k/\∀t' H',k t'->Rp X.K H' ((t',some o)::Γ)->Q H'):=by
 rintro ac s σ H o i v ov iv u Q I ro ri rv ⟨t,ti,tv,Γ,k,rp,g,c⟩;cases t with
 |lst own ts=>
  cases own <;> cases ti <;> first|exact Jq g|skip
  rename_i j;obtain⟨m,em,kt⟩:=aB g;rw[aE rp.tail]at ri;obtain⟨a,vs,ea,ha,la,ce⟩:=eO rp;cases ea;have hm:m<ts.length:=by have:=(oC em).2.1;exact this
  rw[la]at em;refine uw ac s σ H _ _ v ov iv u Q I ro ri rv ⟨a,vs,j,m,rfl,rfl,ha,em,λH' hp=>c _ _ kt ?_⟩;obtain⟨r,p⟩:=x9 (t:=tv) (w:=v) la hm;have cl:Rp X.K H ((.bare,some (.ref a))::(zz ts vs++((tv,some v)::Γ))):=by
   have:Rp X.K H ((.int j,some i)::((.bare,some (.ref a))::(zz ts vs++((tv,some v)::Γ)))):=ce.perm (by refine C_ (.cons _ e_) ?_;exact .swap _ _ _)
   exact this.tail
  have rp4:Rp X.K H (r::((.bare,some (.ref a))::(zz (ts.set m tv) (vs.set m v)++Γ))):=cl.perm (by refine C_ (.cons _ (e_.trans (p.append_right Γ))) ?_;exact .swap _ _ _)
  exact dI rp4.tail (by rw[D_,D_,la]) hp
 |dK own am=>
  cases own <;> first|exact Jq g|skip
  have g:got (pT ti) λq=>am.length<sizeLine/\k (.dK true (gP am q tv)):=by cases ti <;> exact g
  obtain⟨q,eq,hz,kt⟩:=aB g;rw[oZ eq rp.tail]at ri;obtain⟨a,vs,ea,ha,la,ce⟩:=pP rp;cases ea;cases ro;have hl:vs.length<sizeLine:=by rw[<-aY la];exact hz
  refine jW (kS hr) I (.inl ⟨vs,q,ha,rfl,hl,rfl⟩) ri rv λs' I'=>⟨_,I',c _ _ kt ?_⟩;obtain⟨r,p⟩:=nZ q tv v la (vx I.hok ha);have cl:Rp X.K H ((.bare,some (.ref a))::(zz (am.map (·.2)) (vs.map (·.2))++((tv,some v)::Γ))):=by
   have:Rp X.K H ((ti,some i)::((.bare,some (.ref a))::(zz (am.map (·.2)) (vs.map (·.2))++((tv,some v)::Γ)))):=ce.perm (by refine C_ (.cons _ e_) ?_;exact .swap _ _ _)
   exact this.tail
  have rp4:Rp X.K H (r++((.bare,some (.ref a))::(zz ((gP am q tv).map (·.2)) ((putK vs q v).map (·.2))++Γ))):=cl.perm (by refine C_ (.cons _ (e_.trans (p.append_right Γ))) ?_;rw[n_];exact e_.symm)
  exact nS rp4.part (qa q tv v la) Put.up
 |dT own am=>
  cases own <;> cases ti <;> first|exact Jq g|skip
  rename_i ks;obtain⟨q,eq,hz,kt⟩:=aB g;obtain⟨b,rfl,hb⟩:=oP eq rp.tail;obtain⟨a,vs,ea,ha,la,ce⟩:=vW rp;cases ea;cases ro;have hl:vs.length<sizeLine:=by rw[<-aY la];exact hz
  refine jW (kS hr) I (.inr ⟨vs,q,b,ha,rfl,hb,hl,rfl⟩) ri rv λs' I'=>⟨_,I',c _ _ kt ?_⟩;obtain⟨r,p⟩:=nZ q tv v la (xO I.hok ha);have cl:Rp X.K H ((.bare,some (.ref a))::(zz (am.map (·.2)) (vs.map (·.2))++((tv,some v)::Γ))):=by
   have:Rp X.K H ((.tup ks,some (.ref b))::((.bare,some (.ref a))::(zz (am.map (·.2)) (vs.map (·.2))++((tv,some v)::Γ)))):=ce.perm (by refine C_ (.cons _ e_) ?_;exact .swap _ _ _)
   exact this.tail
  have rp4:Rp X.K H (r++((.bare,some (.ref a))::(zz ((gP am q tv).map (·.2)) ((putK vs q v).map (·.2))++Γ))):=cl.perm (by refine C_ (.cons _ (e_.trans (p.append_right Γ))) ?_;rw[n_];exact e_.symm)
  exact ux rp4.part (qa q tv v la) Put.up
 | _=>cases ti <;> exact Jq g
def Ab(i:Nat)(fi:PF):PG':=λv env k=>got (env[i]?) λt0=>isAny t0=false/\fi env λti al=>got (al[i]?) λt=>rz t ti v λt'=>k (al.set i t')
theorem og{kr i:Nat}{x:Str}{xp:Pos}{ix:Jn}{fi:PF}(hr:Room kr X.A)(hi:GE X ix fi)(hN:X.N[i]?=some x:=by rfl)(hv:Vis X.env.scope x:=by first|exact f_ rfl|exact gV (f_ rfl)|exact gV (gV rfl))(hd:(x ==("__debug__":Str))=false:=by decide)(hcd:(x ==("__classdict__":Str))=false:=by decide)
  (ha:∀v,LQ (.Subscript (.Name x xp) ix pos) X.env v=(do
   let ov <-Lq [v] (JC (.Name x xp) X.env)
   let iv <-Lq [v,ov] (JC ix X.env)
   N4 pos
   Lq [v,ov,iv] (OY ov iv v)
   release [v,ov,iv] []):=by intro _;rfl):GG κ X (.Subscript (.Name x xp) ix pos) (Ab i fi):=by
 rintro ac s σ H v u Q I r ⟨tv,env,Fr,k,rs,q,c⟩;obtain⟨t0,e0,na,q⟩:=aB q;obtain⟨y,ey,rs2⟩:=rs.slot e0;obtain⟨w,rfl⟩:=cO rs2 na;refine vR (cq hN hv hd hcd) hi (DF hr) ha ac s σ H v u Q I r ⟨w,ey,env,(tv,some v)::Fr,_,rs,q,λti al iv H1 q1 cr=>?_⟩;obtain⟨t,et,q1⟩:=aB q1;obtain⟨y',ey',rs3⟩:=cr.slot et;rw[ey]at ey';cases ey';have hi':i<al.length:=(b_.mp et).1;refine⟨t,ti,tv,(al.set i .any).zip σ++Fr,_,?_,q1,λt' H' kt rp=>c _ _ _ kt ?_ .refl⟩
 ·refine rs3.head.perm (.cons _ ?_);refine C_ e_ (.cons _ ?_);exact e_
 have r4:Rs X.K H' (al.set i .any) σ ((t',some w)::Fr):=.of rs3.1 rp;have r5:=Rs.kC (i:=i) r4 (by rw[D_];exact hi') ey;rw[GX]at r5;exact r5
end
open PySem PySem.Spec PyProof.Rows L2
class Th (α:Type) where
 v:α
noncomputable def CF(P:FP)(ts:List T)[k:Th (T->List T->Prop)]:Prop:=P ts k.v
def kI(b:Bool)[A:Th Prop][B:Th Prop]:Prop:=cnd b A.v B.v
def d7(o:Option α)[k:Th (α->Prop)]:Prop:=got o k.v
def A1(fr:List (Option Nat))(bd:List T)(g:PG')(ft:PB)(fe:PF)(env:Ev)[k:Th (T->Ev->Prop)]:Prop:=As fr bd g ft fe env k.v
theorem bQ{u:α}{k:Th (α->Prop)}:d7 (some u) (k:=k)=k.v u:=rfl
theorem aw{o:Option α}{u:α}{k:Th (α->Prop)}(e:o=some u)(h:k.v u):d7 o (k:=k):=B3 e h
variable {A B:Th Prop}
theorem cc:kI true (A:=A) (B:=B)=A.v:=propext ⟨λh=>h.1 rfl,λh=>A4 h⟩
theorem bp:kI false (A:=A) (B:=B)=B.v:=propext ⟨λh=>h.2 rfl,λh=>Cp h⟩
theorem fo:kI (!b) (A:=A) (B:=B)=kI b (A:=B) (B:=A):=by cases b <;> simp only[IE,HF,cc,bp]
theorem kG(h1:b=true->A.v)(h2:b=false->B.v):kI b (A:=A) (B:=B):=⟨h1,h2⟩
theorem bZ{p:Prop}{d:Decidable p}(h1:p->A.v)(h2:¬p->B.v):kI (decide p) (A:=A) (B:=B):=⟨λh=>h1 (of_decide_eq_true h),λh=>h2 (of_decide_eq_false h)⟩
theorem zJ(e:b=true)(h:A.v):kI b (A:=A) (B:=B):=by rw[e];exact A4 h
variable {gt:PG'}
section
variable{f g:PF}{env:Ev}{k:T->Ev->Prop}{kb:Bool->Ev->Prop}{tc td:PB}{pe:PEn}{u v:PSt}{fs:PFs}{fa:PAs}{ks:List T->Ev->Prop}{ka:List Arg->Ev->Prop}
theorem lQ:fQ f env k=f (erL env) λt _=>b7 t=true/\k t env:=rfl
theorem iD:fQT tc env kb=tc (erL env) λb _=>kb b env:=rfl
theorem lE:fK t env k=k t env:=rfl
theorem eA:v8 i env k=d7 (env[i]?) (k:=⟨λt=>isAny t=false/\aD t=true/\k t env⟩):=by unfold v8;cases env[i]? <;> rfl
theorem i8:fFz i env k=d7 (env[i]?) (k:=⟨λt=>isAny t=false/\k (er t) (env.set i (er t))⟩):=by unfold fFz;cases env[i]? <;> rfl
theorem i5:fMv i env k=d7 (env[i]?) (k:=⟨λt=>isAny t=false/\k t (env.set i .any)⟩):=by unfold fMv;cases env[i]? <;> rfl
theorem dW{p:P2}:uQ p f g env k=f env λx al=>g al λy bi=>p x y λt=>k t bi:=rfl
theorem iJ{p:T->(T->Prop)->Prop}:fUn p f env k=f env λt al=>p t λu=>k u al:=rfl
noncomputable def asB(t:T)[k:Th (Bool->Prop)]:Prop:=match t with
 | .bl b=>k.v b
 | _=>False
theorem iZ{k:Th (Bool->Prop)}:asB (.bl b) (k:=k)=k.v b:=rfl
theorem fL:C2 f env kb=f env λt al=>asB t (k:=⟨λb=>kb b al⟩):=rfl
theorem fI:Dp f env kb=f env λt al=>vQ t λb=>kb b al:=rfl
theorem cX:A8 tc td env kb=tc env λb al=>kI b (A:=⟨td al kb⟩) (B:=⟨kb false al⟩):=rfl
theorem fD:Cy tc td env kb=tc env λb al=>kI b (A:=⟨kb true al⟩) (B:=⟨td al kb⟩):=rfl
theorem cD:A6 tc env kb=tc env λb al=>kb (!b) al:=rfl
theorem i4:fIf tc f g env k=tc env λb al=>kI b (A:=⟨f al k⟩) (B:=⟨g al k⟩):=rfl
theorem eZ:E2 env ks=ks [] env:=rfl
theorem cB:Ar f fs env ks=f env λt al=>fs al λts bi=>ks (t::ts) bi:=rfl
theorem f9:Dk fs env k=fs env λts al=>ts.length<=sizeLine/\k (.tup ts) al:=rfl
theorem eM:Cu fs env k=fs env λts al=>ts.length<=sizeLine/\k (.lst true ts) al:=rfl
theorem iN{p:P1s}:fCl p fs env k=fs env λts al=>p ts λt=>k t al:=rfl
theorem fu:Dq env ka=ka [] env:=rfl
theorem fF:DQ f fa env ka=f env λt al=>fa al λas bi=>ka (.val t::as) bi:=rfl
theorem fm:Ce i fa env ka=d7 (env[i]?) (k:=⟨λt=>isAny t=false/\fa env λas bi=>ka (.bor i::as) bi⟩):=by
 unfold Ce;cases env[i]? with
 |none=>exact propext ⟨λh=>h.1,λh=>h.elim⟩
 |some t=>rfl
theorem fz{P:FP}:B6 n P fa env k=fa env λas al=>as.length=n/\CF P (lend as al).1 (k:=⟨λt ts'=>k t (back as ts' (lend as al).2)⟩):=rfl
theorem cK:qu fr fi gt ft fe env k=fi env λbd al=>A1 fr bd gt ft fe al (k:=⟨k⟩):=rfl
theorem cW{m:PM}:vc i m fs env k=d7 (env[i]?) (k:=⟨λt0=>isL t0=true/\fs env λts al=>d7 (al[i]?) (k:=⟨λt=>m t ts λt' r=>k r (al.set i t')⟩)⟩):=rfl
theorem iL{fl fh:PO'}:fSl f fl fh env k=f env λt al=>fl al λlo bi=>fh bi λhi bn=>slT t lo hi λu=>k u bn:=rfl
noncomputable def asI(t:T)[k:Th (Int->Prop)]:Prop:=match t with
 | .int b=>k.v b
 | _=>False
theorem eP{b:Int}{k:Th (Int->Prop)}:asI (.int b) (k:=k)=k.v b:=rfl
theorem fk{ko:Option Int->Ev->Prop}:Dv f env ko=f env λt al=>asI t (k:=⟨λi=>ko (some i) al⟩):=rfl
theorem d6:xg pe env=pe.nx env:=rfl
theorem fB:BX u v pe env=u {pe with nx:=v pe} env:=rfl
theorem cV:A9 f pe env=f env λ_ al=>pe.nx al:=rfl
theorem fx:yb f pe env=f env λt al=>pe.rt t al:=rfl
theorem hZ:sIf tc u v pe env=tc env λb al=>kI b (A:=⟨u pe al⟩) (B:=⟨v pe al⟩):=rfl
theorem eS:zM i f pe env=f env λt al=>pe.nx (al.set i t):=rfl
theorem e8:D7 f gt pe env=f env λt al=>gt t al pe.nx:=rfl
theorem fR{p:P2}:Ck i f p pe env=d7 (env[i]?) (k:=⟨λt=>isAny t=false/\aD t=true/\f env λu al=>p t u λw=>pe.nx (al.set i w)⟩):=by
 unfold Ck;cases env[i]? with
 |none=>exact propext ⟨λh=>h.1,λh=>h.elim⟩
 |some t=>exact propext ⟨λ⟨⟨a,b⟩,c⟩=>⟨a,b,c⟩,λ⟨a,b,c⟩=>⟨⟨a,b⟩,c⟩⟩
theorem bX:xF tc u pe env=rA tc u pe env:=rfl
theorem fN:DW fi gt u pe env=fi env λbd al=>forL bd gt u pe al:=rfl
variable{t:T}{ke:Ev->Prop}{ts:List T}{gt:PG'}{gts:qd}
theorem lu:gN i t env ke=ke (env.set i t):=rfl
theorem e7:Ah [] env ke=ke env:=propext ⟨λh=>h.2,λh=>⟨rfl,h⟩⟩
theorem cQ:xM gt gts (t::ts) env ke=gt t env λal=>gts ts al ke:=rfl
theorem fJ:gTp n gts (.tup ts) env ke=(ts.length=n/\gts ts env ke):=rfl
theorem cP{fi:PF}:Ab i fi t env ke=d7 (env[i]?) (k:=⟨λt0=>isAny t0=false/\fi env λti al=>d7 (al[i]?) (k:=⟨λt1=>rz t1 ti t λt'=>ke (al.set i t')⟩)⟩):=rfl
variable{ki:List T->Ev->Prop}
theorem fv:CI f env ki=f env λt al=>d7 (items t) (k:=⟨λts=>ki (erL ts) al⟩):=rfl
noncomputable def as1(ts:List T)(k:Int->Prop):Prop:=match ts with
 | [.int j]=>k j
 | _=>False
noncomputable def as3(ts:List T)(k:Int->Int->Int->Prop):Prop:=match ts with
 | [.int i,.int j,.int m]=>k i j m
 | _=>False
theorem h9{j:Int}{k:Int->Prop}:as1 [.int j] k=k j:=rfl
theorem iK{i j m:Int}{k:Int->Int->Int->Prop}:as3 [.int i,.int j,.int m] k=k i j m:=rfl
theorem iB:iR1 fs env ki=fs env λts al=>as1 ts λj=>(-(2 ^ 62)<=j/\j<2 ^ 62)/\ki (jM 0 j.toNat) al:=rfl
theorem iw:iR3 fs env ki=fs env λts al=>as3 ts λi j m=>m=-1/\(-(2 ^ 60)<=i/\i<2 ^ 60/\-(2 ^ 60)<=j/\j<2 ^ 60)/\ki (dnT i (i-j).toNat) al:=rfl
noncomputable def asO(ts:List T)(k:T->Prop):Prop:=match ts with
 | [t]=>k t
 | _=>False
theorem j3{t:T}{k:T->Prop}:asO [t] k=k t:=rfl
theorem iQ:iEn fs env ki=fs env λts al=>asO ts λt=>d7 (items t) (k:=⟨λas=>ki ((u_ as.length).zipWith (λ(i:Nat) (x:T)=>T.tup [.int (i:Int),x]) (erL as)) al⟩):=rfl
end
variable {kb:Bool->Prop}{am:List (List Key×T)}
section
variable{k:T->Prop}{i j l:Int}{x y:Str}{ts us:List T}{o o' b c:Bool}{t:T}
theorem e9:Bo (.int i) (.int j) k=k (.int (i+j)):=rfl
theorem fA:Bo (.lst o ts) (.lst o' us) k=(ts.length+us.length<=sizeLine/\k (.lst true (ts++us))):=rfl
theorem eB:CQ (.int i) (.int j) k=k (.int (i-j)):=rfl
theorem eK:DS (.int i) (.int j) k=(0<j/\k (.int (i%j))):=rfl
theorem dY:Cz (.int i) (.int j) k=(vI i j/\k (.int (i*2 ^ j.toNat))):=rfl
theorem fP:DR (.int i) (.int j) k=k (.int (LH i j)):=rfl
theorem ik:orT (.int i) (.int j) k=k (.int (Kw i j)):=rfl
theorem iR:gtT (.int i) (.int j) k=k (.bl (decide (j<i))):=rfl
theorem iE:D3 (.int i) k=k (.int (-i)):=rfl
theorem fY:eqT (.int i) (.int j) k=k (.bl (decide (i=j))):=by
 unfold eqT;refine propext ⟨λh=>?_,λh=>⟨rfl,rfl,show(0:Nat)<190 by decide,?_⟩⟩
 ·have:=h.2.2.2;rw[dt,dt,eqD]at this;rw[Fz]at this;exact this
 rw[dt,dt,eqD,Fz];exact h
theorem iX:neT (.int i) (.int j) k=k (.bl (!decide (i=j))):=by
 unfold neT;refine propext ⟨λh=>?_,λh=>⟨rfl,rfl,show(0:Nat)<190 by decide,?_⟩⟩
 ·have:=h.2.2.2;rw[dt,dt,eqD,Fz]at this;exact this
 rw[dt,dt,eqD,Fz];exact h
theorem ib:neT (.str x) (.str y) k=k (.bl (!decide (x=y))):=by
 unfold neT;refine propext ⟨λh=>?_,λh=>⟨rfl,rfl,show(0:Nat)<190 by decide,?_⟩⟩
 ·have:=h.2.2.2;rw[dt,dt,eqD,Fz]at this;exact this
 rw[dt,dt,eqD,Fz];exact h
theorem dQ:ixT (.lst o ts) (.int i) k=d7 (atI ts i) (k:=⟨k⟩):=rfl
theorem iA:ixT (.dT o am) (.tup ts) k=d7 (ff ts) (k:=⟨λq=>d7 (mP am q) (k:=⟨k⟩)⟩):=rfl
theorem eD:inT t (.lst o ts) k=(isD t=true/\gO ts=true/\bw (dtL ts)<180/\k (.bl (pK t ts))):=rfl
theorem eX{u:T}:BQ t u k=inT t u λw=>asB w (k:=⟨λb=>k (.bl (!b))⟩):=rfl
theorem cz:ff []=some []:=rfl
theorem d5:ff (.int i::ts)=(ff ts).map λks=>K4 i::ks:=by rw[ff];cases ff ts <;> rfl
theorem cM:ff (.non::ts)=(ff ts).map λks=>Jx none::ks:=by rw[ff];cases ff ts <;> rfl
theorem lY(a:α)(l:List α):atI (a::l) 0=some a:=oG (j:=0) rfl
theorem cA:DO [.lst o ts] k=k (.int ts.length):=rfl
theorem fy:tG [.lst o ts] k=k (.lst true ts):=rfl
theorem cZ:rj [.lst o ts] k=k (.tup ts):=rfl
theorem lD{lo hi:Option Int}:slT (.lst o ts) lo hi k=k (.lst true (oN ts lo hi)):=rfl
theorem iy:vQ (.bl b) kb=kb b:=rfl
theorem iO:vQ (.int i) kb=kb (i != 0):=rfl
theorem iS:vQ (.lst o ts) kb=kb (!ts.isEmpty):=rfl
variable{km:T->T->Prop}
theorem bb:oO (.lst true ts) [t] km=(ts.length<sizeLine/\km (.lst true (ts++[t])) .non):=rfl
theorem bh:o5 (.lst true ts) [.int i,t] km=((0<=i/\i<=(ts.length:Int)/\ts.length<2 ^ 20)/\km (.lst true (ts.take i.toNat++t::ts.drop i.toNat)) .non):=rfl
theorem iP{ti:T}:rz (.lst true ts) (.int i) t k=d7 (ixN ts.length i) (k:=⟨λj=>k (.lst true (ts.set j t))⟩):=rfl
theorem eL:rz (.dT true am) (.tup ts) t k=d7 (ff ts) (k:=⟨λq=>am.length<sizeLine/\k (.dT true (gP am q t))⟩):=rfl
theorem cF{am:List (Key×T)}:rz (.dK true am) (.int i) t k=(am.length<sizeLine/\k (.dK true (gP am (.inl i) t))):=rfl
end
theorem bg(g:α->T)(l:List α):aT (l.map g)=l.all λx=>aD (g x):=by rw[lX,Hj];rfl
theorem b0(g:α->T)(l:List α):b6 (l.map g)=l.all λx=>b7 (g x):=by rw[nX,Hj];rfl
theorem fW(l:List α):(l.all λ_=>true)=true:=by induction l with|nil=>rfl|cons _ _ ih=>rw[lf,ih];rfl
theorem bI{i:Int}:isAny (.int i)=false:=rfl
theorem bL{x:Str}:isAny (.str x)=false:=rfl
theorem bG:isAny (.lst o ts)=false:=rfl
theorem cY{am:List (Key×T)}:isAny (.dK o am)=false:=rfl
theorem cJ:isAny (.dT o am)=false:=rfl
theorem eI:isL (.lst o ts)=true:=rfl
theorem bK:items (.tup ts)=some ts:=rfl
theorem bJ:items (.lst o ts)=some ts:=rfl
variable {bd:List T}
theorem bx(W:Nat->Ev->Prop)(h0:W 0 env)(ht:∀i t env,W i env->bd[i]?=some t->g t env λbi=>fb {pe with nx:=W (i+1),ct:=W (i+1),bk:=pe.nx} bi)(he:∀env,W bd.length env->pe.nx env):forL bd g fb pe env:=⟨W,h0,ht,he⟩
theorem dE(W:Nat->Ev->Prop)(m:Nat)(h0:W m env)(ht:∀m env,W m env->tc env λb al=>kI b (A:=⟨fb {pe with nx:=λe=>∃m',m'<m/\W m' e,ct:=λe=>∃m',m'<m/\W m' e,bk:=pe.nx} al⟩) (B:=⟨pe.nx al⟩)):rA tc fb pe env:=⟨W,⟨m,h0⟩,ht⟩
theorem aQ{k:Th (T->Ev->Prop)}(hz:bd.length<sizeLine)(W:Nat->List T->Ev->Prop)(h0:W 0 [] (lend (frA fr) env).1)(ht:∀i t acc ie,W i acc ie->bd[i]?=some t->g t ie λie2=>ft ie2 λb ie3=>kI b (A:=⟨fe ie3 λu ie4=>W (i+1) (acc++[u]) ie4⟩) (B:=⟨W (i+1) acc ie3⟩))
  (he:∀acc ie,W bd.length acc ie->k.v (.lst true acc) (back (frA fr) ie (lend (frA fr) env).2)):A1 fr bd g ft fe env (k:=k):=⟨hz,W,h0,ht,he⟩
noncomputable def sq(b:Bool)(ts:List T):T:=match b with
 |true=>.tup ts
 |false=>.lst false ts
abbrev pt(x y:Int):T:=.tup [.int x,.int y]
end PL
namespace ZG
open PySem
open Sem (wp)
theorem uM{prog:Ji}{w:Jm}{A:Jr}(hh:A.handled=none)(it d:I_)(gl:d≠it)(o:Obj)(es:Array K8)(ep:Nat)(hd:o.data=.dict es ep) :
  N7 prog w A it [it,d] [it] es.size (λi v=>∃e,es[i]?=some e/\v=e.key) (λi h=>h.IsKeyIter it d i es.size ep/\h.get? d=some o) where
 sub:=λb hb=>by simp at hb;simp[hb]
 frame:=λ_ _ _ st hk=>⟨st.1.at λo e=>hk it (by simp) o e,hk d (by simp) o st.2⟩
 item:=λi s Q E hi st hQ=>by have hx:es[i]?=some es[i]:=j' hi;refine DD st.1 st.2 hd hx λh' hit' hs'=>?_;exact hQ _ h' s.toks ⟨_,hx,rfl⟩ ⟨hit',hs'.extBut d o gl st.2⟩ λb o hb e=>hs'.extBut b o (λz=>hb (by simp[z])) e
 done:=λs Q E st hQ=>EI hh st.1 st.2 hd (Fe (c_ _)) λh' he'=>hQ h' s.toks λb o hb e=>he' b o (λz=>hb (by simp[z])) e
 self:=λ_ _ _ _ st hQ=>wpAny_pyIter_keyiter st.1 hQ
theorem yq{prog:Ji}{w:Jm}{d:I_}{o:Obj}{es:Array K8}{ep:Nat}(lo:(d == J9)=false)(hc:o.ExactDict)(hd:o.data=.dict es ep) :
  PySem.W.KdlSrc prog w "dict" d d es.size (λi v=>∃e,es[i]?=some e/\v=e.key) (λh=>h.get? d=some o) where
 type:=λ_ hm=>⟨o,hm,hc.1⟩
 there:=λ_ hm=>⟨Jl hm,Jl hm⟩
 keep:=λ_ _ hm hk=>hk d (.inl rfl) o hm
 notList:=by decide
 notTuple:=by decide
 hint:=λ_ _ _ _ hm hq=>PySem.W.kdl_hint_dict ⟨o,hm,hc.1⟩ hq
 iter:=λ_ _ hh hm=>⟨_,_,(λ_ _ hq=>CT lo hm hc hd hq),uM hh _ d (t_ (Jl hm)) o es ep hd,⟨⟨_,Jj _ rfl,rfl,rfl⟩,Je _ hm⟩⟩
end ZG
namespace ZS
open PySem PyProof.Rows
noncomputable def ltI(a b:Int):Bool:=decide (a<b)
theorem CM:Tot ltI:=⟨λa=>decide_eq_false (Int.lt_irrefl a),λa b c h g=>decide_eq_true (Int.lt_trans (of_decide_eq_true h) (of_decide_eq_true g)),λa b h g=>by have h:=of_decide_eq_false h;have g:=of_decide_eq_false g;lia⟩
variable {ns:List Int}
section
variable{prog:Ji}{w:Jm}{A:Jr}{E:IY->Jc->Prop}{s:Jc}
theorem vZ{S:JJ->Prop}(hS:∀x,S x->∃i t,x.1=.int i t/\i∈ns):l6 (Jh prog w) A E s Ou (λx=>rnk ltI ns (qO x.1)) S:=by intro x y st Q sx sy kd q;obtain⟨i,t,ex,mi⟩:=hS x sx;obtain⟨j,u,ey,mj⟩:=hS y sy;rw[lt'_eq];refine Jv (N5 ?_);rw[kd,ex,ey,keyLt'_oneType];refine Jv (Ot (KO (oneLt_int ⟨rfl,?_⟩)));refine JM ?_;dsimp only at q;rw[yA CM (show qO x.1∈ns by rw[ex];exact mi),ex,ey]at q;exact q
theorem wU{M:Lg}{v1:IY}{vs:List IY}{Q:Lj->Jc->Prop}(hI:IntsAre (v1::vs) ns)(q:Q Ou s):Jf M A (P8 (v1::vs).toArray) Q E s:=by
 have e:P8 (v1::vs).toArray=pure Ou:=by
  rw[keyKind'_eq,Ih,mapM_first_ints hI];simp only[map_pure,pure_bind];rw[if_neg (by simp),if_neg (by simp),oneTypeOnly'_eq,Ih,mapM_typeOf_ints hI];simp only[map_pure,pure_bind];have hal:((F0 (λ_=>Ks "int") (v1::vs)).toArray.all λx=>x == Ks "int")=true:=by simp only[List.all_toArray,Hj,GF];exact λ_ _=>rfl
  have hz:(F0 (λ_=>Ks "int") (v1::vs)).toArray[0]?=some (Ks "int"):=by simp
  rw[hz];simp only[hal,if_true,pure_bind,HU]
 rw[e];exact Jd q
end
end ZS
namespace PL
open PySem PySem.Spec PyProof.Rows L2
variable {lo:Int}
section
variable{X:Cx}
theorem lg{K:Ja}{H:Hp}{Γ:Fm}:∀(ns:List Int),Rp K H Γ->Rp K H (zz (ns.map T.int) (ns.map V.int)++Γ)
 | [],h=>h
 | _::r,h=>bH (lg r h) λ_=>.int
theorem mW{acc:Array IY}{n:Nat}(h:O4 (λ(i:Nat) (v:IY)=>∃t:Tok,v=L8 (lo+i*1) t) acc n):Vals (((u_ n).map λ(i:Nat)=>lo+(i:Int)).map V.int) acc.toList:=by
 have gen:∀(m:Nat) (l:List IY),l.length=m->(∀(j:Nat) (v:IY),l[j]?=some v->∃t:Tok,v=L8 (lo+(j:Int)) t)->Vals (((u_ m).map λ(i:Nat)=>lo+(i:Int)).map V.int) l:=by
  intro m;induction m with
  |zero=>intro l hl _;have:l=[]:=List.length_eq_zero_iff.mp hl;subst this;exact .nil
  |succ m ih=>
   intro l hl hv;have gl:l≠[]:=by intro z;subst z;simp at hl
   obtain⟨l',v,rfl⟩:∃l' v,l=l'++[v]:=⟨l.dropLast,l.getLast gl,(List.dropLast_concat_getLast gl).symm⟩;have hl':l'.length=m:=by simpa using hl
   rw[Hv,x_,x_];refine Vals.append (ih l' hl' λj w e=>hv j w ?_) ?_
   ·rw[FR (b_.mp e).1];exact e
   obtain⟨t,e⟩:=hv m v (by rw[G9 (by lia),hl',IL];rfl);exact .cons ⟨t,e⟩ .nil
 refine gen n _ (by rw[r_];exact h.1) λj v e=>?_
 rw[v_]at e;obtain⟨t,q⟩:=h.2 j v e;exact⟨t,by rw[q,IS]⟩
theorem kZ{ac:List (I_×Obj)}{σ:L2.St}{H:Hp}{s:Jc}{hi:Int}{t u v:Tok}{tk:Nat}{Q:VK}(I:Inv X ac σ H s)(hc:X.calm=true)(h1:-(2 ^ 62)<=lo)(h2:lo<2 ^ 62)(h3:-(2 ^ 62)<=hi)(h4:hi<2 ^ 62)(hz:(hi-lo).toNat<=2 ^ 24)
  (q:New (.lst (((u_ (hi-lo).toNat).map λ(i:Nat)=>lo+(i:Int)).map V.int)) H Q):Jf (Jh X.prog X.w) X.A (call (.type "list") [.ref s.heap.objs.size]) (EP X ac σ Q) X.xe {s with heap:=s.heap.push { cls:=.type "range",data:=.fields #[.int lo t,.int hi u,.int 1 v] },toks:=tk}:=by
 refine call_list_range (n:=(hi-lo).toNat) (I.ok.hd hc) (Og ..) (small_one h1 h2 h3 h4) (rangeSize_nat _ _) hz λh' tk' acc c hk e it=>?_;have esz:(s.heap.push { cls:=.type "range",data:=.fields #[.int lo t,.int hi u,.int 1 v] }).objs.size=s.heap.objs.size+1:=by simp[Heap.push]
 dsimp only at hk e ⊢;rw[esz]at e ⊢;have hfr:H (s.heap.objs.size+1)=none:=I.hok.fresh (Gk _);have rv:=mW it;refine⟨.ref (s.heap.objs.size+1),_,I.laid (t':=tk') (h':=h') (λb o z=>hk b o (Je _ z)) (Gk _) (show aR X.prog X.w _ h' _ (.lst _)from⟨?_,acc.toList,c,rv,by simpa using e⟩),rfl,q _ _ hfr (aF hfr _) aq⟩;rw[a_,a_,o_,JG];exact hz
variable{e a b:Jn}{fr:PFs}{p1 p2 pos1 jp:Pos}
def lr1:P1s
 | [.int j],k=>(-(2 ^ 62)<=j/\j<=2 ^ 24)/\k (.lst true (jM 0 j.toNat))
 | _,_=>False
theorem iU{j:Int}{k:T->Prop}:lr1 [.int j] k=((-(2 ^ 62)<=j/\j<=2 ^ 24)/\k (.lst true (jM 0 j.toNat))):=rfl
def De(fr:PFs):PF:=fCl lr1 fr
theorem eh{env:Ev}{k:T->Ev->Prop}:De fr env k=fr env λts al=>lr1 ts λt=>k t al:=rfl
theorem gX(hc:X.calm=true)(hg1:Gl X "list")(hm1:X.mg "list"=none)(hg2:Gl X "range")(hm2:X.mg "range"=none)(ha:GA X [a] fr)
  (hs1:Jo [a] X.env=[(false,JC a X.env)]:=by rfl) (hs2:Jo [.Call (.Name "range" p2) [a] [] jp] X.env=[(false,JC (.Call (.Name "range" p2) [a] [] jp) X.env)]:=by rfl) :
  GE X (.Call (.Name "list" p1) [.Call (.Name "range" p2) [a] [] jp] [] pos1) (De fr):=by
 rintro ac s σ H Q I ⟨env,Fr,k,rs,q,c⟩;refine JN (cU I hg1 hm1 boot_list (callWith_type1 ?_ (by rw[hs2];rfl) rfl));rw[hs2];refine K7 ?_;refine JN (cU I hg2 hm2 OB (callWith_type1 ?_ (by rw[hs1];rfl) rfl));refine thn (ha jp ac s σ H (λvs H1=>∃ts al,(lr1 ts λt=>k t al)/\ts.length=vs.length/\Rs X.K H1 al σ (zz ts vs++Fr)) I ⟨env,Fr,_,rs,q,λts al vs H1 q1 l cr=>⟨ts,al,q1,l,cr⟩⟩) λus s1 ⟨vs,H1,I1,r1,ts,al,q1,l,cr⟩=>?_
 match ts,vs,l,q1 with
 | [.int j],[v],l,q1=>
  have cr:Rs X.K H1 al σ ((.int j,some v)::Fr):=cr;have ev:=aE cr.head;subst ev;cases r1 with
  |cons r rr=>
   cases rr;obtain⟨t,rfl⟩:=r;refine PY ?_;refine N9 ?_;refine kZ I1 hc (by lia) (by lia) q1.1.1 (Int.lt_of_le_of_lt q1.1.2 (by decide)) (by rw[IM];exact Int.toNat_le.mpr q1.1.2) λp H' hp g e=>c _ _ _ _ q1.2 (.of cr.1 ?_)
   have ce:=lg ((u_ (j-0).toNat).map λ(i:Nat)=>(0:Int)+(i:Int)) cr.drop.2;have er:jM 0 j.toNat=((u_ (j-0).toNat).map λ(i:Nat)=>(0:Int)+(i:Int)).map T.int:=by rw[Fp,IM];rfl
   rw[er];exact dU ce (by simp only[a_]) hp g e
end
section
variable{b:Bool}{ts us:List T}{k:T->Prop}{i:Int}{t u:T}{env:Ev}{ke:T->Ev->Prop}
theorem mm(lo:Int)(n:Nat):(jM lo n).length=n:=by rw[jM,a_,o_]
theorem sA{n i:Nat}{t:T}(h:(jM lo n)[i]?=some t):i<n:=by have:=(b_.mp h).1;rwa[mm]at this
theorem bB{α:Type}{g:α->T}{l:List α}{i:Nat}{t:T}(h:(l.map g)[i]?=some t):∃x,l[i]?=some x/\t=g x:=by
 rw[A_]at h;cases e:l[i]? with
 |none=>rw[e]at h;cases h
 |some x=>rw[e]at h;cases h;exact⟨x,rfl,rfl⟩
end
end PL
namespace ZT
open PySem
abbrev Up(l:List Nat):Prop:=l.Pairwise (·<·)
variable {i j:Nat}
theorem u4{l:List Nat}(h:Up l){x y:Nat}(hi:l[i]?=some x)(hj:l[j]?=some y)(i':i<j):x<y:=by obtain⟨a,rfl⟩:=b_.mp hi;obtain⟨b,rfl⟩:=b_.mp hj;exact FT.mp h i j a b i'
theorem pD{xs:Array Nat}{j:Nat}(hu:Up xs.toList):∀(f lo hi:Nat),lo<=hi->hi<=xs.size->hi-lo<=f->(∀k x,k<lo->xs[k]?=some x->x<j)->(∀k x,hi<=k->xs[k]?=some x->j<=x)->
  LP xs j f lo hi<=xs.size/\(∀k x,k<LP xs j f lo hi->xs[k]?=some x->x<j)/\∀k x,LP xs j f lo hi<=k->xs[k]?=some x->j<=x
 |0,lo,hi,h1,h2,h3,a,b=>by
  have e:lo=hi:=by omega
  subst e;exact⟨h2,a,b⟩
 |f+1,lo,hi,h1,h2,h3,a,b=>by
  unfold LP;by_cases hl:lo<hi
  ·rw[if_pos hl];have hm:(lo+hi)/2<xs.size:=by omega
   have e:xs.getD ((lo+hi)/2) j=xs[(lo+hi)/2]:=by rw[F_,j' hm];rfl
   have em:xs.toList[(lo+hi)/2]?=some xs[(lo+hi)/2]:=by rw[v_];exact j' hm
   dsimp only;rw[e];by_cases hx:xs[(lo+hi)/2]<j
   ·rw[if_pos hx];refine pD hu f _ _ (by omega) h2 (by omega) (λk x hk ek=>?_) b;by_cases hk2:k=(lo+hi)/2
    ·subst hk2;rw[j' hm]at ek;cases ek;exact hx
    exact Hg (u4 hu (by rw[v_];exact ek) em (by omega)) hx
   rw[if_neg hx];refine pD hu f _ _ (by omega) (by omega) (by omega) a λk x hk ek=>?_
   by_cases hk2:k=(lo+hi)/2
   ·subst hk2;rw[j' hm]at ek;cases ek;exact Fj hx
   have:=u4 hu em (by rw[v_];exact ek) (by omega);omega
  rw[if_neg hl];have e:lo=hi:=by omega
  subst e;exact⟨h2,a,b⟩
variable {xs:Array Nat}
theorem i6(j:Nat)(hu:Up xs.toList):JB xs j<=xs.size/\(∀k x,k<JB xs j->xs[k]?=some x->x<j)/\∀k x,JB xs j<=k->xs[k]?=some x->j<=x:=
 pD hu _ _ _ (ES _) (c_ _) (by omega) (λk x hk=>by omega) λk x hk ek=>by rw[Fe hk]at ek;cases ek
theorem below_at(hu:Up xs.toList){x:Nat}(hi:xs[i]?=some x):JB xs (x+1)=i+1:=by
 obtain⟨h1,h2,h3⟩:=i6 (x+1) hu;have ii:i<xs.size:=(Array.getElem?_eq_some_iff.mp hi).1;have a:i<JB xs (x+1):=Nat.lt_of_not_le λz=>by have:=h3 i x z hi;omega
 by_cases c:i+1<JB xs (x+1)
 ·have hn:i+1<xs.size:=by omega
  have:=h2 (i+1) _ c (j' hn);have g:=u4 hu (by rw[v_];exact hi) (by rw[v_];exact j' hn) (Gh i);omega
 omega
theorem yV(hu:Up xs.toList):JB xs 0=0:=by
 obtain⟨h1,h2,h3⟩:=i6 0 hu;refine Nat.eq_zero_of_not_pos λz=>?_;have hn:0<xs.size:=by omega
 have:=h2 0 _ z (j' hn);omega
theorem va(hu:Up xs.toList)(hj:xs[JB xs j]?≠some j):Up (QP xs (JB xs j) j).toList:=by
 obtain⟨h1,h2,h3⟩:=i6 j hu;rw[P9];have sp:xs.toList=xs.toList.take (JB xs j)++xs.toList.drop (JB xs j):=(Fy _ _).symm;have hu':=hu;rw[sp]at hu';obtain⟨p,q,r⟩:=HI.mp hu';have lt:∀x∈xs.toList.take (JB xs j),x<j:=λx hx=>by obtain⟨k,hk,e⟩:=FF.mp hx;rw[Fd]at hk;rw[List.getElem_take]at e;exact h2 k x (by omega) (by rw[<-v_,b_];exact⟨by omega,e⟩)
 have gt:∀x∈xs.toList.drop (JB xs j),j<x:=λx hx=>by
  obtain⟨k,hk,e⟩:=FF.mp hx;rw[Fi]at hk;rw[List.getElem_drop]at e;have e2:xs[JB xs j+k]?=some x:=by rw[<-v_,b_];exact⟨by omega,e⟩
  refine Fo (h3 _ x (by omega) e2) λz=>?_
  subst z;by_cases k0:k=0
  ·subst k0;exact hj e2
  have hb:JB xs j<xs.size:=by rw[r_]at hk;omega
  have g:=u4 hu (i:=JB xs j) (j:=JB xs j+k) (by rw[v_];exact j' hb) (by rw[v_];exact e2) (by omega);have:=h3 _ _ (c_ _) (j' hb);omega
 exact HI.mpr ⟨p,HX.mpr ⟨gt,q⟩,λa ha b hb=>by
  rcases k_.mp hb with e|hb
  ·rw[e];exact lt a ha
  exact r a ha b hb⟩
structure Gd (bt:Bool) (t:JS):Prop where
 up:Up t.place.toList
 no:t.dummies=#[]
 led:bt=false->t.led=true
theorem vA(bt:Bool)(f m:Nat):Gd bt (.fresh f m (!bt)):=⟨.nil,rfl,λe=>by rw[e];rfl⟩
variable {t:JS}
theorem jC{bt:Bool}(h:Gd bt t)(n:Nat):Gd bt (t.standIn n):=⟨by show Up (Array.range n).toList;rw[Array.toList_range];exact GC,rfl,h.led⟩
theorem CG{bt:Bool}(h:Gd bt t)(n:Nat):Gd bt (t.orStandIn n):=by
 unfold QM;split
 ·exact h
 exact jC h n
theorem xZ(j:Nat):P_ #[] j=false:=rfl
theorem rW{bt:Bool}(h:Gd bt t)(e:t.slot j=.empty):t.place[JB t.place j]?≠some j:=λz=>by unfold Pw at e;dsimp only at e;rw[z,if_pos (beq_self_eq_true _)]at e;cases e
theorem kR{t:JS}(hd:t.dummies=#[]){H:Nat->Int}{h:Int}:∀(f:Nat) (p:Q4) (j:Nat) (d:Option Nat),p.dummy=none->Oa t H h f p=some (.empty j d)->t.slot j=.empty/\d=none
 |0,p,j,d,_,e=>by cases e
 |f+1,p,j,d,hp,e=>by
  unfold Oa at e;split at e
  ·rename_i z;cases e;exact⟨z,hp⟩
  ·rename_i z;unfold Pw at z;dsimp only at z;rw[hd,xZ]at z;split at z <;> first|cases z|(rename_i q;split at z <;> cases z)
  have ad:(t.advance p).dummy=none:=by unfold QW;split <;> exact hp
  split at e
  ·cases e
  exact kR hd f _ j d ad e
theorem BS{bt:Bool}(h:Gd bt t)(e:t.slot j=.empty):Gd bt (t.put j).1:=by
 refine⟨va h.up (rW h e),?_,h.led⟩;show(if P_ t.dummies j then _ else t.dummies)=#[];rw[h.no]
 rfl
theorem AK{bt:Bool}(h:Gd bt t)(es:Array (Int×IY))(k:Int)(x:IY):Gd bt (layNew t es k x).2.1:=by
 unfold layNew;split
 ·rename_i slot wd e;have hs:t.slot slot=.empty:=by
   unfold QQ at e;split at e
   ·rename_i j d q;cases e;obtain⟨a,b⟩:=kR h.no _ _ _ _ rfl q;rw[b];exact a
   cases e
  exact CG (BS h hs) _
 exact jC h _
theorem w6{bt:Bool}(h:Gd bt t)(es:Array (Int×IY))(n:Nat):Gd bt (MU t es n).2.1:=by
 unfold MU;split
 ·rename_i t' order e;dsimp only;split
  ·unfold Q1 Q6 at e;cases q:QR (N1 n-1) (es.map λx=>x.1)with
   |none=>rw[q]at e;cases e
   |some ow=>
    rw[q]at e;cases e;refine⟨?_,rfl,h.led⟩;show List.Pairwise (λx y=>x<y) (F0 (λx=>x.1) (List.filterMap (λj=>(ow.getD j none).map λy=>(j,y)) (u_ (N1 n-1+1))));rw[F2,List.pairwise_filterMap];refine List.Pairwise.imp (λ{a b} hab c hc d hd=>?_) GC;obtain⟨_,_,ec⟩:=GB.mp hc;obtain⟨_,_,ed⟩:=GB.mp hd;rw[<-ec,<-ed];exact hab
  exact jC h _
 exact jC h _
open PySem PyProof.Rows
variable {S:Int->Prop}{a:I_}{ep m:Nat}{es:Array (Int×IY)}{h:Jp}{ns:List Int}{o:Obj}{vs:List IY}
section
variable{prog:Ji}{w:Jm}{A:Jr}{E:IY->Jc->Prop}{s:Jc}
abbrev bt(w:Jm):Bool:=w.params.followText "set-order"
structure SI (prog:Ji) (w:Jm) (o:Obj) (ks:List Int) (es:Array (Int×IY)) (ep:Nat) (t:JS):Prop where
 ex:o.ExactSet
 dat:o.data=.set es ep t
 el:ElemsOf (K5 prog w) es.toList
 rd:IntsAre (es.toList.map (·.2)) ks
 nd:ks.Nodup
 sm:es.size<scanBound
 ft:t.fits es.size=true
 gd:Gd (bt w) t
noncomputable def SG(prog:Ji)(w:Jm)(h:Jp)(a:I_)(S:Int->Prop)(n:Nat):Prop:=∃o ks es ep t,h.get? a=some o/\SI prog w o ks es ep t/\(∀z,z∈ks↔S z)/\ks.length<=n
theorem gD:∀{vs:List IY}{ns:List Int},IntsAre vs ns->vs.length=ns.length
 | _,_,.nil=>rfl
 | _,_,.cons n t h=>by rw[g_,g_,gD h]
theorem B8{k i:Int}{t:Tok}:(K5 prog w).is k (.int i t)=decide (k=i):=KeyKind.is_eq_decide (NJ prog w i t) k
theorem lH:∀{es:List (Int×IY)}{ks:List Int},IntsAre (es.map (·.2)) ks->∀k,k∈ks↔∃e∈es,(K5 prog w).is k e.2=true
 | [],_,.nil,k=>⟨λh=>(nomatch h),λ⟨e,h,_⟩=>(nomatch h)⟩
 | (h0,_)::es,_,.cons n t h,k=>by
  rw[k_,lH h k];constructor
  ·rintro(rfl|⟨e,m,q⟩)
   ·exact⟨_,.head _,NJ _ _ _ _⟩
   exact⟨e,.tail _ m,q⟩
  rintro⟨e,m,q⟩;rcases k_.mp m with rfl|m
  ·exact .inl (of_decide_eq_true (by rw[<-B8 (prog:=prog) (w:=w) (t:=t)];exact q))
  exact .inr ⟨e,m,q⟩
theorem gG:∀{us vs:List IY},us.Perm vs->∀{ns:List Int},IntsAre us ns->∃ms,IntsAre vs ms/\ns.Perm ms:=by
 intro us vs p;induction p with
 |nil=>exact λh=>⟨_,h,.refl _⟩
 |cons x p ih=>
  intro ns h;cases h with
  |cons n t h=>
   obtain⟨ms,a,b⟩:=ih h;exact⟨n::ms,.cons n t a,.cons n b⟩
 |swap x y l=>
  intro ns h;cases h with
  |cons n t h=>
   cases h with
   |cons m u h=>exact⟨_,.cons m u (.cons n t h),.swap _ _ _⟩
 |trans p q ih jh=>
  intro ns h;obtain⟨ms,a,b⟩:=ih h;obtain⟨ls,c,d⟩:=jh a;exact⟨ls,c,b.trans d⟩
theorem uL{n:Int}{t:Tok}(h:IntsAre vs ns):IntsAre (vs++[.int n t]) (ns++[n]):=by
 induction h with
 |nil=>exact .cons n t .nil
 |cons m u h ih=>exact .cons m u ih
theorem stored{es':Array (Int×IY)}{t':JS}(ho:h.get? a=some o)(hd:o.data=.set es ep t) :
  (h.update a (OO es' t')).get? a=some {o with data:=.set es' (ep+1) t'}:=by
 have e:=JE (OO es' t') ho (by rw[putSet_of es' t' hd];rfl);rw[putSet_of es' t' hd]at e;exact e
theorem qQ{g:Bool->Sem Unit}(hg:∀(b:Bool) (s₁:Jc) (Q':Unit->Jc->Prop),Q' () s₁->Jf (Jh prog w) A (g b) Q' E s₁)
  {a:I_}{o:Obj}{es es1:Array (Int×IY)}{ep:Nat}{t t2:JS}{ks:List Int} (ho:s.heap.get? a=some o) (hd:o.data=.set es ep t)
  (hI:SI prog w {o with data:=.set es1 (ep+1) t2} ks es1 (ep+1) t2) {wd:Bool} {R:Option Bool->Jc->Prop}
  (h:∀h' o' es' ep' t' ks',JO a s.heap h'->h'.get? a=some o'->SI prog w o' ks' es' ep' t'->ks'.Perm ks->R (some true) {s with heap:=h'}) :
  Jf (Jh prog w) A (storeSet a es1 t2 >>= λ_=>if(!wd&&t2.tooFull)=true then g (MU t2 es1 (KS es1.size)).2.2 >>= λ_=>storeSet a (MU t2 es1 (KS es1.size)).1 (MU t2 es1 (KS es1.size)).2.1 >>= λ_=>pure (some true)else pure (some true)) R E s:=by
 refine IZ (Ob ho hd ?_ (Lc hI.sm));have e1:=stored (es':=es1) (t':=t2) ho hd;have b1:=JI s.heap a (OO es1 t2);split
 ·have hp:=relayAll_perm t2 es1 (KS es1.size);have hf:=relayAll_fits t2 es1 (KS es1.size);have hG:=w6 hI.gd es1 (KS es1.size);generalize MU t2 es1 (KS es1.size)=Rl at hp hf hG ⊢;obtain⟨es2,t3,gave⟩:=Rl;dsimp only at hp hf hG ⊢;have sz:es2.size=es1.size:=by rw[<-r_,hp.length_eq,r_]
  have sm2:es2.size<scanBound:=by rw[sz];exact hI.sm
  obtain⟨ks2,rd2,kp⟩:=gG (hp.symm.map (·.2)) hI.rd;refine IZ (hg _ _ _ (IZ (Ob e1 rfl ?_ (Lc sm2))));have e2:=stored (es':=es2) (t':=t3) e1 rfl;exact Jd (h _ _ es2 _ t3 ks2 (b1.trans (JI _ a _)) e2 ⟨hI.ex,rfl,hI.el.perm hp,rd2,kp.nodup_iff.mp hI.nd,sm2,hf,hG⟩ kp.symm)
 exact Jd (h _ _ es1 _ t2 ks b1 e1 hI (.refl _))
theorem add_int{n:Int}{tk:Tok}{Q:Bool->Jc->Prop}(hS:SG prog w s.heap a S m)(hm:m+1<scanBound)
  (h:∀b h',JO a s.heap h'->SG prog w h' a (λz=>S z\/z=n) (m+1)->Q b {s with heap:=h'}) :
  Jf (Jh prog w) A (P' a (.int n tk) ((K5 prog w).hash n)) Q E s:=by
 obtain⟨o,ks,es,ep,t,ho,I,mem,kl⟩:=hS;have kn:es.size=ks.length:=by rw[<-gD I.rd,a_,r_]
 have hk:=NJ prog w n tk;unfold P' setAddHashedIn;refine Jy (IZ (KQ ho I.dat I.ft ?_));dsimp only;rw[byScan_of rfl I.sm I.el,if_pos rfl];unfold setAddByScan;refine IZ (IZ (LI (IZ (wpAny_setScan_of hk ho I.dat I.ft I.el ?_))));cases hr:List.findIdx? (λe=>(K5 prog w).is n e.2) es.toList with
 |some j=>
  dsimp only;obtain⟨hj,pj,_⟩:=List.findIdx?_eq_some_iff_getElem.mp hr;have hn:n∈ks:=(lH (prog:=prog) (w:=w) I.rd n).mpr ⟨_,Ga hj,pj⟩;refine Jd (Jd ?_);exact h _ s.heap (QS a s.heap) ⟨o,ks,es,ep,t,ho,I,λz=>by rw[mem z];exact⟨.inl,λq=>q.elim id λe=>by rw[e];exact(mem n).mp hn⟩,by omega⟩
 |none=>
  dsimp only;have hn:n ∉ ks:=λz=>by obtain⟨e,me,q⟩:=(lH (prog:=prog) (w:=w) I.rd n).mp z;have:=List.findIdx?_eq_none_iff.mp hr e me;rw[q]at this;cases this
  have pm:=layNew_perm t es ((K5 prog w).hash n) (.int n tk);have ft:=layNew_fits t es ((K5 prog w).hash n) (.int n tk);have gd:=AK I.gd es ((K5 prog w).hash n) (.int n tk);generalize layNew t es ((K5 prog w).hash n) (.int n tk)=L at pm ft gd ⊢;obtain⟨es1,t1,wd,gave⟩:=L;dsimp only at pm ft gd ⊢;rw[Ii]at pm;have s1:es1.size=es.size+1:=by rw[<-r_,pm.length_eq,j_,r_];rfl
  have el1:ElemsOf (K5 prog w) es1.toList:=(I.el.push hk rfl).perm pm;have rdp:IntsAre (F0 (·.2) (es.toList++[((K5 prog w).hash n,L8 n tk)])) (ks++[n]):=by rw[x_];exact uL I.rd
  obtain⟨ks1,rd1,kp⟩:=gG (pm.symm.map (·.2)) rdp;have nd1:ks1.Nodup:=kp.nodup_iff.mp (FG.mpr ⟨I.nd,y_.mpr ⟨(nomatch ·),F6⟩,λx hx y hy e=>by rw[z_.mp hy]at e;exact hn (e▸hx)⟩);have fin:∀h' o' es' ep' t' ks',JO a s.heap h'->h'.get? a=some o'->SI prog w o' ks' es' ep' t'->ks'.Perm ks1->Q true {s with heap:=h'}:=λh' o' es' ep' t' ks' b g I' p=>by
   refine h _ h' b ⟨o',ks',es',ep',t',g,I',λz=>?_,?_⟩
   ·rw[p.mem_iff,<-kp.mem_iff,EO,mem z,z_]
   rw[p.length_eq,<-kp.length_eq,j_];exact GD kl
  have gw:∀(b:Bool) (s₁:Jc) (Q':Unit->Jc->Prop),Q' () s₁->Jf (Jh prog w) A (match b with|true=>rule "set.scan.the-table-gave-way" |false=>pure ()) Q' E s₁:=λb s₁ Q' q=>by cases b <;> first|exact Jd q|exact LI q
  refine IZ (?_:Jf _ _ (match gave with|true=>_|false=>_) _ _ _);have sm1:es1.size<scanBound:=by omega
  refine gw gave s _ ?_;split
  ·refine IZ ?_;rw[hashByValue_scannable 8 (x:=.int n tk) rfl];refine Jd ?_;refine qQ (ks:=ks1) gw ho I.dat ⟨I.ex,rfl,el1,rd1,nd1,sm1,?_,?_⟩ λh' o' es' ep' t' ks' b g I' p=>Jd (fin h' o' es' ep' t' ks' b g I' p)
   ·exact ft
   exact gd
  refine IZ (Jd ?_);rw[if_pos rfl];exact qQ (ks:=ks1) gw ho I.dat ⟨I.ex,rfl,el1,rd1,nd1,sm1,ft,gd⟩ λh' o' es' ep' t' ks' b g I' p=>Jd (fin h' o' es' ep' t' ks' b g I' p)
end
open PySem PyProof.Rows
theorem yv:Ov Qy "set.__iter__"=some Kq.«frozenset.__iter__»:=O5 (id':="frozenset.__iter__") (by kernel_rfl) rfl (by rfl') (by kernel_rfl)
theorem dj:Slot "set_iterator" "__next__" "set_iterator.__next__":=
 .of (owner:="set_iterator") (n:="__next__") (by rw[OP,Nq];kernel_rfl) (by rfl') (by rfl') (by rfl') (by first|exact .inl (by rfl')|exact .inr (by rfl')) (by rw[Nr];kernel_rfl)
theorem tZ:Slot "set_iterator" "__iter__" "set_iterator.__iter__":=
 .of (owner:="set_iterator") (n:="__iter__") (by rw[OP,Nq];kernel_rfl) (by rfl') (by rfl') (by rfl') (by first|exact .inl (by rfl')|exact .inr (by rfl')) (by rw[Nr];kernel_rfl)
theorem ya:Ov Qy "set_iterator.__iter__"=some Kq.«dict_keyiterator.__iter__»:=O5 (id':="dict_keyiterator.__iter__") (by kernel_rfl) rfl (by rfl') (by kernel_rfl)
theorem tF:Ov Qy "set_iterator.__next__"=some Kq.«set_iterator.__next__»:=entryFor_of_tree (by kernel_rfl)
theorem Ae:Q2.lookup (String.ofList ['r','o','t','a','r','e','t','i','_','t','e','s'].reverse)=some PR:=by kernel_rfl
theorem tD(a:IY):MV "set_iterator.__next__" ⟨[a],[]⟩:=by unfold MV;rw[Py (id:="set_iterator.__next__") (n:=['_','_','t','x','e','n','_','_']) (o:=['r','o','t','a','r','e','t','i','_','t','e','s']) (by kernel_rfl) Ae];kernel_rfl
theorem zf(a:IY):MV "set_iterator.__iter__" ⟨[a],[]⟩:=by unfold MV;rw[Py (id:="set_iterator.__iter__") (n:=['_','_','r','e','t','i','_','_']) (o:=['r','o','t','a','r','e','t','i','_','t','e','s']) (by kernel_rfl) Ae];kernel_rfl
theorem p8{α:Type}:∀{l:List α}{i:Nat} (h:i<l.length),(l[i]::l.eraseIdx i).Perm l
 |x::l,0,_=>.refl _
 |x::l,i+1,h=>by have g:i<l.length:=Nat.lt_of_succ_lt_succ h;show(l[i]::x::l.eraseIdx i).Perm (x::l);exact(G2 ..).trans (.cons x (p8 g))
theorem nQ{α:Type}{next:Nat->Nat}:∀(f k:Nat) (l:List α) (out:Array α),l.length=f->(Qa next f k l out).toList.Perm (out.toList++l)
 |0,k,l,out,h=>by rw[EW h,ET];exact .refl _
 |f+1,k,l,out,h=>by
  unfold Qa;have lt:next k%l.length<l.length:=Iw _ (by omega)
  rw[d_ lt];refine(nQ f _ _ _ (by rw[Ha lt];omega)).trans ?_;rw[Ii,n_];refine F8 _ ?_;exact p8 lt
variable {Q:IY->Jc->Prop}{f:IY}{it:I_}{n:Nat}{sl:Nat->Nat}
section
variable{prog:Ji}{w:Jm}{A:Jr}{E:IY->Jc->Prop}{s:Jc}
theorem wp_choose{src:Source}{Q:Nat->Jc->Prop}(hn:n≠0)(h:∀i d,i<n->Q i {s with drawn:=d}):Jf (Jh prog w) A (choose src n) Q E s:=
 λ_ _ _=>⟨hn,h _ _ (Iw _ (HY hn))⟩
theorem tL{α:Type}:∀(n:Nat) (xs:List α) {s:Jc}{Q:List α->Jc->Prop},xs.length=n->(∀ys d,ys.Perm xs->Q ys {s with drawn:=d})->Jf (Jh prog w) A (drawOrder n xs) Q E s
 |0,xs,s,Q,hl,h=>by rw[EW hl]at h ⊢;exact Jd (h [] s.drawn (.refl _))
 |n+1,[],s,Q,hl,h=>by cases hl
 |n+1,x::xs,s,Q,hl,h=>by unfold drawOrder;refine IZ (wp_choose (by simp) λi d hi=>?_);rw[d_ hi];dsimp only;refine IZ (tL n _ (by rw[Ha hi,hl];rfl) λys d' p=>Jd (h _ d' ?_));exact(Gv _ p).trans (p8 hi)
noncomputable def Itr(h:Jp)(it:I_)(first:IY)(i:Nat)(a:I_)(n ep:Nat):Prop:=∃o,h.get? it=some o/\o.cls=.type "set_iterator"/\o.data=.fields #[first,.int i 0,.ref a,.int n 0,.int ep 0]
theorem Itr.ty (x:Itr s.heap it f i a n ep):s.TypeIs (.ref it) "set_iterator":=let ⟨o,ho,hc,_⟩:=x;⟨o,ho,hc⟩
theorem Itr.at {h':Jp}(x:Itr h it f i a n ep)(e:∀o,h.get? it=some o->h'.get? it=some o):Itr h' it f i a n ep:=let ⟨o,ho,r⟩:=x;⟨o,e _ ho,r⟩
theorem sX(x:Itr s.heap it f i a n ep)(h:Q (.ref it) s):Jf (Jh prog w) A (LR (.ref it)) Q E s:=by refine MD x.ty tZ (JV tZ x.ty ya ?_ (zf _));show Jf _ _ (ret (.ref it)) _ _ s;exact Jd ⟨_,rfl,"set_iterator",_,x.ty,dj.lookup,h⟩
noncomputable def Nx(prog:Ji)(w:Jm)(a:I_)(o:Obj)(ep:Nat)(vs:List IY)(sl:Nat->Nat):Prop:=∀(A:Jr) (E:IY->Jc->Prop) (s:Jc) (i:Nat) (Q:Option (IY×Nat)->Jc->Prop),s.heap.get? a=some o->i<=vs.length->Q (vs[i]?.map λv=>(v,sl (i+1))) s->Jf (Jh prog w) A (O6 a (sl i) i ep) Q E s
theorem tQ{Q:Option IY->Jc->Prop}(x:Itr s.heap it (.int (sl i) 0) i a es.size ep)(ho:s.heap.get? a=some o)(hd:o.data=.set es ep t)(hf:t.fits es.size=true)(N:Nx prog w a o ep vs sl)(hi:i<=vs.length)(hh:A.handled=none)
  (h1:∀v h',vs[i]?=some v->Itr h' it (.int (sl (i+1)) 0) (i+1) a es.size ep->JO it s.heap h'->Q (some v) {s with heap:=h'}) (h2:∀h',vs[i]?=none->Lw it s.heap h'->Q none {s with heap:=h'}):Jf (Jh prog w) A (KP (.ref it)) Q E s:=by
 obtain⟨oi,hoi,hc,hdi⟩:=id x;unfold KP;refine IZ (KO (JR (name:=JZ "__next__") x.ty dj (JV dj x.ty tF ?_ (tD _))));unfold Kq.«set_iterator.__next__»;refine IZ (Jd (IZ (Mf hoi hdi ?_)));show Jf _ _ (setEntries a >>= _) _ _ s;refine IZ (Mb ho hd hf ?_);rw[if_neg (show ¬_ by simp)];show Jf _ _ (O6 a _ _ _ >>= _) _ _ s;refine IZ ?_;rw[B_,B_,B_];refine N _ _ _ i _ ho hi ?_;cases e:vs[i]? with
 |some v=>
  dsimp only[Gf];refine IZ (Kd hoi hdi (by simp) ?_);have e1:=JE (Ln (·.setIfInBounds 0 (Kf (sl (i+1))))) hoi (Ko (JF hdi _));refine IZ (Kd e1 (JF hdi _) (by simp) ?_);have e2:=JE (Ln (·.setIfInBounds 1 (Kf ((i:Int)+1)))) e1 (Ko (JF (JF hdi _) _));refine Jd ⟨_,rfl,Jd (h1 v _ e ⟨_,e2,((Lb ..).trans (Lb ..)).trans hc,?_⟩ ((JI ..).trans (JI ..)))⟩;rw[JF (JF hdi _)];simp[Kf]
 |none=>
  dsimp only[Gf];refine IZ (Kd hoi hdi (by simp) (show Jf _ _ (MT (.type "StopIteration") [] >>= _) _ _ _ from IZ ?_));simp only[MT,Ol];refine IZ (Ju (IZ (m:=KC _ _) (K' (a:=JT) (by first|rfl|(simp only[KC];rfl)) (Ju ?_ (by size_fits)))) (by size_fits));simp only[Om];refine IZ (Mw ?_);rw[show A.in1.handled=none from hh];refine IZ (Jd (Na ?_));refine IZ (L6 (T:="StopIteration") (b:=true) (by exact⟨_,Jj _ rfl,rfl⟩) Nm (Jd ?_));exact h2 _ e (((JI ..).extBut.push _).push _)
theorem wX(gl:a≠it)(hd:o.data=.set es ep t)(hf:t.fits es.size=true)(N:Nx prog w a o ep vs sl)(hh:A.handled=none) :
  N7 prog w A it [it,a] [it] vs.length (λi v=>vs[i]?=some v) (λi h=>i<=vs.length/\Itr h it (.int (sl i) 0) i a es.size ep/\h.get? a=some o) where
 sub:=λb hb=>by simp at hb;simp[hb]
 frame:=λ_ _ _ st hk=>⟨st.1,st.2.1.at λo e=>hk it (by simp) o e,hk a (by simp) o st.2.2⟩
 item:=λi s Q E hi st hQ=>tQ st.2.1 st.2.2 hd hf N st.1 hh (λv h' e x sb=>hQ v h' s.toks e ⟨hi,x,sb.extBut a o gl st.2.2⟩ λb o hb e=>sb.extBut b o (λz=>hb (by simp[z])) e) λh' e=>by rw[d_ hi]at e;cases e
 done:=λs Q E st hQ=>tQ st.2.1 st.2.2 hd hf N st.1 hh (λv h' e=>by rw[F9 (c_ _)]at e;cases e) λh' _ eb=>hQ h' s.toks λb o hb e=>eb b o (λz=>hb (by simp[z])) e
 self:=λ_ _ _ _ st hQ=>sX st.2.1 hQ
end
open PySem PyProof.Rows
variable {ks:List Int}{ps:List Nat}
section
variable{prog:Ji}{w:Jm}{A:Jr}{E:IY->Jc->Prop}{s:Jc}
theorem wp_text{Q:Bool->Jc->Prop}(h:Q (bt w) s):Jf (Jh prog w) A setsByText Q E s:=IZ (MW (Jd h))
theorem wg:(es.toList.map (·.2))[i]?=es[i]?.map (·.2):=by rw[A_,v_]
theorem yM(I:SI prog w o ks es ep t)(hb:bt w=true) :
  Nx prog w a o ep ((pickOrder (w.params.setOrder a ep) es).toList.map (·.2)) (λ_=>0):=by
 intro A E s i Q ho hi h;unfold O6;refine IZ (KQ ho I.dat I.ft (IZ (wp_text ?_)));rw[hb,if_pos rfl];dsimp only;rw[if_neg (by simp)];refine IZ ?_;unfold setWalk;refine IZ (KQ ho I.dat I.ft (IZ (wp_text ?_)));rw[hb,if_pos rfl];refine IZ (MW (Jd (Jd ?_)));rw[wg,Option.map_map]at h;exact h
noncomputable def slP(t:JS):Nat->Nat
 |0=>0
 |i+1=>t.place.getD i 0+1
theorem wL(I:SI prog w o ks es ep t)(hb:bt w=false)(hdr:(!t.plain&&decide (es.size > 1))=false) :
  Nx prog w a o ep (es.toList.map (·.2)) (slP t):=by
 intro A E s i Q ho hi h;have hz:t.place.size=es.size:=by have:=I.ft;unfold Q7 at this;simp at this;exact this.1
 unfold O6;refine IZ (KQ ho I.dat I.ft (IZ (wp_text ?_)));rw[hb,if_neg (by simp)];dsimp only;refine K_ (λz=>absurd (show(!t.plain&&decide (es.size > 1))=true from z) (by rw[hdr];simp)) λ_=>IZ ?_
 show Jf _ _ (if(!t.led&&!es.isEmpty)=true then _ else _) _ _ _;rw[I.gd.led hb,if_neg (by simp)];refine Jd ?_;have eb:JB t.place (slP t i)=i:=by
  match i,hi with
  |0,_=>exact yV I.gd.up
  |i+1,hi=>
   have hi:i<t.place.size:=by rw[a_,r_]at hi;omega
   have e:t.place[i]?=some (t.place.getD i 0):=by rw[j' hi,F_,j' hi];rfl
   exact below_at I.gd.up e
 rw[eb];refine Jd ?_;rw[wg]at h;by_cases c:i<es.size
 ·rw[j' c,j' (show i<t.place.size by omega)];rw[j' c]at h;have e:slP t (i+1)=t.place[i]+1:=by show t.place.getD i 0+1=_;rw[F_,j' (by omega)];rfl
  dsimp only[Gf]at h;rw[e]at h;exact h
 rw[Fe (by omega)];rw[Fe (by omega)]at h;exact h
theorem tV{tp:I_}{ot:Obj}{c:Nat}{Q:Option IY->Jc->Prop}(x:Itr s.heap it (.ref tp) i a es.size ep)(ho:s.heap.get? a=some o)(hd:o.data=.set es ep t)(hf:t.fits es.size=true)(hot:s.heap.get? tp=some ot)(hdt:ot.data=.seq (ps.map λ(j:Nat)=>Kf j).toArray c)(hps:∀p∈ps,p<es.size)(hh:A.handled=none)
  (h1:∀p v h',ps[i]?=some p->(es[p]?.map (·.2))=some v->Itr h' it (.ref tp) (i+1) a es.size ep->JO it s.heap h'->Q (some v) {s with heap:=h'}) (h2:∀h',ps[i]?=none->Lw it s.heap h'->Q none {s with heap:=h'}):Jf (Jh prog w) A (KP (.ref it)) Q E s:=by
 obtain⟨oi,hoi,hc,hdi⟩:=id x;unfold KP;refine IZ (KO (JR (name:=JZ "__next__") x.ty dj (JV dj x.ty tF ?_ (tD _))));unfold Kq.«set_iterator.__next__»;refine IZ (Jd (IZ (Mf hoi hdi ?_)));show Jf _ _ (setEntries a >>= _) _ _ s;refine IZ (Mb ho hd hf ?_);rw[if_neg (show ¬_ by simp)];show Jf _ _ (LD (.ref tp) >>= _) _ _ s;unfold LD;refine IZ (IZ (OA hot ?_));rw[hdt];refine Jd ?_;dsimp only;rw[B_,B_];have ea:((ps.map λ(j:Nat)=>Kf j).toArray)[i]?=ps[i]?.map λ(j:Nat)=>Kf j:=by rw[GK,A_]
 rw[ea];cases e:ps[i]? with
 |some p=>
  have hp:=hps p (s_ e);dsimp only[Gf,Kf];unfold setNextDrawn;refine IZ (IZ (KQ ho hd hf ?_));dsimp only;rw[if_neg (by simp),B_,j' hp];refine Jd (IZ (Kd hoi hdi (by simp) ?_));have e1:=JE (Ln (·.setIfInBounds 1 (Kf ((i:Int)+1)))) hoi (Ko (JF hdi _));refine Jd ⟨_,rfl,Jd (h1 p _ _ e (by rw[j' hp];rfl) ⟨_,e1,(Lb ..).trans hc,?_⟩ (JI ..))⟩;rw[JF hdi _];simp[Kf]
 |none=>
  dsimp only[Gf];refine IZ (Kd hoi hdi (by simp) ?_);have e1:=JE (Ln (·.setIfInBounds 0 (Kf 0))) hoi (Ko (JF hdi _));refine IZ (Kd e1 (JF hdi _) (by simp) (show Jf _ _ (MT (.type "StopIteration") [] >>= _) _ _ _ from IZ ?_));simp only[MT,Ol];refine IZ (Ju (IZ (m:=KC _ _) (K' (a:=JT) (by first|rfl|(simp only[KC];rfl)) (Ju ?_ (by size_fits)))) (by size_fits));simp only[Om];refine IZ (Mw ?_);rw[show A.in1.handled=none from hh];refine IZ (Jd (Na ?_));refine IZ (L6 (T:="StopIteration") (b:=true) (by exact⟨_,Jj _ rfl,rfl⟩) Nm (Jd ?_));exact h2 _ e ((((JI ..).trans (JI ..)).extBut.push _).push _)
theorem wC{tp:I_}(gl:a≠it)(hnt:tp≠it){ot:Obj}{c:Nat}(hd:o.data=.set es ep t)(hf:t.fits es.size=true)(hdt:ot.data=.seq (ps.map λ(j:Nat)=>Kf j).toArray c)(hps:∀p∈ps,p<es.size)(hh:A.handled=none) :
  N7 prog w A it [it,a,tp] [it] ps.length (λi v=>∃p,ps[i]?=some p/\es[p]?.map (·.2)=some v) (λi h=>Itr h it (.ref tp) i a es.size ep/\h.get? a=some o/\h.get? tp=some ot) where
 sub:=λb hb=>by simp at hb;simp[hb]
 frame:=λ_ _ _ st hk=>⟨st.1.at λo e=>hk it (by simp) o e,hk a (by simp) o st.2.1,hk tp (by simp) ot st.2.2⟩
 item:=λi s Q E hi st hQ=>tV st.1 st.2.1 hd hf st.2.2 hdt hps hh (λp v h' e1 e2 x sb=>hQ v h' s.toks ⟨p,e1,e2⟩ ⟨x,sb.extBut a o gl st.2.1,sb.extBut tp ot hnt st.2.2⟩ λb o hb e=>sb.extBut b o (λz=>hb (by simp[z])) e) λh' e=>by rw[d_ hi]at e;cases e
 done:=λs Q E st hQ=>tV st.1 st.2.1 hd hf st.2.2 hdt hps hh (λp v h' e=>by rw[F9 (c_ _)]at e;cases e) λh' _ eb=>hQ h' s.toks λb o hb e=>eb b o (λz=>hb (by simp[z])) e
 self:=λ_ _ _ _ st hQ=>sX st.1 hQ
end
open PySem PyProof.Rows
variable {acc:Array IY}
section
variable{prog:Ji}{w:Jm}{A:Jr}{E:IY->Jc->Prop}{s:Jc}
theorem xa(h:O4 (λi v=>vs[i]?=some v) acc vs.length):acc.toList=vs:=by
 refine Ij λj=>?_;rw[v_];by_cases hj:j<vs.length
 ·have hja:j<acc.size:=by rw[h.1];exact hj
  have e:=j' hja;rw[e];exact(h.2 j _ e).symm
 rw[Fe (by rw[h.1];omega),F9 (by omega)]
theorem vT(hp:ps.Perm (u_ es.size))(h:O4 (λi v=>∃p,ps[i]?=some p/\es[p]?.map (·.2)=some v) acc ps.length):acc.toList.Perm (es.toList.map (·.2)):=by
 have e:acc.toList=ps.filterMap λp=>es[p]?.map λ(x:Int×IY)=>x.2:=by
  have g:∀(qs:List Nat) (vs:List IY),vs.length=qs.length->(∀(j:Nat) v,vs[j]?=some v->∃p:Nat,qs[j]?=some p/\es[p]?.map (λ(x:Int×IY)=>x.2)=some v)->vs=qs.filterMap λp=>es[p]?.map λ(x:Int×IY)=>x.2:=by
   intro qs;induction qs with
   |nil=>exact λvs l _=>EW l
   |cons q qs ih=>
    intro vs l k
    match vs,l,k with
    |v::vs,l,k=>
     obtain⟨p,e1,e2⟩:=k 0 v rfl;cases e1;rw[List.filterMap_cons_some (f:=λp=>Gf (λ(x:Int×IY)=>x.2) es[p]?) e2,<-ih vs (FV l) λj v e=>k (j+1) v e]
  exact g ps acc.toList (by rw[r_];exact h.1) λj v e=>h.2 j v (by rw[<-v_];exact e)
 rw[e];refine(hp.filterMap _).trans ?_;have e2:(u_ es.size).filterMap (λp=>es[p]?.map (·.2))=((u_ es.size).filterMap λp=>es[p]?).map (·.2):=by rw[List.map_filterMap]
 rw[e2,filterMap_getElem?_range]
theorem xQ(ho:s.heap.get? a=some o)(I:SI prog w o ks es ep t)(hh:A.handled=none)
  (h:∀(h1:Jp) d (it:I_) (fp:List I_) (P:Nat->IY->Prop) (St:Nat->Jp->Prop),s.heap.objs.size<=it->it<h1.objs.size->(∀b u,s.heap.get? b=some u->h1.get? b=some u)->(∀b∈fp,b=a\/s.heap.objs.size<=b)->N7 prog w A it fp [it] es.size P St->St 0 h1->(∀acc,O4 P acc es.size->acc.toList.Perm (es.toList.map (·.2)))->Q (.ref it) {s with heap:=h1,drawn:=d}) :
  Jf (Jh prog w) A (LR (.ref a)) Q E s:=by
 have hT:s.TypeIs (.ref a) "set":=⟨o,ho,I.ex.1⟩;have lt:=Jl ho;have hz:es.size<=sizeLine:=Lc I.sm;refine MD hT OQ (JV OQ hT yv ?_ (F.args_set_iter_1 _));unfold Kq.«frozenset.__iter__»;refine IZ ?_;unfold Qe;refine IZ (Jd (Jd (IZ ?_)));unfold Qb;refine IZ (Mb ho I.dat I.ft (Jd (IZ ?_)));unfold setDrawn;refine IZ (KQ ho I.dat I.ft (IZ (wp_text (Jd ?_))));have plain:∀(vs:List IY) (sl:Nat->Nat),sl 0=0->vs.Perm (es.toList.map (·.2))->Nx prog w a o ep vs sl->Q (.ref s.heap.objs.size) {s with heap:=s.heap.push { cls:=.type "set_iterator",data:=.fields #[.int 0 0,.int 0 0,.ref a,.int es.size 0,.int ep 0] } }:=λvs sl h0 pm N=>by
  have ln:vs.length=es.size:=by rw[pm.length_eq,a_,r_]
  have W:=wX (A:=A) (it:=s.heap.objs.size) (t_ lt) I.dat I.ft N hh;rw[ln]at W;refine h _ s.drawn _ _ _ _ (c_ _) (by rw[J3];exact Gh _) (λb u e=>Je _ e) (λb hb=>?_) W ⟨ES _,⟨_,Jj _ rfl,rfl,?_⟩,Je _ ho⟩ λacc it=>?_
  ·rcases k_.mp hb with e|hb
   ·exact .inr (Hh e.symm)
   exact .inl (z_.mp hb)
  ·rw[h0]
   rfl
  rw[<-ln]at it;rw[xa it];exact pm
 cases hb:bt w with
 |true=>
  refine IZ ?_;refine Jd ?_;refine IZ (ME ho I.dat I.ft ?_);refine IZ (Ju ?_);refine Jd ⟨_,rfl,"set_iterator",_,⟨_,Jj _ rfl,rfl⟩,dj.lookup,?_⟩;exact plain _ _ rfl ((nQ _ _ _ _ (by rw[r_])).map _) (yM I hb)
 |false=>
  cases hdr:(!t.plain&&decide (es.size > 1))with
  |false=>
   refine K_ (λz=>absurd (show(!false&&(!t.plain&&decide (es.size > 1)))=true from z) (by rw[hdr];simp)) λ_=>IZ (Jd ?_)
   refine IZ (ME ho I.dat I.ft ?_);refine IZ (Ju ?_);refine Jd ⟨_,rfl,"set_iterator",_,⟨_,Jj _ rfl,rfl⟩,dj.lookup,?_⟩;exact plain _ _ rfl (.refl _) (wL I hb hdr)
  |true=>
   refine K_ (λ_=>?_) λz=>absurd (show(!false&&(!t.plain&&decide (es.size > 1)))=true by rw[hdr];rfl) z
   refine IZ (tL _ _ (by rw[o_]) λys d pm=>?_);refine IZ (Ju ?_ ?_);refine IZ (ME (Je _ ho) I.dat I.ft ?_);refine IZ (Ju ?_);refine Jd ⟨_,rfl,"set_iterator",_,⟨_,Jj _ rfl,rfl⟩,dj.lookup,?_⟩
   ·have yl:ys.length=es.size:=by rw[pm.length_eq,o_]
    have hz2:∀x:Obj,(s.heap.push x).objs.size=s.heap.objs.size+1:=λx=>J3 ..;have W:=wC (prog:=prog) (w:=w) (A:=A) (it:=s.heap.objs.size+1) (a:=a) (tp:=s.heap.objs.size) (t_ (Hc lt)) (t_ (Gh _)) (ot:={ cls:=.type "tuple",data:=.seq (ys.map λ(j:Nat)=>Kf j).toArray}) I.dat I.ft rfl (λp hp=>Fq.mp (pm.mem_iff.mp hp)) hh;rw[yl]at W;have e2:∀x y:Obj,y.isFreed=false->((s.heap.push x).push y).get? (s.heap.objs.size+1)=some y:=λx y q=>by rw[<-hz2 x];exact Jj _ q
    have r:=h ((s.heap.push { cls:=.type "tuple",data:=.seq (ys.map λ(j:Nat)=>Kf j).toArray}).push { cls:=.type "set_iterator",data:=.fields #[.ref s.heap.objs.size,.int 0 0,.ref a,.int es.size 0,.int ep 0] }) d (s.heap.objs.size+1) _ _ _ (Gk _) (by rw[J3,J3];exact Gh _) (λb u e=>Je _ (Je _ e)) (λb hb=>?_) W ⟨⟨_,e2 _ _ rfl,rfl,rfl⟩,Je _ (Je _ ho),Je _ (Jj _ rfl)⟩ λacc it=>vT pm (by rw[yl];exact it)
    ·rw[<-hz2]at r;exact r
    simp only[k_,GJ,or_false]at hb;rcases hb with e|e|e
    ·exact .inr (by rw[e];exact Gk _)
    ·exact .inl e
    exact .inr (Hh e.symm)
   show _<=_;rw[h_,a_,pm.length_eq,o_];exact hz
end
open PySem PyProof.Rows
section
variable{prog:Ji}{w:Jm}{A:Jr}{E:IY->Jc->Prop}{s:Jc}
theorem wM{Q:Bool->Jc->Prop}(hT:s.TypeIs (.ref a) "set")(h:Q false s):Jf (Jh prog w) A (Mn (.ref a)) Q E s:=by
 unfold Mn;refine IZ (M3 hT F.slot_set_len.lookup ?_);generalize hid:("set.__len__":String)=id0
 wp_delta
 rw[show splitId id0=some ("set","__len__")from by subst hid;rfl'];subst hid;refine IZ (L6 (T:="set") (b:=true) hT (by rw[Nr];kernel_rfl) ?_);refine K_ (λz=>absurd z (by decide)) λ_=>K_ (λ_=>IZ (NZ hT (Jd h))) λz=>absurd (by rfl') z
theorem yW{R:Ng->Jc->Prop}(ho:s.heap.get? a=some o)(I:SI prog w o ks es ep t)(hh:A.handled=none)(S:I_)(hSa:S≠a)(res:IY)(c₀:Nat)(hS:s.heap.get? S=some { cls:=.type "list",data:=.seq #[] c₀ })
  (hR:∀h' tk d acc c,(∀b u,b≠S->s.heap.get? b=some u->h'.get? b=some u)->h'.get? S=some { cls:=.type "list",dict:=none,data:=.seq acc c,slots:=#[] }->acc.toList.Perm (es.toList.map (·.2))->R (.ok (.ret res)) {s with heap:=h',drawn:=d,toks:=tk}) :
  Jf (Jh prog w) A.in1 (Mq (.ref S) (.ref a) res) (λfin s'=>match fin with | .done f=>R (.ok f) s' | .again c'=>c'.quiet=true/\Kh (Jh prog w) A c' R s') (λe s'=>R (.error e) s') s:=by
 have hz:es.size<=sizeLine:=Lc I.sm;have lS:=Jl hS;unfold Mq;refine IZ (NZ (T:="set") ⟨o,ho,I.ex.1⟩ ?_);have h1:MX (.ref S) (.ref a)=false:=by simp[MX,hSa]
 have h2:(Ks "set" == Ks "list")=false:=by decide
 have h3:(Ks "set" == Ks "tuple")=false:=by decide
 simp only[h1,h2,h3,IA,Fl,if_false];refine IZ (xQ ho I hh λh1 d it fp P St hit ii kp hfp W st pm=>?_);have hSf:S ∉ fp:=λz=>(hfp S z).elim hSa λz=>Hk z lS;have hSi:S≠it:=λz=>by rw[z]at lS;exact Hk hit lS
 have key:∀(h:Jp) (c₁:Nat) (tk:Nat),St 0 h->(∀b u,b≠S->h1.get? b=some u->h.get? b=some u)->h.get? S=some { cls:=.type "list",data:=.seq #[] c₁ }->Kh (Jh prog w) A (.builtin "list.extend.loop" ⟨[.ref S,.ref it,res],[]⟩) R {s with heap:=h,drawn:=d,toks:=tk}:=by
  intro h c₁ tk hst hk hS₁;refine codeAny_extend_loopS W.toS hz S hSf res es.size 0 _ #[] c₁ rfl (ES _) hst hS₁ (ItemsOf.nil _) λs' acc' c' hm hS' hacc=>?_;rw[Moved.eq_with hm];refine hR s'.heap s'.toks d acc' c' (λb u hb e=>hm.heap b u (λz=>?_) (hk b u hb (kp b u e))) hS' (pm _ hacc);rcases k_.mp z with z|z
  ·exact hb z
  have:=Jl e;rw[z_.mp z]at this;exact Hk hit this
 have hS₁:=kp _ _ hS;refine IZ (Jy (wM ⟨o,kp _ _ ho,I.ex.1⟩ ?_));refine K_ (λ_=>?_) (λ_=>Jd ⟨Kx ML _,key _ c₀ _ st (λb u _ e=>e) hS₁⟩);refine IZ (LI ?_);refine IZ ?_;show Jf _ _ (N2 S (·.push .none) >>= λ_=>N2 S (·.pop)) _ _ _;refine IZ (Lz hS₁ rfl ?_);have hS₂:=JE (Kc (·.push JT)) hS₁ rfl;refine Lz (hz:=by seq_fits) hS₂ rfl ?_;have hS₃:=JE (Kc (·.pop)) hS₂ rfl;refine Jd ⟨Kx ML _,key _ _ _ ?_ (λb u hb e=>?_) hS₃⟩
 ·refine W.frame 0 _ _ st λb hb u e=>?_;have hbS:b≠S:=λz=>hSf (z▸hb);exact(Jz _ _ (Kg hbS)).trans ((Jz _ _ (Kg hbS)).trans e)
 exact(Jz _ _ (Kg hb)).trans ((Jz _ _ (Kg hb)).trans e)
theorem qb{Q:List IY->Jc->Prop}(ho:s.heap.get? a=some o)(I:SI prog w o ks es ep t)(hh:A.handled=none)
  (h:∀h' tk d (vs:List IY),s.heap.objs.size<=h'.objs.size->(∀b u,s.heap.get? b=some u->h'.get? b=some u)->vs.Perm (es.toList.map (·.2))->Q vs {s with heap:=h',drawn:=d,toks:=tk}):Jf (Jh prog w) A (collect (.ref a)) Q E s:=by
 unfold collect;refine IZ (O7 (J2 F.entry_proto_collect ?_));rw[JU F.plain_proto_collect _];show Jf _ A.in1 (newList [] >>= λl=>again (.builtin "list.__iadd__" ⟨[l,.ref a],[]⟩)) _ _ s;refine IZ (Ju ?_);refine Jd ⟨Kx Oc _,J2 F.entry_list_iadd ?_⟩;rw[JU Oc _];have hS:(s.heap.push { cls:=.type "list",data:=.seq ([]:List IY).toArray}).get? s.heap.objs.size=some { cls:=.type "list",data:=.seq ([]:List IY).toArray}:=Jj _ rfl;have gl:s.heap.objs.size≠a:=GN (Jl ho);have fin:∀(s':Jc) (h':Jp) (tk:Nat) (d:Oy) (acc:Array IY) (c:Nat),s'={s with heap:=h',drawn:=d,toks:=tk}->(∀b u,s.heap.get? b=some u->h'.get? b=some u)->h'.get? s.heap.objs.size=some { cls:=.type "list",dict:=none,data:=.seq acc c,slots:=#[] }->acc.toList.Perm (es.toList.map (·.2))->
   Jf (Jh prog w) A (load s.heap.objs.size >>= λo=>match o.data with
    | .seq xs _=>pure xs.toList
    | _=>unsupported "internal:collect") Q E s':=λs' h' tk d acc c es' kp e it=>by
  subst es';refine IZ (OA e ?_);exact Jd (h h' tk d _ (Fc (Jl e)) kp it)
 refine Js (yW (s:={s with heap:=s.heap.push { cls:=.type "list",data:=.seq ([]:List IY).toArray} }) (R:=λr s'=>∃(h':Jp) (tk:Nat) (d:Oy) (acc:Array IY) (c:Nat),r=.ok (.ret (.ref s.heap.objs.size))/\s'={s with heap:=h',drawn:=d,toks:=tk}/\(∀b u,s.heap.get? b=some u->h'.get? b=some u)/\h'.get? s.heap.objs.size=some { cls:=.type "list",dict:=none,data:=.seq acc c,slots:=#[] }/\acc.toList.Perm (es.toList.map (·.2)))
  (Je _ ho) I hh s.heap.objs.size gl (.ref s.heap.objs.size) 0 hS (λh' tk d acc c kp e it=>⟨h',tk,d,acc,c,rfl,rfl,λb u eb=>kp b u (t_ (Jl eb)) (Je _ eb),e,it⟩)) (λfn s' hf=>?_) (λe s' hf=>?_)
 ·cases fn with
  |done f=>
   obtain⟨h',tk,d,acc,c,ef,es',kp,e,it⟩:=hf;cases ef;exact fin s' h' tk d acc c es' kp e it
  |again c'=>
   refine⟨hf.1,Kt hf.2 λr s'' hr=>?_⟩;obtain⟨h',tk,d,acc,c,er,es',kp,e,it⟩:=hr;subst er;exact fin s'' h' tk d acc c es' kp e it
 obtain⟨_,_,_,_,_,ef,_⟩:=hf;cases ef
end
open PySem PyProof.Rows
section
variable{prog:Ji}{w:Jm}{A:Jr}{R:Ng->Jc->Prop}{I:I_}{fp wr:List I_}{G:Array NA->Array NA->Prop}{n:Nat}{P:Nat->IY->Prop}{St:Nat->Jc->Prop}
theorem SG.at {h':Jp}(x:SG prog w h a S m)(k:∀o,h.get? a=some o->h'.get? a=some o):SG prog w h' a S m:=by obtain⟨o,ks,es,ep,t,e,r⟩:=x;exact⟨o,ks,es,ep,t,k _ e,r⟩
theorem SG.congr {S':Int->Prop}(x:SG prog w h a S m)(k:∀z,S z↔S' z):SG prog w h a S' m:=by obtain⟨o,ks,es,ep,t,e,r,q⟩:=x;exact⟨o,ks,es,ep,t,e,r,λz=>(q.1 z).trans (k z),q.2⟩
theorem vD(W:WalksS prog w A.in1 I fp wr G n P St)(S:I_)(hSf:S ∉ fp)(val:Nat->Int)(hval:∀i v,P i v->∃t,v=.int (val i) t)(hb:n+1<scanBound) :
  ∀(k i:Nat) (s:Jc),n-i=k->i<=n->St i s->SG prog w s.heap S (λz=>∃j,j<i/\val j=z) i->(∀s',Moved (S::wr) G s s'->SG prog w s'.heap S (λz=>∃j,j<n/\val j=z) n->R (.ok (.ret .none)) s')->Kh (Jh prog w) A (.builtin "set.update.loop" ⟨[.ref S,.ref I],[]⟩) R s:=by
 have hSw:S ∉ wr:=λh=>hSf (W.sub _ h);have hsub:∀b∈wr,b∈S::wr:=λb hb=>i_ _ hb;intro k;induction k with
 |zero=>
  intro i s hk hi hst hS hR;obtain rfl:i=n:=by omega
  refine J2 MZ ?_;rw[JU LM _];show Jf _ A.in1 (KP (.ref I) >>= _) _ _ s;refine IZ (W.done s _ _ hst λs' hm=>?_);show Jf _ A.in1 (ret JT) _ _ s';exact Jd (hR s' (hm.mono hsub) (hS.at λo e=>hm.heap S _ hSw e))
 |succ k ih=>
  intro i s hk hi hst hS hR;have ii:i<n:=by omega
  refine J2 MZ ?_;rw[JU LM _];show Jf _ A.in1 (KP (.ref I) >>= _) _ _ s;refine IZ (W.item i s _ _ ii hst λv s' hP hst' hm=>?_);obtain⟨t,rfl⟩:=hval i v hP;have hS':=hS.at (h':=s'.heap) λo e=>hm.heap S _ hSw e;show Jf _ A.in1 (Lq [L8 (val i) t] (setAdd S (.int (val i) t)) >>= _) _ _ s';refine IZ (Jy ?_);unfold setAdd;refine Jy (IZ ((K5 prog w).pyHash (k:=val i) (NJ _ _ _ _) ?_));refine add_int (s:={s' with toks:=s'.toks+1}) hS' (by omega) λ_ h' sb hS2=>?_
  have hSi:SG prog w h' S (λz=>∃j,j<i+1/\val j=z) (i+1):=hS2.congr λz=>⟨λq=>q.elim (λ⟨j,a,b⟩=>⟨j,by omega,b⟩) λe=>⟨i,by omega,e.symm⟩,λ⟨j,a,b⟩=>by
   by_cases c:j=i
   ·exact .inr (by rw[<-b,c])
   exact .inl ⟨j,by omega,b⟩⟩
  refine Jd ⟨Kx LM _,ih (i+1) _ (by omega) ii (W.frame _ s' _ _ hst' (Gk _) λb hb o e=>?_) hSi λs'' hm'' hS''=>?_⟩
  ·rw[sb.2 b (λh:b=S=>hSf (by rw[<-h];exact hb))];exact e
  refine hR s'' (Moved.trans W.gtrans ((hm.mono hsub).then_heap (Gk _) λb o hb e=>?_) hm'') hS'';rw[sb.2 b (λh:b=S=>hb (by rw[h];exact q_))];exact e
end
section
variable{prog:Ji}{w:Jm}{A:Jr}{E:IY->Jc->Prop}{s:Jc}
abbrev nob(w:Jm):Obj:={ cls:=.type "set",dict:=none,data:=.set #[] 0 (.fresh 0 0 (!bt w)) }
theorem yU(a:IY)(h:Q (.ref s.heap.objs.size) {s with heap:=s.heap.push (nob w) }):Kh (Jh prog w) A (.call (.builtin "set.__new__") ⟨[.type "set",a],[]⟩) (wants Q E) s:=by
 refine OR ?_;show Jf _ A.in1 (L7 "set.__new__" ⟨[.type "set",a],[]⟩ >>= λ_=>again (.builtin "set.__new__" ⟨[.type "set",a],[]⟩)) _ _ s;refine IZ (K' (F.newCall_set_1 a) (Jd ⟨Kx OS _,J2 F.entry_set_new ?_⟩));rw[JU OS _];unfold Kq.«set.__new__» Pz;have hsub:=sub_set_self;obtain⟨hp,g,d,tk,os⟩:=s;dsimp only
 wp_walk
 refine MW (Jd ?_);dsimp only;simp only[newObj];refine IZ (wpAny_alloc (Jd ?_));exact Jd h
theorem AH:SG prog w (h.push (nob w)) h.objs.size (λ_=>False) 0:=
 ⟨_,[],#[],0,_,Jj _ rfl,⟨⟨rfl,rfl,rfl⟩,rfl,λe he=>(nomatch he),.nil,F6,by decide,rfl,vA _ _ _⟩,λz=>⟨(nomatch ·),Jq⟩,c_ _⟩
set_option maxHeartbeats 3200000 in
theorem wx{l:I_}{items:Array IY}(hh:A.handled=none)(hl:s.heap.IsList l items)(hi:IntsAre items.toList ns)(hb:items.size+1<scanBound)
  (h:∀(h':Jp) (tk:Nat),SG prog w h' s.heap.objs.size (λz=>z∈ns) items.size->(∀b o,b<s.heap.objs.size->s.heap.get? b=some o->h'.get? b=some o)->Q (.ref s.heap.objs.size) {s with heap:=h',toks:=tk}) :
  Jf (Jh prog w) A (call (.type "set") [.ref l]) Q E s:=by
 obtain⟨c,tl,hmro⟩:=K0.mro;have hmade:=K0.made;have hsub:=K0.sub;refine MG (OR ?_);show Jf _ _ (callAny (.type "set") _) _ _ _;refine Jd ⟨N3 _ (by rfl'),J2 F.entry_type_call ?_⟩;rw[Around.under_plain (weight_type_call_type "set" [.ref l] []) rfl];have h1:=K0.notType;have h2:=K0.canCreate;have hct:=F.typeCall_set_1 (.ref l)
 repeat (any_goals (first|assumption|wp_step))
 refine Kt (yU (.ref l) (E:=E) (Q:=λobj s₁=>obj=.ref s.heap.objs.size/\s₁={s with heap:=s.heap.push (nob w) }) ⟨rfl,rfl⟩) λr s₁ hr=>?_;cases r with
 |error e=>exact hr
 |ok fl=>
  cases fl with
  |ret obj=>
   obtain⟨rfl,rfl⟩:=hr;have hS:(s.heap.push (nob w)).get? s.heap.objs.size=some (nob w):=Jj _ rfl;have hT:Shared.TypeIs {s with heap:=s.heap.push (nob w) } (.ref s.heap.objs.size) "set":=⟨_,hS,rfl⟩;have hli:=K0.init.lookup;have hbi:=K0.init.bind (.ref s.heap.objs.size)
   repeat (any_goals (first|assumption|wp_step))
   refine Kt (Ll (R:=wants (λr s₂=>r=.none/\∃h' tk,s₂={s with heap:=h',toks:=tk}/\SG prog w h' s.heap.objs.size (λz=>z∈ns) items.size/\(∀b o,b<s.heap.objs.size->s.heap.get? b=some o->h'.get? b=some o)) E) K0.init.plain F.entry_set_init (check_set_init_1 hT ?_)) λr₂ s₂ hr₂=>?_
   ·obtain⟨ol,hol,hcl,nl,hdl⟩:=hl;obtain⟨ocls,odict,odata,oslots⟩:=ol;simp only at hcl hdl;subst hcl;subst hdl;have hol':(s.heap.push (nob w)).get? l=some { cls:=.type "list",dict:=odict,data:=.seq items nl,slots:=oslots}:=Je _ hol;have hsls:=F.sub_list_set;have hslf:=F.sub_list_frozenset;have gl:(Ks "list" == Ks "dict")=false:=by decide
    have hl1:(s.heap.push (nob w)).IsList l items:=⟨_,hol',rfl,nl,rfl⟩;unfold Kq.«set.__init__» noKeywords O8;generalize hPI:LR=PI
    wp_walk
    subst hPI;refine MC hl1 ?_;refine IZ (O7 ?_);have hlS:l<s.heap.objs.size:=Jl hol;have hh3:A.in1.in1.in1.handled=none:=by simp[hh]
    have hneI:l≠(s.heap.push (nob w)).objs.size:=by rw[J3];exact t_ (Hc hlS)
    have hSf:s.heap.objs.size ∉ [(s.heap.push (nob w)).objs.size,l]:=by rw[J3];simp only[k_,z_,GJ,or_false,not_or];exact⟨t_ (Gh _),GN hlS⟩
    have hval:∀(i:Nat) (v:IY),items[i]?=some v->∃t,v=.int ((λi=>ns.getD i 0) i) t:=λi v hv=>IntsAre.int_at hi i v (by rw[v_];exact hv)
    refine vD ((OT hh3 _ l hneI items).toS) s.heap.objs.size hSf (λi=>ns.getD i 0) hval hb (items.size-0) 0 _ (by omega) (ES _) ⟨⟨_,Jj _ rfl,rfl,rfl⟩,(hl1.push _)⟩ ?hS0 ?hR
    case hS0=>exact(AH.at λo e=>Je _ e).congr λz=>⟨Jq,λ⟨j,a,_⟩=>absurd a (by omega)⟩
    case hR=>
     intro s' hm hS';obtain⟨h',g',d',tk',os'⟩:=s';have eg:g'=s.gens:=hm.gens;have ed:d'=s.drawn:=hm.drawn;have eo:os'=s.os:=hm.os;subst eg;subst ed;subst eo;refine Jd ?_;show Jf _ _ (ret JT) _ _ _;have nl:items.size=ns.length:=by rw[<-gD hi,r_]
     refine Jd ⟨rfl,h',tk',rfl,hS'.congr λz=>⟨λ⟨j,a,b⟩=>?_,λq=>?_⟩,λb o hb e=>?_⟩
     ·rw[<-b,B',d_ (by omega)];exact Ga _
     ·obtain⟨j,a,b⟩:=FF.mp q;exact⟨j,by omega,by rw[B',d_ a];exact b⟩
     refine hm.heap b o ?_ (Je _ (Je _ e));rw[J3];simp only[k_,z_,GJ,or_false,not_or];exact⟨t_ hb,t_ (Hc hb)⟩
   ·cases r₂ with
    |error e=>exact hr₂
    |ok fl₂=>
     cases fl₂ with
     |ret r=>
      obtain⟨rfl,h',tk,rfl,hS',hk'⟩:=hr₂
      repeat (any_goals (first|assumption|wp_step))
      exact h _ _ hS' hk'
     | _=>exact hr₂.elim
  | _=>exact hr.elim
end
open PySem PyProof.Rows
section
variable{prog:Ji}{w:Jm}{A:Jr}{E:IY->Jc->Prop}{s:Jc}
theorem kx:∀{vs:List IY}{ns:List Int},IntsAre vs ns->vs.map ZS.qO=ns/\∀v∈vs,∃i t,v=.int i t/\i∈ns
 | _,_,.nil=>⟨rfl,λv h=>(nomatch h)⟩
 | _,_,.cons n t h=>by
  obtain⟨a,b⟩:=kx h;refine⟨by rw[f',a];rfl,λv hv=>?_⟩;rcases k_.mp hv with e|hv
  ·exact⟨n,t,e,.head _⟩
  obtain⟨i,u,e,m⟩:=b v hv;exact⟨i,u,e,.tail _ m⟩
end
end ZT
namespace L2
open PySem PySem.Spec PyProof.Rows
section
variable{X:Cx}
theorem Inv.drw {ac:List (I_×Obj)}{s:Jc}{σ:St}{H:Hp}{d:Oy}(I:Inv X ac σ H s):Inv X ac σ H {s with drawn:=d}:=⟨I.ok,I.os,I.bare,I.base,I.loc,I.cell,I.free,I.freeC,I.pin,I.hok,I.len⟩
theorem vj:∀{vs:List IY}{ns:List Int},IntsAre vs ns->Vals (ns.map V.int) vs
 | _,_,.nil=>.nil
 | _,_,.cons n t h=>.cons ⟨t,rfl⟩ (vj h)
end
end L2
namespace ZN
open PySem
noncomputable def Ka(h0 h:Jp):Prop:=∀b o,h0.get? b=some o->h.get? b=some o
section
variable{prog:Ji}{w:Jm}{A:Jr}{R:Ng->Jc->Prop}{I:I_}{fp wr:List I_}{n:Nat}{vs:Array IY}{St:Nat->Jp->Prop}{h0:Jp}{bt:Nat->Nat->Bool}{kw:List (Str×IY)}
def Cm(prog:Ji)(w:Jm)(A:Jr)(h0:Jp)(vs:Array IY)(bt:Nat->Nat->Bool):Prop:=∀(i j:Nat) (x y:IY) (z:Jc) (Q:IY->Jc->Prop) (E:IY->Jc->Prop),vs[i]?=some x->vs[j]?=some y->Ka h0 z.heap->Q (.bool (bt i j)) z->Jf (Jh prog w) A (Qp .Lt x y) Q E z
theorem lpN(W:N7 prog w A.in1 I fp wr n (λi v=>vs[i]?=some v) St)(cm:Cm prog w A.in1 h0 vs bt)(S:I_)(off:S ∉ fp)(tk:∀b o,h0.get? b=some o->b ∉ wr/\b≠S) :
  ∀(k j:Nat) (z:Jc) (x:IY) (c:Nat),n-(j+1)=k->j+1<=n->St (j+1) z.heap->vs[Kj bt j]?=some x->Ka h0 z.heap->z.heap.get? S=some { cls:=.type "list",dict:=none,data:=.seq #[x,x] c,slots:=#[] }->
  (∀y h' t,vs[Kj bt (n-1)]?=some y->(∀b o,b ∉ wr->b≠S->z.heap.get? b=some o->h'.get? b=some o)->R (.ok (.ret y)) {z with heap:=h',toks:=t})->
  Kh (Jh prog w) A (.builtin "min.loop" ⟨[.ref I,.none,.ref S],kw⟩) R z:=by
 have so:S ∉ wr:=λh=>off (W.sub _ h);have nm:(toString "min"++toString ".loop":String)="min.loop":=by decide
 intro k;induction k with
 |zero=>
  intro j z x c hk hj st hx kt hS r;have e:j+1=n:=by omega
  refine J2 La ?_;rw[JU JW _];show Jf _ A.in1 (LD (.ref S) >>= _) _ _ z;refine IZ (Ld hS rfl ?_);show Jf _ A.in1 (tryCatch (KP (.ref I)) _ >>= _) _ _ z;refine IZ (LJ (W.done z _ _ (e▸st) λh' t kp=>?_));have hS':=kp S _ so hS;show Jf _ A.in1 (N2 S (λ_=>#[]) >>= _) _ _ _;refine IZ (Lz hS' rfl (IZ (Mi (Jd ?_))));exact r x _ t (by rw[<-e];exact hx) λb o h1 h2 q=>(Jz _ _ (Kg h2)).trans (kp b o h1 q)
 |succ k ih=>
  intro j z x c hk hj st hx kt hS r;have lt:j+1<n:=by omega
  refine J2 La ?_;rw[JU JW _];show Jf _ A.in1 (LD (.ref S) >>= _) _ _ z;refine IZ (Ld hS rfl ?_);show Jf _ A.in1 (tryCatch (KP (.ref I)) _ >>= _) _ _ z;refine IZ (LJ (W.item (j+1) z _ _ lt st λy h' t hy ap kp=>?_));have hS':=kp S _ so hS;have kt':Ka h0 h':=λb o q=>kp b o (tk b o q).1 (kt b o q);show Jf _ A.in1 (tryCatch (Lq [y,y] (Qp .Lt y x >>= _)) _ >>= _) _ _ _;refine IZ (LJ (Jy (IZ (cm (j+1) (Kj bt j) y x _ _ _ hy hx kt' ?_))));refine IZ (Jy (LN ?_));refine IZ (Mi (Jd ?_));cases hb:bt (j+1) (Kj bt j)with
  |true=>
   have ea:Kj bt (j+1)=j+1:=by rw[Kj,hb];rfl
   simp only[if_true];refine IZ (Lz hS' rfl (IZ (Mi ?_)));rw[nm];refine Jd ⟨Kx JW _,ih (j+1) _ y _ (by omega) lt (W.frame _ _ _ ap λb bf o q=>?_) (by rw[ea];exact hy) (λb o q=>?_) (JE _ hS' rfl) λy2 h2 t2 g1 g2=>?_⟩
   ·exact(Jz _ _ (λe:S=b=>off (by rw[e];exact bf))).trans q
   ·exact(Jz _ _ (Kg (tk b o q).2)).trans (kt' b o q)
   ·exact r y2 h2 t2 g1 λb o m1 m2 q=>g2 b o m1 m2 ((Jz _ _ (Kg m2)).trans (kp b o m1 q))
  |false=>
   have ea:Kj bt (j+1)=Kj bt j:=by rw[Kj,hb];rfl
   simp only[Fl,if_false];refine IZ (Mi ?_);rw[nm];refine Jd ⟨Kx JW _,ih (j+1) _ x c (by omega) lt ap (by rw[ea];exact hx) kt' hS' λy2 h2 t2 g1 g2=>?_⟩;exact r y2 h2 t2 g1 λb o m1 m2 q=>g2 b o m1 m2 (kp b o m1 q)
theorem EH(W:N7 prog w A.in1 I fp wr n (λi v=>vs[i]?=some v) St)(cm:Cm prog w A.in1 h0 vs bt)(S:I_)(off:S ∉ fp)(tk:∀b o,h0.get? b=some o->b ∉ wr/\b≠S)(hn:0<n){z:Jc}{c:Nat}(st:St 0 z.heap)(kt:Ka h0 z.heap)
  (hS:z.heap.get? S=some { cls:=.type "list",dict:=none,data:=.seq #[] c,slots:=#[] })
  (r:∀y h' t,vs[Kj bt (n-1)]?=some y->(∀b o,b ∉ wr->b≠S->z.heap.get? b=some o->h'.get? b=some o)->R (.ok (.ret y)) {z with heap:=h',toks:=t}) :
  Kh (Jh prog w) A (.builtin "min.loop" ⟨[.ref I,.none,.ref S],kw⟩) R z:=by
 have so:S ∉ wr:=λh=>off (W.sub _ h);have nm:(toString "min"++toString ".loop":String)="min.loop":=by decide
 refine J2 La ?_;rw[JU JW _];show Jf _ A.in1 (LD (.ref S) >>= _) _ _ z;refine IZ (Ld hS rfl ?_);show Jf _ A.in1 (tryCatch (KP (.ref I)) _ >>= _) _ _ z;refine IZ (LJ (W.item 0 z _ _ hn st λy h' t hy ap kp=>?_));have hS':=kp S _ so hS;have kt':Ka h0 h':=λb o q=>kp b o (tk b o q).1 (kt b o q);show Jf _ A.in1 (N2 S (λ_=>#[y,y]) >>= _) _ _ _;refine IZ (Lz hS' rfl ?_);rw[nm];refine Jd ⟨Kx JW _,lpN W cm S off tk _ 0 _ y _ rfl hn (W.frame _ _ _ ap λb bf o q=>?_) hy (λb o q=>?_) (JE _ hS' rfl) λy2 h2 t2 g1 g2=>?_⟩
 ·exact(Jz _ _ (λe:S=b=>off (by rw[e];exact bf))).trans q
 ·exact(Jz _ _ (Kg (tk b o q).2)).trans (kt' b o q)
 exact r y2 h2 t2 g1 λb o m1 m2 q=>g2 b o m1 m2 ((Jz _ _ (Kg m2)).trans (kp b o m1 q))
theorem Dd{d:IY}{nm':Str}(W:N7 prog w A.in1 I fp wr 0 (λi v=>vs[i]?=some v) St)(S:I_)(off:S ∉ fp){z:Jc}{c:Nat}(st:St 0 z.heap)
  (hS:z.heap.get? S=some { cls:=.type "list",dict:=none,data:=.seq #[] c,slots:=#[] })
  (r:∀h' t,(∀b o,b ∉ wr->z.heap.get? b=some o->h'.get? b=some o)->R (.ok (.ret d)) {z with heap:=h',toks:=t}) :
  Kh (Jh prog w) A (.builtin "min.loop" ⟨[.ref I,.none,.ref S],[(nm',d)]⟩) R z:=by
 refine J2 La ?_;rw[JU JW _];show Jf _ A.in1 (LD (.ref S) >>= _) _ _ z;refine IZ (Ld hS rfl ?_);show Jf _ A.in1 (tryCatch (KP (.ref I)) _ >>= _) _ _ z;refine IZ (LJ (W.done z _ _ st λh' t kp=>?_));exact IZ (LI (Jd (r h' t kp)))
end
end ZN
namespace L2
open PySem PySem.Spec PyProof.Rows
section
variable{X:Cx}
noncomputable def gbI(ns:List Int)(i j:Nat):Bool:=decide (ns.getD i 0<ns.getD j 0)
theorem zr{prog:Ji}{w:Jm}{A:Jr}{E:IY->Jc->Prop}{s:Jc}{id:String}{b:Kq}{args:List IY}{kw:List (Str×IY)}{Q:IY->Jc->Prop}(hk:Qq id=none)(hp:plainId id=true)(hb:Ov Qy id=some b)(ha:MV id ⟨args,kw⟩)
  (hc:Jf (Jh prog w) A.in1 (b ⟨args,kw⟩) (λfin z=>match fin with
   | .done f=>(match(Except.ok f:Ng)with | .ok (.ret v)=>Q v z | .ok _=>False | .error e=>E e z)
   | .again c=>c.quiet=true/\Kh (Jh prog w) A c (λr y=>match r with | .ok (.ret v)=>Q v y | .ok _=>False | .error e=>E e y) z) E s):Jf (Jh prog w) A (call (.builtin id) args kw) Q E s:=by
 refine MG (Ll hp hb ?_);simp only[L7,hk];cases hsig:QF id with
 |none=>exact Jd hc
 |some sig=>
  have e:Bind.checkArgs id sig ⟨args,kw⟩=pure ():=by simpa only[MV,hsig]using ha
  simp only[e];exact Jd hc
theorem uI(x y:IY):MV "min" ⟨[x],[(JZ "default",y)]⟩:=by unfold MV;kernel_rfl
theorem xo{ac:List (I_×Obj)}{σ:St}{H:Hp}{s:Jc}{a:I_}{ns:List Int}{n0:Int}{t0:Tok}{Q:V->Hp->Prop}(hc:X.calm=true)(I:Inv X ac σ H s)(hq:SqL X.K H a (ns.map V.int))(q:∀m,(ns=[]/\m=n0\/m∈ns/\∀n∈ns,m<=n)->Q (.int m) H) :
  Jf (Jh X.prog X.w) X.A (call (.builtin "min") [.ref a] [(JZ "default",.int n0 t0)]) (EP X ac σ Q) X.xe s:=by
 obtain⟨bd,rv,p,z⟩:=I.sq (b:=false) hq;have ia:=oB rv;have hll:=ZM.Bg ia;have ii:a<s.heap.objs.size:=by obtain⟨o,e,_⟩:=(show s.heap.IsList a _ from p);exact Jl e
 have hh:X.A.in1.handled=none:=I.ok.hd hc;have at_:∀{l:List IY}{n:List Int},ZM.IntsAre l n->∀(i:Nat) (x:IY),l[i]?=some x->∃m t,x=.int m t/\n[i]?=some m:=by
  intro l;induction l with
  |nil=>intro n h i x e;simp at e
  |cons v l ih=>
   intro n h i x e;cases n with
   |nil=>exact h.elim
   |cons m n=>
    cases i with
    |zero=>obtain⟨⟨t,rfl⟩,_⟩:=h;cases e;exact⟨m,t,rfl,rfl⟩
    |succ i=>exact ih h.2 i x e
 have cm:∀A:Jr,ZN.Cm X.prog X.w A s.heap bd.toArray (gbI ns):=λA i j x y z Q E hx hy kt qq=>by
  rw[GK]at hx hy;obtain⟨m,t,rfl,e1⟩:=at_ ia i x hx
  obtain⟨m',t',rfl,e2⟩:=at_ ia j y hy
  refine richCompare_gives (op:=.Lt) (MH z m t) (MH z m' t') PySem.F.slot_int_lt PySem.F.entry_int_lt (PySem.F.args_int_lt_2 _ _) (gives_int_lt m m' t t') (λz=>nomatch z) ?_;unfold gbI at qq;rw[B',B',e1,e2]at qq;exact qq
 have nm:(toString "min"++toString ".loop":String)="min.loop":=by decide
 refine zr PySem.F.kind_min PySem.F.plain_min PySem.F.entry_min (uI _ _) ?_;show Jf _ X.A.in1 (Mr "min" ["key","default"] 0 ⟨[],[(JZ "default",.int n0 t0)]⟩ >>= _) _ _ s;refine IZ (K' (show Mr "min" ["key","default"] 0 ⟨[],[(JZ "default",.int n0 t0)]⟩=pure [none,some (.int n0 t0)]from rfl) (IZ (Jd (IZ ?_))));refine ZG.Bx (b:=false) p λg d gs gk=>?_;refine IZ (Ju ?_);rw[nm];have tk:∀c o,s.heap.get? c=some o->c ∉ [s.heap.objs.size]/\c≠g.objs.size:=λc o e=>by have h1:@LT.lt Nat instLTNat c s.heap.objs.size:=Jl e;refine⟨λz=>t_ h1 (z_.mp z),?_⟩;rw[gs];show ¬(_:Nat)=_;omega
 have off:g.objs.size ∉ [s.heap.objs.size,a]:=λz=>by
  rw[gs]at z;have h1:@LT.lt Nat instLTNat a s.heap.objs.size:=ii;rcases k_.mp z with z|z
  ·exact absurd z (by show ¬(_:Nat)=_;omega)
  exact absurd (z_.mp z) (by show ¬(_:Nat)=_;omega)
 refine Jd ⟨Kx JW _,?_⟩;have db:(g.push { cls:=.type "list",data:=.seq ([]:List IY).toArray}).IsListIter s.heap.objs.size a 0:=by obtain⟨o,e,r⟩:=(show g.IsListIter s.heap.objs.size a 0 from d);exact⟨o,Je _ e,r⟩
 have dL:(g.push { cls:=.type "list",data:=.seq ([]:List IY).toArray}).IsList a bd.toArray:=by obtain⟨o,e,r⟩:=(show s.heap.IsList a _ from p);exact⟨o,Je _ (gk _ o e),r⟩
 by_cases hn:ns=[]
 ·subst hn;have ei:bd=[]:=EW hll;subst ei;exact ZN.Dd (OT hh s.heap.objs.size a (t_ ii) ([]:List IY).toArray) g.objs.size off ⟨db,dL⟩ (Jj _ rfl) λh' t kk=>⟨.int n0,H,I.kept (t':=t) λc o e=>kk c o (tk c o e).1 (Je _ (gk c o e)),⟨_,rfl⟩,q n0 (.inl ⟨rfl,rfl⟩)⟩
 have hpos:0<bd.toArray.size:=by rw[h_,hll];exact HY λz=>hn (EW z)
 refine ZN.EH (OT hh s.heap.objs.size a (t_ ii) bd.toArray) (cm _) g.objs.size off tk hpos ⟨db,dL⟩ (λc o e=>Je _ (gk c o e)) (Jj _ rfl) λy h' t hy kk=>?_;have kk':∀c o,s.heap.get? c=some o->h'.get? c=some o:=λc o e=>kk c o (tk c o e).1 (tk c o e).2 (Je _ (gk c o e));obtain⟨b1,b2⟩:=ZM.yw (bt:=gbI ns) (λi j k h1 h2=>by unfold gbI at h1 h2 ⊢;have h1:=of_decide_eq_true h1;have h2:=of_decide_eq_true h2;exact decide_eq_true (by omega)) (λi=>by unfold gbI;exact decide_eq_false (by omega)) (bd.toArray.size-1)
 rw[GK]at hy;obtain⟨m,t',rfl,em⟩:=at_ ia _ _ hy
 refine⟨.int m,H,I.kept (t':=t) kk',⟨_,rfl⟩,q m (.inr ⟨s_ em,λn hm=>?_⟩)⟩;obtain⟨j,hj,rfl⟩:=FF.mp hm;have this:decide (ns.getD j 0<ns.getD (Kj (gbI ns) (bd.toArray.size-1)) 0)=false:=b2 j (by rw[h_,hll];omega);rw[B',B',em,d_ hj]at this;have:=of_decide_eq_false this;exact Int.not_lt.mp this
theorem yS{e:Jn}{te:TE}{p1 pos1 kp vp:Pos}{kn:Nat}{n0:Int}(hc:X.calm=true)(hg1:Gl X "min")(hm1:X.mg "min"=none)(he:PE X e te)(hs1:Jo [e] X.env=[(false,JC e X.env)]:=by rfl) :
  PE X (.Call (.Name "min" p1) [e] [⟨some "default",(.Constant (.int n0) kn vp),kp⟩] pos1) (λσ H Q=>te σ H λx H1=>∃a ns,x=.ref a/\SqL X.K H1 a (ns.map V.int)/\∀m,(ns=[]/\m=n0\/m∈ns/\∀n∈ns,m<=n)->Q (.int m) H1):=by
 intro ac s σ H Q I h;refine JN (cU I hg1 hm1 boot_min (callWith_kw ?_ (by rw[hs1];rfl) (by rw[hs1];rfl) rfl rfl));rw[hs1];refine K7 (thn (he ac s σ H _ I h) ?_);rintro u s1 ⟨x,H1,I1,r1,l,ns,ex,hl,q⟩;subst ex;cases r1;refine Jd ?_;refine kws_cons (NS (kws_nil ?_));show Jf _ _ (call (.builtin "min") [.ref l] [(JZ "default",.int n0 _)]) _ _ _;exact xo hc (I1.tok _) hl q
end
end L2
namespace PL
open PySem PySem.Spec PyProof.Rows L2
noncomputable def E5:P2
 | .int i,.int j,k=>k (.int (Kw i j))
 | _,_,_=>False
def sE:PM
 | .lst true ts,[.int i],k=>(0<=i/\i<2 ^ 60)/\got (ts[i.toNat]?) λt=>k (.lst true (ts.eraseIdx i.toNat)) t
 | _,_,_=>False
def wa:P2
 | .lst true [t],.int n,k=>(0<=n/\n<=100000)/\k (.lst true (p_ n.toNat (er t)))
 | _,_,_=>False
def mnD(n0:Int):T->(T->Prop)->Prop
 | .lst _ ts,k=>got (intsOf ts) λns=>∀m,(ns=[]/\m=n0\/m∈ns/\∀n∈ns,m<=n)->k (.int m)
 | _,_=>False
noncomputable def DT:PSt:=λ_ _=>False
section
variable{X:Cx}{pos:Pos}{e:Jn}{es:List Jn}{fe:PF}{fr:PFs}{m:PM}{name:Str}{id:String}{apos io spos xp yp kp vp p1 pos1:Pos}{x:Str}{κ:Nat->Bool}{kn:Nat}
theorem DP:PIp X .BitOr (ipI λi j=>Kw i j):=by intro ac s σ H x y v u Q I r1 r2 h;obtain⟨i,j,e1,e2,q⟩:=h;subst e1;subst e2;obtain⟨t,rfl⟩:=r1;obtain⟨t',rfl⟩:=r2;exact ior_int ⟨.int _,H,I.tok _,⟨_,rfl⟩,q⟩
theorem lC:IpP X .BitOr E5:=by
 rintro ac s σ H x y v u Q I rx ry ⟨tx,ty,Γ,k,rp,g,c⟩;cases tx <;> cases ty <;> first|exact Jq g|skip
 rename_i i j;rw[aE rp]at ry;rw[aE rp.tail]at rx;exact DP ac s σ H _ _ v u Q I rx ry ⟨i,j,rfl,rfl,c _ _ _ g (bH rp.tail.tail λ_=>.int)⟩
theorem nM:∀{ts:List T}{vs:List V}{i:Nat}{t:T}{w:V},ts[i]?=some t->vs[i]?=some w->(zz ts vs).Perm ((t,some w)::zz (ts.eraseIdx i) (vs.eraseIdx i))
 | [],vs,i,t,w,e,f=>by simp at e
 |t::ts,[],i,_,w,e,f=>by simp at f
 |t::ts,v::vs,0,u,w,e,f=>by cases e;cases f;exact .refl _
 |t::ts,v::vs,i+1,u,w,e,f=>((nM (ts:=ts) (vs:=vs) (i:=i) e f).cons _).trans (.swap _ _ _)
theorem ni:MtP X "list.pop" sE:=by
 rintro ac s σ H x xs v us Q I rx r ⟨t,ts,Γ,k,l,rp,g,c⟩;unfold sE at g;split at g
 ·rename_i k ts i;obtain⟨y,rfl⟩:=zz1 l rfl;obtain⟨⟨h0,h1⟩,g⟩:=g;obtain⟨t,et,kt⟩:=aB g;obtain⟨a,vs,ea,ha,la,ce⟩:=eO rp;cases ea;have hy:y=.int i:=aE (ce.perm ((m_ _ _ _).cons _ |>.trans (.swap _ _ _)));subst hy;have hi:i.toNat<ts.length:=(b_.mp et).1;obtain⟨w,ew⟩:=pg la et;refine vS ac s σ H _ _ v us Q I rx r ⟨a,vs,i,i.toNat,w,rfl,rfl,ha,by omega,by omega,OX h0 (by rw[<-la];omega),ew,c _ _ _ _ kt ?_⟩;have cl:Rp X.K H ((.bare,some (.ref a))::(zz ts vs++Γ)):=by
   have:Rp X.K H ((.int i,some (.int i))::((.bare,some (.ref a))::(zz ts vs++Γ))):=ce.perm (by refine C_ (.cons _ e_) ?_;exact .swap _ _ _)
   exact this.tail
  have rp4:Rp X.K H ((.bare,some (.ref a))::(zz (ts.eraseIdx i.toNat) (vs.eraseIdx i.toNat)++((t,some w)::Γ))):=cl.perm (.cons _ (((nM et ew).append_right Γ).trans e_.symm));exact(dI rp4 (by rw[HJ,HJ,la]) Put.up).perm (.swap _ _ _)
 exact Jq g
theorem ug{H:Hp}{t:T}{v:V}{Γ:Fm}(n:aD t=true):∀(k:Nat),Rp X.K H ((t,some v)::Γ)->Rp X.K H (zz (p_ k t) (p_ k v)++((t,some v)::Γ))
 |0,h=>h
 |k+1,h=>by have:=ug n k h;have h2:=kj (this.perm (e_ (l₁:=zz (p_ k t) (p_ k v)))) n;exact h2.perm (.cons _ e_.symm)
theorem xS:OpP X (JQ .Mult) wa:=by
 rintro ac s σ H x y v u Q I rx ry ⟨tx,ty,Γ,k,rp,g,c⟩;unfold wa at g;split at g
 ·rename_i k t n;rw[aE rp]at ry;obtain⟨a,vs,ea,ha,la,ce⟩:=eO rp.tail;cases ea;cases vs with
  |nil=>cases la
  |cons w vs=>
   cases vs with
   |cons _ _=>cases la
   |nil=>
    have cl:Rp X.K H ((t,some w)::Γ):=ce.tail;have rp4:=ug (aG t) n.toNat (pC cl);have rp5:Rp X.K H (zz (p_ n.toNat (er t)) (p_ n.toNat w)++Γ):=(rp4.perm e_).tail;have sz:n.toNat<=sizeLine:=by rw[JG];omega
    refine Bd ac s σ H _ _ v u Q I rx ry ⟨a,n,[w],rfl,rfl,ha,by omega,by omega,by rw[F5,Nat.one_mul];exact sz,λp hp=>c _ _ _ g.2 ?_⟩;have ef:(p_ n.toNat [w]).flatten=p_ n.toNat w:=by
     generalize n.toNat=j;induction j with
     |zero=>rfl
     |succ j ih=>rw[Fb,F1,ih,Fb];rfl
    rw[ef];exact dU rp5 (by rw[F3,F3]) hp (aF hp _) aq
 exact Jq g
theorem zC{n0:Int}(hc:X.calm=true)(hg1:Gl X "min")(hm1:X.mg "min"=none)(he:GE X e fe)(hs1:Jo [e] X.env=[(false,JC e X.env)]:=by rfl) :
  GE X (.Call (.Name "min" p1) [e] [⟨some "default",.Constant (.int n0) kn vp,kp⟩] pos1) (fUn (mnD n0) fe):=by
 refine PE.imp (yS hc hg1 hm1 he hs1) ?_;rintro σ H Q ⟨env,Fr,k,rs,q,c⟩;refine⟨env,Fr,_,rs,q,λt al v H1 q1 cr=>?_⟩;cases t <;> first|exact Jq q1|skip
 obtain⟨ns,en,g⟩:=aB q1;have:=kF en;subst this;obtain⟨a,vs,rfl,hq,l,rp⟩:=ay rfl cr.head;have:=jD l rp;subst this;exact⟨a,ns,rfl,hq,λm hm=>c _ _ _ _ (g m hm) (.of cr.1 (bH cr.drop.2 λ_=>.int))⟩
theorem yd{st:JA}:GS κ X st DT:=by rintro ac s σ H D I ⟨env,Fr,pe,rs,q,c⟩;exact q.elim
end
theorem eN{i j:Int}{k:T->Prop}:E5 (.int i) (.int j) k=k (.int (Kw i j)):=rfl
variable {ts:List T}
theorem bN{i:Int}{k:T->T->Prop}:sE (.lst true ts) [.int i] k=((0<=i/\i<2 ^ 60)/\d7 (ts[i.toNat]?) (k:=⟨λt=>k (.lst true (ts.eraseIdx i.toNat)) t⟩)):=rfl
theorem cT{t:T}{n:Int}{k:T->Prop}:wa (.lst true [t]) (.int n) k=((0<=n/\n<=100000)/\k (.lst true (p_ n.toNat (er t)))):=rfl
theorem iz{n0:Int}{o:Bool}{k:T->Prop}:mnD n0 (.lst o ts) k=d7 (intsOf ts) (k:=⟨λns=>∀m,(ns=[]/\m=n0\/m∈ns/\∀n∈ns,m<=n)->k (.int m)⟩):=rfl
end PL
namespace L2
open PySem PySem.Spec PyProof.Rows
section
variable{X:Cx}{ac:List (I_×Obj)}{σ:St}{H:Hp}{s:Jc}
theorem zP{i:Int}{v:IY}(h:mE (.inl i) v=true):RelV (.int i) v:=by
 cases v with
 |int j t=>
  refine⟨t,?_⟩;have:(j == i)=true:=h;rw[eq_of_beq this]
 | _=>cases h
theorem rY(hc:X.calm=true):cf X (.type "list") (λxs H Q=>∃(d:I_) (am:List (Key×V)) (ks:List Int),xs=[.ref d]/\Rd H d (.dK am)/\am.map (·.1)=ks.map K4/\(ks.Nodup->New (.lst (ks.map V.int)) H Q)):=by
 intro ac s σ H xs us Q I r h;obtain⟨d,am,ks,rfl,hd,ek,q⟩:=h;obtain⟨u,rfl,ru⟩:=vals1 r;cases ru;obtain⟨z,lo,vs,rel,o,es,ep,g1,g2,g3,g4,g5,g6⟩:=nq I.hok hd;have key:∀{es:List K8}{vs:List (Key×IY)},Pairs (aL X.prog X.w) es vs->∀{ks:List Int},vs.map (·.1)=ks.map K4->Vals (ks.map V.int) (es.map (·.key)):=by
  intro es;induction es with
  |nil=>
   intro vs h ks e;cases h;cases ks with
   |nil=>exact .nil
   |cons=>cases e
  |cons en es ih=>
   intro vs h ks e;cases h with
   | @cons _ kv _ vs h1 h2 h3=>
    cases ks with
    |nil=>cases e
    |cons k ks=>
     rw[f',f',FZ]at e;refine .cons (zP ?_) (ih h3 e.2);rw[<-e.1];exact h1
 have e2:vs.map (·.1)=ks.map K4:=by rw[<-rel.keys];exact ek
 have vv:=key g5 e2;have hes:es.size=ks.length:=by have:=vv.length;rw[a_,a_,r_]at this;exact this.symm
 have hk:ks.length=am.length:=by have:=congrArg G3 ek;rw[a_,a_]at this;exact this.symm
 have nd:ks.Nodup:=by rw[e2]at g6;exact(F2.mp g6).imp λ{a b} h z=>h (by rw[z])
 refine PySem.W.kdl_call (ZG.yq lo g2 g3) (I.ok.hd hc) g1 (by lia) λh' tk acc c kp e it=>?_
 have hacc:acc.toList=es.toList.map (·.key):=by
  refine Ij λj=>?_;rw[v_,A_,v_];by_cases hj:j<acc.size
  ·obtain⟨en,e1,e2⟩:=it.2 j _ (j' hj);rw[j' hj,e1,e2]
   rfl
  rw[Fe (by lia),Fe (by have:=it.1;lia)]
  rfl
 have e':h'.get? s.heap.objs.size=some { cls:=.type "list",dict:=none,data:=.seq (es.toList.map (·.key)).toArray c,slots:=#[] }:=by rw[<-hacc];exact e
 exact⟨.ref s.heap.objs.size,_,I.laid (t':=tk) kp (c_ _) (show aR X.prog X.w _ h' _ (.lst (ks.map V.int))from⟨by rw[a_];lia,_,c,vv,e'⟩),rfl,(q nd).at (I.hok.fresh (c_ _))⟩
end
end L2
namespace PL
open PySem PySem.Spec PyProof.Rows L2
noncomputable def list1:P1s
 | [.dK _ am],k=>∃ks:List Int,am.map (·.1)=ks.map K4/\(ks.Nodup->k (.lst true (ks.map T.int)))
 | _,_=>False
theorem dX{o:Bool}{am:List (Key×T)}{k:T->Prop}:list1 [.dK o am] k=∃ks:List Int,am.map (·.1)=ks.map K4/\(ks.Nodup->k (.lst true (ks.map T.int))):=rfl
section
variable{X:Cx}
theorem qH(hc:X.calm=true):nF X (.type "list") list1:=by
 rintro ac s σ H xs us Q I r ⟨ts,Γ,k,l,rp,g,c⟩;unfold list1 at g;split at g
 ·rename_i k o am;obtain⟨x,rfl⟩:=zz1 l rfl;have rp:Rp X.K H ((.dK o am,some x)::Γ):=rp;obtain⟨a,vs,rfl,hq,ek,ce⟩:=oE rp;obtain⟨ks,e1,kt⟩:=g;refine rY hc ac s σ H _ us Q I r ⟨a,vs,ks,rfl,hq,by rw[<-ek];exact e1,λnd p H' hp g' e'=>?_⟩;exact c _ _ _ (kt nd) (dU (lg _ rp.tail) (by simp only[a_]) hp g' e')
 exact Jq g
end
end PL
namespace ZS
open PySem PyProof.Rows
variable {n:Nat}
theorem xH(h:n<64):Nn n n 0=n:=by
 cases n with
 |zero=>rfl
 |succ n=>rw[P7,if_pos (by first|exact h|(show _<_;lia)|decide)]
def t4(rk:JJ->Nat)(xs:Array JJ):Prop:=(∀i j,i<j->j<xs.size->R rk xs i<R rk xs j)\/∀i j,i<j->j<xs.size->R rk xs j<R rk xs i
noncomputable def Aa(rk:JJ->Nat)(vs:List IY):Prop:=vs.length<64\/(vs.length<=sizeLine/\(vs.Pairwise (λx y=>rk (x,x)<rk (y,y))\/vs.Pairwise (λx y=>rk (y,y)<rk (x,x))))
variable {Q:Option Nat->Jw->Prop}{st:Jw}
section
variable{M:Lg}{A:Jr}{E:IY->Jc->Prop}{s:Jc}{kd:Lj}{rk:JJ->Nat}{S:JJ->Prop}
theorem sk{q0:Nat}(L:l6 M A E s kd rk S)(hk:kindOf st=kd)(hS:iu S st)(hsz:q0<=(Jg st).size)(h2:2<=q0)(hs:∀i j,i<j->j<q0->R rk (Jg st) j<R rk (Jg st) i)(hr:∀x,Jf M A (rule x) (λ_ s'=>s'=s) E s)
  (h:∀ap,Within st ap 0 q0->cj rk (Jg ap) 0 q0->Q (some q0) ap):wpS M A E s (jY 0 1 q0) Q st:=by
 unfold jY;refine Jv (Ot (Js (hr _) (λ_ _ z=>⟨z,?_⟩) λ_ _ z=>z));dsimp only;refine Jv (Lk (Ku (I:=λx c ap=>ap=st/\c=(none,x,0)) (Q:=λc ap=>ap=st/\c=(none,q0,0)) ?_ ?_ ⟨rfl,rfl⟩) ?_)
 ·rintro x c db hx1 hx2 ⟨rfl,rfl⟩;dsimp only;refine Jv (cv L hk hS (by lia) (by lia) ?_);dsimp only;have w:=hs (x-1) x (by lia) hx2;rw[<-show 0+x-1=x-1 by lia]at w;rw[decide_eq_true (show R rk (Jg db) (0+x)<R rk (Jg db) (0+x-1) by rw[Fv]at w ⊢;exact w),if_pos rfl,if_neg (by decide)];exact JM ⟨rfl,rfl⟩
 ·rintro c db ⟨rfl,rfl⟩;rw[Ge h2];exact⟨rfl,rfl⟩
 rintro c db ⟨rfl,rfl⟩;dsimp only;rw[if_neg (by decide)];refine jS L hk hS (by rw[Fv];exact hsz) (by lia) (c_ _) (λi j i' hj=>?_) λn ap g1 g2 W o=>?_
 ·rw[Fv,Fv];rcases HZ i' with rfl|l
  ·exact c_ _
  exact Fc (hs i j l hj)
 have e:n=q0:=Gp g2 g1;subst e;exact h ap W o
theorem ph(L:l6 M A E s kd rk S)(hk:kindOf st=kd)(hS:iu S st)(h1:1<=(Jg st).size)(hr:∀x,Jf M A (rule x) (λ_ s'=>s'=s) E s)(hm:t4 rk (Jg st))
  (h:∀ap,Within st ap 0 (Jg st).size->cj rk (Jg ap) 0 (Jg st).size->Q (some (Jg st).size) ap):wpS M A E s (Mm 0 (Jg st).size) Q st:=by
 have up:cj rk (Jg st) 0 (Jg st).size->wpS M A E s (Mm 0 (Jg st).size) Q st:=λo=>oI L hk hS (by rw[Fv];exact c_ _) h1 o (h st .ck o)
 rcases hm with m|m
 ·refine up λi j i' hj=>?_;rw[Fv,Fv];rcases HZ i' with rfl|l
  ·exact c_ _
  exact Fc (m i j l hj)
 by_cases z:(Jg st).size=1
 ·refine up λi j i' hj=>?_;rw[show i=j by lia];exact c_ _
 generalize hq:(Jg st).size=q0 at *;rw[vL];dsimp only;refine Jv (Lk (Ku (I:=λx c ap=>ap=st/\c=(none,1)/\x=1) (Q:=λc ap=>ap=st/\c=(none,1)) ?_ ?_ ⟨rfl,rfl,rfl⟩) ?_)
 ·rintro x c db hx1 hx2 ⟨rfl,rfl,rfl⟩;dsimp only;refine Jv (cv L hk hS (by lia) (by lia) ?_);dsimp only;rw[decide_eq_true (show R rk (Jg db) (0+1)<R rk (Jg db) (0+1-1)from m 0 1 (by decide) hx2),if_pos rfl];exact JM ⟨rfl,rfl⟩
 ·rintro c db ⟨rfl,rfl,e⟩;lia
 rintro c db ⟨rfl,rfl⟩;dsimp only;rw[if_neg (by simpa using λe=>z e.symm),if_neg (by decide)];exact sk L hk hS (by lia) (by lia) m hr h
theorem rJ{sz:Nat}{Q:ForInStep LS->Jw->Prop}(hp:JL st=#[])(h:∀ap,Jg ap=Jg st->KD ap=KD st->(JL ap).size<=1->Q (Kb (none,0+n)) ap):wpS M A E s (tl sz 0 n) Q st:=by unfold tl;refine Jv (N5 ?_);rw[hp];show wpS M A E s (pb 0 n) _ st;unfold pb;refine Jv (ON (JM (h _ rfl rfl ?_)));show((JL st).push _).size<=1;rw[hp];exact c_ _
theorem oX(hn:(Jg st).size<64\/t4 rk (Jg st)){Q:Unit->Jw->Prop}(L:l6 M A E s kd rk S)(hS:∀p∈(Jg st).toList,S p)(hr:∀x,Jf M A (rule x) (λ_ s'=>s'=s) E s)(hk:kindOf st=kd)(hf:KD st=none)(hp:JL st=#[])
  (h:∀ap,(Jg ap).Perm (Jg st)->KD ap=none->Srt rk (Jg ap).toList->Q () ap):wpS M A E s sortRuns' Q st:=by
 rw[DK];refine Jv (N5 ?_);refine Jv (Lk (Ku (I:=λx c ap=>(x=0/\c=(none,0)/\ap=st)\/(c=(none,(Jg st).size)/\(Jg ap).Perm (Jg st)/\cj rk (Jg ap) 0 (Jg st).size/\KD ap=none/\(JL ap).size<=1)) (Q:=λc ap=>c.1=none/\(Jg ap).Perm (Jg st)/\cj rk (Jg ap) 0 (Jg st).size/\KD ap=none/\(JL ap).size<=1) ?_ ?_ (.inl ⟨rfl,rfl,rfl⟩)) ?_)
 ·rintro x c db _ hx (⟨rfl,rfl,rfl⟩|⟨rfl,g1,g2,g3,g4⟩)
  ·unfold jk;rw[if_neg (Nat.not_le.mpr hx),Nat.sub_zero];have fin:∀dL:Jw,Within db dL 0 (Jg db).size->cj rk (Jg dL) 0 (Jg db).size->∀f8,Jg f8=Jg dL->KD f8=KD dL->(JL f8).size<=1->((none,0+(Jg db).size):LS)=(none,(Jg db).size)/\(Jg f8).Perm (Jg db)/\cj rk (Jg f8) 0 (Jg db).size/\KD f8=none/\(JL f8).size<=1:=λdL W o f8 e1 e2 e3=>by rw[e1,e2,Fv];exact⟨rfl,W.kp.a,o,W.kp.f.trans hf,e3⟩
   rcases hn with hn|hm
   case inr=>
    refine Jv (ph L hk hS hx hr hm λdL W1 o1=>?_);dsimp only;have mr:¬(Jg db).size<Nn (Jg db).size (Jg db).size 0:=HH.mpr (sJ _ _ 0);rw[if_neg mr];exact rJ (W1.kp.p.trans hp) λst4 e1 e2 e3=>.inr (fin dL W1 o1 st4 e1 e2 e3)
   rw[xH hn,HV];refine Jv (qE L hk hS (by rw[Fv];exact c_ _) hx hr λn dL g1 g2 W1 o1=>?_);dsimp only;by_cases w:n<(Jg db).size
   ·rw[if_pos w];refine Jv (Ot (Js (hr _) (λ_ _ z=>⟨z,?_⟩) λ_ _ z=>z));refine Jv (yN L (W1.kp.k.trans hk) (iu.kp hS W1.kp) (by rw[W1.kp.size,Fv];exact c_ _) (Fc w) o1 λf8 W2 o2=>?_);rw[if_neg (by simp)];exact rJ ((W1.trans W2).kp.p.trans hp) λst4 e1 e2 e3=>.inr (fin f8 (W1.trans W2) o2 st4 e1 e2 e3)
   rw[if_neg w];have e:n=(Jg db).size:=Gp g2 (Fj w);rw[e]at o1 ⊢;exact rJ (W1.kp.p.trans hp) λst4 e1 e2 e3=>.inr (fin dL W1 o1 st4 e1 e2 e3)
  unfold jk;rw[if_pos (c_ _)];exact JM ⟨rfl,g1,g2,g3,g4⟩
 ·rintro c db (⟨e,rfl,rfl⟩|⟨rfl,g1,g2,g3,g4⟩)
  ·exact⟨rfl,Ht _,λi j _ hj=>by lia,hf,by rw[hp];exact ES _⟩
  exact⟨rfl,g1,g2,g3,g4⟩
 rintro⟨c,n⟩ db ⟨rfl,g1,g2,g3,g4⟩;dsimp only;refine Jv (Lk (Ku (I:=λx c ap=>c=(none,())/\ap=db) (Q:=λc ap=>c=(none,())/\ap=db) ?_ (λ_ _ z=>z) ⟨rfl,rfl⟩) ?_)
 ·rintro x c dL _ _ ⟨rfl,rfl⟩;unfold tH;refine Jv (N5 ?_);rw[if_pos g4];exact JM ⟨rfl,rfl⟩
 rintro c dL ⟨rfl,rfl⟩;refine JM (h dL g1 g3 ?_);have:=xh g2;rw[List.drop_zero,HB (by rw[r_,g1.size_eq];exact c_ _)]at this;exact this
end
variable {rk:JJ->Nat}{vs:List IY}
section
variable{prog:Ji}{w:Jm}{A:Jr}{E:IY->Jc->Prop}{s:Jc}
theorem xb{kd:Lj}(h:Aa rk vs):(Jg (MM kd (vs.toArray.zip vs.toArray) #[] 7 none)).size<64\/t4 rk (Jg (MM kd (vs.toArray.zip vs.toArray) #[] 7 none)):=by
 have hl:(vs.toArray.zip vs.toArray).size=vs.length:=by rw[<-r_,gx,a_]
 have at':∀i (hi:i<vs.length),R rk (vs.toArray.zip vs.toArray) i=rk (vs[i],vs[i]):=λi hi=>by
  unfold R;rw[<-v_,gx,A_,d_ hi]
  rfl
 show(vs.toArray.zip vs.toArray).size<64\/t4 rk (vs.toArray.zip vs.toArray);rcases h with h|⟨_,h|h⟩
 ·exact .inl (by rw[hl];exact h)
 ·refine .inr (.inl λi j i' hj=>?_);rw[hl]at hj;rw[at' i (by lia),at' j hj];exact FT.mp h i j _ hj i'
 refine .inr (.inr λi j i' hj=>?_);rw[hl]at hj;rw[at' i (by lia),at' j hj];exact FT.mp h i j _ hj i'
theorem yj{a:I_}{kd:Lj}{S:JJ->Prop}{P:PySem.Fin->Jc->Prop}(ho:s.heap.get? a=some (KJ "list" vs.toArray n))(hn:Aa rk vs)(hS:∀v∈vs,S (v,v))
  (kind:∀h',(∀b o,b≠a->s.heap.get? b=some o->h'.get? b=some o)->∀{Q:Lj->Jc->Prop},vs≠[]->Q kd {s with heap:=h'}->Jf (Jh prog w) A (P8 vs.toArray) Q E {s with heap:=h'})
  (lt:∀h',(∀b o,b≠a->s.heap.get? b=some o->h'.get? b=some o)->l6 (Jh prog w) A E {s with heap:=h'} kd rk S)
  (h:∀(o:List IY) c h',o.Perm vs->o.Pairwise (λx y=>rk (x,x)<=rk (y,y))->(∀b u,b≠a->s.heap.get? b=some u->h'.get? b=some u)->h'.get? a=some (KJ "list" o.toArray c)->P (.done (.ret .none)) {s with heap:=h'}) :
  Jf (Jh prog w) A (Kq.«list.sort» ⟨[.ref a],[]⟩) P E s:=by
 have hz:vs.length<=sizeLine:=hn.elim (λh=>by rw[JG];lia) (·.1);rw[list_sort_plain];have ha:a<s.heap.objs.size:=Jl ho;refine IZ (listItems_at ho rfl ?_);refine IZ (PC ho rfl ?_ (by rw[h_];exact hz) (ES _));obtain⟨e1,ho1⟩:∃e1,(s.heap.update a (Kc λ_=>(#[]:Array IY))).get? a=some (KJ "list" #[] e1):=⟨_,OU ho λ_=>#[]⟩;refine IZ (Qr ho1 rfl ?_);refine IZ (wpAny_newTuple ?_ hz);refine IZ (My ?_ (ES _));refine Jy ?_;have k2:∀b u,(s.heap.update a (Kc λ_=>(#[]:Array IY))).get? b=some u->(((s.heap.update a (Kc λ_=>(#[]:Array IY))).push (KJ "tuple" vs.toArray 0)).push (KJ "list" #[] 0)).get? b=some u:=λb u e=>Je _ (Je _ e);have k3:∀b u,b≠a->s.heap.get? b=some u->(((s.heap.update a (Kc λ_=>(#[]:Array IY))).push (KJ "tuple" vs.toArray 0)).push (KJ "list" #[] 0)).get? b=some u:=λb u hb e=>k2 b u (by rw[NR _ _ _ _ hb];exact e)
 have ho6:=k2 _ _ ho1;show Jf (Jh prog w) A _ P E {s with heap:=((s.heap.update a (Kc λ_=>(#[]:Array IY))).push (KJ "tuple" vs.toArray 0)).push (KJ "list" #[] 0) };generalize ((s.heap.update a (Kc λ_=>(#[]:Array IY))).push (KJ "tuple" vs.toArray 0)).push (KJ "list" #[] 0)=h1 at k3 ho6 ⊢;dsimp only;have fin:∀ap:Jw,(Jg ap).Perm (vs.toArray.zip vs.toArray)->Srt rk (Jg ap).toList->KD ap=none->Jf (Jh prog w) A (do
   let touched:=(<-seqEpoch a) != e1
   Qf (.ref a) λ_=>(Jg ap).map (·.2)
   if let some e:=KD ap then rule "list.sort.comparison-raised";throw e
   if touched then rule "list.sort.modified";raiseError "ValueError" "list modified during sort"
   ret .none) P E {s with heap:=h1}:=λap hp hs hf=>by
  have lp:(Jg ap).toList.Perm (vs.map λv=>(v,v)):=by have:=G'.mp hp;rw[gx]at this;exact this
  have op:((Jg ap).toList.map (·.2)).Perm vs:=by have:=lp.map (·.2);rw[Fp,show((λx:JJ=>x.2) ∘ λv:IY=>(v,v))=id from rfl,Il]at this;exact this
  have tw:∀p∈(Jg ap).toList,p=(p.2,p.2):=λp hp=>by obtain⟨v,_,e⟩:=EV.mp (lp.mem_iff.mp hp);rw[<-e]
  have osr:((Jg ap).toList.map (·.2)).Pairwise (λx y=>rk (x,x)<=rk (y,y)):=by rw[F2];refine Hl (λ{p q} hp hq hr=>?_) hs;rw[<-tw p hp,<-tw q hq];exact hr
  have os:((Jg ap).map (·.2)).size<=sizeLine+1:=by rw[<-r_,Ip,op.length_eq];lia
  refine IZ (Qr ho6 rfl ?_);refine IZ (PC ho6 rfl ?_ (ES _) os);rw[hf];simp only[bne_self_eq_false,Fl,if_false];obtain⟨c,hc⟩:∃c,(h1.update a (Kc λ_=>(Jg ap).map (·.2))).get? a=some (KJ "list" ((Jg ap).toList.map (·.2)).toArray c):=by have:=OU ho6 λ_=>(Jg ap).map (·.2);rw[show((Jg ap).toList.map (·.2)).toArray=(Jg ap).map (·.2) by rw[<-Ip]];exact⟨_,this⟩
  refine Jd (h _ c _ op osr (λb u hb e=>?_) hc);rw[NR _ _ _ _ hb];exact k3 b u hb e
 by_cases h2:vs.toArray.size<2
 ·rw[if_pos h2,if_pos h2];refine IZ (Jd ?_);rw[StateT.run_pure];refine IZ (Jd ?_);refine fin (MM general' (vs.toArray.zip vs.toArray) #[] 7 none) (Ht _) ?_ rfl;show Srt rk (vs.toArray.zip vs.toArray).toList;rw[gx];have h3:vs.length<2:=h2;clear fin h lt kind hS ho
  match vs,h3 with
  | [],_=>exact .nil
  | [v],_=>exact Gy _ _
  | _::_::_,h3=>exact absurd h3 (by rw[g_,g_];lia)
 rw[if_neg h2,if_neg h2];refine IZ (kind h1 k3 (λz=>by rw[z]at h2;simp at h2) ?_);refine IZ (Js (oX (xb hn) (st:=MM kd (vs.toArray.zip vs.toArray) #[] 7 none) (Q:=λ_ ap=>(Jg ap).Perm (vs.toArray.zip vs.toArray)/\KD ap=none/\Srt rk (Jg ap).toList) (lt h1 k3) (λp hp=>?_) (λx=>LI rfl) rfl rfl rfl λap a1 a2 a3=>⟨a1,a2,a3⟩) ?_ λ_ _ e=>e)
 ·rw[show(Jg (MM kd (vs.toArray.zip vs.toArray) #[] 7 none))=vs.toArray.zip vs.toArray from rfl,gx]at hp;obtain⟨v,hv,e⟩:=EV.mp hp;rw[<-e];exact hS v hv
 rintro⟨⟨⟩,ap⟩ s' ⟨rfl,hp,hf,hs⟩;exact fin ap hp hs hf
end
end ZS
namespace ZT
open PySem PyProof.Rows
section
variable{prog:Ji}{w:Jm}{A:Jr}{E:IY->Jc->Prop}{s:Jc}
theorem pI{a:I_}{o:Obj}{ks:List Int}{es:Array (Int×IY)}{ep:Nat}{t:JS}{Q:IY->Jc->Prop}(ho:s.heap.get? a=some o)(I:SI prog w o ks es ep t)(hh:A.handled=none)(hn:ks.length<64)
  (h:∀(out:List IY) (ms:List Int) p c h' tk d,IntsAre out ms->ms.Perm ks->ms.Pairwise (·<=·)->s.heap.objs.size<=p->(∀b u,s.heap.get? b=some u->h'.get? b=some u)->h'.get? p=some (KJ "list" out.toArray c)->Q (.ref p) {s with heap:=h',drawn:=d,toks:=tk}) :
  Jf (Jh prog w) A (call (.builtin "sorted") [.ref a]) Q E s:=by
 refine MK kind_sorted plain_sorted entry_sorted (args_sorted1 _) ?_;unfold Kq.«sorted»;refine IZ (m:=checkCount "sorted" 1 1 _) (Jd ?_);refine IZ (qb ho I hh λh0 tk d vs le k0 pm=>?_);obtain⟨ns,hI,kp⟩:=gG pm.symm I.rd;obtain⟨keys,each⟩:=kx hI;have hz:vs.length<=sizeLine:=by rw[pm.length_eq,a_,r_];exact Lc I.sm
 have hn':vs.length<64:=by have:=gD I.rd;rw[a_,r_]at this;rw[pm.length_eq,a_,r_];omega
 refine IZ (My ?_ hz);have hoL:(h0.push (KJ "list" vs.toArray 0)).get? h0.objs.size=some (KJ "list" vs.toArray 0):=Jj _ rfl;have keep:∀b o,s.heap.get? b=some o->(h0.push (KJ "list" vs.toArray 0)).get? b=some o:=λb o q=>Je _ (k0 b o q);show Jf _ _ _ _ _ {s with heap:=h0.push (KJ "list" vs.toArray 0),drawn:=d,toks:=tk};have ne:∀b o,s.heap.get? b=some o->b≠h0.objs.size:=λb o e=>t_ (Jl (k0 b o e));generalize h0.push (KJ "list" vs.toArray 0)=h1 at hoL keep ⊢;refine IZ (Jy (JV slot_list_sort ⟨_,hoL,rfl⟩ entry_list_sort ?body (args_list_sort _)))
 case body=>
  refine ZS.yj (s:={s with heap:=h1,drawn:=d,toks:=tk}) (kd:=Ou) (rk:=λx=>ZS.rnk ZS.ltI ns (ZS.qO x.1)) (S:=λx=>x.1∈vs) hoL (.inl hn') (λv hv=>hv) (λh' k {Q} gl q=>?_) (λh' k=>ZS.vZ λx hx=>each _ hx) λout c h' g1 g2 g3 g4=>?_
  ·obtain⟨v1,vs',ev⟩:=Hb gl;rw[ev]at hI ⊢;exact ZS.wU hI q
  obtain⟨ms,om,mp⟩:=gG g1.symm hI;have eo:=(kx om).1;refine⟨_,rfl,Jd ⟨_,rfl,h out ms _ c h' tk d om (mp.symm.trans kp.symm) ?_ le (λb u e=>g3 b u (ne b u e) (keep b u e)) g4⟩⟩;rw[<-eo,F2];refine Hl (λ{x y} hx hy hxy=>?_) g2;by_cases z:ZS.qO x<=ZS.qO y
  ·exact z
  have:=ZS.xT ZS.CM (ks:=ns) (a:=ZS.qO y) (b:=ZS.qO x) (by rw[<-keys];exact List.mem_map_of_mem (g1.mem_iff.mp hy)) (decide_eq_true (by omega));exact absurd this (HH.mpr hxy)
end
end ZT
namespace L2
open PySem PySem.Spec PyProof.Rows
theorem BA{l m:List Int}(nd:l.Nodup)(h:∀z∈l,z∈m):l.length<=m.length:=by
 induction l generalizing m with
 |nil=>exact ES _
 |cons a l ih=>
  obtain⟨n1,n2⟩:=y_.mp nd;have hm:a∈m:=h a q_;have:=ih (m:=m.erase a) n2 λz hz=>(HK (λe:z=a=>n1 (by rw[<-e];exact hz))).mpr (h z (i_ _ hz))
  rw[Hm hm]at this;have:=HC hm;rw[g_];omega
section
variable{X:Cx}
theorem rV{e:Jn}{te:TE}{p1 p2 pos1 jp:Pos}(hc:X.calm=true)(hg1:Gl X "sorted")(hm1:X.mg "sorted"=none)(hg2:Gl X "set")(hm2:X.mg "set"=none)(he:PE X e te)
  (hs1:Jo [e] X.env=[(false,JC e X.env)]:=by rfl) (hs2:Jo [.Call (.Name "set" p2) [e] [] jp] X.env=[(false,JC (.Call (.Name "set" p2) [e] [] jp) X.env)]:=by rfl) :
  PE X (.Call (.Name "sorted" p1) [.Call (.Name "set" p2) [e] [] jp] [] pos1) (λσ H Q=>te σ H λx H1=>∃l,∃ns:List Int,x=.ref l/\SqL X.K H1 l (ns.map V.int)/\ns.length<64/\∀ms:List Int,ms.Pairwise (·<·)->(∀z,z∈ms↔z∈ns)->New (.lst (ms.map V.int)) H1 Q):=by
 intro ac s σ H Q I h;refine JN (cU I hg1 hm1 boot_sorted (callWith_builtin1 ?_ (by rw[hs2];rfl) rfl));rw[hs2];refine K7 ?_;refine JN (cU I hg2 hm2 boot_set (callWith_type1 ?_ (by rw[hs1];rfl) rfl));rw[hs1];refine K7 (thn (he ac s σ H _ I h) ?_);rintro u s1 ⟨x,H1,I1,r1,l,ns,ex,hl,hz,q⟩;subst ex;cases r1;obtain⟨bd,rv,pl,_⟩:=I1.list hl;have hI:=intsAre_of rv;have ln:=ZT.gD hI;refine Jd (ZT.wx (items:=bd.toArray) (ns:=ns) (I1.ok.hd hc) pl.isList hI (by unfold scanBound;rw[h_];omega) λh' tk SG kp=>?_);have k1:∀b o,s1.heap.get? b=some o->h'.get? b=some o:=λb o e=>kp b o (Jl e) e;have I2:Inv X ac σ H1 {s1 with heap:=h',toks:=tk}:=I1.kept (t':=tk) k1;obtain⟨o,ks,es,ep,t,ho,SI,mem,_⟩:=SG;refine Jd (ZT.pI ho SI (I2.ok.hd hc) (Fx (BA SI.nd λz m=>(mem z).mp m) hz) λout ms p c h2 tk2 d om pm so le k2 e2=>?_);have hz2:ms.length<=16777216:=by have a:=SI.sm;have b:=ZT.gD SI.rd;rw[a_,r_]at b;rw[pm.length_eq];unfold scanBound at a;omega
 have I3:=(I2.drw (d:=d)).laid (a:=p) (o:=.lst (ms.map V.int)) (t':=tk2) k2 le (show aR X.prog X.w _ h2 _ (.lst (ms.map V.int))from⟨by rw[a_];exact hz2,out,c,vj om,e2⟩);refine⟨.ref p,_,I3,rfl,(q ms ?_ λz=>?_).at (I2.hok.fresh le)⟩
 ·have nd:=pm.nodup_iff.mpr SI.nd;exact(List.Pairwise.and so nd).imp λ⟨a,b⟩=>by omega
 rw[pm.mem_iff];exact mem z
end
end L2
namespace PL
open PySem PySem.Spec PyProof.Rows L2
section
variable{X:Cx}
def Dx:T->(T->Prop)->Prop
 | .lst _ ts,k=>got (intsOf ts) λns=>ns.length<64/\∀ms:List Int,ms.Pairwise (·<·)->(∀z,z∈ms↔z∈ns)->k (.lst true (ms.map T.int))
 | _,_=>False
theorem mU{e:Jn}{fe:PF}{p1 p2 pos1 jp:Pos}(hc:X.calm=true)(hg1:Gl X "sorted")(hm1:X.mg "sorted"=none)(hg2:Gl X "set")(hm2:X.mg "set"=none)(he:GE X e fe)
  (hs1:Jo [e] X.env=[(false,JC e X.env)]:=by rfl) (hs2:Jo [.Call (.Name "set" p2) [e] [] jp] X.env=[(false,JC (.Call (.Name "set" p2) [e] [] jp) X.env)]:=by rfl) :
  GE X (.Call (.Name "sorted" p1) [.Call (.Name "set" p2) [e] [] jp] [] pos1) (fUn Dx fe):=by
 refine PE.imp (rV hc hg1 hm1 hg2 hm2 he hs1 hs2) ?_;rintro σ H Q ⟨env,Fr,k,rs,q,c⟩;refine⟨env,Fr,_,rs,q,λt al v H1 q1 cr=>?_⟩;cases t <;> first|exact Jq q1|skip
 obtain⟨ns,en,z,g⟩:=aB q1;have et:=kF en;subst et;obtain⟨a,vs,rfl,hq,l,rp⟩:=ay rfl cr.head;have ev:=jD l rp;subst ev;exact⟨a,ns,rfl,hq,z,λms h1 h2 p H' hp g' e=>c _ _ _ _ (g ms h1 h2) (.of cr.1 (dU (lg ms cr.drop.2) (by rw[a_,a_]) hp g' e))⟩
theorem fH{o:Bool}{ts:List T}{k:T->Prop}:Dx (.lst o ts) k=d7 (intsOf ts) (k:=⟨λns=>ns.length<64/\∀ms:List Int,ms.Pairwise (·<·)->(∀z,z∈ms↔z∈ns)->k (.lst true (ms.map T.int))⟩):=rfl
end
end PL
namespace L2
open PySem PySem.Spec PyProof.Rows
noncomputable def Tr(h:Jp)(e T:I_)(cls:IY):Prop:=
 ∃oe vs oT ts a0,h.get? e=some oe/\(oe.cls=cls/\vs[0]?=some a0)/\oe.data=.fields vs/\vs[1]?=some (.ref T)/\T≠e/\h.get? T=some oT/\oT.data=.fields ts/\ts[3]?=some .none
def CXr(P:Ji)(w:Jm)(C:I_):CXT:=λouter H s E e s'=>∃ea T H',e=.ref ea/\s'.os=s.os/\Lp s'.gens/\Un (frs outer) [] H H' s.heap s'.heap/\HOk P w H' s'.heap/\
 H' ea=none/\H' T=none/\s.heap.get? ea=none/\s.heap.get? T=none/\Tr s'.heap ea T (.ref C)/\E (.ref C) none H'
section
variable{P:Ji}{w:Jm}{H:Hp}{h h':Jp}{a b:I_}{o:HO}
theorem HOk.there (x:HOk P w H h)(e:H a=some o):∃u,h.get? a=some u:=by
 have y:=x a o e;clear x e;cases o with
 |lst xs=>obtain⟨_,_,_,_,e⟩:=y;exact⟨_,e⟩
 |tup xs=>obtain⟨_,_,_,ob,e,_⟩:=y;exact⟨_,e⟩
 |dK am=>obtain⟨_,_,_,_,o,_,_,e,_⟩:=y;exact⟨_,e⟩
 |dT am=>obtain⟨_,_,_,_,o,_,_,e,_⟩:=y;exact⟨_,e⟩
 |set S n=>obtain⟨o,_,_,_,e,_⟩:=y;exact⟨_,e⟩
 |ins C dx fs=>obtain⟨_,_,_,e,_⟩:=y;exact⟨_,e⟩
 |own y=>exact y
 |xd fs=>obtain⟨_,⟨_,_,_,e,_⟩,_⟩:=y;exact⟨_,e⟩
 |rng lo hi=>obtain⟨_,_,_,e⟩:=y;exact⟨_,e⟩
 |frz ob u=>exact⟨_,y.1⟩
 |tbl ps=>exact⟨_,show h.get? a=some _ from y⟩
 |met f z=>exact⟨_,show h.get? a=some _ from y⟩
 |ext φ=>exact y.2.1
theorem HOk.absent (x:HOk P w H h)(e:h.get? a=none):H a=none:=by
 cases q:H a with
 |none=>rfl
 |some u=>
  obtain⟨v,hv⟩:=x.there q;rw[e]at hv;cases hv
theorem HOk.tm (x:HOk P w H h)(k:∀b u,H b≠none->h.get? b=some u->h'.get? b=some u):HOk P w H h':=λa o e=>
 (x a o e).mV (λb u z q=>k b u (z.elim (λy=>by rw[y,e];exact nofun) λy=>by rw[y];exact nofun) q) (λ_ q=>q) λ_ _ q=>q
end
theorem gF{base h:Jp}{as:List I_}:∀{l:List Env},h.FunFrames base l->(∀b∈frs l,b∈as)->h.FunFrames (K6 h as) l
 | [],_,_=>trivial
 |env::r,⟨hk,⟨L,o,hf,_,ho,hd⟩,hr⟩,hin=>by
  have e:frs (env::r)=L::frs r:=by unfold frs;rw[FJ,hf]
  rw[e]at hin;exact⟨hk,⟨L,o,hf,Lf _ (hin L (.head _)),ho,hd⟩,gF hr λb hb=>hin b (.tail _ hb)⟩
variable {as:List I_}
section
variable{X:Cx}{ac:List (I_×Obj)}{σ:St}{H H':Hp}{s s':Jc}{e:I_}{C:I_}
theorem mG{h1 h2:Jp}{l:List Env}(hl:h1.FunFrames X.base l)(u:Un (frs l) [] H H' s.heap h1)(ha:∀b,b∈as->b∈frs l\/s.heap.get? b=none)(k:(K6 h1 as).StaysIn h2)(sm:h1.UpToSlots h2):Un (frs l) [] H H' s.heap h2 where
 keep:=λb o e n hb _=>k b o (Kz _ (u.keep b o e n hb (by simp)) λz=>(ha b z).elim hb λy=>by rw[e]at y;cases y)
 slot:=λb o e n hb _=>by obtain⟨sl,e1⟩:=u.slot b o e n hb (by simp);obtain⟨_,o',e2,nf⟩:=hl.mem hb;rw[e1]at e2;cases e2;obtain⟨sl',e3⟩:=sm b _ e1 nf;exact⟨sl',e3⟩
 free:=u.free
 there:=λb o e _=>by
  obtain⟨o',e1⟩:=u.there b o e (by simp);by_cases hb:b∈frs l
  ·obtain⟨_,o2,e2,nf⟩:=hl.mem hb;obtain⟨sl',e3⟩:=sm b o2 e2 nf;exact⟨_,e3⟩
  exact⟨o',k b o' (Kz _ e1 λz=>(ha b z).elim hb λy=>by rw[e]at y;cases y)⟩
 tups:=u.tups
 frzs:=u.frzs
 tbls:=u.tbls
theorem Af{h1 h2:Jp}{l:List Env}{T:I_}{oT:Obj}{ts:Array IY}(hl:h1.FunFrames X.base l)(sm:h1.UpToSlots h2)(ha:∀b,b∈as->b∈frs l\/h1.get? b=none\/(s.heap.get? b=none/\H' b=none))(u:Un (frs l) [] H H' s.heap h1)(ok:HOk X.prog X.w H' h1)
  (hT:(K6 h1 as).get? T=none) (g:h2.get? T=some oT) (d:oT.data=.fields ts):H' T=none/\s.heap.get? T=none:=by
 have nf:T ∉ frs l:=λz=>by obtain⟨_,o2,e2,nf⟩:=hl.mem z;obtain⟨sl',e3⟩:=sm T o2 e2 nf;rw[g]at e3;cases e3;exact nf _ d
 have key:h1.get? T=none->H' T=none/\s.heap.get? T=none:=λz=>⟨ok.absent z,by
  cases q:s.heap.get? T with
  |none=>rfl
  |some o=>
   obtain⟨o',e1⟩:=u.there T o q (by simp);rw[z]at e1;cases e1⟩
 by_cases hm:T∈as
 ·rcases ha T hm with z|z|z
  ·exact absurd z nf
  ·exact key z
  exact⟨z.2,z.1⟩
 refine key ?_;cases q:h1.get? T with
 |none=>rfl
 |some o=>rw[Kz _ q hm]at hT;cases hT
end
section
variable{P:Ji}{w:Jm}{K:Ja}{mg:Str->Option IY}{base:Jp}{N:List Str}{qual:Str}{scope:JX}{f C:I_}{cd:IY}{A:Jr}{outer:List Env}{s s1 s':Jc}{H H1:Hp}{E:XK}{ac:List (I_×Obj)}{σ:St}{e:I_}{args:List IY}
theorem xq{h':Jp}{e T:I_}(J:Inv (gm (CXr P w C) P w K mg base N qual scope f cd A outer s H E) ac σ H1 {s1 with heap:=h'})(h1:H1 e=none)(h2:H1 T=none)(h3:s.heap.get? e=none)(h4:s.heap.get? T=none)(tr:Tr h' e T (.ref C))(x:E (.ref C) none H1):CXr P w C outer H s E (.ref e) {s1 with heap:=h'}:=
 ⟨e,T,H1,rfl,J.os,J.bare,J.base,J.hok,h1,h2,h3,h4,tr,x⟩
theorem qB(I:Inv (gm (CXr P w C) P w K mg base N qual scope f cd A outer s H E) ac σ H1 s1){h':Jp}(hm:O9 s1.heap h' e (.ref C) args)(x:E (.ref C) none H1) :
  (gm (CXr P w C) P w K mg base N qual scope f cd A outer s H E).xe (.ref e) {s1 with heap:=h'}:=by
 have hl:=I.stack;have old:∀{b},s1.heap.get? b=none->s.heap.get? b=none:=λ{b} z=>by
  cases q:s.heap.get? b with
  |none=>rfl
  |some o=>
   obtain⟨o',e1⟩:=I.base.there b o q (by exact λy=>nomatch y);rw[z]at e1;cases e1
 have hb:=gF (as:=frs (Kn qual scope s.heap.objs.size f cd::outer)) hl λb hb=>hb;refine wpAny_leaves_madeW (s:={s1 with heap:=h'}) (base:=K6 s1.heap (frs (Kn qual scope s.heap.objs.size f cd::outer))) I.ok.frames rfl (λb o q=>Mj _ q) hb hm λh2 t fl tp _ sm=>?_;obtain⟨k,ke,_,oe,vs,T,oT,ts,g1,g2,g3,g4,g5,g6,g7,g8,g9⟩:=fl;have sm2:s1.heap.UpToSlots h2:=(Qg hm.keeps).trans sm;have u:Un (frs (Kn qual scope s.heap.objs.size f cd::outer)) [] H1 H1 s1.heap h2:=mG (s:=s1) hl Un.refl (λb z=>.inl z) k sm2;obtain⟨t1,t2⟩:=Af (s:=s1) hl sm2 (λb z=>.inl z) Un.refl I.hok g5 g7 g8;have ok:HOk P w H1 h2:=I.hok.tm λb o n q=>k b o (Kz _ q λz=>n (I.jy b z));have J:=Inv.call (ch:=[]) (g':=s1.gens) (d':=s1.drawn) (t':=s1.toks) I u ok I.bare (λ_ z=>nomatch z);exact xq J (I.hok.absent hm.new) t1 (old hm.new) (old t2) ⟨oe,vs,oT,ts,_,g1,g2,g3,g4,g6,g7,g8,g9⟩ x
theorem qD{E':XK}{ev:IY}(I:Inv (gm (CXr P w C) P w K mg base N qual scope f cd A outer s H E) ac σ H1 s1)(z:CXr P w C (Kn qual scope s.heap.objs.size f cd::outer) H1 s1 E' ev s')(x:∀H',E' (.ref C) none H'->E (.ref C) none H') :
  (gm (CXr P w C) P w K mg base N qual scope f cd A outer s H E).xe ev s':=by
 obtain⟨e,T,H',rfl,os,bare,u,ok,n1,n2,n3,n4,tr,x'⟩:=z;have J0:=I.mw (H':=H') (ch:=[]) os u ok bare (λ_ z=>nomatch z);have hl:=J0.stack;have old:∀{b},s1.heap.get? b=none->s.heap.get? b=none:=λ{b} z=>by
  cases q:s.heap.get? b with
  |none=>rfl
  |some o=>
   obtain⟨o',e1⟩:=I.base.there b o q (by exact λy=>nomatch y);rw[z]at e1;cases e1
 obtain⟨oe,vs,oT,ts,a0,g1,g2,g3,g4,g6,g7,g8,g9⟩:=tr;have inB:∀b∈frs (Kn qual scope s.heap.objs.size f cd::outer),b∈e::T::frs (Kn qual scope s.heap.objs.size f cd::outer):=λb hb=>.tail _ (.tail _ hb);have hb:=gF (as:=e::T::frs (Kn qual scope s.heap.objs.size f cd::outer)) hl inB;have cs:∀b,b∈e::T::frs (Kn qual scope s.heap.objs.size f cd::outer)->b∈frs (Kn qual scope s.heap.objs.size f cd::outer)\/(s1.heap.get? b=none/\H' b=none):=λb hb=>by
  rcases k_.mp hb with rfl|hb
  ·exact .inr ⟨n3,n1⟩
  rcases k_.mp hb with rfl|hb
  ·exact .inr ⟨n4,n2⟩
  exact .inl hb
 refine wpAny_leaves_onW (base:=K6 s'.heap (e::T::frs (Kn qual scope s.heap.objs.size f cd::outer))) I.ok.frames rfl
  ⟨λb o q=>Mj _ q,Lf _ (.head _),hb,oe,vs,T,oT,ts,g1,g2,g3,g4,Lf _ (.tail _ (.head _)),g6,g7,g8,g9⟩ λh2 fl sm=>?_
 obtain⟨k,_,_,oe',vs',T',oT',ts',k1,k2,k3,k4,k5,k6,k7,k8,k9⟩:=fl;have u2:=mG (s:=s1) hl u (λb z=>(cs b z).imp id λy=>y.1) k sm;obtain⟨t1,t2⟩:=Af (s:=s1) hl sm (λb z=>(cs b z).imp id .inr) u ok k5 k7 k8;have ok2:HOk P w H' h2:=ok.tm λb o n q=>k b o (Kz _ q λz=>(cs b z).elim (λy=>n (J0.jy b y)) λy=>n y.2);have J:=I.mw (H':=H') (s':={s' with heap:=h2}) (ch:=[]) os u2 ok2 bare (λ_ z=>nomatch z);have J':Inv (gm (CXr P w C) P w K mg base N qual scope f cd A outer s H E) ac σ H' {s' with heap:=h2}:=J;exact xq (s1:=s') J' n1 t1 (old n3) (old t2) ⟨oe',vs',oT',ts',a0,k1,k2,k3,k4,k6,k7,k8,k9⟩ (x _ x')
end
end L2
namespace PL
open PySem PySem.Spec PyProof.Rows L2
structure Rz (X:Cx) (C:I_) (Z:Hp->Prop):Prop where
 made:∀{ac:List (I_×Obj)}{σ:L2.St}{H:Hp}{s:Jc}{h':Jp}{e:I_}{args:List IY},Inv X ac σ H s->O9 s.heap h' e (.ref C) args->Z H->X.xe (.ref e) {s with heap:=h'}
 pass:∀{ac:List (I_×Obj)}{σ:L2.St}{H:Hp}{s s':Jc}{E':XK}{ev:IY},Inv X ac σ H s->CXr X.prog X.w C X.stack H s E' ev s'->(∀H',E' (.ref C) none H'->Z H')->X.xe ev s'
variable {C:I_}{K:Ja}{N:List Str}{base:Jp}{mg:Str->Option IY}{w:Jm}
theorem kQ{P:Ji}{qual:Str}{scope:JX}{f:I_}{cd:IY}{A:Jr}{outer:List Env}{s:Jc}{H:Hp}{E:XK} :
  Rz (gm (CXr P w C) P w K mg base N qual scope f cd A outer s H E) C (λH'=>E (.ref C) none H'):=⟨λI hm z=>qB I hm z,λI z x=>qD I z x⟩
def wZ(K:Ja)(κ:Nat->Bool)(Z:Hp->Prop)(f:PSt):TS:=λD σ H=>∃env Fr pe,Rs K H env σ Fr/\f pe env/\EndOk K κ σ Fr {pe with bk:=λ_=>False} D/\∀be bv H',pe.bk be->Rs K H' be bv Fr->Kept κ σ bv->Z H'
def GSz(κ:Nat->Bool)(X:Cx)(Z:Hp->Prop)(st:JA)(f:PSt):Prop:=PS X st (wZ X.K κ Z f)
def qy(κ:Nat->Bool)(X:Cx)(Z:Hp->Prop)(sts:List JA)(f:PSt):Prop:=PSs X sts (wZ X.K κ Z f)
theorem PS.nox {X:Cx}{st:JA}{t:TS}(h:PS X.nox st t):PS X st t:=λac s σ H D I hw=>
 Js (h ac s σ H D (I.jQ _) hw) (λ_ _ q=>q.cR) λ_ _ z=>Jq z
variable {es:List Jn}
theorem PA.nox {X:Cx}{t:TA}(h:PA X.nox es t):PA X es t:=λpos ac s σ H Q I hw=>
 Js (h pos ac s σ H Q (I.jQ _) hw) (λ_ _ ⟨vs,H',J,r,q⟩=>⟨vs,H',J.cR,r,q⟩) λ_ _ z=>Jq z
variable {P:List T->Prop}{ps:List Str}{vs:List V}{x:Str}
section
variable{X:Cx}{κ:Nat->Bool}{Z:Hp->Prop}{pos:Pos}{st:JA}{rest:List JA}{f g:PSt}
theorem xD:qy κ X Z [] xg:=PSs.imp jr (by rintro D σ H ⟨env,Fr,pe,rs,q,c,_⟩;exact c.nx _ _ _ q rs .refl)
theorem bS(h1:GSz κ X Z st f)(h2:qy κ X Z rest g):qy κ X Z (st::rest) (BX f g):=by refine PSs.imp (aN h1 h2) ?_;rintro D σ H ⟨env,Fr,pe,rs,q,c,z⟩;refine⟨env,Fr,{pe with nx:=g pe},rs,q,⟨λbe bv H' q1 cr k1=>⟨be,Fr,pe,cr,q1,c.later k1,λa b d p r k=>z a b d p r (k1.trans k)⟩,c.rt,c.bk,c.ct⟩,z⟩
theorem qk(h1:GSz κ X Z st f):qy κ X Z [st] f:=cw h1
theorem mQ(h:GS κ X.nox st f)(hf:∀(pe:PEn) (env:Ev),f pe env->f {pe with bk:=λ_=>False} env:=by exact λ_ _ h=>h):GSz κ X Z st f:=by refine PS.imp (PS.nox h) ?_;rintro D σ H ⟨env,Fr,pe,rs,q,c,_⟩;exact⟨env,Fr,_,rs,hf _ _ q,c⟩
theorem By{c:Jn}{a b:List JA}{tc:PB}(hc:GT X.nox c tc)(ha:qy κ X Z a f)(hb:qy κ X Z b g):GSz κ X Z (.If c a b pos) (sIf tc f g):=by
 refine PS.imp (pG (PT.nox hc) ha hb) ?_;rintro D σ H ⟨env,Fr,pe,rs,q,c,z⟩;refine⟨env,Fr,_,rs,q,λb al H1 q1 cr=>?_⟩;have q1:cnd b (f pe al) (g pe al):=q1;cases b with
 |true=>exact⟨al,Fr,pe,cr,q1.1 rfl,c,z⟩
 |false=>exact⟨al,Fr,pe,cr,q1.2 rfl,c,z⟩
theorem nG{sts:List JA}:qy κ X Z sts (λ_ _=>False):=by rintro ac s σ H D I ⟨_,_,_,_,q,_⟩;exact q.elim
theorem uR{m:Str}{bm bmN:List IY}{newId:String}{B Bn nid initId inN:String}{j:Nat}{np io p1:Pos}(R:Rz X C Z)(O:OwnCls x C bm newId X.mg X.base)(Fn:Qc Bn newId inN bmN)(hBn:bm.contains (.type Bn)=true)(FB:Qc B nid initId bm)
  (hh:X.A.handled=none) (hg:Gl X x) (hd:(x ==("__debug__":Str))=false:=by decide):GSz κ X Z (.Raise (some (.Call (.Name x np) [.Constant (.str m) j p1] [] io)) none pos) (λpe env=>pe.bk env):=by
 rintro ac s σ H D I ⟨env,Fr,pe,rs,q,c,z⟩;obtain⟨tl,N,nm,qn,bs,hdct,sn,sub,ab,col,dd,k0,k1,k2,k3,k5,mN,hC,hN,hni,T⟩:=O.obj;refine wpAny_Raise_call_subU (C:=C) (nm:=nm) (q:=qn) (N:=N) (bs:=bs) (bm:=tl) (hdct:=hdct) (sn:=sn) (sub:=sub) (ab:=ab) (col:=col) (dd:=dd) (k0:=k0) (k1:=k1) (k2:=k2) (k3:=k3) (k5:=k5)
  Fn hBn FB (mN:=mN) (T.hasType FB.hasBase) hh rfl hni (fC I hg O.bound ⟨rfl,?_⟩ hd)
 refine NG (Js (aC (X:=X) cH bU (by rfl) io ac s σ H (λws H'=>H'=H/\ws.length=1) I ⟨rfl,rfl⟩) ?_ λ_ _ y=>y);rintro vs s2 ⟨ws,H2,J,r,rfl,l⟩;exact⟨rfl,by show vs.length<=_;rw[<-r.length,l];decide,J.bk _ _ hC,hN.keeps J.bk,T.keeps J.bk,λh' e hm=>R.made J hm (z _ _ _ q rs .refl)⟩
def spR(K:Ja)(C:I_)(n:Nat)(P:List T->Prop):Sp:=λvs H _ E=>∃ts Fr,ts.length=vs.length/\vs.length=n/\Rp K H (zz ts vs++Fr)/\P ts/\∀ts' H',Rp K H' (zz ts' vs++Fr)->E (.ref C) none H'
structure CalR (P:Ji) (w:Jm) (K:Ja) (mg:Str->Option IY) (base:Jp) (C:I_) (k:Nat) (x:Str) (ps:List Str) (sp:Sp):Prop where
 ex:∃(f:I_) (fd:Jt),FnOk P w K mg base (CXr P w C) k f fd ps sp/\mg x=some (.ref f)/\KA K (.ref f)=true/\Binds K fd ps []
theorem _root_.L2.Dfn.Ca {P:Ji}{k:Nat}{st:JA}{sp:Sp}(D:Dfn K mg x st ps)(h:∀f fd,Fun K x x st f fd->FnOk P w K mg base (CXr P w C) k f fd ps sp):CalR P w K mg base C k x ps sp:=by obtain⟨f,fd,F,hm,hb⟩:=D.ex;exact⟨f,fd,h f fd F,hm,F.kp,hb⟩
theorem mC{f:I_}{fd:Jt}{k:Nat}{sp:Sp}{ac:List (I_×Obj)}{σ:L2.St}{H:Hp}{s:Jc}{us:List IY}{E':XK}{Q:IY->Jc->Prop}{E:IY->Jc->Prop}(F:FnOk X.prog X.w X.K X.mg X.base (CXr X.prog X.w C) k f fd ps sp)(hr:Room k X.A)(hb:Binds X.K fd ps [])
  (I:Inv X ac σ H s) (r:Vals vs us) (h:sp vs H (λ_ _=>False) E') (q:∀ev s',CXr X.prog X.w C X.stack H s E' ev s'->E ev s'):Jf (Jh X.prog X.w) X.A (call (.ref f) us) Q E s:=by
 have hl:(us++[]).length=ps.length:=by rw[ET,<-r.length];exact F.len _ _ _ _ h
 have hb2:=hb s us I.kIn hl;rw[ET]at hb2;refine MG (Kt (F.run X.A X.stack s H ⟨us,[]⟩ us vs _ E' hr I.Co hb2 r h) λr s' hq=>?_);cases r with
 |error e=>exact q e s' hq
 |ok fl=>
  cases fl with
  |ret u=>
   obtain⟨v,H',_,_,_,_,_,z⟩:=hq;exact z.elim
  |next=>exact Jq hq
  |brk=>exact Jq hq
  |cont=>exact Jq hq
def jw(n:Nat)(P:List T->Prop)(fr:PAs):PSt:=λpe env=>fr env λas al=>as.length=n/\P (lend as al).1/\∀ts',pe.bk (back as ts' (lend as al).2)
theorem wQ{n:Nat}{as:List Arg}{al:Ev}{σ:L2.St}{H1:Hp}{Fr:Fm}{E':XK}(l:as.length=vs.length)(ao:gS as (vs.map some) σ)(cr:Rs X.K H1 al σ ((as.map l4).zip (vs.map some)++Fr))(hn:as.length=n)(q1:P (lend as al).1)
  (x:∀ts' H',Rs X.K H' (back as ts' (lend as al).2) σ Fr->E' (.ref C) none H') {Q:VK}:spR X.K C n P vs H1 Q E':=by
 have rs2:=gB ao cr;refine⟨(lend as al).1,(lend as al).2.zip σ++Fr,by rw[dO,l],by rw[<-l];exact hn,?_,q1,λts' H' rp=>x ts' H' ?_⟩
 ·exact rs2.2.perm (m_ _ _ _)
 have h3:Rs X.K H' (lend as al).2 σ (zz ts' vs++Fr):=⟨rs2.1,rp.perm (m_ _ _ _)⟩;exact gC ao h3
theorem qR{j k n:Nat}{e:Jn}{fr:PAs}{p p1:Pos}(R:Rz X C Z)(D:CalR X.prog X.w X.K X.mg X.base C j x ps (spR X.K C n P))(hr:Room k X.A)(hg:Gl X x)(ha:GR X.nox (e::es) fr)(hjk:j<=k:=by omega)(hdb:(x ==("__debug__":Str))=false:=by decide)
  (he:Jo (e::es) X.env=(false,JC e X.env)::Jo es X.env:=by rfl) (hpl:(KH p1 (Jo es X.env)).any (·.1)=false:=by rfl) (hs:Kv (.Call (.Name x p) (e::es) [] p1) none pos.line X.env=pure false:=by rfl):GSz κ X Z (.Expr (.Call (.Name x p) (e::es) [] p1) pos) (jw n P fr):=by
 rintro ac s σ H D' I ⟨env,Fr,pe,rs,q,c,z⟩;obtain⟨f,fd,F,hm,hk,hb⟩:=D.ex;refine Nf (JN (fC I hg hm ?_ hdb)) I.quiet hs;refine LA (h₀:=X.base) I.ok.mod.kin hk (thn (PA.nox ha p1 ac s σ H (λvs H1=>spR X.K C n P vs H1 (λ_ _=>False) (λ_ _ H'=>Z H')) I ⟨env,Fr,_,rs,q,λas al vs H1 q1 l ao cr=>?_⟩) λus s1 ⟨vs,H1,I1,r,q⟩=>⟨I1.kIn,?_⟩) he hpl
 ·exact wQ l ao cr q1.1 q1.2.1 λts' H' rs'=>z _ _ _ (q1.2.2 ts') rs' .refl
 exact mC F (hr.mono hjk) hb I1 r q λev s' y=>R.pass I1 y λ_ z=>z
end
theorem sC{P:Ji}{qual:Str}{st:JA}{f:I_}{fd:Jt}{k:Nat}{Pr:List T->Prop}(F:Fun K x qual st f fd)(S:FnScope N ps (af st))(ms:List Bool)(hms:ms.length=ps.length)
  (body:∀(cdv:IY) (A:Jr) (outer:List Env) (s:Jc) (H:Hp) (E:XK),Room k (A.deeper (Kn qual (af st) s.heap.objs.size f cdv))->
   ∃fb,qy (κm ms) (gm (CXr P w C) P w K mg base N qual (af st) f cdv A outer s H E) (λH'=>E (.ref C) none H') (b8 st) fb/\∀ts,ts.length=ps.length->Pr ts->fb { nx:=λ_=>False,rt:=λ_ _=>False,bk:=λ_=>True} (ts++p_ (N.length-ps.length) .any)) :
  FnOk P w K mg base (CXr P w C) (k+1) f fd ps (spR K C ps.length Pr):=by
 obtain⟨oc,od,kV,doc,pm,an,cdv,ct,osl,rfl,lk,hcd⟩:=F.ex;refine An lk hcd S (by rintro vs H Q E ⟨ts,Fr,h1,h2,_⟩;exact h2) λA outer s H vs Q E hr hsp=>?_
 obtain⟨ts,Fr,h1,h2,rp,pr,c⟩:=hsp;obtain⟨fb,hb,q⟩:=body cdv A outer s H E hr;refine⟨_,hb,ts++p_ (N.length-ps.length) .any,Fr,{ nx:=λ_=>False,rt:=λ_ _=>False,bk:=λ_=>True},?_,q ts (by rw[h1,h2]) pr,⟨λ_ _ _ z=>z.elim,λ_ _ _ _ _ z=>z.elim,λ_ _ _ z=>z.elim,λ_ _ _ z=>z.elim⟩,?_⟩
 ·unfold L2.start;rw[h2];exact⟨by simp[h1],qC h1 _ rp⟩
 have kv:∀{bv},Kept (κm ms) (L2.start N vs) bv->∀j,κm ms j=true->bv[j]?=(vs[j]?).map some:=λ{bv} kp j hj=>by
  rw[kp.2 j hj];unfold L2.start;have hj2:j<vs.length:=by
   rw[h2,<-hms];unfold κm at hj;split at hj
   ·rename_i b e;exact(b_.mp e).1
   cases hj
  rw[FR (by rw[a_];exact hj2),A_]
 intro be bv H' _ rs' k';exact c _ _ (gI (by rw[hms,h2]) (kv k') rs'.2)
end PL
namespace ZX
open PySem PySem.W PySem.Spec PySem.Calls PyProof.Rows Builtin Builtin.ObjectAttr Builtin.Getset_descriptor
section
variable{prog:Ji}{w:Jm}{A:Jr}{E:IY->Jc->Prop}{h:Jp}{g:Array NA}{d:Oy}{t:Nat}{os:OsState}{x D:I_}{ox:Obj}{K:Frag}{tk:Tok}
theorem vo{M:Lg}{o:Obj}(h1:h.get? x=some o)(h2:o.cls=.ref D):Looks M h (typeOf (.ref x)) (.ref D):=h2▸(Looks.ld h1).andThen .now
theorem zE{s:Jc}{R:Ng->Jc->Prop}{tp:IY}(X:K.In s.heap)(hx:s.heap.get? x=some ox)(hc:ox.cls=.ref D)(hm:mroIn K D (.type "object")=some true)
  (hq:R (.ok (.ret (.ref D))) s):Kh (Jh prog w) A (.call (.builtin "getset_descriptor.__get__") ⟨[.builtin "object.__class__",.ref x,tp],[]⟩) R s:=by
 obtain⟨hh,g,dr,t,os⟩:=s;have L0:=vo (M:=Jh prog w) hx hc;have L1:=looks_mroIn (M:=Jh prog w) X hm;refine Ll KF.slot_gs.plain KF.entry_gs (KF.slot_gs.check _ _ _ _ _ _ _ _ KF.type_class (KF.args_gs _ _ _) ?_);unfold Kq.«getset_descriptor.__get__» descrGet;rw[dga_obj];refine IZ (Jd ?_);unfold descrGetter descrCheckInstance descrNameAndClass OV;simp only[KF.owner_class]
 repeat lk
 refine⟨N3 _ (by rfl'),J2 KF.entry_class ?_⟩;unfold Kq.«object.__class__» shownTypeOf
 repeat lk
 exact hq
theorem v7{Q:Fin->Jc->Prop}(X:K.In h)(hx:h.get? x=some ox)(hc:ox.cls=.ref D)(ha:findIn K (.ref D) "__class__"=some (some (.builtin "object.__class__")))(hm:mroIn K D (.type "object")=some true)(hq:Q (.done (.ret (.ref D))) ⟨h,g,d,t,os⟩) :
  Jf (Jh prog w) A (Kq.«object.__getattribute__» ⟨[.ref x,.str "__class__" tk],[]⟩) Q E ⟨h,g,d,t,os⟩:=by
 have hT5:(⟨h,g,d,t,os⟩:Jc).TypeIs (.builtin "object.__class__") "getset_descriptor":=Nt;have f5:=Nt;have f6:=F.slot_gs_get.lookup;have f7:=F.slot_gs_set.lookup;have L1:=looks_findIn (M:=Jh prog w) X ha
 repeat (any_goals (first|assumption|(with_reducible refine MF hx ?_;rw[hc])|with_reducible refine Looks.at L1 ?_|wp_step))
 refine zE (s:=⟨h,g,d,t,os⟩) X hx hc hm ?_
 repeat (any_goals (first|assumption|wp_step))
theorem uE{nameV:IY}{Q:Unit->Jc->Prop}{M:Lg}(X:K.In h)(hx:h.get? x=some ox)(hc:ox.cls=.ref D)(hm:mroIn K D (.type "BaseException")=some true)(hq:Q () ⟨h,g,d,t,os⟩) :
  Jf M A (L7 "BaseException.__getattribute__" ⟨[.ref x,nameV],[]⟩) Q E ⟨h,g,d,t,os⟩:=by
 have hk:Qq "BaseException.__getattribute__"=some .slot:=by rfl'
 have hsplit:splitId "BaseException.__getattribute__"=some ("BaseException","__getattribute__"):=by rfl'
 have ha:=F.args_bexc_ga (.ref x) nameV;have L1:=looks_mroIn (M:=M) X hm;simp only[L7,hk,hsplit];refine IZ ?_;unfold OV
 repeat (first|(with_reducible refine MF hx ?_;rw[hc])|with_reducible refine Looks.at L1 ?_|wp_step)
 exact hq
theorem C1{fill expr:Bool}{Q:IY->Jc->Prop}(X:K.In h)(hx:h.get? x=some ox)(hc:ox.cls=.ref D)(hga:findIn K (.ref D) "__getattribute__"=some (some (.builtin "BaseException.__getattribute__")))(hga2:findIn K (.ref D) "__getattr__"=some none)(ha:findIn K (.ref D) "__class__"=some (some (.builtin "object.__class__")))
  (hm:mroIn K D (.type "object")=some true) (hb:mroIn K D (.type "BaseException")=some true) (hq:Q (.ref D) ⟨h,g,d,t,os⟩) :
  Jf (Jh prog w) A (getAttrBy (.ref x) (.str "__class__" tk) fill expr) Q E ⟨h,g,d,t,os⟩:=by
 have f3:=Od.ga.bind (.ref x);have hx0:(expr&&onTheHeap (L5 "BaseException.__getattribute__"))=false:=by cases expr <;> rfl
 have hx2:(L5 "BaseException.__getattribute__" == L5 "object.__getattribute__")=false:=by rfl'
 have hx1:(onTheHeap (JH D)&&L5 "BaseException.__getattribute__" == L5 "object.__getattribute__")=false:=by rw[hx2];rfl
 have L1:=looks_findIn (M:=Jh prog w) X hga;have L2:=looks_findIn (M:=Jh prog w) X hga2
 repeat (any_goals (first|assumption|(with_reducible refine MF hx ?_;rw[hc])|with_reducible refine Looks.at L1 ?_|with_reducible refine Looks.at L2 ?_|wp_step))
 refine Ll Od.ga.plain F.entry_bexc_ga (uE X hx hc hb (v7 X hx hc ha hm ?_))
 repeat (any_goals (first|assumption|wp_step))
theorem xk{Q:Option IY->Jc->Prop}(X:K.In h)(hx:h.get? x=some ox)(hc:ox.cls=.ref D)(hga:findIn K (.ref D) "__getattribute__"=some (some (.builtin "BaseException.__getattribute__")))(hga2:findIn K (.ref D) "__getattr__"=some none)(ha:findIn K (.ref D) "__class__"=some (some (.builtin "object.__class__")))
  (hm:mroIn K D (.type "object")=some true) (hb:mroIn K D (.type "BaseException")=some true) (hq:Q (some (.ref D)) ⟨h,g,d,t+1,os⟩) :
  Jf (Jh prog w) A (getAttr? (.ref x) "__class__") Q E ⟨h,g,d,t,os⟩:=by
 unfold getAttr? getAttrBy?;refine IZ (wpAny_mkText (IZ (KO (C1 X hx hc hga hga2 ha hm hb ?_))));exact Jd hq
theorem vG(hc:(clsIn K D).isSome=true)(hga:findIn K (.ref D) "__getattribute__"=some (some (.builtin "BaseException.__getattribute__")))(hga2:findIn K (.ref D) "__getattr__"=some none)(ha:findIn K (.ref D) "__class__"=some (some (.builtin "object.__class__")))
  (hm:mroIn K D (.type "object")=some true) (hb:mroIn K D (.type "BaseException")=some true):KitX K (.ref x) (.ref D) (λh=>∃o,h.get? x=some o/\o.cls=.ref D) where
 ty:=λ_ _ _ ⟨o,h1,h2⟩=>vo h1 h2
 it:=λ_ _ X _=>by
  unfold clsIn at hc;split at hc
  ·rename_i c' d' cd' sl' ho;intro A' Q' E' s' k q;unfold isType loadHead;exact IZ (O_ (k _ _ (X _ _ ho)) (Jd q))
  cases hc
 ne:=λh tp dd bd n sl X htp=>by
  refine Fs.mpr λq=>?_;have e:D=tp:=Q8 (beq_iff_eq.mp q);subst e;unfold clsIn at hc;split at hc
  ·rename_i c' d' cd' sl' ho;have:=X _ _ ho;rw[htp]at this;cases this
  cases hc
 ca:=λ{prog w A E Q s} X I k=>by obtain⟨h,g,d,t,os⟩:=s;obtain⟨ox,hx,hc⟩:=I;exact xk X hx hc hga hga2 ha hm hb k
end
end ZX
namespace L2
open PySem PySem.Spec PyProof.Rows
structure ExcF (K:Ja) (D:I_):Prop where
 hc:(PD K D).isSome=true
 hga:Nu K (.ref D) "__getattribute__"=some (some (.builtin "BaseException.__getattribute__"))
 hga2:Nu K (.ref D) "__getattr__"=some none
 ha:Nu K (.ref D) "__class__"=some (some (.builtin "object.__class__"))
 hm:Mz K D (.type "object")=some true
 hb:Mz K D (.type "BaseException")=some true
structure IsExc (D:I_) (oe:Obj):Prop where
 cls:oe.cls=.ref D
 cell:∀v,oe.data≠.cell v
def Eh(K:Ja)(D ea:I_):List V->Hp->VK->Prop:=λxs H Q=>∃y b,xs=[.ref ea,y]/\((∃(tp:I_) (cs:List I_),y=.ref tp/\SqT K H tp (cs.map V.ref)/\PySem.W.kitAny K (.ref D) (cs.map JH)=some b)\/(∃C,y=.ref C/\Nv K (.ref D) (.ref C)=some b)\/∃T,y=.ty T/\Nv K (.ref D) (.type T)=some b)/\Q (.bl b) H
theorem ql:∀{cs:List I_}{us:List IY},Vals (cs.map V.ref) us->us=cs.map JH
 | [],_,.nil=>rfl
 |c::cs,_,.cons r t=>by rw[f',ql t];cases r;rfl
variable {D:I_}
theorem lM{X:Cx}{ea:I_}{oe:Obj}(hp:(ea,oe)∈X.pn)(x:IsExc D oe)(F:ExcF X.K D):cf X (.builtin "isinstance") (Eh X.K D ea):=by
 rintro ac s σ H xs us Q I r ⟨y,b,rfl,h,q⟩;obtain⟨ge,he,_⟩:=I.pin (ea,oe) (EL _ hp);have Z:=ZX.vG (K:=X.K) (x:=ea) F.hc F.hga F.hga2 F.ha F.hm F.hb;have at_:∃o,s.heap.get? ea=some o/\o.cls=.ref D:=⟨oe,ge,x.cls⟩
 have fin:∀tk,EP X ac σ Q (.bool b) {s with toks:=tk}:=λtk=>⟨.bl b,H,I.tok tk,rfl,q⟩;cases r with
 |cons r1 r2=>
  cases r2 with
  |cons r2 r3=>
   cases r3;cases r1;rcases h with⟨tp,cs,rfl,hq,e⟩|⟨C,rfl,e⟩|⟨T,rfl,e⟩
   ·cases r2;obtain⟨bd,rv,⟨o,ho,hcl,n,hd⟩,_⟩:=I.tuple hq;have ei:=ql rv;subst ei;obtain⟨oc,od,oda,osl⟩:=o;dsimp only at hcl hd;subst hcl hd;exact PySem.W.kia_tup Z I.kIn at_ ho e (λz=>nomatch z) fin
   ·cases r2;exact OW Z I.kIn at_ e (λz=>nomatch z) fin
   cases r2;exact OW Z I.kIn at_ e (λz=>nomatch z) fin
def kA(P:Ji)(w:Jm)(K:Ja)(mg:Str->Option IY)(base:Jp)(D f:I_)(word:Str):Prop:=
 ∀(A:Jr) (outer:List Env) (s:Jc) (H:Hp) (ea:I_) (oe:Obj),A.depth<recursionLimit->Env0 P w K mg base A outer s H->s.heap.get? ea=some oe->H ea=none->ea ∉ frs outer->IsExc D oe->
  Kh (Jh P w) A (.call (.ref f) ⟨[.ref ea],[]⟩) (λr s'=>∃tk H',r=.ok (.ret (.str word tk))/\s'.os=s.os/\Lp s'.gens/\Un (frs outer) [] H H' s.heap s'.heap/\HOk P w H' s'.heap/\aJ H H') s
abbrev cxW(P:Ji)(w:Jm)(K:Ja)(mg:Str->Option IY)(base:Jp)(N:List Str)(qual:Str)(scope:JX)(f:I_)(cd:IY)(A:Jr)(outer:List Env)(s:Jc)(H:Hp)(ea:I_)(oe:Obj):Cx:=
 { gm CX0 P w K mg base N qual scope f cd A outer s H E0 with calm:=false,pn:=[(ea,oe)],xe:=λ_ _=>False}
theorem zb{P:Ji}{w:Jm}{K:Ja}{mg:Str->Option IY}{base:Jp}{x qual:Str}{st:JA}{f:I_}{fd:Jt}{N ps:List Str}{word:Str}(F:Fun K x qual st f fd)(S:FnScope N ps (af st))(hps:ps.length=1)(hb:Binds K fd ps [])
  (body:∀(cdv:IY) (A:Jr) (outer:List Env) (s:Jc) (H:Hp) (ea:I_) (oe:Obj),IsExc D oe->∃t,PSs (cxW P w K mg base N qual (af st) f cdv A outer s H ea oe) (b8 st) t/\t { nx:=λ_ _=>False,rt:=λv H'=>v=.str word/\aJ H H'} (start N [.ref ea]) H):kA P w K mg base D f word:=by
 intro A outer s H ea oe hdp e0 ge he nf xe;obtain⟨oc,od,kV,doc,pm,an,cdv,ct,osl,rfl,lk,hcd⟩:=F.ex;have KX:K.In s.heap:=e0.mod.kin.keeps λb o e=>(e0.bs b o e).1;have lim:s.heap.NoLimit:=e0.mod.nolimit.keeps λb o e=>(e0.bs b o e).1;have hb2:=hb s [.ref ea] KX (by rw[hps];rfl);rw[ET]at hb2;have r:Vals [V.ref ea] [JH ea]:=.cons rfl .nil;have hkind:∀y∈ps.zip [JH ea],(af st).names.lookup y.1=some .local\/((af st).names.lookup y.1=some .cell/\((NW (s.heap.objs.size+1) (af st).names []).lookup y.1).isSome=true):=λ⟨n,v⟩ hy=>by
  rcases S.par n (GQ hy).1 with q|q
  ·exact .inl q
  exact .inr ⟨q,LU _ _ _ (.inl q)⟩
 refine Ni hdp (KX _ _ lk) rfl S.co S.gen rfl (NX KX hcd) (hb2 _ _ _ _ ?_);refine Mt S.kind hkind λenv he1 s1 x=>?_;subst he1;refine⟨lim.keeps x.toInCall.keep,P0 ?_⟩;obtain⟨t,ht,hq⟩:=body cdv A outer s H ea oe xe;have I0:Inv (gm CX0 P w K mg base N qual (af st) f cdv { A with handled:=none} outer s H E0) [] (start N [.ref ea]) H s1:=nR S rfl ⟨e0.frames,e0.mod,e0.bs,e0.bsz,e0.i7,e0.frf,e0.hok,e0.bare⟩ (by rw[hps];rfl) r x;have lt:=Jl ge;have I:Inv (cxW P w K mg base N qual (af st) f cdv A outer s H ea oe) [] (start N [.ref ea]) H s1:=⟨⟨I0.ok.mod,I0.ok.kind,I0.ok.glob,I0.ok.blt,I0.ok.above,I0.ok.inj,I0.ok.has,I0.ok.cab,(λz=>nomatch z),NF e0.frames,I0.ok.stk,I0.ok.exf,I0.ok.bs,I0.ok.bsz,I0.ok.noex,I0.ok.exfs,I0.ok.i7,I0.ok.frf⟩,I0.os,I0.bare,I0.base,I0.loc,I0.cell,I0.free,I0.freeC,λp hp=>by
   have hp:p∈[(ea,oe)]:=by simpa using hp
   rw[z_.mp hp];exact⟨x.toInCall.keep _ _ ge,he,t_ lt,nf,xe.cell⟩,I0.hok,I0.len⟩
 refine Js (ht [] s1 (start N [.ref ea]) H _ I hq) (λfl s' hs=>?_) λe s' hs=>hs.elim;cases fl with
 |ret u=>
  obtain⟨v,bv,H',J,rv,rfl,sm⟩:=hs;obtain⟨tk,rfl⟩:=rv;exact⟨tk,H',rfl,J.os,J.bare,J.base,J.hok,sm⟩
 |next=>
  obtain⟨bv,H',J,q⟩:=hs;exact q.elim
 |brk=>
  obtain⟨_,_,_,q⟩:=hs;exact Jq q
 |cont=>
  obtain⟨_,_,_,q⟩:=hs;exact Jq q
open PySem PySem.Spec PyProof.Rows PySem.W
theorem yP{Mo:Lg}{A:Jr}{E:IY->Jc->Prop}{K:Frag}{s:Jc}{x M:I_}{ox:Obj}{Q:Bool->Jc->Prop}(X:K.In s.heap)(hx:s.heap.get? x=some ox)(hc:ox.cls=.ref D)(m1:typeIn K (.ref M)=some (.type "type"))(m2:(clsIn K M).isSome=true)
  (m3:mroIn K M (.type "BaseException")=some true) (m4:mroIn K D (.ref M)=some true) (hq:Q true s):Jf Mo A (excMatches (.ref x) (.ref M)) Q E s:=by
 obtain⟨h,g,d,t,os⟩:=s;have L0:=ZX.vo (M:=Mo) hx hc;have L1:=looks_typeIn (M:=Mo) X m1;have L3:=looks_mroIn (M:=Mo) X m3;have L4:=looks_mroIn (M:=Mo) X m4;have f:=tc_notTuple;have L2:Looks Mo h (isType (.ref M)) true:=by
  unfold clsIn at m2;split at m2
  ·rename_i c' d' cd' sl' ho;intro A' Q' E' s' k q;unfold isType loadHead;exact IZ (O_ (k _ _ (X _ _ ho)) (Jd q))
  cases m2
 unfold excMatches isExcClass OV
 repeat (first|with_reducible refine Looks.at L0 ?_|with_reducible refine Looks.at L1 ?_|with_reducible refine Looks.at L2 ?_|with_reducible refine Looks.at L3 ?_|with_reducible refine Looks.at L4 ?_|wp_step)
 exact hq
abbrev Cx.inX (X:Cx)(ea:I_)(oe:Obj):Cx:={ X with A:=X.A.mark (some (.ref ea)),calm:=false,pn:=X.pn++[(ea,oe)],xe:=λ_ _=>False}
variable {n:Str}
section
variable{X:Cx}{ac:List (I_×Obj)}{σ:St}{H:Hp}{s:Jc}{ea:I_}{oe:Obj}
theorem Inv.inX (I:Inv X ac σ H s)(p:s.heap.get? ea=some oe/\H ea=none/\ea≠X.env.locals/\ea ∉ X.fs/\∀v,oe.data≠.cell v):Inv (X.inX ea oe) ac σ H s:=
 ⟨⟨I.ok.mod,I.ok.kind,I.ok.glob,I.ok.blt,I.ok.above,I.ok.inj,I.ok.has,I.ok.cab,(λz=>nomatch z),I.ok.frames,I.ok.stk,I.ok.exf,I.ok.bs,I.ok.bsz,I.ok.noex,I.ok.exfs,I.ok.i7,I.ok.frf⟩,I.os,I.bare,I.base,I.loc,I.cell,I.free,I.freeC,λq hq=>by
  have hq:q∈(X.pn++[(ea,oe)])++ac:=hq;rcases EO.mp hq with hq|hq
  ·rcases EO.mp hq with hq|hq
   ·exact I.pin q (EL _ hq)
   rw[z_.mp hq];exact p
  exact I.pin q (l_ _ hq),I.hok,I.len⟩
theorem Inv.EC (I:Inv (X.inX ea oe) ac σ H s)(hd:X.calm=true->X.A.handled=none):Inv X ac σ H s:=
 ⟨⟨I.ok.mod,I.ok.kind,I.ok.glob,I.ok.blt,I.ok.above,I.ok.inj,I.ok.has,I.ok.cab,hd,I.ok.frames,I.ok.stk,I.ok.exf,I.ok.bs,I.ok.bsz,I.ok.noex,I.ok.exfs,I.ok.i7,I.ok.frf⟩,I.os,I.bare,I.base,I.loc,I.cell,I.free,I.freeC,λq hq=>by
  refine I.pin q ?_;show q∈(X.pn++[(ea,oe)])++ac;rcases EO.mp hq with hq|hq
  ·exact EL _ (EL _ hq)
  exact l_ _ hq,I.hok,I.len⟩
theorem Inv.gone {h':Jp}{j:Nat}{v:Option IY}{tk:Nat}(I:Inv X ac σ H s)(nd:X.N.Nodup)(hN:X.N[j]?=some n)(m:Str->Option IY)(hm:∀(i:Nat) (x:Str) (v:V),X.N[i]?=some x->σ[i]?=some (some v)->Vis X.env.scope x->∃u,RelV v u/\Look X.env s.heap m x u)
  (ns:h'.Ns X.env.locals (λx=>if x=n then v else m x)) (sb:JO X.env.locals s.heap h'):Inv X ac (σ.set j none) H {s with heap:=h',toks:=tk}:=by
 have keep:∀b o,b≠X.env.locals->s.heap.get? b=some o->h'.get? b=some o:=λb o e q=>by rw[sb.2 b e];exact q
 have neL:∀b o,X.s₀.heap.get? b=some o->b≠X.env.locals:=λb o e=>t_ (w_ (Jl e) I.ok.above);refine⟨I.ok,I.os,I.bare,⟨λb o e q hb hx=>keep b o (neL b o e) (I.base.keep b o e q hb hx),λb o e q hb hx=>?_,I.base.free,λb o e hx=>?_,I.base.tups,I.base.frzs,I.base.tbls⟩,⟨_,ns,λi x v h1 h2 h3=>?_⟩,λx c e=>?_,I.free,I.freeC,λp hp=>?_,?_,by rw[D_];exact I.len⟩
 ·obtain⟨sl,e1⟩:=I.base.slot b o e q hb hx;exact⟨sl,keep b _ (neL b o e) e1⟩
 ·obtain⟨o',e1⟩:=I.base.there b o e hx;exact⟨o',keep b o' (neL b o e) e1⟩
 ·have ne:i≠j:=λz=>by
   subst z;by_cases hi:i<σ.length
   ·rw[Fu hi]at h2;cases h2
   rw[F9 (by rw[D_];omega)]at h2;cases h2
  rw[FC (Kg ne)]at h2;obtain⟨u,r,lk⟩:=hm i x v h1 h2 h3;have nx:x≠n:=λz=>by subst z;exact ne ((List.getElem?_inj (b_.mp h1).1 nd).mp (h1.trans hN.symm))
  refine⟨u,r,?_⟩;rcases lk with⟨k,e⟩|⟨k,c,e,o,ho,hd⟩
  ·exact .inl ⟨k,(if_neg nx).trans e⟩
  exact .inr ⟨k,c,e,o,keep c o (I.cne x c e) ho,hd⟩
 ·obtain⟨v,o,ho,hd⟩:=I.cell x c e;exact⟨v,o,keep c o (I.cne x c e) ho,hd⟩
 ·obtain⟨h1,h2⟩:=I.pin p hp;exact⟨keep _ _ h2.2.1 h1,h2⟩
 exact I.hok.tm λb u z q=>keep b u (λy=>by rw[y,I.free]at z;exact z rfl) q
theorem r9{C M:I_}{H1:Hp}{s1 s':Jc}{E:XK}{ev:IY}{j:Nat}{Tn:Str}{b₀:JA}{suite:List JA}{pos np:Pos}{rest:List NL}{R:St->Hp->Prop}{Ex:IY->Jc->Prop}
  (I1:Inv X ac σ H1 s1) (z:CXr X.prog X.w C X.stack H1 s1 E ev s') (hst:X.stack=X.env::X.outer) (hf:X.env.frame=some X.env.locals) (gT:X.env.kindOf Tn=some .globalImplicit) (hM:X.mg Tn=some (.ref M)) (hdb:(Tn ==("__debug__":Str))=false)
  (m1:typeIn X.K (.ref M)=some (.type "type")) (m2:(clsIn X.K M).isSome=true) (m3:mroIn X.K M (.type "BaseException")=some true) (m4:mroIn X.K C (.ref M)=some true) (nd:X.N.Nodup) (hN:X.N[j]?=some n) (hl:X.env.scope.names.lookup n=some .local)
  (hs:∀ea oe H' s7,E (.ref C) none H'->IsExc C oe->H' ea=none->ea ∉ frs X.stack->Inv (X.inX ea oe) ac (σ.set j (some (.ref ea))) H' s7->Jf (Jh X.prog X.w) (X.inX ea oe).A (execs (b₀::suite) X.env) (λf s4=>f=.next/\∃ σ4 H4,Inv (X.inX ea oe) ac σ4 H4 s4/\R σ4 H4) (λ_ _=>False) s7) :
  Jf (Jh X.prog X.w) X.A (Pe ev X.env) (λ_ s2=>Jf (Jh X.prog X.w) X.A (setFlight ev none) (λ_ s3=>Jf (Jh X.prog X.w) X.A (handleBy ev X.env (.ExceptHandler (some (.Name Tn np)) (some n) (b₀::suite) pos::rest)) (λf s5=>f=.next/\∃ σ5 H5,Inv X ac (σ5.set j none) H5 s5/\R σ5 H5) Ex s3) Ex s2) Ex s':=by
 obtain⟨e,T,H',rfl,os,bare,u,ok,n1,n2,n3,n4,tr,xE⟩:=z;have J0:=I1.mw (H':=H') (ch:=[]) os u ok bare (λ_ z=>nomatch z);have hl0:=J0.stack;have frm:X.A.frames=some (X.env::X.outer):=by rw[<-hst];exact I1.ok.frames
 obtain⟨oe,vs,oT,ts,a0,g1,g2,g3,g4,g6,g7,g8,g9⟩:=tr;have hb:=gF (as:=e::T::frs X.stack) hl0 λb hb=>.tail _ (.tail _ hb);have cs:∀b,b∈e::T::frs X.stack->b∈frs X.stack\/(s1.heap.get? b=none/\H' b=none):=λb hb=>by
  rcases k_.mp hb with rfl|hb
  ·exact .inr ⟨n3,n1⟩
  rcases k_.mp hb with rfl|hb
  ·exact .inr ⟨n4,n2⟩
  exact .inl hb
 have nfr:e ∉ frs X.stack:=λz=>by obtain⟨_,o2,e2,nf⟩:=hl0.mem z;rw[g1]at e2;cases e2;exact nf _ g3
 have later:∀{h2:Jp},Heap.FlyingW (hideAll s'.heap (e::T::frs X.stack)) (X.env::X.outer) e (.ref C) a0 h2->s'.heap.UpToSlots h2->Inv X ac σ H' {s' with heap:=h2}/\∃oe,h2.get? e=some oe/\IsExc C oe:=λ{h2} fl sm=>by obtain⟨k,_,_,oe',vs',T',oT',ts',k1,k2,k3,k4,k5,k6,k7,k8,k9⟩:=fl;have u2:=mG (s:=s1) hl0 u (λb z=>(cs b z).imp id λy=>y.1) k sm;have ok2:HOk X.prog X.w H' h2:=ok.tm λb o n q=>k b o (hideAll_get _ q λz=>(cs b z).elim (λy=>n (J0.jy b y)) λy=>n y.2);exact⟨I1.mw (H':=H') (s':={s' with heap:=h2}) (ch:=[]) os u2 ok2 bare (λ_ z=>nomatch z),oe',k1,k2.1,λv q=>by rw[k3]at q;cases q⟩
 have nl:∀{h2:Jp}{oe:Obj},Inv X ac σ H' {s' with heap:=h2}->IsExc C oe->h2.get? e=some oe->h2.get? e=some oe/\H' e=none/\e≠X.env.locals/\e ∉ X.fs/\∀v,oe.data≠.cell v:=λ{h2 oe} J x g=>by
  have nst:∀b∈X.fs,b∈frs X.stack:=λb hb=>by rw[hst];unfold frs;rw[FJ,hf];exact .tail _ hb
  refine⟨g,n1,λz=>nfr ?_,λz=>nfr (nst _ z),x.cell⟩;rw[z,hst];unfold frs;rw[FJ,hf];exact .head _
 refine wpAny_looks_onW (base:=hideAll s'.heap (e::T::frs X.stack)) frm hf ⟨λb o q=>of_hideAll _ q,hideAll_none _ (.head _),by rw[<-hst];exact hb,oe,vs,T,oT,ts,g1,g2,g3,g4,hideAll_none _ (.tail _ (.head _)),g6,g7,g8,g9⟩ λh4 held sm4=>?_
 refine wpAny_landsW held λh5 fl5 sm5=>?_;obtain⟨J5,oe5,ge5,xe5⟩:=later fl5 (sm4.trans sm5);have J5x:=J5.inX (nl J5 xe5 ge5);refine wpAny_handleBy_cons (codeAny_handlers_test (fC J5x gT hM ?_ hdb)) (λz=>nomatch z);refine yP J5x.kIn ge5 xe5.cls m1 m2 m3 m4 ?_;refine codeAny_handlers_suite_as (lands_againW (s:={s' with heap:=h5}) fl5 λh6 fl6 sm6=>?_);obtain⟨J6,oe6,ge6,xe6⟩:=later fl6 ((sm4.trans sm5).trans sm6);have J6x:=J6.inX (nl J6 xe6 ge6);refine ja (X:=X.inX e oe6) J6x nd hN (.inl hl) (v:=.ref e) rfl (λs7 J7=>?_) (.inr hl);refine Js (hs e oe6 H' s7 xE xe6 n1 nfr J7) (λf s4 y=>?_) λ_ _ y=>y.elim;obtain⟨rfl,σ4,H4,J4,r⟩:=y;have J4':=J4.EC I1.ok.hd;obtain⟨m,ns,hm⟩:=J4'.loc;refine wpAny_nameGoes_keeps (by show X.env.scope.names.lookup n=_;exact hl) ns (by rw[J4'.ok.kind];rfl) λh8 v ns8 sb=>?_
 exact⟨rfl,σ4,H4,J4'.gone nd hN m hm ns8 sb,r⟩
end
open PySem PySem.Spec PyProof.Rows PySem.W
theorem zF{X:Cx}{ea C f:I_}{oe:Obj}{word x:Str}{i:Nat}{p pn pos:Pos}(W:kA X.prog X.w X.K X.mg X.base C f word)(hp:(ea,oe)∈X.pn)(xe:IsExc C oe)(nf:ea ∉ frs X.stack)(hdp:X.A.depth<recursionLimit)(hg:Gl X x)(hm:X.mg x=some (.ref f))(hk:keepIn X.K (.ref f)=true)(hN:X.N[i]?=some n)(hv:Vis X.env.scope n)
  (hdb:(x ==("__debug__":Str))=false:=by decide) (hdn:(n ==("__debug__":Str))=false:=by decide) (hcd:(n ==("__classdict__":Str))=false:=by decide):PE X (.Call (.Name x p) [.Name n pn] [] pos) (λσ H Q=>σ[i]?=some (some (.ref ea))/\∀H',aJ H H'->Q (.str word) H'):=by
 rintro ac s σ H Q I ⟨h1,h2⟩;refine JN (fC I hg hm ?_ hdb);refine LA (h₀:=X.base) I.ok.mod.kin hk (thn (aC (X:=X) (cq hN hv hdn hcd) bU (by rfl) pos ac s σ H (λvs H'=>vs=[.ref ea]/\H'=H) I ⟨.ref ea,h1,rfl,rfl⟩) λus s1 ⟨vs,H1,I1,r,e1,e2⟩=>⟨I1.kIn,?_⟩) (by rfl) (by rfl);subst e1 e2;cases r with
 |cons r1 r2=>
  cases r1;cases r2;obtain⟨ge,he,_⟩:=I1.pin (ea,oe) (EL _ hp);refine MG (Kt (W X.A X.stack s1 H1 ea oe hdp I1.Co ge he nf xe) λr s' hq=>?_);obtain⟨tk,H',rfl,os,bare,u,ok,sm⟩:=hq;exact⟨.str word,H',I1.mw (ch:=[]) os u ok bare (λ_ z=>nomatch z),⟨_,rfl⟩,h2 H' sm⟩
end L2
namespace PL
open PySem PySem.Spec PyProof.Rows L2
variable {j:Nat}
section
variable{X:Cx}{κ:Nat->Bool}{pos:Pos}
theorem Dh{st:JA}{f g:PSt}(h1:GS κ X st f)(h2:GS κ X st g):GS κ X st (λpe env=>f pe env\/g pe env):=by
 rintro ac s σ H D I ⟨env,Fr,pe,rs,q,c⟩;rcases q with q|q
 ·exact h1 ac s σ H D I ⟨env,Fr,pe,rs,q,c⟩
 exact h2 ac s σ H D I ⟨env,Fr,pe,rs,q,c⟩
theorem zt{body:List JA}{h₀:NL}{hs:List NL}{f:PSt}(hx:∀e s,X.xe e s->False)(h:GSs κ X body f):GS κ X (.Try body (h₀::hs) [] [] pos) f:=by
 rintro ac s σ H D I q;refine Ow (Js (h ac s σ H D I q) (λfl s1 y=>?_) λe s1 y=>(hx e s1 y).elim);cases fl with
 |next=>exact Lx y
 |ret v=>exact y
 |brk=>exact y
 |cont=>exact y
theorem zk{K:Ja}{H:Hp}{env:Ev}{σ:L2.St}{Fr:Fm}(h:Rs K H env σ Fr):Rs K H (env.set j .any) (σ.set j none) Fr:=by
 by_cases hj:j<env.length
 ·have e:env[j]?=some env[j]:=d_ hj;have hs:j<σ.length:=by rw[<-h.1];exact hj
  have ex:σ[j]?=some σ[j]:=d_ hs;refine⟨by rw[D_,D_];exact h.1,?_⟩;have p:=ju T.any (none:Option V) e ex;refine Rp.tail (x:=(env[j],σ[j])) ((eY (x:=none) h.2).perm ?_);exact(p.symm.append_right Fr)
 rw[FE (by omega),FE (by have:=h.1;omega)];exact h
theorem ny{C:I_}{k nn:Nat}{x:Str}{ps:List Str}{P:List T->Prop}{e:Jn}{es:List Jn}{fr:PAs}{p p1:Pos}{ζ:Ev->Prop}{Eo:IY->Jc->Prop}{Q:Flow->Jc->Prop}{ac:List (I_×Obj)}{σ:L2.St}{H:Hp}{s:Jc}{env:Ev}{Fr:Fm}(hx:∀e s,X.xe e s->False)
  (D:CalR X.prog X.w X.K X.mg X.base C j x ps (spR X.K C nn P)) (hr:Room k X.A) (hg:Gl X x) (ha:GR X (e::es) fr) (hjk:j<=k) (hdb:(x ==("__debug__":Str))=false)
  (he:Jo (e::es) X.env=(false,JC e X.env)::Jo es X.env) (hpl:(KH p1 (Jo es X.env)).any (·.1)=false) (hs:Kv (.Call (.Name x p) (e::es) [] p1) none pos.line X.env=pure false)
  (I:Inv X ac σ H s) (rs:Rs X.K H env σ Fr) (q:fr env λas al=>as.length=nn/\P (lend as al).1/\∀ts',ζ (back as ts' (lend as al).2))
  (hE:∀ev s1 s' H1,Inv X ac σ H1 s1->CXr X.prog X.w C X.stack H1 s1 (λ_ _ H'=>∃be,ζ be/\Rs X.K H' be σ Fr) ev s'->Eo ev s'):Jf (Jh X.prog X.w) X.A (exec (.Expr (.Call (.Name x p) (e::es) [] p1) pos) X.env) Q Eo s:=by
 obtain⟨f,fd,F,hm,hk,hb⟩:=D.ex;refine Nf (JN (fC I hg hm ?_ hdb)) I.quiet hs;refine LA (h₀:=X.base) I.ok.mod.kin hk (Js (ha p1 ac s σ H (λvs H1=>spR X.K C nn P vs H1 (λ_ _=>False) (λ_ _ H'=>∃be,ζ be/\Rs X.K H' be σ Fr)) I ⟨env,Fr,_,rs,q,λas al vs H1 q1 l ao cr=>?_⟩) (λus s1 ⟨vs,H1,I1,r,q⟩=>⟨I1.kIn,?_⟩) λe s z=>(hx e s z).elim) he hpl
 ·exact wQ l ao cr q1.1 q1.2.1 λts' H' rs'=>⟨_,q1.2.2 ts',rs'⟩
 exact mC F (hr.mono hjk) hb I1 r q λev s' y=>hE ev s1 s' H1 I1 y
noncomputable def hnd(mi j:Nat)(word:Str)(pe:PEn):PEn:={pe with bk:=λenv=>pe.nx ((env.set mi (.str word)).set j .any) }
def Ac(tc:PB)(f g:PSt)(mi j:Nat)(word:Str):PSt:=λpe env=>tc env λb al=>cnd b (f (hnd mi j word pe) al) (g (hnd mi j word pe) al)
theorem y0{C M fw:I_}{mi j1 j2 k n1 n2:Nat}{x1 x2 Tn n m xw word:Str}{ps1 ps2:List Str}{P1 P2:List T->Prop}{c e1 e2:Jn}{es1 es2:List Jn}{fr1 fr2:PAs}{tc:PB}{a1 a2 a3 b1 b2 b3 cp np np2 mp wp wpos apos hp:Pos}
  (hx:∀e s,X.xe e s->False) (hst:X.stack=X.env::X.outer) (hf:X.env.frame=some X.env.locals) (hr:Room k X.A) (hc:GT X c tc)
  (D1:CalR X.prog X.w X.K X.mg X.base C j1 x1 ps1 (spR X.K C n1 P1)) (g1:Gl X x1) (ha1:GR X (e1::es1) fr1) (D2:CalR X.prog X.w X.K X.mg X.base C j2 x2 ps2 (spR X.K C n2 P2)) (g2:Gl X x2) (ha2:GR X (e2::es2) fr2)
  (gT:Gl X Tn) (hM:X.mg Tn=some (.ref M)) (m1:PySem.W.typeIn X.K (.ref M)=some (.type "type")) (m2:(PD X.K M).isSome=true) (m3:Mz X.K M (.type "BaseException")=some true) (m4:Mz X.K C (.ref M)=some true)
  (W:kA X.prog X.w X.K X.mg X.base C fw word) (gW:Gl X xw) (hW:X.mg xw=some (.ref fw)) (kW:KA X.K (.ref fw)=true)
  (nd:X.N.Nodup) (hN:X.N[j]?=some n) (hl:X.env.scope.names.lookup n=some .local) (hNm:X.N[mi]?=some m) (hlm:X.env.scope.names.lookup m=some .local) (hjm:j≠mi) (κj:κ j=false) (κm:κ mi=false) (hjk1:j1<=k:=by omega) (hjk2:j2<=k:=by omega)
  (d1:(x1 ==("__debug__":Str))=false:=by decide) (d2:(x2 ==("__debug__":Str))=false:=by decide) (dT:(Tn ==("__debug__":Str))=false:=by decide) (dw:(xw ==("__debug__":Str))=false:=by decide) (dn:(n ==("__debug__":Str))=false:=by decide) (dcn:(n ==("__classdict__":Str))=false:=by decide)
  (he1:Jo (e1::es1) X.env=(false,JC e1 X.env)::Jo es1 X.env:=by rfl) (hpl1:(KH a2 (Jo es1 X.env)).any (·.1)=false:=by rfl) (hs1:Kv (.Call (.Name x1 a1) (e1::es1) [] a2) none a3.line X.env=pure false:=by rfl)
  (he2:Jo (e2::es2) X.env=(false,JC e2 X.env)::Jo es2 X.env:=by rfl) (hpl2:(KH b2 (Jo es2 X.env)).any (·.1)=false:=by rfl) (hs2:Kv (.Call (.Name x2 b1) (e2::es2) [] b2) none b3.line X.env=pure false:=by rfl)
  (hsw:Kv (.Call (.Name xw wp) [.Name n np2] [] wpos) (some (.Name m mp)) apos.line X.env=pure false:=by rfl) :
  GS κ X (.Try [.If c [.Expr (.Call (.Name x1 a1) (e1::es1) [] a2) a3] [.Expr (.Call (.Name x2 b1) (e2::es2) [] b2) b3] cp] [.ExceptHandler (some (.Name Tn np)) (some n) [.Assign [.Name m mp] (.Call (.Name xw wp) [.Name n np2] [] wpos) apos] hp] [] [] pos)
   (Ac tc (jw n1 P1 fr1) (jw n2 P2 fr2) mi j word):=by
 rintro ac s σ H D I ⟨env,Fr,pe,rs,q,en⟩;have hE:∀ev s1 s' H1,Inv X ac σ H1 s1->CXr X.prog X.w C X.stack H1 s1 (λ_ _ H'=>∃be,(hnd mi j word pe).bk be/\Rs X.K H' be σ Fr) ev s'->
   Jf (Jh X.prog X.w) X.A (Pe ev X.env) (λ_ s2=>Jf (Jh X.prog X.w) X.A (setFlight ev none) (λ_ s3=>Jf (Jh X.prog X.w) X.A (handleBy ev X.env [.ExceptHandler (some (.Name Tn np)) (some n) [.Assign [.Name m mp] (.Call (.Name xw wp) [.Name n np2] [] wpos) apos] hp]) (SP X ac D) X.xe s3) X.xe s2) X.xe s':=by
  intro ev s1 s' H1 I1 z;refine Js (r9 (R:=λσ5 H5=>D.nx (σ5.set j none) H5) (Ex:=X.xe) I1 z hst hf gT hM dT m1 m2 m3 m4 nd hN hl λea oe H' s7 y xe he nf J7=>?_) (λ_ _ h=>Js h (λ_ _ h=>Js h (λf s5 ⟨ef,σ5,H5,J5,r⟩=>by subst ef;exact⟨_,H5,J5,r⟩) λ_ _ x=>x) λ_ _ x=>x) λ_ _ x=>x
  obtain⟨be,z',rs'⟩:=y;have W':kA (X.inX ea oe).prog (X.inX ea oe).w (X.inX ea oe).K (X.inX ea oe).mg (X.inX ea oe).base C fw word:=W;have pw:=zF (X:=X.inX ea oe) (p:=wp) (pn:=np2) (pos:=wpos) W' (l_ _ (.head _)) xe nf hr.depth gW hW kW hN (.inl hl) dw dn dcn;have ps:=cw (dy (X:=X.inX ea oe) (i:=mi) (pos:=apos) (pos':=mp) nd hNm (.inl hlm) pw hsw (.inr hlm));have hi:j<σ.length:=by rw[I1.len];exact(b_.mp hN).1
  refine Js (ps ac s7 _ H' { nx:=λσ4 H4=>D.nx (σ4.set j none) H4,rt:=λ_ _=>False} J7 ⟨Fu hi,λH2 sm=>?_⟩) (λf s4 y=>?_) λ_ _ x=>x
  ·show D.nx (((σ.set j (some (.ref ea))).set mi (some (.str word))).set j none) H2;rw[List.set_comm _ _ hjm,GX];exact en.nx _ _ _ z' (zk (Rs.put (jG (rs'.same sm) λ_=>.str))) ((Kept.set κm).trans (Kept.set κj))
  cases f with
  |next=>obtain⟨bv,H2,J,r⟩:=y;exact⟨rfl,bv,H2,J,r⟩
  |ret v=>obtain⟨_,_,_,_,_,r⟩:=y;exact r.elim
  |brk=>obtain⟨_,_,_,r⟩:=y;exact r.elim
  |cont=>obtain⟨_,_,_,r⟩:=y;exact r.elim
 refine Ow (Lh (wpAny_If (Js (hc ac s σ H (λb H1=>∃al,Rs X.K H1 al σ Fr/\cnd b (jw n1 P1 fr1 (hnd mi j word pe) al) (jw n2 P2 fr2 (hnd mi j word pe) al)) I ⟨env,Fr,_,rs,q,λb al H1 q1 cr=>?_⟩) (λb s1 y=>?_) λe s z=>(hx e s z).elim)))
 ·exact⟨al,cr,q1⟩
 obtain⟨H1,I1,al,cr,q1⟩:=y;cases b with
 |true=>exact Lh (ny hx D1 hr g1 ha1 hjk1 d1 he1 hpl1 hs1 I1 cr (q1.1 rfl) hE)
 |false=>exact Lh (ny hx D2 hr g2 ha2 hjk2 d2 he2 hpl2 hs2 I1 cr (q1.2 rfl) hE)
end
end PL
namespace L2
open PySem PySem.Spec PyProof.Rows PySem.W
abbrev bmV:List IY:=[.type "ValueError",.type "Exception",.type "BaseException",.type "object"]
theorem AD{K:Frag}{h:Jp}{mg:Str->Option IY}{x:Str}{C:I_}{bmB:List IY}{n:String}(X:K.In h)(b:mg x=some (.ref C))(q:excIn K C bmB n=true):OwnCls x C bmB n mg h:=by
 refine⟨b,?_⟩;unfold excIn at q;split at q
 ·rename_i dd cd sl ho;split at q
  ·rename_i C' bm k0 k1 k2 k3 n' k5 hm hs;simp only[EN,beq_iff_eq,Hd]at q;obtain⟨⟨⟨⟨⟨e1,e2⟩,e3⟩,e4⟩,e5⟩,e6⟩:=q;subst e1 e2;cases cd;dsimp only at hm e3 e5 e6;subst hm e3;cases sl;dsimp only at hs;subst hs;exact⟨bm,_,_,_,_,_,_,_,_,_,_,_,_,_,_,_,_,X _ _ ho,.of_isNs (isNs_of_in X e5),nsMap_none_of_in X e5 e6,tail_of_in X e4⟩
  cases q
 cases q
structure ExcH (K:Frag) (mg:Str->Option IY) (base:Jp) (C M a1 a2 a3 a4 a5 a6:I_):Prop where
 O:OwnCls "Round" C bmV "ValueError.__new__" mg base
 F:ExcF K C
 hM:mg "MillError"=some (.ref M)
 m1:typeIn K (.ref M)=some (.type "type")
 m2:(clsIn K M).isSome=true
 m3:mroIn K M (.type "BaseException")=some true
 m4:mroIn K C (.ref M)=some true
 hV:mg "ValueError"=none
 h1:mg "NoTool"=some (.ref a1)
 h2:mg "NoWay"=some (.ref a2)
 h3:mg "Meets"=some (.ref a3)
 h4:mg "Bites"=some (.ref a4)
 h5:mg "Cuts"=some (.ref a5)
 h6:mg "BadRow"=some (.ref a6)
 k1:kitAny K (.ref C) ([a1,a2,a3,a4,a5,a6].map JH)=some false
 k2:kitOne K (.ref C) (.type "ValueError")=some true
end L2
namespace Mp
open PySem L2
noncomputable def top(i:Nat):JA:=PySem.Challenge.pw_millpath_k60_needs_in_a_ring.main.body.getD i (.Pass ⟨0,0,0,0⟩)
abbrev jV:JA:=top 10
abbrev mI:JA:=top 11
abbrev eQ:JA:=top 12
abbrev i9:JA:=top 13
abbrev ky:JA:=top 14
abbrev o8:JA:=top 15
abbrev hX:JA:=top 16
abbrev jJ:JA:=top 17
abbrev bY:JA:=top 19
abbrev bA:JA:=top 20
abbrev bR:JA:=top 21
abbrev j4:JA:=top 22
abbrev fE:JA:=top 23
abbrev dR:JA:=top 24
abbrev dS:JA:=top 25
abbrev l7:JA:=top 27
abbrev oY:JA:=top 28
abbrev rN:JA:=top 29
abbrev oA:JA:=top 30
abbrev kJ:JA:=top 31
abbrev gq:JA:=top 32
variable {am:List (Key×V)}
theorem qN{k:Key}{v:V}:cg ((k,v)::am) k=some v:=by
 unfold cg;rw[EY,show(decide ((k,v).1=k))=true from decide_eq_true rfl]
 rfl
theorem nP{k k':Key}{v:V}(h:¬k=k'):cg ((k,v)::am) k'=cg am k':=by unfold cg;rw[EY,show(decide ((k,v).1=k'))=false from decide_eq_false h]
theorem key_ne:¬((Jx (some ("cells":Str)):Key)=Jx (some ("turn":Str))):=by rfl'
noncomputable def stK(c:I_)(t:Int):List (Key×V):=[(Jx (some ("cells":Str)),V.ref c),(Jx (some ("turn":Str)),V.int t)]
theorem qg(c:I_)(t:Int):cg (stK c t) (Jx (some ("cells":Str)))=some (.ref c):=qN
theorem ue(c:I_)(t:Int):cg (stK c t) (Jx (some ("turn":Str)))=some (.int t):=by unfold stK;rw[nP key_ne];exact qN
theorem AV(c:I_)(t u:Int):putK (stK c t) (Jx (some ("turn":Str))) (.int u)=stK c u:=by
 have e:((stK c t).any λkv=>decide (kv.1=(Jx (some ("turn":Str)):Key)))=true:=by rw[jd,ue];rfl
 unfold putK;rw[if_pos e];show [(if(Jx (some ("cells":Str)):Key)=Jx (some ("turn":Str))then _ else _),(if(Jx (some ("turn":Str)):Key)=Jx (some ("turn":Str))then _ else _)]=stK c u;rw[if_neg key_ne,if_pos rfl]
 rfl
structure StAt (H:Hp) (st c:I_) (cs:List Int) (t:Int):Prop where
 d:H st=some (.dK (stK c t))
 l:H c=some (.lst (cs.map V.int))
 pos:0<cs.length
 len:cs.length<=63
variable {H:Hp}{cs:List Int}{st:I_}
theorem StAt.ne {c:I_}{t:Int}(S:StAt H st c cs t):st≠c:=zZ S.d S.l (by intro z;cases z)
variable {H':Hp}
theorem StAt.same {c:I_}{t:Int}(S:StAt H st c cs t)(e:aJ H H'):StAt H' st c cs t:=⟨e _ _ S.d,e _ _ S.l,S.pos,S.len⟩
structure Txt (mg:Str->Option IY):Prop where
 len:mg "len"=none
 list:mg "list"=none
 divmod:mg "divmod"=none
 isinstance:mg "isinstance"=none
 dict:mg "dict"=none
 tuple:mg "tuple"=none
 str:mg "str"=none
 int:mg "int"=none
 bool:mg "bool"=none
 all:mg "all"=none
 any:mg "any"=none
 zip:mg "zip"=none
 range:mg "range"=none
 max:mg "max"=none
 min:mg "min"=none
 abs:mg "abs"=none
 sum:mg "sum"=none
 sorted:mg "sorted"=none
 enumerate:mg "enumerate"=none
 set:mg "set"=none
 reversed:mg "reversed"=none
def zd(K:Ja):Sp:=λvs H Q _=>∃(a:I_) (ns:List Int),vs=[.ref a]/\SqL K H a (ns.map V.int)/\ns.length<=63/\∀(st c:I_) (cs:List Int) (H':Hp),H st=none->H c=none->StAt H' st c cs 0->aJ H H'->Q (.ref st) H'
def Be:Sp:=λvs H Q _=>∃(st c:I_) (cs:List Int) (t m:Int),vs=[.ref st,.int m]/\StAt H st c cs t/\0<=t/\t<2 ^ 40/\0<m/\m<1073741824/\
 ∀(r:Int) (cs':List Int) (H':Hp),0<=r->r<m->StAt H' st c cs' (t+1)->Kp st c H H'->Q (.int r) H'
variable {f:I_}{fd:Jt}
section
variable{P:Ji}{w:Jm}{K:Ja}{mg:Str->Option IY}{base:Jp}
theorem scB:FnScope ["_law_script","_law_cells"] ["_law_script"] (af l7):=⟨rfl,rfl,rfl,by rfl',rfl,by rfl',by rfl'⟩
theorem wo(F:Fun K "_law_begin" "_law_begin" l7 f fd)(T:Txt mg):FnOk P w K mg base CX0 1 f fd ["_law_script"] (zd K):=by
 refine F.ok scB (λvs H Q E h=>?_) (λcdv A outer s H vs Q E hr h=>?_)
 ·obtain⟨a,ns,rfl,_⟩:=h
  rfl
 obtain⟨a,ns,rfl,hS,h63,q⟩:=h;have sc:=@scB;refine⟨_,(aN (dy (i:=1) sc.nd rfl (f_ rfl) (nJ jb (by rfl) T.list (by rfl') (aC (pJ u9 (pv 0) zi (sU aX)) bU)))
  (aN (pG (o9 vt (pv 1) (xJ bU) (aZ _)) (cw (dy (i:=1) sc.nd rfl (f_ rfl) (xJ (aC aX bU)))) jr)
  (cw (jZ (yD (qe cH (pv 1) (qe cH aX xY)) rfl rfl (by intro z;cases z) (by decide)))))),?_⟩
 refine⟨_,rfl,_,rfl,a,_,rfl,hS,λp hp=>⟨p,_,rfl,.inl (SqL.of aq),λl hl=>?_⟩⟩;obtain⟨zs,ez,lz⟩:∃zs:List Int,gu (ns.map V.int) none (some 63)=zs.map V.int/\zs.length<=63:=by refine⟨_,by unfold gu;rw[<-HM,<-IF],?_⟩;exact ER (List.length_take_le' _ _) (ER (by rw[Fi];omega) h63)
 have hp0:H p=none:=hp;have hl0:H l=none:=(aF hp _).none hl;have g1:aJ H (upd (upd H p (.lst (gu (ns.map V.int) none (some 63)))) l (.lst (gu (ns.map V.int) none (some 63)))):=(aF hp _).trans' (aF hl _);refine⟨_,rfl,(by show 0<=sizeLine;decide),λe he=>?_⟩;have hul:∀o,upd (upd (upd H p (.lst (gu (ns.map V.int) none (some 63)))) l (.lst (gu (ns.map V.int) none (some 63)))) e o l=some (.lst (zs.map V.int)):=λo=>by rw[av (aS aq he),aq,ez]
 have he0:H e=none:=g1.none he;have g2:=g1.trans' (aF he (.lst []));refine⟨.lst (di zs),.lst (di []),qG (SqL.of (hul _)),qG (SqL.of aq),?_,_,rfl,?_⟩
 ·have:=kS hr;rw[dpt,n9];exact this
 have fin:∀(c:I_) (cs:List Int) (H2:Hp),H c=none->aJ H H2->H2 c=some (.lst (cs.map V.int))->0<cs.length->cs.length<=63->∀p,H2 p=none->StAt (upd (upd H2 p (.dK [])) p (.dK (gv [] [(Jx (some ("cells":Str)),V.ref c),(Jx (some ("turn":Str)),V.int 0)]))) p c cs 0/\aJ H (upd (upd H2 p (.dK [])) p (.dK (gv [] [(Jx (some ("cells":Str)),V.ref c),(Jx (some ("turn":Str)),V.int 0)]))):=λc cs H2 hc g h1 h2 h3 p hp=>by
  have em:gv [] [((Jx (some ("cells":Str)):Key),V.ref c),(Jx (some ("turn":Str)),V.int 0)]=stK c 0:=by
   show putK (putK ([]:List (Key×V)) (Jx (some ("cells":Str))) (V.ref c)) (Jx (some ("turn":Str))) (V.int 0)=stK c 0;rw[pN _ (show cg ([]:List (Key×V)) (Jx (some ("cells":Str)))=none from rfl),Gn,pN _ (show cg [((Jx (some ("cells":Str)):Key),V.ref c)] (Jx (some ("turn":Str)))=none by rw[nP key_ne];rfl)]
   rfl
  rw[em,zQ];exact⟨⟨aq,by rw[av (aS h1 hp)];exact h1,h2,h3⟩,g.trans' (aF hp _)⟩
 refine DM (λc=>?_) (λc=>?_)
 ·
  refine⟨(by show 1<=sizeLine;decide),λc7 h7=>?_⟩;have g3:=g2.trans' (aF h7 (.lst [V.int 7]));intro p' hp';obtain⟨S,g4⟩:=fin c7 [7] _ (g2.none h7) g3 aq (by decide) (by decide) p' hp';refine⟨_,rfl,?_,[(Jx (some ("cells":Str)),V.ref c7),(Jx (some ("turn":Str)),V.int 0)],rfl,(by show 2<=15;decide),?_⟩
  ·exact aq
  exact q p' c7 [7] _ (g3.none hp') (g2.none h7) S g4
 have c0:0<zs.length:=by
  cases zs with
  |nil=>rw[gp]at c;cases c
  |cons a r=>exact Nat.succ_pos _
 intro p' hp';obtain⟨S,g4⟩:=fin l zs _ hl0 g2 (hul _) c0 lz p' hp';refine⟨_,rfl,?_,[(Jx (some ("cells":Str)),V.ref l),(Jx (some ("turn":Str)),V.int 0)],rfl,(by show 2<=15;decide),?_⟩
 ·exact aq
 exact q p' l zs _ (g2.none hp') hl0 S g4
theorem scT:FnScope ["_law_state","_law_many","_law_turn","_law_place","_law_cell","_law_digit","_law_mixed"] ["_law_state","_law_many"] (af oY):=⟨rfl,rfl,rfl,by rfl',rfl,by rfl',by rfl'⟩
theorem y4(F:Fun K "_law_take" "_law_take" oY f fd)(T:Txt mg):FnOk P w K mg base CX0 1 f fd ["_law_state","_law_many"] Be:=by
 refine F.ok scT (λvs H Q E h=>?_) (λcdv A outer s H vs Q E hr h=>?_)
 ·obtain⟨st,c,cs,t,m,rfl,_⟩:=h
  rfl
 obtain⟨st,c,cs,t,m,rfl,S,ht0,ht,hm0,hm1,q⟩:=h;have sc:=@scT;have hu:=kS hr;refine⟨_,(aN (dy (i:=2) sc.nd rfl (f_ rfl) (bq mL (lj hu (pv 0) cH (λ_ _=>rfl)) aX))
  (aN (zR hu (pv 0) cH (pv 2) rfl)
  (aN (dy (i:=3) sc.nd rfl (f_ rfl) (bq iC (pv 2) (dJ jn (by rfl) T.len (by rfl') (aC (lj hu (pv 0) cH (λ_ _=>rfl)) bU))))
  (aN (dy (i:=4) sc.nd rfl (f_ rfl) (Aj ud (lj hu (pv 0) cH (λ_ _=>rfl)) (pv 3) (λ_ _=>rfl)))
  (aN (pG (o9 DJ (pv 4) (bq C9 aX aX) (aZ _)) (aN (xR (dJ qw (by rfl) T.divmod (by rfl') (aC (pv 4) (aC (pv 1) bU))) (x4 rfl (lF (vR (lj hu (pv 0) cH (λ_ _=>rfl)) (pv 3) set_list) (lF (sN (i:=5) sc.nd rfl (f_ rfl)) tj))))
  (cw (jZ (pv 5)))) jr)
  (aN (dy (i:=6) sc.nd rfl (f_ rfl) (bq iC (bq jR (bq mL (bq mL (bq iC (pv 4) aX) (bq jR (bq jR (pv 2) (pv 2)) aX)) aX) aX) aX))
  (aN (dy (i:=6) sc.nd rfl (f_ rfl) (bq iC (bq jR (pv 6) (pv 6)) aX))
  (cw (jZ (bq iC (bq yn (bq iC (bq jR (bq mL (pv 6) (bq jR (pv 2) aX)) aX) aX) aX) (pv 1))))))))))),?_⟩
 have D0:jI H st (.str ("turn":Str)) (some (.int t)):=by rw[<-ue c t];exact jI.k (k:=Jx (some ("turn":Str))) S.d
 refine⟨_,rfl,st,_,rfl,D0,_,_,rfl,rfl,?_⟩;have hP:v9 H st (.str ("turn":Str)) (.int (t+1)) (upd H st (.dK (stK c (t+1)))):=by rw[<-AV c t (t+1)];exact v9.k (k:=Jx (some ("turn":Str))) S.d (by show 2<sizeLine;decide)
 refine⟨_,rfl,_,rfl,st,_,rfl,hP,?_⟩;have S1:StAt (upd H st (.dK (stK c (t+1)))) st c cs (t+1):=⟨aq,by rw[av S.ne.symm];exact S.l,S.pos,S.len⟩;have K1:Kp st c H (upd H st (.dK (stK c (t+1)))):=λb o e n1 n2=>by rw[av n1];exact e
 generalize upd H st (.dK (stK c (t+1)))=H1 at S1 K1 ⊢;have D1:jI H1 st (.str ("cells":Str)) (some (.ref c)):=by rw[<-qg c (t+1)];exact jI.k (k:=Jx (some ("cells":Str))) S1.d
 have hl:(cs.map V.int).length=cs.length:=a_ _;have hpos:(0:Int)<(((cs.map V.int).length:Nat):Int):=by rw[hl];have:=S.pos;omega
 refine⟨_,rfl,_,rfl,st,_,rfl,D1,c,_,rfl,.inl (SqL.of S1.l),_,_,rfl,rfl,hpos,?_⟩;have j0:0<=(t+1)%(((cs.map V.int).length:Nat):Int):=GY _ (by omega);have j1:(t+1)%(((cs.map V.int).length:Nat):Int)<(cs.length:Int):=by have:=Gu (t+1) hpos;rw[hl]at this ⊢;exact this
 obtain⟨v,hat⟩:∃v:Int,atI (cs.map V.int) ((t+1)%(((cs.map V.int).length:Nat):Int))=some (.int v):=⟨_,vw j0 j1⟩;refine⟨_,rfl,st,_,rfl,D1,_,rfl,c,_,_,_,rfl,rfl,SqL.of S1.l,hat,?_⟩;refine⟨_,rfl,_,_,rfl,rfl,⟨by decide,by decide,by decide⟩,_,_,rfl,rfl,_,rfl,?_⟩;refine DM (λhc=>?_) (λhc=>?_)
 ·
  refine⟨_,rfl,_,rfl,_,_,rfl,⟨hm0,hm1⟩,λp hp=>?_⟩;have g:=aF hp (.tup [.int (v/m),.int (v%m)]);have S2:=S1.same g;have D2:jI (upd H1 p (.tup [.int (v/m),.int (v%m)])) st (.str ("cells":Str)) (some (.ref c)):=by rw[<-qg c (t+1)];exact jI.k (k:=Jx (some ("cells":Str))) S2.d
  refine⟨p,_,rfl,SqT.of aq,rfl,_,_,rfl,?_⟩;refine⟨_,rfl,st,_,rfl,D2,_,rfl,c,_,_,((t+1)%(((cs.map V.int).length:Nat):Int)).toNat,rfl,rfl,S2.l,um j0 (by rw[hl];rw[hl]at j1;exact j1),?_⟩;refine⟨_,_,rfl,rfl,?_⟩;refine⟨_,rfl,?_⟩;have es:∀j:Nat,(cs.map V.int).set j (.int (v/m))=(cs.set j (v/m)).map V.int:=λj=>by rw[Hn]
  refine q (v%m) (cs.set ((t+1)%(((cs.map V.int).length:Nat):Int)).toNat (v/m)) _ (GY _ (by omega)) (Gu _ hm0) ⟨?_,?_,?_,?_⟩ ?_
  ·rw[av S2.ne];exact S2.d
  ·rw[aq,es]
  ·rw[D_];exact S.pos
  ·rw[D_];exact S.len
  intro b o e n1 n2;rw[av n2];exact g b o (K1 b o e n1 n2)
 
 have mulR:∀(x y:Int),-(2 ^ 64)<y->y<2 ^ 64->yX x y:=λx y h1 h2=>.inr ⟨h1,h2⟩;refine⟨_,rfl,_,_,rfl,rfl,(by show(0:Int)<2147483629;decide),_,rfl,_,rfl,_,_,rfl,rfl,mulR _ _ (by omega) (by omega),_,_,rfl,rfl,mulR _ _ (by decide) (by decide),_,_,rfl,rfl,_,_,rfl,rfl,_,_,rfl,rfl,mulR _ _ (by decide) (by decide),_,_,rfl,rfl,(by show(0:Int)<2147483647;decide),?_⟩;generalize hM:(v%2147483629+(t+1)*(t+1)*7919+11)*48271%2147483647=M;have m0:0<=M:=by rw[<-hM];exact GY _ (by decide)
 have m1:M<2147483647:=by rw[<-hM];exact Gu _ (by decide)
 refine⟨_,rfl,_,rfl,_,_,rfl,rfl,mulR _ _ (by omega) (by omega),_,_,rfl,rfl,(by show(0:Int)<2147483587;decide),?_⟩;refine⟨_,rfl,_,rfl,_,_,rfl,rfl,mulR _ _ (by decide) (by decide),_,_,rfl,rfl,_,_,rfl,rfl,mulR _ _ (by decide) (by decide),_,_,rfl,rfl,(by show(0:Int)<2147483629;decide),_,_,rfl,rfl,⟨by decide,by decide⟩,_,rfl,_,_,rfl,rfl,hm0,?_⟩;exact q _ cs H1 (GY _ (by omega)) (Gu _ hm0) S1 K1
end
open PySem L2 PL
structure Cells where
 cs:List Int
 pos:0<cs.length
 len:cs.length<=63
noncomputable def stT(c:Cells)(n:Nat):T:=.dK true [(Jx (some ("cells":Str)),.lst true (c.cs.map T.int)),(Jx (some ("turn":Str)),.int (n:Int))]
variable {n:Nat}
theorem eG{c:Cells}:isAny (stT c n)=false:=rfl
def Scr(K:Ja)(t:T)(ns:List Int):Prop:=t=.lst false (ns.map T.int)\/∃a,t=.hole (.ref a)/\∀H,SqL K H a (ns.map V.int)
def oV(K:Ja):FP:=λts k=>∃t,∃ns:List Int,ts=[t]/\Scr K t ns/\ns.length<=63/\∀c,k (stT c 0) ts
def p0:FP:=λts k=>∃c n m,ts=[stT c n,.int m]/\n<2 ^ 40/\0<m/\m<1073741824/\∀r c',0<=r->r<m->k (.int r) [stT c' (n+1),.int m]
variable {Γ:Fm}{α β:Type}
section
variable{P:Ji}{w:Jm}{K:Ja}{mg:Str->Option IY}{base:Jp}
theorem Bb{l:List (α×β)}{a b:α}(h:[a,b]=l.map (·.1)):∃v w,l=[(a,v),(b,w)]:=by
 cases l with
 |nil=>cases h
 |cons x l=>
  cases l with
  |nil=>cases h
  |cons y l=>
   cases l with
   |nil=>
    have h1:=(FY h).1;have h2:=(FY (FY h).2).1;exact⟨x.2,y.2,by rw[h1,h2]⟩
   |cons z l=>cases (FY (FY h).2).2
theorem pM{a:I_}{o:HO}(h:H a=some o):Put H a o H:=⟨h,λ_ _=>rfl⟩
theorem DZ{c:Cells}{v:V}(h:Rp K H ((stT c n,some v)::Γ)):∃st l,v=.ref st/\StAt H st l c.cs n/\Rp K H ((.bare,some (.ref st))::(.bare,some (.ref l))::Γ):=by
 obtain⟨st,am,ev,hs,ek,h2⟩:=pP h;cases ev;obtain⟨v1,v2,rfl⟩:=Bb ek;have h2:Rp K H ((.bare,some (.ref st))::(.lst true (c.cs.map T.int),some v1)::(.int (n:Int),some v2)::Γ):=h2;have e2:v2=.int n:=aE h2.tail.tail;subst e2;have h3:=h2.perm (.swap _ _ _);obtain⟨l,vs,el,hl,ll,h4⟩:=eO h3;cases el;have ev:vs=c.cs.map V.int:=jD ll h4.tail;subst ev;refine⟨st,l,rfl,⟨hs,hl,c.pos,c.len⟩,?_⟩;have h5:Rp K H ((.bare,some (.ref l))::(.bare,some (.ref st))::(.int (n:Int),some (.int n))::Γ):=by have:Rp K H (zz (c.cs.map T.int) (c.cs.map V.int)++((.bare,some (.ref l))::(.bare,some (.ref st))::(.int (n:Int),some (.int n))::Γ)):=h4.perm e_.symm;exact this.part
 exact(h5.perm (by refine C_ (.cons _ (.swap _ _ _)) ?_;refine C_ (.swap _ _ _) ?_;exact .cons _ (.swap _ _ _))).tail
theorem qz{H:Hp}{Γ:Fm}:∀(ns:List Int),Rp K H Γ->Rp K H (zz (ns.map T.int) (ns.map V.int)++Γ)
 | [],h=>h
 |n::r,h=>bH (qz r h) λ_=>.int
theorem x5{l:I_}(S:StAt H st l cs n)(h:Rp K H ((.bare,some (.ref st))::(.bare,some (.ref l))::Γ)):∃c,Rp K H ((stT c n,some (.ref st))::Γ):=by
 refine⟨⟨cs,S.pos,S.len⟩,?_⟩;have h1:Rp K H ((.bare,some (.ref l))::(zz (cs.map T.int) (cs.map V.int)++((.bare,some (.ref st))::Γ))):=(qz cs (h.perm (.swap _ _ _))).perm e_;have h2:=dI h1 (by rw[a_,a_]) (pM S.l);have h3:Rp K H ((.bare,some (.ref st))::((.lst true (cs.map T.int),some (.ref l))::(.int (n:Int),some (.int n))::Γ)):=by refine(bH (t:=.int (n:Int)) h2 λ_=>.int).perm ?_;refine C_ (.swap _ _ _) ?_;refine C_ (.cons _ (.swap _ _ _)) ?_;exact .swap _ _ _
 exact nS (ts:=[(Jx (some ("cells":Str)),.lst true (cs.map T.int)),(Jx (some ("turn":Str)),.int (n:Int))]) (vs:=stK l n) h3 rfl (pM S.d)
theorem Dw{a c:I_}(h:Rp K H ((.bare,some (.ref a))::(.bare,some (.ref c))::Γ))(k:Kp a c H H')(ha:∃u,H' a=some u/\∀xs,u≠.tup xs)(hc:∃u,H' c=some u/\∀xs,u≠.tup xs):Rp K H' ((.bare,some (.ref a))::(.bare,some (.ref c))::Γ):=by
 obtain⟨ua,ea,na⟩:=ha;obtain⟨uc,ec,nc⟩:=hc;obtain⟨Hz,N,h,nd,g,d⟩:=h;cases h with
 |cons e1 h1 c1=>
  cases c1 with
  |cons e2 h2 c2=>
   rcases h1 with⟨z,_⟩|⟨v1,ev1,h1⟩
   ·cases z
   rcases h2 with⟨z,_⟩|⟨v2,ev2,h2⟩
   ·cases z
   cases ev1;cases ev2;cases h1;cases h2;rename_i M u1 hu1 nt1 u2 hu2 nt2;subst e2;subst e1;have nd':(a::c::M).Nodup:=nd;rw[y_,y_]at nd';have keep:∀b o,H b=some o->b≠a->b≠c->H' b=some o:=k;have tk:TK H H':=λb xs r=>keep b _ r (λz=>nt1 xs (z▸r)) (λz=>nt2 xs (z▸r));have za:Hz a=none:=d a q_;have zc:Hz c=none:=d c (i_ _ q_);have g':Gr Hz H':=λb u r=>by
    obtain⟨w',q⟩:=Rd.some r;have b1:b≠a:=λz=>by rw[z,za]at q;cases q
    have b2:b≠c:=λz=>by rw[z,zc]at q;cases q
    rcases g b u r with r|⟨o,r⟩
    ·exact .inl (keep b _ r b1 b2)
    exact .inr ⟨o,keep b _ r b1 b2⟩
   refine⟨Hz,[a]++([c]++M),.cons rfl (.inr ⟨_,rfl,.bare ea λxs z=>?_⟩) (.cons rfl (.inr ⟨_,rfl,.bare ec λxs z=>?_⟩) (c2.move tk .ck λb m u e=>?_)),nd,g',d⟩
   ·rw[ea]at z;exact na xs (EM z)
   ·rw[ec]at z;exact nc xs (EM z)
   have b1:b≠a:=λz=>nd'.1 (by rw[<-z];exact i_ _ m)
   have b2:b≠c:=λz=>nd'.2.1 (by rw[<-z];exact m)
   exact⟨keep b u e b1 b2,λnt xs r=>nt xs (by rw[keep b u e b1 b2]at r;exact e.trans r)⟩
theorem y8{a c:I_}(h:Rp K H Γ)(ha:H a=none)(hc:H c=none)(ne:a≠c)(s:aJ H H')(ea:∃u,H' a=some u/\∀xs,u≠.tup xs)(ec:∃u,H' c=some u/\∀xs,u≠.tup xs):Rp K H' ((.bare,some (.ref a))::(.bare,some (.ref c))::Γ):=by
 obtain⟨ua,ea,na⟩:=ea;obtain⟨uc,ec,nc⟩:=ec;obtain⟨Hz,N,h,nd,g,d⟩:=h;have n1:a ∉ N:=λm=>by obtain⟨⟨u,e⟩,_⟩:=h.there a m;rw[ha]at e;cases e
 have n2:c ∉ N:=λm=>by obtain⟨⟨u,e⟩,_⟩:=h.there c m;rw[hc]at e;cases e
 refine⟨Hz,[a]++([c]++N),.cons rfl (.inr ⟨_,rfl,.bare ea λxs z=>?_⟩) (.cons rfl (.inr ⟨_,rfl,.bare ec λxs z=>?_⟩) (h.move (aJ.tk s) .ck λb m u e=>gL s b u e)),?_,g.trans (.of s),?_⟩
 ·rw[ea]at z;exact na xs (EM z)
 ·rw[ec]at z;exact nc xs (EM z)
 ·show(a::c::N).Nodup;rw[y_,y_];exact⟨λm=>(k_.mp m).elim (λz=>ne z) n1,n2,nd⟩
 intro b m;have m:b∈a::c::N:=m;rcases k_.mp m with rfl|m
 ·exact g.none ha
 rcases k_.mp m with rfl|m
 ·exact g.none hc
 exact d b m
theorem wq(D:Dfn K mg "_law_take" oY ["_law_state","_law_many"])(TX:Txt mg):Cal P w K mg base 1 "_law_take" ["_law_state","_law_many"] (ax K 2 p0):=by
 refine(D.cal λ_ _ F=>y4 F TX).imp ?_;rintro vs H Q E ⟨ts,Fr,k,l,hn,rp,⟨c,n,m,rfl,h1,h2,h3,pk⟩,q⟩;obtain⟨x,y,rfl⟩:=zz2 l rfl;have rp:Rp K H ((stT c n,some x)::(.int m,some y)::Fr):=rp;have ey:=aE rp.tail;subst ey;obtain⟨st,lc,rfl,S,ce⟩:=DZ rp;refine⟨st,lc,c.cs,n,m,rfl,S,by omega,by omega,h2,h3,λr cs' H' hr0 hr1 S' kp=>?_⟩;have cl:=Dw ce kp ⟨_,S'.d,λ_ z=>by cases z⟩ ⟨_,S'.l,λ_ z=>by cases z⟩;have S'':StAt H' st lc cs' ((n+1:Nat):Int):=by push_cast;exact S'
 obtain⟨c',rp4⟩:=x5 S'' cl;exact q _ _ _ _ (pk r c' hr0 hr1) (bH rp4 λ_=>.int)
theorem rC{w y:V}(h:Rp K H ((.hole w,some y)::Γ)):y=w:=by
 obtain⟨_,_,r,_⟩:=iM h rfl;cases r
 rfl
theorem uD(D:Dfn K mg "_law_begin" l7 ["_law_script"])(TX:Txt mg):Cal P w K mg base 1 "_law_begin" ["_law_script"] (ax K 1 (oV K)):=by
 refine(D.cal λ_ _ F=>wo F TX).imp ?_;rintro vs H Q E ⟨ts,Fr,k,l,hn,rp,⟨t,ns,rfl,hs,h1,pk⟩,q⟩;obtain⟨x,rfl⟩:=zz1 l rfl;have rp:Rp K H ((t,some x)::Fr):=rp;obtain⟨a,rfl,hq⟩:∃a,x=.ref a/\SqL K H a (ns.map V.int):=by
  rcases hs with rfl|⟨a,rfl,hs⟩
  ·obtain⟨a,us,rfl,hq,l2,ce⟩:=ay rfl rp;have eu:=jD l2 ce;subst eu;exact⟨a,rfl,hq⟩
  exact⟨a,rC rp,hs H⟩
 refine⟨a,ns,rfl,hq,h1,λst lc cs H' hs hl S g=>?_⟩;have cl:=y8 rp hs hl S.ne g ⟨_,S.d,λ_ z=>by cases z⟩ ⟨_,S.l,λ_ z=>by cases z⟩;obtain⟨c,rp4⟩:=x5 (n:=0) S cl;exact q _ _ _ _ (pk c) rp4
def xt(K:Ja):FP:=λts k=>∃t,∃ns:List Int,ts=[t]/\Scr K t ns/\ns.length<=63/\∀z,k (.bl true) [z]
def uf(K:Ja):Sp:=λvs H Q _=>∃(a:I_) (ns:List Int),vs=[.ref a]/\SqL K H a (ns.map V.int)/\ns.length<=63/\∀H',Q (.bl true) H'
theorem qj{Hz H:Hp}:∀(ns:List Int),RepTs K Hz H (ns.map T.int) (ns.map V.int) []
 | []=>.nil
 | _::r=>.cons rfl .int (qj r)
theorem C7{k:Nat}(F:FnOk P w K mg base CX0 k f fd ["_law_script"] (ax K 1 (xt K))):FnOk P w K mg base CX0 k f fd ["_law_script"] (uf K):=by
 refine F.imp ?_;rintro vs H Q E ⟨a,ns,rfl,hq,h1,q⟩;have key:∀t,Scr K t ns->(∀Hz,RepT K H Hz t (.ref a) [])->ax K 1 (xt K) [.ref a] H Q E:=λt sc ht=>
  ⟨[t],[],λt _=>t=.bl true,rfl,rfl,⟨H,[],.cons rfl (.inr ⟨_,rfl,ht H⟩) .nil,F6,.ck,λ_ m=>by cases m⟩,⟨t,ns,rfl,sc,h1,λ_=>rfl⟩,λt ts' v H' e rp=>by subst e;rw[vq rp];exact q H'⟩
 rcases hq with hq|hq
 ·exact key _ (.inl rfl) λHz=>.lstZ hq (qj ns)
 exact key _ (.inr ⟨a,rfl,λH=>.inr hq⟩) λHz=>.hole
end
open PySem L2 PL
theorem zD{l:List α}{i:Int}(h0:0<=i)(h1:i<l.length):∃x,x∈l/\atI l i=some x:=by
 have h:i.toNat<l.length:=by lia
 refine⟨l[i.toNat],Ga h,?_⟩;have:=oG (xs:=l) (j:=i.toNat) (d_ h);rwa[HQ h0]at this
theorem n8(P:Int->Prop){ns:List Int}{i:Int}(h0:0<=i)(h1:i<ns.length)(hp:∀x∈ns,P x):∃v,atI (ns.map T.int) i=some (.int v)/\P v:=by obtain⟨t,m,e⟩:=zD (l:=ns.map T.int) h0 (by rw[a_];exact h1);obtain⟨v,mv,rfl⟩:=EV.mp m;exact⟨v,e,hp v mv⟩
theorem BH{K:Ja}{t:T}{ns:List Int}(h:Scr K t ns):er t=t/\isAny t=false:=by
 rcases h with rfl|⟨a,rfl,_⟩
 ·exact⟨by simp only[er,aP],rfl⟩
 exact⟨rfl,rfl⟩
theorem cS{c:Cells}:b7 (stT c n)=true:=by simp only[stT,b7,mB,b0,fW,Gj,IG]
variable {i:Nat}
theorem map_take{g:α->β}{l:List α}{x:α}(h:l[i]?=some x):F0 g (l.take (i+1))=F0 g (l.take i)++[g x]:=by rw[FQ,h,x_];rfl
theorem jO{g:α->β}{p:α->Bool}{l:List α}{x:α}(h:l[i]?=some x):F0 g ((l.take (i+1)).filter p)=F0 g ((l.take i).filter p)++(if p x then [g x]else []):=by rw[FQ,h,G5,x_];congr 1;show F0 g (List.filter p [x])=_;rw[Ho];cases p x <;> rfl
theorem m9{i:Int}:isD (.int i)=true:=rfl
def Gd(t:T)(n:Nat):Prop:=isD t=true/\dpt (dt t)<=n
def GdL(ts:List T)(n:Nat):Prop:=gO ts=true/\bw (dtL ts)<=n
theorem yR{i:Int}:Gd (.int i) n:=⟨rfl,by rw[dt,dpt.eq_def];exact ES _⟩
theorem oW:GdL [] n:=⟨rfl,by simp only[dtL,bw,ES]⟩
variable {ts:List T}
theorem gc{t:T}(h:Gd t n)(r:GdL ts n):GdL (t::ts) n:=
 ⟨by rw[gO,h.1,r.1];rfl,by rw[dtL,bw];exact Nat.max_le.mpr ⟨h.2,r.2⟩⟩
theorem pd{g:α->T}{l:List α}(h:∀x∈l,Gd (g x) n):GdL (l.map g) n:=by
 induction l with
 |nil=>exact oW
 |cons x l ih=>exact gc (h x (q_ ..)) (ih λy m=>h y (i_ _ m))
variable {o:Bool}
theorem Bw(h:GdL ts n):Gd (.lst o ts) (n+1):=
 ⟨by rw[isD];exact h.1,by rw[dt,dpt];exact GD h.2⟩
theorem CU(h:GdL ts n):Gd (.tup ts) (n+1):=
 ⟨by rw[isD];exact h.1,by rw[dt,dpt];exact GD h.2⟩
abbrev Rws:=List (Int×Nat)
def rdB(R:Rws)(d i:Nat):Bool:=match R[i]? with
 |some r=>!d.testBit i&&(r.2 &&& d == r.2)
 |none=>false
def rdy(R:Rws)(d:Nat):List Nat:=(u_ R.length).filter (rdB R d)
noncomputable def tl(R:Rws)(i:Nat):Int:=(R.getD i (0,0)).1
noncomputable def cst(t:Option Int)(u:Int):Int:=if t=some u then 0 else 1
def tkF(R:Rws):Option Int->List Nat->Int
 | _,[]=>0
 |t,i::o=>tkF R (some (tl R i)) o+cst t (tl R i)
def Ch(R:Rws):Nat->List Nat->Prop
 | _,[]=>True
 |d,i::o=>i∈rdy R d/\Ch R (d ||| 2 ^ i) o
noncomputable def orM:Nat->List Nat->Nat
 |d,[]=>d
 |d,i::o=>orM (d ||| 2 ^ i) o
def Cmp(R:Rws)(d:Nat)(o:List Nat):Prop:=Ch R d o/\orM d o=2 ^ R.length-1
noncomputable def Sub(a b:Nat):Prop:=∀j,a.testBit j=true->b.testBit j=true
variable {a:Nat}
theorem pf{b:Nat}:a &&& b=a↔Sub a b:=by
 constructor
 ·intro h j hj;have:=congrArg (λx=>x.testBit j) h;simp only[Gq,hj,Gj]at this;exact this
 intro h;apply Gi;intro j;rw[Gq];cases e:a.testBit j with
 |false=>rfl
 |true=>rw[h j e];rfl
variable {d:Nat}
theorem jL{j:Nat}:(d ||| 2 ^ i).testBit j=(d.testBit j || decide (i=j)):=by rw[Gw,HR]
theorem jm(h:d<2 ^ n)(hi:i<n):d ||| 2 ^ i<2 ^ n:=Nat.or_lt_two_pow h (Nat.pow_lt_pow_right (by decide) hi)
theorem sO(h:d.testBit i=false):d<d ||| 2 ^ i:=by
 refine Fo HG λz=>?_;have:(d ||| 2 ^ i).testBit i=true:=by rw[jL];simp
 rw[<-z,h]at this;cases this
theorem dA{j:Nat}:(2 ^ n-1).testBit j=decide (j<n):=G6 ..
theorem Bf{j:Nat}(h:d<2 ^ n)(hj:n<=j):d.testBit j=false:=Nat.testBit_lt_two_pow (w_ h (FU (by decide) hj))
theorem jx(h:d<2 ^ n)(s:Sub (2 ^ n-1) d):d=2 ^ n-1:=by
 apply Gi;intro j;rw[dA];by_cases hj:j<n
 ·rw[decide_eq_true hj];exact s j (by rw[dA,decide_eq_true hj])
 rw[decide_eq_false hj,Bf h (by lia)]
theorem de{R:Rws}:i∈rdy R d↔∃r,R[i]?=some r/\d.testBit i=false/\Sub r.2 d:=by
 unfold rdy;rw[Ff,Fq];unfold rdB;constructor
 ·rintro⟨h,e⟩;rw[d_ h]at e ⊢;simp only[EN,Hd,beq_iff_eq]at e;exact⟨_,rfl,e.1,pf.mp e.2⟩
 rintro⟨r,e,h1,h2⟩;refine⟨(b_.mp e).1,?_⟩;rw[e];simp only[EN,Hd,beq_iff_eq];exact⟨h1,pf.mpr h2⟩
theorem aI{R:Rws}(h:i∈rdy R d):i<R.length:=by obtain⟨r,e,_⟩:=de.mp h;exact(b_.mp e).1
theorem eU{R:Rws}(h:i∈rdy R d):d.testBit i=false:=by obtain⟨r,_,e,_⟩:=de.mp h;exact e
theorem vH(R:Rws)(d:Nat):(rdy R d).Pairwise (·<·):=List.Pairwise.filter _ GC
theorem gK(R:Rws):rdy R (2 ^ R.length-1)=[]:=List.eq_nil_iff_forall_not_mem.mpr λi h=>by have h1:=eU h;rw[dA,decide_eq_true (aI h)]at h1;cases h1
theorem qx{R:Rws}{d:Nat}(hd:d<2 ^ R.length)(ne:d≠2 ^ R.length-1):∀(o:List Nat) (d0:Nat),Cmp R d0 o->Sub d0 d->rdy R d≠[]
 | [],d0,h,s=>absurd (jx hd (by have:d0=_:=h.2;rw[<-this];exact s)) ne
 |i::o,d0,h,s=>by
  cases e:d.testBit i with
  |true=>
   refine qx hd ne o (d0 ||| 2 ^ i) ⟨h.1.2,h.2⟩ λj hj=>?_;rw[jL,FN,decide_eq_true_iff]at hj;rcases hj with hj|rfl
   ·exact s j hj
   ·exact e
  |false=>
   obtain⟨r,e1,_,e3⟩:=de.mp h.1.1;exact H0 (de.mpr ⟨r,e1,e,λj hj=>s j (e3 j hj)⟩)
def cL(R:Rws):Prop:=∃o,Cmp R 0 o
theorem sF{R:Rws}(h:cL R)(hd:d<2 ^ R.length)(ne:d≠2 ^ R.length-1):rdy R d≠[]:=by obtain⟨o,h⟩:=h;exact qx hd ne o 0 h λj hj=>by rw[FK]at hj;cases hj
def TS(R:Rws)(t:Option Int):Prop:=t=none\/∃i,i<R.length/\t=some (tl R i)
def VOk(R:Rws)(v:Nat->Option Int->Int)(d:Nat)(t:Option Int):Prop:=
 (rdy R d=[]/\v d t=0)\/(∃i∈rdy R d,v d t=v (d ||| 2 ^ i) (some (tl R i))+cst t (tl R i))/\∀i∈rdy R d,v d t<=v (d ||| 2 ^ i) (some (tl R i))+cst t (tl R i)
def vU(R:Rws)(v:Nat->Option Int->Int):Prop:=∀d t,d<2 ^ R.length->TS R t->VOk R v d t
theorem Ci{R:Rws}{v:Nat->Option Int->Int}(V:vU R v):∀(o:List Nat) (d:Nat) (t:Option Int),d<2 ^ R.length->TS R t->Cmp R d o->v d t<=tkF R t o
 | [],d,t,hd,ht,h=>by
  have e:d=2 ^ R.length-1:=h.2;rcases V d t hd ht with⟨_,e0⟩|⟨⟨i,m,_⟩,_⟩
  ·rw[e0];exact IU _
  ·rw[e,gK]at m;cases m
 |i::o,d,t,hd,ht,h=>by
  have il:=aI h.1.1;have ih:=Ci V o (d ||| 2 ^ i) (some (tl R i)) (jm hd il) (.inr ⟨i,il,rfl⟩) ⟨h.1.2,h.2⟩;rcases V d t hd ht with⟨e0,_⟩|⟨_,g⟩
  ·have:=h.1.1;rw[e0]at this;cases this
  have:=g i h.1.1;rw[tkF];lia
noncomputable def ci(o:List Nat):List Int:=o.map λ(i:Nat)=>(i:Int)
def uV(R:Rws)(v:Nat->Option Int->Int)(d:Nat)(t:Option Int)(o:List Nat):Prop:=Cmp R d o/\tkF R t o=v d t/\∀o',Cmp R d o'->tkF R t o'=v d t->ZM.lx (ci o') (ci o)=false
variable {t:Option Int}{v:Nat->Option Int->Int}
theorem wz{R:Rws}(V:vU R v)(ht:TS R t):uV R v (2 ^ R.length-1) t []:=by
 have hp:0<2 ^ R.length:=Fh _;refine⟨⟨trivial,rfl⟩,?_,λo' h _=>?_⟩
 ·rcases V (2 ^ R.length-1) t (by omega) ht with⟨_,e0⟩|⟨⟨i,m,_⟩,_⟩
  ·rw[e0];rfl
  rw[gK]at m;cases m
 cases o' with
 |nil=>rfl
 |cons i o'=>have:=h.1.1;rw[gK]at this;cases this
theorem uu{R:Rws}(V:vU R v){o:List Nat}(hd:d<2 ^ R.length)(ht:TS R t)(hi:i∈rdy R d)(hv:v (d ||| 2 ^ i) (some (tl R i))+cst t (tl R i)=v d t)
  (hm:∀j∈rdy R d,v (d ||| 2 ^ j) (some (tl R j))+cst t (tl R j)=v d t->i<=j) (B:uV R v (d ||| 2 ^ i) (some (tl R i)) o):uV R v d t (i::o):=by
 obtain⟨b1,b2,b3⟩:=B;refine⟨⟨⟨hi,b1.1⟩,b1.2⟩,by rw[tkF,b2,hv],λo' h e=>?_⟩;cases o' with
 |nil=>
  have e:d=2 ^ R.length-1:=h.2;rw[e,gK]at hi;cases hi
 |cons j o'=>
  have jl:=aI h.1.1;have lb:=Ci V o' (d ||| 2 ^ j) (some (tl R j)) (jm hd jl) (.inr ⟨j,jl,rfl⟩) ⟨h.1.2,h.2⟩;rw[tkF]at e;rcases V d t hd ht with⟨e0,_⟩|⟨_,g⟩
  ·rw[e0]at hi;cases hi
  have gj:=g j h.1.1;have ej:v (d ||| 2 ^ j) (some (tl R j))+cst t (tl R j)=v d t:=by lia
  have ij:=hm j h.1.1 ej;show(if(j:Int)=i then ZM.lx (ci o') (ci o)else decide ((j:Int)<i))=false;by_cases q:j=i
  ·subst q;rw[if_pos rfl];exact b3 o' ⟨h.1.2,h.2⟩ (by lia)
  rw[if_neg (by lia)];exact decide_eq_false (by lia)
def sM(l:List Nat):Nat:=orM 0 l
theorem u7:∀(l:List Nat) (d i:Nat),orM d (l++[i])=orM d l ||| 2 ^ i
 | [],d,i=>rfl
 |j::l,d,i=>u7 l (d ||| 2 ^ j) i
theorem l9:∀(l:List Nat) (d j:Nat),(orM d l).testBit j=true↔d.testBit j=true\/j∈l
 | [],d,j=>⟨.inl,λh=>h.elim id λm=>nomatch m⟩
 |i::l,d,j=>by rw[orM,l9 l,jL,FN,decide_eq_true_iff,k_,or_assoc,eq_comm (a:=i)]
theorem cn{l:List Nat}{j:Nat}:(sM l).testBit j=true↔j∈l:=by unfold sM;rw[l9,FK];exact⟨λh=>h.elim (λz=>nomatch z) id,.inr⟩
theorem t8{l:List Nat}{j:Nat}:(sM l).testBit j=false↔j ∉ l:=by rw[<-cn,Bool.not_eq_true]
theorem wb{l:List Nat}:sM (l++[i])=sM l ||| 2 ^ i:=u7 l 0 i
theorem pF{n:Nat}:∀(l:List Nat) (d:Nat),d<2 ^ n->(∀i∈l,i<n)->orM d l<2 ^ n
 | [],d,h,_=>h
 |i::l,d,h,g=>pF l _ (jm h (g i q_)) λj m=>g j (i_ _ m)
theorem CC{l:List Nat}(g:∀i∈l,i<n):sM l<2 ^ n:=pF l 0 (Fh _) g
theorem w9{a b:List Nat}:Sub (sM a) (sM b)↔∀i∈a,i∈b:=⟨λh i m=>cn.mp (h i (cn.mpr m)),λh j m=>cn.mpr (h j (cn.mp m))⟩
theorem qh{l:List Nat}:d ||| sM l=orM d l:=by apply Gi;intro j;rw[Gw,Hw,FN,cn,l9]
theorem tO{R:Rws}(hd:d<2 ^ R.length)(h:rdy R d≠[]):d<(d ||| sM (rdy R d))/\(d ||| sM (rdy R d))<2 ^ R.length:=by
 rw[qh];refine⟨?_,pF _ _ hd λi m=>aI m⟩;obtain⟨i,m⟩:=FA _ h;rw[<-qh];refine Fo HG λz=>?_;have:(d ||| sM (rdy R d)).testBit i=true:=by rw[Gw,cn.mpr m,IP]
 rw[<-z,eU m]at this;cases this
theorem ji[DecidableEq α]:∀{l m:List α},l.Nodup->(∀z∈l,z∈m)->l.length<=m.length:=by
 intro l;induction l with
 |nil=>intro m _ _;exact ES _
 |cons a l ih=>
  intro m nd h;obtain⟨n1,n2⟩:=y_.mp nd;have hm:a∈m:=h a q_;have:=ih (m:=m.erase a) n2 λz hz=>(HK (λe:z=a=>n1 (by rw[<-e];exact hz))).mpr (h z (i_ _ hz))
  rw[Hm hm]at this;have:=HC hm;rw[g_];lia
theorem BL{l:List Nat}(nd:l.Nodup)(g:∀i∈l,i<n):l.length=n↔sM l=2 ^ n-1:=by
 have hs:=CC g;have len:=ji nd λi m=>Fq.mpr (g i m);rw[o_]at len;constructor
 ·intro h;refine jx hs λj hj=>?_;rw[dA,decide_eq_true_iff]at hj;rw[cn];by_cases z:j∈l
  ·exact z
  have:=ji (l:=j::l) (y_.mpr ⟨z,nd⟩) λi m=>Fq.mpr ((k_.mp m).elim (λe=>e▸hj) (g i));rw[o_,g_]at this;lia
 intro h;have:=ji (Hq (n:=n)) (m:=l) λi m=>by refine cn.mp ?_;rw[h,dA,decide_eq_true (Fq.mp m)]
 rw[o_]at this;lia
def A0(R:Rws)(L:Int)(o:List Nat):Prop:=Cmp R 0 o/\tkF R none o=L/\∀o',Cmp R 0 o'->ZM.lx (tkF R none o'::ci o') (L::ci o)=false
theorem vP{R:Rws}(V:vU R v){o:List Nat}(B:uV R v 0 none o):A0 R (v 0 none) o:=by
 obtain⟨b1,b2,b3⟩:=B;refine⟨b1,b2,λo' h=>?_⟩;have lb:=Ci V o' 0 none (Fh _) (.inl rfl) h;show(if tkF R none o'=v 0 none then ZM.lx (ci o') (ci o)else decide (tkF R none o'<v 0 none))=false;by_cases e:tkF R none o'=v 0 none
 ·rw[if_pos e];exact b3 o' h e
 rw[if_neg e];exact decide_eq_false (by lia)
abbrev nT(i:Nat):T:=.int (i:Int)
noncomputable def rwT(r:Int×Nat):T:=.tup [.int r.1,.int (r.2:Int)]
theorem iF{r:Int×Nat}:er (rwT r)=rwT r:=rfl
theorem cE{r:Int×Nat}:b7 (rwT r)=true:=rfl
theorem bE{r:Int×Nat}:aD (rwT r)=true:=rfl
theorem bW{r:Int×Nat}:isAny (rwT r)=false:=rfl
theorem fM{r:Int×Nat}{k:T->Prop}:ixT (rwT r) (.int 0) k=k (.int r.1):=rfl
theorem fG{r:Int×Nat}{k:T->Prop}:ixT (rwT r) (.int 1) k=k (.int (r.2:Int)):=rfl
theorem bOr(a b:Nat):Kw (a:Int) (b:Int)=((a ||| b:Nat):Int):=by
 have nn:∀x:Int,LK (LK x)=x:=λx=>by unfold LK;lia
 have ng:∀x:Nat,¬ 0<=LK (x:Int):=λx=>by unfold LK;lia
 unfold Kw;rw[Qs (ng a) (ng b),nn,nn,nn,B_,B_]
theorem se(a b:Nat):LH (a:Int) (b:Int)=((a &&& b:Nat):Int):=by rw[Qt (Gs a) (Gs b),B_,B_]
theorem rR(i:Nat):(1:Int)*2 ^ (i:Int).toNat=((2 ^ i:Nat):Int):=by
 rw[Int.one_mul,B_,Int.natCast_pow]
 rfl
theorem nH(h:i<=1000000):vI 1 (i:Int):=⟨Gs i,by lia,by decide⟩
variable {ns:List Nat}
theorem zl(h:ns[i]?=some n):sM (ns.take (i+1))=sM (ns.take i) ||| 2 ^ n:=by rw[FQ,h];exact wb
structure Jb where
 tool:Int
 needs:List Nat
 a:Bool
 b:Bool
noncomputable def ndT(b:Bool)(ns:List Nat):T:=if b then .lst false (ns.map nT)else .tup (ns.map nT)
def jbT(j:Jb):T:=if j.a then .lst false [.int j.tool,ndT j.b j.needs]else .tup [.int j.tool,ndT j.b j.needs]
def jsT(c o:Bool)(J:List Jb):T:=if c then .tup (J.map jbT)else .lst o (J.map jbT)
def ba(J:List Jb):Rws:=J.map λj=>(j.tool,sM j.needs)
theorem fS:erL (ns.map nT)=ns.map nT:=by rw[aP];rfl
variable {b:Bool}
theorem sv:er (ndT b ns)=ndT b ns:=by
 cases b
 ·show er (.tup (ns.map nT))=.tup (ns.map nT);rw[er,fS]
 show er (.lst false (ns.map nT))=.lst false (ns.map nT);rw[er,fS]
theorem uU:isAny (ndT b ns)=false:=by cases b <;> rfl
theorem uK:items (ndT b ns)=some (ns.map nT):=by cases b <;> rfl
variable {j:Jb}
theorem fj:er (jbT j)=jbT j:=by
 unfold jbT;cases j.a
 ·show er (.tup [.int j.tool,ndT j.b j.needs])=.tup [.int j.tool,ndT j.b j.needs];rw[er,erL,erL,erL,sv];rfl
 show er (.lst false [.int j.tool,ndT j.b j.needs])=.lst false [.int j.tool,ndT j.b j.needs];rw[er,erL,erL,erL,sv];rfl
theorem bV:isAny (jbT j)=false:=by unfold jbT;cases j.a <;> rfl
theorem bT:aD (jbT j)=true:=by rw[<-fj];exact aG _
theorem eC{k:T->Prop}:ixT (jbT j) (.int 0) k=k (.int j.tool):=by unfold jbT;cases j.a <;> rfl
theorem fO{k:T->Prop}:ixT (jbT j) (.int 1) k=k (ndT j.b j.needs):=by unfold jbT;cases j.a <;> rfl
variable {J:List Jb}
theorem du{c:Bool}:er (jsT c o J)=jsT c false J:=by
 have e:erL (J.map jbT)=J.map jbT:=by rw[aP];exact Ft λ_ _=>fj
 cases c
 ·show er (.lst o (J.map jbT))=.lst false (J.map jbT);rw[er,e]
 show er (.tup (J.map jbT))=.tup (J.map jbT);rw[er,e]
theorem aK{c:Bool}:isAny (jsT c o J)=false:=by cases c <;> rfl
theorem bM{c:Bool}:items (jsT c o J)=some (J.map jbT):=by cases c <;> rfl
theorem rE(n:Nat):(((2 ^ n:Nat):Int)-1)=((2 ^ n-1:Nat):Int):=by have:0<2 ^ n:=Fh n;lia
theorem jt{l:List Nat}:b6 (l.map nT)=true:=by rw[b0];exact GF.mpr λ_ _=>rfl
theorem yZ{R:Rws}{r:Int×Nat}(h:R[i]?=some r):((u_ (i+1)).filter (rdB R d)).map nT=((u_ i).filter (rdB R d)).map nT++if !d.testBit i&&(r.2 &&& d == r.2)then [nT i]else []:=by
 rw[Hv,G5,x_];congr 1;have:rdB R d i=(!d.testBit i&&(r.2 &&& d == r.2)):=by unfold rdB;rw[h]
 rw[Ho,Iy,this];split <;> rfl
theorem Av(a b:Nat):decide (((a &&& b:Nat):Int)=(a:Int))=(a &&& b == a):=by
 by_cases h:a &&& b=a
 ·rw[h,decide_eq_true rfl,beq_self_eq_true]
 rw[decide_eq_false (by lia)];exact(beq_eq_false_iff_ne.mpr h).symm
theorem oM{g:α->T}{l:List α}{t:T}(h:(GZ (λ(i:Nat) x=>T.tup [T.int (i:Int),x]) (u_ n) (l.map g))[i]?=some t):∃x,l[i]?=some x/\t=.tup [.int (i:Int),g x]:=by
 rw[HE,A_]at h;cases e1:(u_ n)[i]? with
 |none=>rw[e1]at h;cases h
 |some j=>
  cases e2:l[i]? with
  |none=>rw[e1,e2]at h;cases h
  |some x=>
   rw[e1,e2]at h;cases h;obtain⟨h1,h2⟩:=b_.mp e1;rw[H_]at h2;exact⟨x,rfl,by rw[h2]⟩
theorem jj{g:α->T}{l:List α}:(GZ (λ(i:Nat) x=>T.tup [T.int (i:Int),x]) (u_ l.length) (l.map g)).length=l.length:=by rw[HP,o_,a_];lia
theorem vE{R:Rws}:intsOf (R.map λr=>T.int r.1)=some (R.map λr=>r.1):=by rw[show(R.map λr=>T.int r.1)=(R.map λr=>r.1).map T.int by rw[Fp];rfl];exact lW _
theorem bo{c:Bool}:aD (jsT c false J)=true:=by rw[<-du (o:=false)];exact aG _
theorem tP:(d &&& 2 ^ i=0)↔d.testBit i=false:=by
 constructor
 ·intro h;have:=congrArg (λx=>x.testBit i) h;simp only[Gq,Nat.testBit_two_pow_self,IG,FK]at this;exact this
 intro h;apply Gi;intro j;rw[Gq,HR,FK];by_cases e:i=j
 ·subst e;rw[h];rfl
 rw[decide_eq_false e,Iz]
theorem D4(d i:Nat):(((d &&& 2 ^ i:Nat):Int) != 0)=d.testBit i:=by
 cases e:d.testBit i with
 |false=>rw[tP.mpr e];rfl
 |true=>
  refine bne_iff_ne.mpr λz=>?_;have:d &&& 2 ^ i=0:=by lia
  rw[tP.mp this]at e;cases e
noncomputable def mn0:List Int->Int
 | []=>0
 |x::l=>l.foldl min x
theorem p7:∀(l:List Int) (x:Int),l.foldl min x<=x/\∀y∈l,l.foldl min x<=y
 | [],x=>⟨IU _,λy m=>nomatch m⟩
 |z::l,x=>by
  obtain⟨h1,h2⟩:=p7 l (min x z);rw[Hs];refine⟨by lia,λy m=>?_⟩;rcases k_.mp m with rfl|m
  ·lia
  exact h2 y m
theorem mf:∀(l:List Int) (x:Int),l.foldl min x=x\/l.foldl min x∈l
 | [],x=>.inl rfl
 |z::l,x=>by
  rw[Hs];rcases mf l (min x z)with h|h
  ·by_cases q:x<=z
   ·exact .inl (by rw[h];lia)
   exact .inr (by rw[h,show min x z=z by lia];exact q_)
  exact .inr (i_ _ h)
theorem Bz{l:List Int}{m:Int}(h:l=[]/\m=0\/m∈l/\∀n∈l,m<=n):m=mn0 l:=by
 rcases h with⟨rfl,rfl⟩|⟨h1,h2⟩
 ·rfl
 cases l with
 |nil=>cases h1
 |cons x l=>
  have a:=p7 l x;have b:mn0 (x::l)∈x::l:=(mf l x).elim (λe=>by show l.foldl min x∈_;rw[e];exact q_) (i_ _);have c:=h2 _ b;have d:mn0 (x::l)<=m:=(k_.mp h1).elim (λe=>by rw[e];exact a.1) (a.2 m);lia
def lv(R:Rws):Nat->Nat->Option Int->Int
 |0,_,_=>0
 |f+1,d,t=>mn0 ((rdy R d).map λi=>lv R f (d ||| 2 ^ i) (some (tl R i))+cst t (tl R i))
theorem tM{R:Rws}:∀(f g d:Nat) (t:Option Int),d<2 ^ R.length->2 ^ R.length-d<=f->2 ^ R.length-d<=g->lv R f d t=lv R g d t
 |0,g,d,t,hd,hf,_=>by lia
 |f+1,0,d,t,hd,_,hg=>by lia
 |f+1,g+1,d,t,hd,hf,hg=>by rw[lv,lv];congr 1;refine Ft λi m=>?_;have h1:=sO (eU m);have h2:=jm hd (aI m);rw[tM f g (d ||| 2 ^ i) _ h2 (by lia) (by lia)]
def Lv(R:Rws)(d:Nat)(t:Option Int):Int:=lv R (2 ^ R.length) d t
theorem Ai{R:Rws}(hd:d<2 ^ R.length):Lv R d t=mn0 ((rdy R d).map λi=>Lv R (d ||| 2 ^ i) (some (tl R i))+cst t (tl R i)):=by unfold Lv;rw[tM _ (2 ^ R.length+1) d t hd (by lia) (by lia),lv]
theorem zY(R:Rws):vU R (Lv R):=λd t hd ht=>by
 have e:=Ai (t:=t) hd;cases h:rdy R d with
 |nil=>exact .inl ⟨h,by rw[e,h];rfl⟩
 |cons i l=>
  rw[h]at e;have a:=p7 (l.map λi=>Lv R (d ||| 2 ^ i) (some (tl R i))+cst t (tl R i)) (Lv R (d ||| 2 ^ i) (some (tl R i))+cst t (tl R i));refine .inr ⟨?_,λj m=>?_⟩
  ·rw[e,h];rcases mf (l.map λi=>Lv R (d ||| 2 ^ i) (some (tl R i))+cst t (tl R i)) (Lv R (d ||| 2 ^ i) (some (tl R i))+cst t (tl R i))with q|q
   ·exact⟨i,q_,q⟩
   obtain⟨j,m,ej⟩:=EV.mp q;exact⟨j,i_ _ m,ej.symm⟩
  rw[h]at m;rw[e];rcases k_.mp m with rfl|m
  ·exact a.1
  exact a.2 _ (EV.mpr ⟨j,m,rfl⟩)
abbrev Ent:=(Nat×Option Int)×Int
noncomputable def tK:Option Int->Key
 |none=>.inr none
 |some x=>.inl x
noncomputable def tT:Option Int->T
 |none=>.non
 |some x=>.int x
def kD(d:Nat)(t:Option Int):List Key:=[.inl (d:Int),tK t]
def dM(D:List Ent):List (List Key×T):=D.map λe=>(kD e.1.1 e.1.2,.int e.2)
theorem AZ{a b:Option Int}(h:tK a=tK b):a=b:=by cases a <;> cases b <;> cases h <;> rfl
theorem xI{d':Nat}{t':Option Int}(h:kD d t=kD d' t'):(d,t)=(d',t'):=by obtain⟨h1,h2⟩:=FY h;have h1:=Oe h1;rw[AZ (FY h2).1,show d=d' by lia]
def DOk(R:Rws)(D:List Ent):Prop:=∀e∈D,e.2=Lv R e.1.1 e.1.2
theorem rF{R:Rws}:∀{D:List Ent}{d:Nat}{t:Option Int},DOk R D->(d,t)∈D.map (·.1)->mP (dM D) (kD d t)=some (.int (Lv R d t)):=by
 intro D d t;induction D with
 |nil=>intro _ m;cases m
 |cons e D ih=>
  intro ok m;show Gf _ (List.find? _ ((kD e.1.1 e.1.2,T.int e.2)::dM D))=_;rw[EY];by_cases z:kD e.1.1 e.1.2=kD d t
  ·rw[decide_eq_true z];have:=xI z;have oe:=ok e q_;have e1:e.1.1=d:=congrArg (·.1) this;have e2:e.1.2=t:=congrArg (·.2) this;show some (T.int e.2)=_;rw[oe,e1,e2]
  rw[decide_eq_false z];refine ih (λe m=>ok e (i_ _ m)) ?_;rw[f']at m;rcases k_.mp m with q|q
  ·exact absurd (by rw[<-q]) z
  exact q
variable {D:List Ent}
theorem Bq{v:Int}(h:(d,t) ∉ D.map (·.1)):gP (dM D) (kD d t) (.int v)=dM (D++[((d,t),v)]):=by
 unfold gP;have:((dM D).any λkv=>decide (kv.1=kD d t))=false:=by rw[Fs];intro z;obtain⟨kv,m,e⟩:=Gg.mp z;obtain⟨e',m',rfl⟩:=EV.mp m;have:=xI (of_decide_eq_true e);exact h (EV.mpr ⟨e',m',this⟩)
 rw[this];show dM D++[(kD d t,T.int v)]=_;unfold dM;rw[x_]
 rfl
theorem mK:erT (dM D)=dM D:=by
 unfold dM;induction D with
 |nil=>rfl
 |cons e D ih=>rw[f',erT,ih];rfl
theorem iG:ff [tT t]=some [tK t]:=by cases t <;> rfl
theorem lG:er (tT t)=tT t:=by cases t <;> rfl
theorem cG:isAny (tT t)=false:=by cases t <;> rfl
theorem d4:aD (tT t)=true:=by cases t <;> rfl
theorem eV:b7 (tT t)=true:=by cases t <;> rfl
variable {u:Int}
theorem lZ{k:T->Prop}:eqT (tT t) (.int u) k=k (.bl (decide (t=some u))):=by
 cases t with
 |none=>
  have e:eqD (dt (tT none)) (dt (.int u))=decide (none=some u):=by show eqD (dt .non) (dt (.int u))=decide (none=some u);rw[decide_eq_false (λz=>nomatch z)];simp only[dt,eqD]
  unfold eqT;rw[e];exact propext ⟨λh=>h.2.2.2,λh=>⟨rfl,rfl,show(0:Nat)<190 by decide,h⟩⟩
 |some x=>
  refine fY.trans ?_;rw[show decide (x=u)=decide (some x=some u)from decide_eq_decide.mpr ⟨congrArg some,EM⟩]
theorem d3:kB (dM D)=true:=by
 unfold dM;induction D with
 |nil=>rfl
 |cons e D ih=>rw[f',kB,ih];rfl
theorem fq:jc (dM D)=true:=by
 unfold dM;induction D with
 |nil=>rfl
 |cons e D ih=>rw[f',jc,ih];rfl
theorem eW:jc []=true:=rfl
theorem gb{g:α->T}{l:List α}{x:α}(h:l[i]?=some x):atI (l.map g) (i:Int)=some (g x):=oG (by rw[A_,h];rfl)
theorem nv{R:Rws}(h:i<R.length):∃m,R[i]?=some (tl R i,m):=by
 refine⟨R[i].2,?_⟩;unfold tl;rw[B',d_ h]
 rfl
variable {ms:List Int}
theorem Bs{R:Rws}(h:∀x,x∈ms↔∃r∈R,x=r.1)(t:Option Int):t∈none::ms.map some↔TS R t:=by
 rw[k_,EV];refine or_congr_right ⟨?_,?_⟩
 ·rintro⟨x,m,rfl⟩;obtain⟨r,mr,rfl⟩:=(h x).mp m;obtain⟨i,hi,e⟩:=FF.mp mr;refine⟨i,hi,?_⟩;unfold tl;rw[B',d_ hi,e]
  rfl
 rintro⟨i,hi,rfl⟩;obtain⟨m,em⟩:=nv hi;exact⟨tl R i,(h _).mpr ⟨_,s_ em,rfl⟩,rfl⟩
theorem yh{R:Rws}(u:ms.Pairwise (·<·))(h:∀x,x∈ms↔∃r∈R,x=r.1):(none::ms.map some).length<=R.length+1:=by
 have:=ji (m:=R.map (·.1)) (u.imp λh=>IQ h) λz hz=>by obtain⟨r,m,rfl⟩:=(h z).mp hz;exact EV.mpr ⟨r,m,rfl⟩
 rw[a_]at this;rw[g_,a_];lia
theorem zH:T.non::F0 (λx=>T.int x) ms=(none::ms.map some).map tT:=by rw[f',Fp];rfl
theorem BE(u:ms.Pairwise (·<·)):(none::ms.map some).Nodup:=by
 refine y_.mpr ⟨λz=>?_,?_⟩
 ·obtain⟨x,_,e⟩:=EV.mp z;cases e
 unfold List.Nodup;rw[F2];exact u.imp λh e=>IQ h (EM e)
def Hld(R:Rws)(D:List Ent)(s:Nat)(l:List (Option Int)):Prop:=DOk R D/\∀d t,(d,t)∈D.map (·.1)↔(2 ^ R.length-s<=d/\d<2 ^ R.length/\TS R t)\/(d=2 ^ R.length-1-s/\t∈l)
theorem Dg(R:Rws):Hld R [] 0 []:=⟨λe m=>(by cases m),λd t=>⟨λm=>(by cases m),λh=>by
 rcases h with h|h
 ·lia
 cases h.2⟩⟩
variable {s:Nat}
theorem zj{R:Rws}{l:List (Option Int)}(h:Hld R D s l):Hld R (D++[((2 ^ R.length-1-s,t),Lv R (2 ^ R.length-1-s) t)]) s (l++[t]):=by
 obtain⟨h1,h2⟩:=h;refine⟨λe m=>?_,λd u=>?_⟩
 ·rcases EO.mp m with m|m
  ·exact h1 e m
  rw[z_.mp m]
 rw[x_,EO,h2 d u,EO,f',F4,z_,z_,Prod.mk.injEq,and_or_left,or_assoc]
theorem xr{R:Rws}{l:List (Option Int)}(hs:s<2 ^ R.length)(h:Hld R D s l)(hl:∀t,t∈l↔TS R t):Hld R D (s+1) []:=by
 refine⟨h.1,λd t=>?_⟩;rw[h.2 d t,hl t];constructor
 ·rintro(⟨a,b,c⟩|⟨a,b⟩)
  ·exact .inl ⟨by lia,b,c⟩
  exact .inl ⟨by lia,by omega,b⟩
 rintro(⟨a,b,c⟩|⟨_,b⟩)
 ·by_cases z:d=2 ^ R.length-1-s
  ·exact .inr ⟨z,c⟩
  exact .inl ⟨by lia,b,c⟩
 cases b
theorem C4{R:Rws}{l:List (Option Int)}(hs:s<2 ^ R.length)(h:Hld R D s l)(m:i∈rdy R (2 ^ R.length-1-s)):((2 ^ R.length-1-s) ||| 2 ^ i,some (tl R i))∈D.map (·.1):=by refine(h.2 _ _).mpr (.inl ?_);have h1:=sO (eU m);have h2:=jm (n:=R.length) (d:=2 ^ R.length-1-s) (by omega) (aI m);exact⟨by lia,h2,.inr ⟨i,aI m,rfl⟩⟩
theorem wK{l:List Nat}{g:Nat->Int}:intsOf (l.map λi=>T.int (g i))=some (l.map g):=by rw[show(l.map λi=>T.int (g i))=(l.map g).map T.int by rw[Fp];rfl];exact lW _
theorem vJ{lo:Int}:(dnT lo n).length=n:=by unfold dnT;rw[a_,o_]
theorem Du{lo:Int}{t:T}(h:(dnT lo n)[i]?=some t):i<n/\t=.int (lo-i):=by have hi:=(b_.mp h).1;rw[vJ]at hi;unfold dnT at h;rw[A_,Gm hi]at h;cases h;exact⟨hi,rfl⟩
theorem j5{l:List α}{j:Nat}{t:α}(nd:l.Nodup)(h:l[j]?=some t):t ∉ l.take j:=λm=>by
 obtain⟨hj,e⟩:=b_.mp h;have s:l=l.take j++t::l.drop (j+1):=by rw[<-e,List.getElem_cons_drop,Fy]
 rw[s,FG]at nd;exact nd.2.2 t m t q_ rfl
def gd0(R:Rws)(d:Nat)(t:Option Int):List Nat:=(rdy R d).filter λi=>decide (Lv R (d ||| 2 ^ i) (some (tl R i))+cst t (tl R i)=Lv R d t)
theorem wy{R:Rws}(nr:cL R)(hd:d<2 ^ R.length)(ne:d≠2 ^ R.length-1)(ht:TS R t):∃i l,gd0 R d t=i::l/\i∈rdy R d/\Lv R (d ||| 2 ^ i) (some (tl R i))+cst t (tl R i)=Lv R d t/\∀j∈rdy R d,Lv R (d ||| 2 ^ j) (some (tl R j))+cst t (tl R j)=Lv R d t->i<=j:=by
 have h0:=sF nr hd ne;rcases zY R d t hd ht with⟨e,_⟩|⟨⟨i,m,e⟩,_⟩
 ·exact absurd e h0
 have hm:i∈gd0 R d t:=Ff.mpr ⟨m,decide_eq_true e.symm⟩;have up:(gd0 R d t).Pairwise (·<·):=(vH R d).filter _;cases h:gd0 R d t with
 |nil=>rw[h]at hm;cases hm
 |cons i0 l=>
  have m0:i0∈gd0 R d t:=by rw[h];exact q_
  obtain⟨m1,m2⟩:=Ff.mp m0;refine⟨i0,l,rfl,m1,of_decide_eq_true m2,λj mj ej=>?_⟩;have hj:j∈gd0 R d t:=Ff.mpr ⟨mj,decide_eq_true ej⟩;rw[h]at hj up;rcases k_.mp hj with rfl|hj
  ·exact c_ _
  exact Fc ((HX.mp up).1 j hj)
theorem fX{i:Nat}:∀(l:List Nat),pK (.int (i:Int)) (l.map nT)=decide (i∈l)
 | []=>rfl
 |a::l=>by have:=fX (i:=i) l;unfold pK at this ⊢;rw[f',FI,this,dt,dt,eqD,Hw,FN,beq_iff_eq,decide_eq_true_iff,decide_eq_true_iff,k_,eq_comm];exact or_congr_left ⟨λh=>by lia,λh=>by lia⟩
theorem d8:∀(l:List Nat),gO (l.map nT)=true
 | []=>rfl
 |a::l=>by rw[f',gO,d8 l];rfl
theorem sL:∀(l:List Nat),bw (dtL (l.map nT))=0
 | []=>by simp only[F4,dtL,bw]
 |a::l=>by rw[f',dtL,bw,sL l,dt,dpt.eq_def];rfl
theorem iI{l:List Nat}:(bw (dtL (l.map nT))<180)=True:=eq_true (by rw[sL];decide)
variable {os:List Nat}
theorem yY(h:J[i]?=some j):i∈rdy (ba J) (sM os)↔i ∉ os/\∀n∈j.needs,n∈os:=by
 rw[de];unfold ba;rw[A_,h];constructor
 ·rintro⟨r,e,h1,h2⟩;cases e;exact⟨t8.mp h1,w9.mp h2⟩
 rintro⟨h1,h2⟩;exact⟨_,rfl,t8.mpr h1,w9.mpr h2⟩
noncomputable def joT(j:Jb):T:=.tup [.int j.tool,if j.b then .lst true (j.needs.map nT)else .tup (j.needs.map nT)]
theorem BD:er (joT j)=jbT ⟨j.tool,j.needs,false,j.b⟩:=by
 unfold joT;cases j.b
 ·show er (.tup [.int j.tool,.tup (j.needs.map nT)])=.tup [.int j.tool,.tup (j.needs.map nT)];simp only[er,erL,fS]
 show er (.tup [.int j.tool,.lst true (j.needs.map nT)])=.tup [.int j.tool,.lst false (j.needs.map nT)];simp only[er,erL,fS]
theorem wH:b7 (joT j)=true:=by
 unfold joT;cases j.b
 ·show b7 (.tup [.int j.tool,.tup (j.needs.map nT)])=true;simp only[b7,b6,jt,HN]
 show b7 (.tup [.int j.tool,.lst true (j.needs.map nT)])=true;simp only[b7,b6,jt,HN]
theorem oh(m:Nat):jM 0 m=(u_ m).map nT:=by unfold jM;exact Ft λi _=>by rw[Int.zero_add]
variable {x:Nat}
theorem mJ{l:List Nat}(h:l[i]?=some x):l.Perm (x::l.eraseIdx i):=by
 induction l generalizing i with
 |nil=>simp at h
 |cons a l ih=>
  cases i with
  |zero=>cases h;exact .refl _
  |succ i=>exact((ih (i:=i) h).cons a).trans (.swap _ _ _)
theorem qS{l:List Nat}:(l.map nT).eraseIdx i=(l.eraseIdx i).map nT:=by
 induction l generalizing i with
 |nil=>rfl
 |cons a l ih=>
  cases i with
  |zero=>rfl
  |succ i=>rw[f',Hr,Hr,ih,f']
theorem wV{r:Int}(h0:0<=r)(h1:r<3):∃ns:List Int,ns.length=5/\(∀v∈ns,0<=v/\v<=40)/\atI [T.lst true [T.int 0,T.int 1,T.int 2,T.int 3,T.int 4],T.lst true [T.int 3,T.int 7,T.int 0,T.int 11,T.int 2],T.lst true [T.int 40,T.int 5,T.int 1,T.int 6,T.int 0]] r=some (.lst true (ns.map T.int)):=by
 rcases(by lia:r=0\/r=1\/r=2)with rfl|rfl|rfl
 ·exact⟨[0,1,2,3,4],rfl,by decide,rfl⟩
 ·exact⟨[3,7,0,11,2],rfl,by decide,rfl⟩
 exact⟨[40,5,1,6,0],rfl,by decide,rfl⟩
theorem yG{r:Int}(h0:0<=r)(h1:r<4):∃v:Nat,1<=v/\v<=8/\atI [T.int 1,T.int 2,T.int 3,T.int 8] r=some (.int (v:Int)):=by
 rcases(by lia:r=0\/r=1\/r=2\/r=3)with rfl|rfl|rfl|rfl
 ·exact⟨1,by decide,by decide,rfl⟩
 ·exact⟨2,by decide,by decide,rfl⟩
 ·exact⟨3,by decide,by decide,rfl⟩
 exact⟨8,by decide,by decide,rfl⟩
noncomputable def JP(os:List Nat)(m p:Nat)(J:List Jb):Prop:=J.length=m/\(∀j∈J,(j.a=false/\j.b=true/\0<=j.tool/\j.tool<=40)/\j.needs.length<=8/\∀i∈j.needs,i<m)/\∀q i,q<p->os[q]?=some i->∃j,J[i]?=some j/\∀x∈j.needs,x∈os.take q
variable {m:Nat}
theorem Ei:JP os m 0 (p_ m ⟨0,[],false,true⟩):=by refine⟨F3 ..,λj mj=>?_,λq i h=>absurd h (Hx _)⟩;rw[(List.mem_replicate.mp mj).2];exact⟨⟨rfl,rfl,by decide,by decide⟩,ES _,λi z=>(by cases z)⟩
theorem x8{p:Nat}{tv:Int}{nds:List Nat}(htv:0<=tv/\tv<=40)(nd:os.Nodup)(mem:∀i,i∈os↔i<m)(h:JP os m p J)(e:os[p]?=some i)(hl:nds.length<=8)(hn:∀x∈nds,x∈os.take p):JP os m (p+1) (J.set i ⟨tv,nds,false,true⟩):=by
 obtain⟨h1,h2,h3⟩:=h;have im:i<m:=(mem i).mp (s_ e);refine⟨by rw[D_,h1],λj mj=>?_,λq a hq ea=>?_⟩
 ·rcases Hf mj with mj|rfl
  ·exact h2 j mj
  exact⟨⟨rfl,rfl,htv.1,htv.2⟩,hl,λx hx=>(mem x).mp (Gb (hn x hx))⟩
 by_cases z:q=p
 ·subst z;rw[e]at ea;cases ea;exact⟨_,by rw[Fu (by lia)],hn⟩
 obtain⟨j,ej,hj⟩:=h3 q a (by lia) ea;refine⟨j,?_,hj⟩;rw[FC]
 ·exact ej
 rintro rfl;exact j5 nd e (FO.mpr ⟨q,by rw[FD (by lia)];exact ea⟩)
theorem yH(nd:os.Nodup)(mem:∀i,i∈os↔i<m)(hl:os.length=m)(h:JP os m m J):cL (ba J):=by
 obtain⟨h1,h2,h3⟩:=h;have hR:(ba J).length=m:=by unfold ba;rw[a_,h1]
 have key:∀(k p:Nat),p+k=m->Ch (ba J) (sM (os.take p)) (os.drop p):=by
  intro k;induction k with
  |zero=>
   intro p e;rw[List.drop_eq_nil_of_le (by lia)]
   trivial
  |succ k ih=>
   intro p e;have hp:p<os.length:=by lia
   have ep:os[p]?=some os[p]:=d_ hp;rw[List.drop_eq_getElem_cons hp];obtain⟨j,ej,hj⟩:=h3 p os[p] (by lia) ep;refine⟨(yY ej).mpr ⟨j5 nd ep,hj⟩,?_⟩;have:=ih (p+1) (by lia);rw[FQ,ep]at this;rw[<-wb];exact this
 refine⟨os,?_,?_⟩
 ·have:=key m 0 (by lia);exact this
 rw[hR];exact(BL nd λi mi=>(mem i).mp mi).mp hl
theorem Cb:p_ m (T.tup [T.int 0,T.lst false []])=(p_ m (⟨0,[],false,true⟩:Jb)).map jbT:=by rw[List.map_replicate];rfl
theorem Ad(h:i<n):ixN n (i:Int)=some i:=by
 unfold ixN;rw[if_pos (by lia)];simp only[B_]
 first|rfl|(rw[if_pos (by lia)])
theorem eR{i:Int}{t:T}{k:T->Prop}:rz (.lst true ts) (.int i) t k=d7 (ixN ts.length i) (k:=⟨λj=>k (.lst true (ts.set j t))⟩):=rfl
def mkR(R:Rws)(i:Nat):Nat:=(R.getD i (0,0)).2
theorem CY{R:Rws}(h:i<R.length):R[i]?=some (tl R i,mkR R i):=by
 unfold tl mkR;rw[B',d_ h]
 rfl
theorem Aq{R:Rws}:i∈rdy R d↔i<R.length/\d.testBit i=false/\Sub (mkR R i) d:=by
 rw[de];constructor
 ·rintro⟨r,e,h⟩;have hi:=(b_.mp e).1;rw[CY hi]at e;cases e;exact⟨hi,h⟩
 rintro⟨hi,h⟩;exact⟨_,CY hi,h⟩
theorem B0{l:List α}{j:Nat}{a:α}(nd:l.Nodup)(e1:l[i]?=some a)(e2:l[j]?=some a):i=j:=by
 rcases Nat.lt_trichotomy i j with h|h|h
 ·exact absurd (FO.mpr ⟨i,by rw[FD h];exact e1⟩) (j5 nd e2)
 ·exact h
 exact absurd (FO.mpr ⟨j,by rw[FD h];exact e2⟩) (j5 nd e1)
noncomputable def JOk(J:List Jb):Prop:=∀j∈J,(j.a=false/\j.b=true/\0<=j.tool/\j.tool<=40)/\j.needs.length<=8/\∀i∈j.needs,i<J.length
theorem AS(h:JOk J)(hl:J.length<=1000):∀j∈J,∀n∈j.needs,n<=1000:=λj m n mn=>by have:=(h j m).2.2 n mn;lia
theorem wW{p:Nat->Bool}:((u_ (i+1)).filter p).map nT=((u_ i).filter p).map nT++if p i then [nT i]else []:=by rw[Hv,G5,x_,Ho,Iy];congr 1;split <;> rfl
noncomputable def GO(R:Rws)(u:Int)(d c:Nat):Prop:=(∃o,Ch R d o/\(∀i∈o,tl R i=u)/\orM d o=c)/\∀i∈rdy R c,tl R i≠u
theorem vy(h:Sub a d):Sub a (d ||| 2 ^ i):=λj hj=>by rw[jL,h j hj];rfl
variable {c:Nat}
theorem E4{R:Rws}(g:GO R u d c)(mi:i∈rdy R d)(hu:tl R i=u):c≠d:=λz=>by rw[z]at g;exact g.2 i mi hu
theorem qK:∀(a b:List Nat) (d:Nat),orM d (a++b)=orM (orM d a) b
 | [],_,_=>rfl
 |i::a,b,d=>qK a b (d ||| 2 ^ i)
theorem CL{r:List Nat}:(ci r).map T.int=r.map nT:=by unfold ci;rw[Fp];rfl
theorem tE(a:Nat):Sub a a:=λ_ h=>h
theorem xn{b:Nat}(h:Sub a b)(g:Sub b c):Sub a c:=λj hj=>g j (h j hj)
def Cl(R:Rws)(u:Int)(c:Nat):Prop:=∀i∈rdy R c,tl R i≠u
theorem BN{R:Rws}(s:Sub d c)(h:Cl R u c)(m:i∈rdy R d)(e:tl R i=u):Sub (d ||| 2 ^ i) c:=λj hj=>by
 rw[jL,FN,decide_eq_true_iff]at hj;rcases hj with hj|rfl
 ·exact s j hj
 cases z:c.testBit i with
 |true=>rfl
 |false=>
  obtain⟨r,e1,_,e3⟩:=de.mp m;exact absurd e (h i (de.mpr ⟨r,e1,z,xn e3 s⟩))
theorem qT{R:Rws}{u:Int}{c:Nat}(h:Cl R u c):∀(o:List Nat) (d:Nat),Sub d c->Ch R d o->(∀i∈o,tl R i=u)->Sub (orM d o) c
 | [],d,s,_,_=>s
 |i::o,d,s,g,e=>qT h o _ (BN s h g.1 (e i q_)) g.2 λj m=>e j (i_ _ m)
theorem sS:∀(o:List Nat) (d:Nat),Sub d (orM d o)
 | [],d=>tE d
 |i::o,d=>xn (vy (tE d)) (sS o _)
theorem wj{R:Rws}{c':Nat}(g:GO R u d c)(s:Sub d c')(h:Cl R u c'):Sub c c':=by obtain⟨⟨o,h1,h2,rfl⟩,_⟩:=g;exact qT h o d s h1 h2
theorem xB{R:Rws}(g:GO R u d c):Sub d c:=by obtain⟨⟨o,h1,h2,rfl⟩,_⟩:=g;exact sS o d
theorem Ao{R:Rws}:∀(o:List Nat) (d:Nat),d<2 ^ R.length->Ch R d o->orM d o<2 ^ R.length
 | [],d,h,_=>h
 |i::o,d,h,g=>Ao o _ (jm h (aI g.1)) g.2
theorem vM{R:Rws}(hd:d<2 ^ R.length)(g:GO R u d c):c<2 ^ R.length:=by obtain⟨⟨o,h1,h2,rfl⟩,_⟩:=g;exact Ao o d hd h1
theorem sub_le{b:Nat}(h:Sub a b):a<=b:=by have:=pf.mpr h;rw[<-this];exact Nat.and_le_right
theorem D8{R:Rws}(g:GO R u d c)(ne:c≠d):d<c:=Fo (sub_le (xB g)) (Kg ne)
theorem Am{R:Rws}{u:Int}:∀(k d:Nat),2 ^ R.length-d<=k->d<2 ^ R.length->∃c,GO R u d c
 |0,d,hk,hd=>by lia
 |k+1,d,hk,hd=>by
  by_cases h:∃i∈rdy R d,tl R i=u
  ·obtain⟨i,m,e⟩:=h;have h1:=sO (eU m);have h2:=jm hd (aI m);obtain⟨c,⟨o,g1,g2,g3⟩,g4⟩:=Am (R:=R) (u:=u) k (d ||| 2 ^ i) (by lia) h2;exact⟨c,⟨i::o,⟨m,g1⟩,λj mj=>(k_.mp mj).elim (λz=>by rw[z];exact e) (g2 j),g3⟩,g4⟩
  exact⟨d,⟨[],trivial,(λ_ m=>by cases m),rfl⟩,λi m e=>h ⟨i,m,e⟩⟩
def Nxt(R:Rws)(L M:List Nat):Prop:=M.Nodup/\∀c,c∈M↔∃e∈L,∃i<R.length,GO R (tl R i) e c/\c≠e
variable {L M:List Nat}
theorem BI{R:Rws}(nr:cL R)(hl:∀e∈L,e<2 ^ R.length/\e≠2 ^ R.length-1)(h:Nxt R L M)(ne:L≠[]):M≠[]:=by obtain⟨e,m⟩:=FA _ ne;obtain⟨j,mj⟩:=FA _ (sF nr (hl e m).1 (hl e m).2);obtain⟨c2,g2⟩:=Am (R:=R) (u:=tl R j) _ e (c_ _) (hl e m).1;exact H0 ((h.2 c2).mpr ⟨e,m,j,aI mj,g2,E4 g2 mj rfl⟩)
def Lvs(R:Rws):List (List Nat)->Prop
 | []=>False
 | [L]=>L=[0]
 |M::L::Ls=>Nxt R L M/\2 ^ R.length-1 ∉ L/\Lvs R (L::Ls)
theorem fT{R:Rws}:∀(Ls:List (List Nat)) (L:List Nat),Lvs R (L::Ls)->L.Nodup/\∀e∈L,e<2 ^ R.length/\Ls.length<=e
 | [],L,h=>by have h:L=[0]:=h;subst h;exact⟨Gy _ _,λe m=>by rw[z_.mp m];exact⟨Fh _,c_ _⟩⟩
 |K::Ls,L,h=>by obtain⟨h1,h2,h3⟩:=h;have ih:=(fT Ls K h3).2;refine⟨h1.1,λe m=>?_⟩;obtain⟨d,md,i,hi,g,ne⟩:=(h1.2 e).mp m;have:=D8 g ne;exact⟨vM (ih d md).1 g,by rw[g_];have:=(ih d md).2;lia⟩
theorem xu{R:Rws}(nr:cL R):∀(Ls:List (List Nat)) (L:List Nat),Lvs R (L::Ls)->L≠[]
 | [],L,h=>by have h:L=[0]:=h;rw[h];exact List.cons_ne_nil _ _
 |K::Ls,L,h=>BI nr (λe m=>⟨((fT Ls K h.2.2).2 e m).1,λz=>h.2.1 (by rw[<-z];exact m)⟩) h.1 (xu nr Ls K h.2.2)
variable {Ls:List (List Nat)}
theorem tf{R:Rws}(nr:cL R)(h:Lvs R (L::Ls)):Ls.length<2 ^ R.length:=by obtain⟨e,m⟩:=FA _ (xu nr Ls L h);have:=(fT Ls L h).2 e m;lia
noncomputable def bts(n d:Nat):List Nat:=(u_ n).filter λi=>d.testBit i
theorem vm{R:Rws}:∀(l:List Nat) (d:Nat),l.Nodup->(∀i∈l,i∈rdy R d)->Ch R d l
 | [],_,_,_=>trivial
 |i::l,d,nd,h=>⟨h i q_,vm l _ (y_.mp nd).2 λj m=>by obtain⟨a,b,c⟩:=Aq.mp (h j (i_ _ m));exact Aq.mpr ⟨a,by rw[jL,b,decide_eq_false (λz=>(y_.mp nd).1 (by rw[z];exact m))];rfl,vy c⟩⟩
def rdT(R:Rws)(d:Nat)(u:Int):List Nat:=(rdy R d).filter λi=>decide (tl R i=u)
theorem fg{R:Rws}:i∈rdT R d u↔i∈rdy R d/\tl R i=u:=by unfold rdT;rw[Ff,decide_eq_true_iff]
theorem B5{R:Rws}:Ch R d (rdT R d u):=vm _ d (((vH R d).filter _).imp λh=>t_ h) λi m=>(fg.mp m).1
theorem u3{R:Rws}:∀(a b:List Nat) (d:Nat),Ch R d a->Ch R (orM d a) b->Ch R d (a++b)
 | [],_,_,_,h=>h
 |i::a,b,d,h,g=>⟨h.1,u3 a b _ h.2 g⟩
theorem y9{R:Rws}:(rdy R d).length<=R.length:=by have:=GL (rdB R d) (u_ R.length);rw[o_]at this;exact this
theorem rD{l:List Nat}:((sM l:Int) != 0)=!l.isEmpty:=by
 cases l with
 |nil=>rfl
 |cons i l=>
  have:sM (i::l)≠0:=λz=>by have h:(sM (i::l)).testBit i=true:=cn.mpr q_;rw[z,FK]at h;cases h
  simp only[List.isEmpty_cons,HF,bne_iff_ne,ne_eq];lia
theorem xA{R:Rws}(hd:d<2 ^ R.length)(h:rdT R d u≠[]):d<(d ||| sM (rdT R d u))/\(d ||| sM (rdT R d u))<2 ^ R.length:=by
 rw[qh];refine⟨?_,pF _ _ hd λi m=>aI (fg.mp m).1⟩;obtain⟨i,m⟩:=FA _ h;rw[<-qh];refine Fo HG λz=>?_;have:(d ||| sM (rdT R d u)).testBit i=true:=by rw[Gw,cn.mpr m,IP]
 rw[<-z,eU (fg.mp m).1]at this;cases this
noncomputable def dB(M:List Nat):List (Key×T):=M.map λ(c:Nat)=>(K4 (c:Int),.bl true)
theorem AI:gP (dB M) (.inl (c:Int)) (.bl true)=dB (if c∈M then M else M++[c]):=by
 unfold gP;have:((dB M).any λkv=>decide (kv.1=.inl (c:Int)))=decide (c∈M):=by
  unfold dB;induction M with
  |nil=>rfl
  |cons a M ih=>
   rw[f',FI,ih,Hw,FN,decide_eq_true_iff,decide_eq_true_iff,decide_eq_true_iff,k_];refine or_congr_left ⟨λh=>?_,λh=>by rw[h]⟩;have:=Oe h;lia
 rw[this];by_cases h:c∈M
 ·rw[decide_eq_true h,if_pos rfl,if_pos h];unfold dB;rw[Fp];refine Ft λa _=>?_;show(if _=_ then _ else _)=_;split <;> rfl
 rw[decide_eq_false h,if_neg (by simp),if_neg h];unfold dB;rw[x_]
 rfl
theorem mH:erK (dB M)=dB M:=by
 unfold dB;induction M with
 |nil=>rfl
 |cons a M ih=>rw[f',erK,ih];rfl
theorem cN:jE (dB M)=true:=by
 unfold dB;induction M with
 |nil=>rfl
 |cons a M ih=>rw[f',jE,ih];rfl
theorem CB{R:Rws}(h:∀x,x∈ms↔∃r∈R,x=r.1)(x:Int):x∈ms↔∃i<R.length,x=tl R i:=by
 rw[h x];constructor
 ·rintro⟨r,mr,rfl⟩;obtain⟨i,hi,e⟩:=FF.mp mr;refine⟨i,hi,?_⟩;unfold tl;rw[B',d_ hi,e]
  rfl
 rintro⟨i,hi,rfl⟩;obtain⟨m,em⟩:=nv hi;exact⟨_,s_ em,rfl⟩
theorem DI{R:Rws}{c':Nat}(g:GO R u d c)(g':GO R u d c'):c=c':=Gp (sub_le (wj g (xB g') g'.2)) (sub_le (wj g' (xB g) g.2))
theorem dN{l:List α}{x y:α}(h:l[i]?=some x):y∈l.take (i+1)↔y∈l.take i\/y=x:=by rw[FQ,h,EO];exact or_congr_right z_
theorem tq(nd:L.Nodup)(h:∀e∈L,e<2 ^ n):L.length<=2 ^ n:=by have:=ji nd λe m=>Fq.mpr (h e m);rwa[o_]at this
theorem sI{g:List Nat->T}:atI ((L::Ls).reverse.map g) (-1)=some (g L):=by
 unfold atI ixN;rw[if_neg (by decide),if_pos (by rw[a_,FW,g_];lia)];show(F0 g (L::Ls).reverse)[_]?=_;rw[A_,show(-1+(((L::Ls).reverse.map g).length:Int)).toNat=Ls.reverse.length by rw[a_,FW,g_,FW];lia,Ik,List.getElem?_concat_length]
 rfl
theorem yQ:oN ts (some 1) (some (-1))=(ts.drop 1).dropLast:=by
 unfold oN;rw[show HT.sIx ts.length 0 (some 1)=min 1 ts.length from HT.yT _ _ 1,show HT.sIx ts.length ts.length (some (-1))=(-1+(ts.length:Int)).toNat from(by show(if(-1:Int)<0 then(-1+(ts.length:Int)).toNat else min (-1:Int).toNat ts.length)=_;exact if_pos (by decide)),List.dropLast_eq_take,Fi];by_cases h:1<=ts.length
 ·rw[Nat.min_eq_left h];congr 1;lia
 rw[show ts=[]from EW (by lia)]
 rfl
theorem tW{R:Rws}:∀(Ls:List (List Nat)) (L:List Nat),Lvs R (L::Ls)->∀F∈L::Ls,F.Nodup/\∀e∈F,e<2 ^ R.length
 | [],L,h,F,m=>by rw[z_.mp m];exact⟨(fT [] L h).1,λe me=>((fT [] L h).2 e me).1⟩
 |K::Ls,L,h,F,m=>by
  rcases k_.mp m with rfl|m
  ·exact⟨(fT _ F h).1,λe me=>((fT _ F h).2 e me).1⟩
  exact tW Ls K h.2.2 F m
theorem y6{l:List α}{x:α}(h:x∈(l.drop 1).dropLast):x∈l:=GU ((List.dropLast_sublist _).mem h)
theorem ym{l:List α}{g:α->β}:((l.map g).drop 1).dropLast=((l.drop 1).dropLast).map g:=by rw[<-HM,List.map_dropLast]
def Rg(R:Rws):Prop:=∃S:List Nat,S≠[]/\∀i∈S,i<R.length/\∃j∈S,∃r,R[i]?=some r/\r.2.testBit j=true
noncomputable def Fr0(S:List Nat)(d:Nat):Prop:=∀i∈S,d.testBit i=false
variable {S:List Nat}
theorem Ba{R:Rws}(h:∀i∈S,i<R.length/\∃j∈S,∃r,R[i]?=some r/\r.2.testBit j=true)(hd:Fr0 S d):∀i∈rdy R d,i ∉ S:=by intro i mi ms;obtain⟨_,j,mj,r,er,b⟩:=h i ms;have g:=(Ff.mp mi).2;unfold rdB at g;rw[er]at g;have g:(!d.testBit i&&(r.2 &&& d == r.2))=true:=g;rw[EN,beq_iff_eq]at g;have:=congrArg (λx=>Nat.testBit x j) g.2;rw[Gq,b,hd j mj]at this;cases this
theorem CK{R:Rws}(h:∀i∈S,i<R.length/\∃j∈S,∃r,R[i]?=some r/\r.2.testBit j=true)(hd:Fr0 S d):Fr0 S (d ||| sM (rdy R d)):=by
 intro i ms;rw[Gw,hd i ms,IB];refine Fs.mpr λz=>?_;rcases(l9 (rdy R d) 0 i).mp z with y|y
 ·rw[FK]at y;cases y
 exact Ba h hd i y ms
theorem Dz(hS:S≠[])(h:∀i∈S,i<n)(hd:Fr0 S d):d≠2 ^ n-1:=by obtain⟨i,l,rfl⟩:=Hb hS;intro z;have:=hd i (.head _);rw[z,G6,decide_eq_true (h i (.head _))]at this;cases this
theorem DN:Fr0 S 0:=λi _=>FK i
theorem CJ{r:Int}(h0:0<=r)(h1:r<2):∃v:Int,1<=v/\v<=10/\atI [T.int 5,T.int 10] r=some (.int v):=by
 have e:r=0\/r=1:=by lia
 rcases e with rfl|rfl
 ·exact⟨5,by decide,by decide,rfl⟩
 exact⟨10,by decide,by decide,rfl⟩
noncomputable def RgP(os:List Nat)(k n:Nat)(Jk:List Jb):Prop:=Jk.length=n/\(∀j∈Jk,(j.a=false/\j.b=true)/\j.needs.length<=8+k/\∀i∈j.needs,i<n)/\∀p,p<k->∃x y j,os[p]?=some x/\os[(p+1)%os.length]?=some y/\Jk[x]?=some j/\y∈j.needs
theorem E7(h:JOk J):RgP os 0 J.length J:=⟨rfl,λj m=>⟨⟨(h j m).1.1,(h j m).1.2.1⟩,(h j m).2⟩,λp z=>absurd z (Hx p)⟩
variable {Jk:List Jb}
theorem vK{k:Nat}(h:RgP os k n Jk)(hx:x<n):∃tool needs,Jk[x]?=some ⟨tool,needs,false,true⟩/\needs.length<=8+k:=by
 have hl:x<Jk.length:=by rw[h.1];exact hx
 obtain⟨j,e⟩:∃j,Jk[x]?=some j:=⟨_,d_ hl⟩;obtain⟨⟨ha,hb⟩,hc,_⟩:=h.2.1 j (s_ e);refine⟨j.tool,j.needs,?_,hc⟩;obtain⟨tool,needs,a,b⟩:=j;change a=false at ha;change b=true at hb;rw[e,ha,hb]
variable {y:Nat}
theorem Ax{k r:Nat}{tool:Int}{needs:List Nat}(h:RgP os k n Jk)(nd:os.Nodup)(hx:os[k]?=some x)(hy:os[(k+1)%os.length]?=some y)(lt:∀i∈os,i<n)(e:Jk[x]?=some ⟨tool,needs,false,true⟩):RgP os (k+1) n (Jk.set x ⟨tool,needs.take r++y::needs.drop r,false,true⟩):=by
 have hl:x<Jk.length:=(b_.mp e).1;have my:y∈needs.take r++y::needs.drop r:=l_ _ (.head _);have hn:=h.2.1 _ (s_ e);refine⟨by rw[D_];exact h.1,λj m=>?_,λp hp=>?_⟩
 ·rcases Hf m with m|rfl
  ·exact⟨(h.2.1 j m).1,Ib (h.2.1 j m).2.1,(h.2.1 j m).2.2⟩
  refine⟨⟨rfl,rfl⟩,?_,λi m=>?_⟩
  ·have:=congrArg G3 (Fy r needs);rw[j_]at this;have g:=hn.2.1;show(needs.take r++y::needs.drop r).length<=_;rw[j_,g_];change needs.length<=8+k at g;lia
  rcases EO.mp m with m|m
  ·exact hn.2.2 i (Gb m)
  rcases k_.mp m with rfl|m
  ·exact lt i (s_ hy)
  exact hn.2.2 i (GU m)
 by_cases q:p=k
 ·rw[q];exact⟨x,y,_,hx,hy,Fu hl,my⟩
 obtain⟨x',y',j,e1,e2,e3,m⟩:=h.2.2 p (by lia);refine⟨x',y',j,e1,e2,?_,m⟩;have ne:x≠x':=λz=>q (B0 nd e1 (by rw[<-z];exact hx))
 rw[FC ne];exact e3
theorem Bt(h:RgP os os.length n Jk)(ne:os≠[])(lt:∀i∈os,i<n):Rg (ba Jk):=by refine⟨os,ne,λi m=>⟨by rw[ba,a_,h.1];exact lt i m,?_⟩⟩;obtain⟨p,e⟩:=FO.mp m;obtain⟨x,y,j,e1,e2,e3,my⟩:=h.2.2 p (b_.mp e).1;rw[e]at e1;cases e1;exact⟨y,s_ e2,_,by rw[ba,A_,e3];rfl,cn.mpr my⟩
theorem DL:Gd (jbT j) 2:=by
 have g:Gd (ndT j.b j.needs) 1:=by
  unfold ndT;split
  ·exact Bw (pd λ_ _=>yR)
  exact CU (pd λ_ _=>yR)
 unfold jbT;split
 ·exact Bw (gc yR (gc g oW))
 exact CU (gc yR (gc g oW))
theorem Cn{o':Bool}{k:T->Prop}(q:k (.bl false)):neT (.lst o (J.map jbT)) (.lst o' (J.map jbT)) k:=by
 have g:∀o,Gd (.lst o (J.map jbT)) 3:=λo=>Bw (pd λ_ _=>DL);refine⟨(g o).1,(g o').1,Fx (g o).2 (by decide),?_⟩;have e:dt (.lst o (J.map jbT))=dt (.lst o' (J.map jbT)):=by rw[dt,dt]
 rw[e,gp];exact q
theorem BR{k:Nat}(e:os[(k+1)%os.length]?=some y):atI (os.map λx=>nT x) (((k:Int)+1)%(os.length:Int))=some (nT y):=by rw[show((k:Int)+1)%(os.length:Int)=(((k+1)%os.length:Nat):Int)from(Int.natCast_emod (k+1) os.length).symm];exact gb e
theorem AW{r:Nat}:erL (IW r (ns.map nT))++nT y::erL (IX r (ns.map nT))=(ns.take r++y::ns.drop r).map nT:=by
 rw[<-IF,<-HM,aP,aP,x_,f']
 rfl
theorem zy{k:Nat}(h:RgP os k n Jk):Jk.map (λx=>er (joT x))=Jk.map jbT:=Ft λj m=>by rw[BD];have:=(h.2.1 j m).1.1;obtain⟨tool,needs,a,b⟩:=j;change a=false at this;rw[this]
end Mp
local macro_rules | `(tactic| walk_at "go")=>do
 let l<-("!PL.lQ !PL.iD !PL.lE !PL.eA !PL.i8 !PL.i5 !PL.dW !PL.iJ !PL.fL !PL.fI !PL.cX !PL.fD !PL.cD !PL.i4 !PL.eZ !PL.cB !PL.f9 !PL.eM !PL.iN !PL.fu !PL.fF !PL.fm !PL.fz !PL.cK !PL.cW !PL.iL !PL.fk !PL.d6 !PL.fB !PL.cV !PL.fx !PL.hZ !PL.eS !PL.e8 !PL.fR !PL.bX !PL.fN !PL.lu !PL.e7 !PL.cQ !PL.fJ !PL.cP !PL.fv !PL.h9 !PL.iK !PL.iB !PL.iw !PL.j3 !PL.iQ !PL.e9 !PL.fA !PL.eB !PL.eK !PL.dY !PL.fP !PL.ik !PL.iR !PL.iE !PL.fY !PL.iX !PL.ib !PL.dQ !PL.iA !PL.eD !PL.eX !PL.cA !PL.fy !PL.cZ !PL.lD !PL.iy !PL.iO !PL.iS !PL.bb !PL.bh !PL.iP !PL.eL !PL.cF PL.iZ PL.eP PL.cz PL.d5 PL.lY PL.bQ PL.cc PL.bp PL.fo PL.aP PL.eE PL.bg PL.aG PL.b0 PL.fW PL.bI PL.bL PL.bG PL.cY PL.cJ PL.eI PL.bK PL.bJ PL.er PL.erL PL.aD PL.aT PL.b7 PL.b6 PL.lend PL.back PL.outs PL.frA PL.qL f' F4 g_ GP a_ Gx FX List.set_cons_zero G4 p_ E_ Gn List.zipWith_cons_cons List.zipWith_nil_left List.zipWith_nil_right decide_eq_true_eq decide_true IE HF Gj HN Fl true_and Option.map_some Fv IL PySem.sizeLine_eq PL.Th.v if_true if_false Mp.eG Nat.reduceAdd Nat.reduceSub Nat.reduceLeDiff Mp.cS Mp.m9 Mp.iF Mp.cE Mp.bE Mp.bW !Mp.fM !Mp.fG Mp.bOr Mp.se Mp.rR !PL.eN !PL.bN !PL.cT !PL.iz PL.cM !PL.fH Mp.fj Mp.bV Mp.bT !Mp.eC !Mp.fO Mp.du Mp.aK Mp.bM Mp.bo Mp.d3 Mp.fq Mp.eW Mp.mK Mp.iG Mp.lG Mp.cG Mp.d4 Mp.eV !Mp.lZ Mp.d8 Mp.iI Mp.fX !PL.eh !PL.iU !Mp.eR !PL.dX Mp.rD Mp.mH Mp.cN".splitOn " ").toArray.mapM λs=>let i:Lean.Ident:=Lean.mkIdent (s.replace "!" "").toName;if s.front=='!' then `(Lean.Parser.Tactic.simpLemma|↓$i:ident) else `(Lean.Parser.Tactic.simpLemma|$i:ident)
 `(tactic| simp only[$l,*])
local macro_rules | `(tactic| walk_at "take")=>`(tactic| refine⟨_,_,_,rfl,by lia,by first|decide|lia,by first|decide|lia,?_⟩)
namespace Mp
open PySem L2 PL
def gf:FP:=λts k=>∃(t:T) (ns:List Nat),ts=[t]/\isAny t=false/\items (er t)=some (ns.map nT)/\(∀n∈ns,n<=1000)/\∀z,k (.int (sM ns:Int)) [z]
variable {f:I_}{fd:Jt}
section
variable{P:Ji}{w:Jm}{K:Ja}{mg:Str->Option IY}{base:Jp}
theorem o3:FnScope ["numbers","found","number"] ["numbers"] (af mI):=⟨rfl,rfl,rfl,by rfl',rfl,by rfl',by rfl'⟩
theorem uT(F:Fun K "set_of" "set_of" mI f fd)(TX:Txt mg)  :FnOk P w K mg base CX0 1 f fd ["numbers"] (ax K 1 gf):=by
 refine bC F o3 [true] rfl (λcdv A outer s H E hr=>?_);have sc:=@o3;refine⟨_,(aa (ak (i:=1) sc.nd (by rfl) (f_ rfl) (by rfl) ge_int) (aa (dv JK (by rfl) (br (aW 0)) (au (i:=2) sc.nd (by rfl) (f_ rfl) (by rfl)) (aj (lJ (i:=1) sc.nd (by rfl) (f_ rfl) (by rfl) (aA (aO gJ ge_int (a7 2))) lC))) (aj (aU (qF 1))))),λts kk hl hp=>?_⟩;clear hl;obtain⟨t,ns,rfl,e2,e3,hn,q⟩:=hp;walk_at "go";refine⟨e2,aw e3 ?_⟩;walk_at "go";refine bx (λi env=>∃z0 z,env=[z0,.int (sM (ns.take i):Int),z]) ⟨_,_,rfl⟩ ?_ ?_
 ·rintro i u _ ⟨z0,z,rfl⟩ ei;obtain⟨n,en,rfl⟩:=bB ei;walk_at "go";exact⟨nH (by have:=hn n (s_ en);lia),_,_,by rw[zl en]⟩
 rintro _ ⟨z0,z,rfl⟩;rw[a_,EU];walk_at "go";exact q _
end
def dD:FP:=λts k=>∃(c o:Bool) (J:List Jb),ts=[jsT c o J]/\J.length<=50/\(∀j∈J,∀n∈j.needs,n<=1000)/\∀z,k (.lst true ((ba J).map rwT)) [z]
section
variable{P:Ji}{w:Jm}{K:Ja}{mg:Str->Option IY}{base:Jp}
theorem mD:FnScope ["jobs"] ["jobs"] (af jV):=⟨rfl,rfl,rfl,by rfl',rfl,by rfl',by rfl'⟩
theorem qZ(F:Fun K "rows_of" "rows_of" jV f fd)(TX:Txt mg)  (re:Cal P w K mg base 1 "set_of" ["numbers"] (ax K 1 gf)):FnOk P w K mg base CX0 2 f fd ["jobs"] (ax K 1 dD):=by
 refine bC F mD [true] rfl (λcdv A outer s H E hr=>?_);have sc:=@mD;have nd1:(["job"]:List Str).Nodup:=by rfl'
 refine⟨_,(aj (aU (aA (dc sc ["job"] [none] nd1 (by rfl') (br (a7 0)) (λ_ _ _=>(au (i:=0) nd1 (by rfl) (f_ rfl) (by rfl) (hf:=(gV rfl)))) (λ_ _ _=>df) (λ_ _ _=>(cy (a9 (aH hr (a7 0) ge_int) (a9 (ai re hr (by rfl) (ae (aH hr (a7 0) ge_int) ag)) ah)))))))),λts kk hl hp=>?_⟩;clear hl;obtain⟨c,o,J,rfl,hl,hn,q⟩:=hp;walk_at "go";refine aQ (by rw[a_,JG];lia) (λi acc ie=>∃z1,acc=(J.take i).map (λj=>rwT (j.tool,sM j.needs))/\ie=[z1]) ⟨_,rfl,rfl⟩ ?_ ?_
 ·rintro i t _ _ ⟨z1,rfl,rfl⟩ ei;obtain⟨j,ej,rfl⟩:=bB ei;walk_at "go";refine⟨_,_,rfl,uU,by rw[sv];exact uK,hn j (s_ ej),λz=>?_⟩;walk_at "go";exact⟨_,by rw[map_take ej];rfl,rfl⟩
 rintro _ _ ⟨z1,rfl,rfl⟩;rw[a_,EU];walk_at "go";have:=q (jsT c o J);unfold ba at this;rw[Fp]at this;exact this
end
def bD:FP:=λts k=>∃(o:Bool) (R:Rws),ts=[.lst o (R.map rwT)]/\R.length<=50/\∀z,k (.int ((2 ^ R.length-1:Nat):Int)) [z]
section
variable{P:Ji}{w:Jm}{K:Ja}{mg:Str->Option IY}{base:Jp}
theorem kO:FnScope ["rows"] ["rows"] (af i9):=⟨rfl,rfl,rfl,by rfl',rfl,by rfl',by rfl'⟩
theorem pH(F:Fun K "whole_of" "whole_of" i9 f fd)(TX:Txt mg)  :FnOk P w K mg base CX0 1 f fd ["rows"] (ax K 1 bD):=by refine bC F kO [true] rfl (λcdv A outer s H E hr=>?_);have sc:=@kO;refine⟨_,(aj (aU (aA (aO yC (aO gJ ge_int (dP cx (by rfl) TX.len (by rfl') (a9 (a7 0) ah))) ge_int)))),λts kk hl hp=>?_⟩;clear hl;obtain⟨o,R,rfl,hl,q⟩:=hp;walk_at "go";rw[rE];exact⟨nH (by lia),q _⟩
end
noncomputable def nA:FP:=λts k=>∃(a b:Nat),ts=[.int (a:Int),.int (b:Int)]/\k (.bl (a &&& b == a)) [.int (a:Int),.int (b:Int)]
section
variable{P:Ji}{w:Jm}{K:Ja}{mg:Str->Option IY}{base:Jp}
theorem mq:FnScope ["some","other"] ["some","other"] (af ky):=⟨rfl,rfl,rfl,by rfl',rfl,by rfl',by rfl'⟩
theorem sf(F:Fun K "is_part" "is_part" ky f fd)(TX:Txt mg)  :FnOk P w K mg base CX0 1 f fd ["some","other"] (ax K 2 nA):=by refine bC F mq [true,true] rfl (λcdv A outer s H E hr=>?_);have sc:=@mq;refine⟨_,(aj (aU (aA (Bc (ip hr) (aO p3 (a7 0) (a7 1)) (a7 0) (aZ _))))),λts kk hl hp=>?_⟩;clear hl;obtain⟨a,b,rfl,q⟩:=hp;walk_at "go";rw[Av];exact q
end
def gH:FP:=λts k=>∃(o:Bool) (R:Rws) (d:Nat),ts=[.lst o (R.map rwT),.int (d:Int)]/\R.length<=50/\∀z,k (.lst true ((rdy R d).map nT)) [z,.int (d:Int)]
section
variable{P:Ji}{w:Jm}{K:Ja}{mg:Str->Option IY}{base:Jp}
theorem qi:FnScope ["rows","done"] ["rows","done"] (af o8):=⟨rfl,rfl,rfl,by rfl',rfl,by rfl',by rfl'⟩
theorem xx(F:Fun K "ready" "ready" o8 f fd)(TX:Txt mg)  (mo:Cal P w K mg base 1 "is_part" ["some","other"] (ax K 2 nA)):FnOk P w K mg base CX0 2 f fd ["rows","done"] (ax K 2 gH):=by
 refine bC F qi [true,true] rfl (λcdv A outer s H E hr=>?_);have sc:=@qi;have nd1:(["number","row","done"]:List Str).Nodup:=by rfl'
 refine⟨_,(aj (aU (aA (dc sc ["number","row","done"] [none,none,some 1] nd1 (by rfl') (p5 (by rfl) TX.enumerate (a9 (a7 0) ah)) (λ_ _ _=>(p4 (n:=2) (by rfl) (cb (au (i:=0) nd1 (by rfl) (f_ rfl) (by rfl) (hf:=(gV rfl))) (cb (au (i:=1) nd1 (by rfl) (f_ rfl) (by rfl) (hf:=(gV rfl))) lq)))) (λ_ _ _=>(jg (Dj (AX (AN (kc (aO p3 (a7 2) (aO gJ ge_int (a7 0))))) (y3 (kc (ai mo hr (by rfl) (ae (aH hr (a7 1) ge_int) (ae (a7 2) ag))))))))) (λ_ _ _=>(a7 0)))))),λts kk hl hp=>?_⟩;clear hl;obtain⟨o,R,d,rfl,hl,q⟩:=hp;walk_at "go";refine aQ (by rw[jj,JG];lia) (λi acc ie=>∃z1 z2,acc=((u_ i).filter (rdB R d)).map nT/\ie=[z1,z2,.int (d:Int)]) ⟨_,_,rfl,rfl⟩ ?_ ?_
 ·rintro i t _ _ ⟨z1,z2,rfl,rfl⟩ ei;obtain⟨r,er,rfl⟩:=oM ei;have hi:i<R.length:=(b_.mp er).1;walk_at "go";refine⟨nH (by lia),?_⟩;rw[D4,yZ er];refine kG (λh=>?_) (λh=>?_)
  ·walk_at "go";exact⟨_,_,by rw[h];exact(ET _).symm,rfl⟩
  walk_at "go";refine⟨_,_,rfl,?_⟩;walk_at "go";rw[h];refine kG (λh2=>?_) (λh2=>?_)
  ·walk_at "go";exact⟨_,_,by rw[h2];rfl,rfl⟩
  walk_at "go";exact⟨_,_,by rw[h2];exact(ET _).symm,rfl⟩
 rintro _ _ ⟨z1,z2,rfl,rfl⟩;rw[jj];walk_at "go";exact q _
end
def iH:FP:=λts k=>∃(o:Bool) (R:Rws),ts=[.lst o (R.map rwT)]/\R.length<=50/\∀(ms:List Int) z,ms.Pairwise (·<·)->(∀x,x∈ms↔∃r∈R,x=r.1)->k (.lst true (ms.map T.int)) [z]
section
variable{P:Ji}{w:Jm}{K:Ja}{mg:Str->Option IY}{base:Jp}
theorem kM:FnScope ["rows"] ["rows"] (af hX):=⟨rfl,rfl,rfl,by rfl',rfl,by rfl',by rfl'⟩
theorem qm(F:Fun K "tools_in" "tools_in" hX f fd)(TX:Txt mg)  :FnOk P w K mg base CX0 1 f fd ["rows"] (ax K 1 iH):=by
 refine bC F kM [true] rfl (λcdv A outer s H E hr=>?_);have sc:=@kM;have nd1:(["row"]:List Str).Nodup:=by rfl'
 refine⟨_,(aj (aU (aA (mU (by rfl) (by rfl) TX.sorted (by rfl) TX.set (dc sc ["row"] [none] nd1 (by rfl') (br (a7 0)) (λ_ _ _=>(au (i:=0) nd1 (by rfl) (f_ rfl) (by rfl) (hf:=(gV rfl)))) (λ_ _ _=>df) (λ_ _ _=>(aH hr (a7 0) ge_int))))))),λts kk hl hp=>?_⟩;clear hl;obtain⟨o,R,rfl,hl,q⟩:=hp;walk_at "go";refine aQ (by rw[a_,JG];lia) (λi acc ie=>∃z1,acc=(R.take i).map (λr=>T.int r.1)/\ie=[z1]) ⟨_,rfl,rfl⟩ ?_ ?_
 ·rintro i t _ _ ⟨z1,rfl,rfl⟩ ei;obtain⟨r,er,rfl⟩:=bB ei;walk_at "go";exact⟨_,by rw[map_take er],rfl⟩
 rintro _ _ ⟨z1,rfl,rfl⟩;rw[a_,EU];walk_at "go";refine aw vE ?_;walk_at "go";refine⟨by lia,λms h1 h2=>?_⟩;refine q ms _ h1 λx=>?_;rw[h2 x,EV];exact⟨λ⟨r,m,e⟩=>⟨r,m,e.symm⟩,λ⟨r,m,e⟩=>⟨r,m,e.symm⟩⟩
end
def cC:FP:=λts k=>∃(o:Bool) (R:Rws),ts=[.lst o (R.map rwT)]/\R.length<=50/\cL R/\∀z,k .non [z]
section
variable{P:Ji}{w:Jm}{K:Ja}{mg:Str->Option IY}{base:Jp}
theorem b9:FnScope ["rows","done","more"] ["rows"] (af bA):=⟨rfl,rfl,rfl,by rfl',rfl,by rfl',by rfl'⟩
theorem kU(F:Fun K "refuse_rings" "refuse_rings" bA f fd)(TX:Txt mg)  (re:Cal P w K mg base 1 "set_of" ["numbers"] (ax K 1 gf))(ul:Cal P w K mg base 1 "whole_of" ["rows"] (ax K 1 bD))(pi:Cal P w K mg base 2 "ready" ["rows","done"] (ax K 2 gH)):FnOk P w K mg base CX0 3 f fd ["rows"] (ax K 1 cC):=by
 refine bC F b9 [true] rfl (λcdv A outer s H E hr=>?_);have sc:=@b9;refine⟨_,(aa (ak (i:=1) sc.nd (by rfl) (f_ rfl) (by rfl) ge_int) (aa (ak (i:=2) sc.nd (by rfl) (f_ rfl) (by rfl) (aA (ai pi hr (by rfl) (ae (a7 0) (ae (a7 1) ag))))) (aa (gh JK (kY (kc (a7 2))) (aa (lJ (i:=1) sc.nd (by rfl) (f_ rfl) (by rfl) (aA (ai re hr (by rfl) (ae (a7 2) ag))) lC) (aj (ak (i:=2) sc.nd (by rfl) (f_ rfl) (by rfl) (aA (ai pi hr (by rfl) (ae (a7 0) (ae (a7 1) ag)))))))) (aj (uh (kY (bc (hU hr) (a7 1) (ai ul hr (by rfl) (ae (a7 0) ag)) (aZ _))) (aj yd) oy))))),λts kk hl hp=>?_⟩;clear hl;obtain⟨o,R,rfl,hl,nr,q⟩:=hp;walk_at "go";refine⟨false,R,0,rfl,hl,λz=>?_⟩;walk_at "go";refine dE (λm env=>∃d:Nat,d<2 ^ R.length/\m=2 ^ R.length-d/\env=[.lst o (R.map rwT),.int (d:Int),.lst true ((rdy R d).map nT)]) _ ⟨0,Fh _,rfl,rfl⟩ ?_;rintro m _ ⟨d,hd,rfl,rfl⟩;walk_at "go";refine kG (λh=>?_) (λh=>?_)
 ·have e:rdy R d=[]:=List.map_eq_nil_iff.mp (Iq.mp h);have ew:d=2 ^ R.length-1:=PU λz=>sF nr hd z e;walk_at "go";refine⟨false,R,rfl,hl,λz=>?_⟩;walk_at "go";refine zJ (decide_eq_true (by rw[ew])) ?_;walk_at "go";exact q _
 have ne:rdy R d≠[]:=λz=>by rw[z]at h;cases h
 obtain⟨g1,g2⟩:=tO hd ne;walk_at "go";refine⟨_,rdy R d,rfl,rfl,by rw[er,fS];rfl,λn m=>by have:=aI m;lia,λz=>?_⟩;walk_at "go";refine⟨false,R,d ||| sM (rdy R d),rfl,hl,λz=>?_⟩;walk_at "go";exact⟨_,by omega,_,g2,rfl,rfl⟩
end
def iV:FP:=λts k=>∃(o o2:Bool) (R:Rws) (D:List Ent) (d i:Nat) (t:Option Int),ts=[.lst o (R.map rwT),.dT o2 (dM D),.int (d:Int),tT t,.int (i:Int)]/\i<R.length/\R.length<=50/\DOk R D/\(d ||| 2 ^ i,some (tl R i))∈D.map (·.1)/\∀z1 z2,k (.int (Lv R (d ||| 2 ^ i) (some (tl R i))+cst t (tl R i))) [z1,z2,.int (d:Int),tT t,.int (i:Int)]
section
variable{P:Ji}{w:Jm}{K:Ja}{mg:Str->Option IY}{base:Jp}
theorem kT:FnScope ["rows","least","done","tool","number","taken"] ["rows","least","done","tool","number"] (af j4):=⟨rfl,rfl,rfl,by rfl',rfl,by rfl',by rfl'⟩
theorem qt(F:Fun K "takes_by" "takes_by" j4 f fd)(TX:Txt mg)  :FnOk P w K mg base CX0 1 f fd ["rows","least","done","tool","number"] (ax K 5 iV):=by
 refine bC F kT [true,true,true,true,true] rfl (λcdv A outer s H E hr=>?_);have sc:=@kT;refine⟨_,(aa (ak (i:=5) sc.nd (by rfl) (f_ rfl) (by rfl) (aA (aH hr (aH hr (a7 0) (a7 4)) ge_int))) (aj (aU (aA (aO da (aH hr (a7 1) (cy (a9 (aO Az (a7 2) (aO gJ ge_int (a7 4))) (a9 (a7 5) ah)))) (ge_if (bc (ip hr) (a7 3) (a7 5) (aZ _)) ge_int ge_int)))))),λts kk hl hp=>?_⟩;clear hl;obtain⟨o,o2,R,D,d,i,t,rfl,hi,hl,ok,mem,q⟩:=hp;obtain⟨m,em⟩:=nv hi;walk_at "go";refine aw (gb em) ?_;walk_at "go";refine⟨nH (by lia),aw (rF ok mem) ?_⟩;walk_at "go";refine bZ (λh=>?_) (λh=>?_)
 ·walk_at "go";have:=q (.lst o (R.map rwT)) (.dT o2 (dM D));unfold cst at this;rw[if_pos h]at this;exact this
 walk_at "go";have:=q (.lst o (R.map rwT)) (.dT o2 (dM D));unfold cst at this;rw[if_neg h]at this;exact this
end
def dG:FP:=λts k=>∃(o:Bool) (R:Rws),ts=[.lst o (R.map rwT)]/\R.length<=10/\∀(D:List Ent) z,DOk R D->(∀d t,d<2 ^ R.length->TS R t->(d,t)∈D.map (·.1))->k (.dT true (dM D)) [z]
section
variable{P:Ji}{w:Jm}{K:Ja}{mg:Str->Option IY}{base:Jp}
theorem d9:FnScope ["rows","least","done","numbers","tool","takes"] ["rows"] (af bR):=⟨rfl,rfl,rfl,by rfl',rfl,by rfl',by rfl'⟩
theorem j8(F:Fun K "takes_from_all" "takes_from_all" bR f fd)(TX:Txt mg)  (ul:Cal P w K mg base 1 "whole_of" ["rows"] (ax K 1 bD))(pi:Cal P w K mg base 2 "ready" ["rows","done"] (ax K 2 gH))(u8:Cal P w K mg base 1 "tools_in" ["rows"] (ax K 1 iH))(sB:Cal P w K mg base 1 "takes_by" ["rows","least","done","tool","number"] (ax K 5 iV)):FnOk P w K mg base CX0 3 f fd ["rows"] (ax K 1 dG):=by
 refine bC F d9 [true] rfl (λcdv A outer s H E hr=>?_);have sc:=@d9;have nd1:(["number","tool","done","least","rows"]:List Str).Nodup:=by rfl'
 refine⟨_,(aa (ak (i:=1) sc.nd (by rfl) (gV rfl) (by rfl) (aA Cd)) (aa (dv JK (by rfl) (uY (by rfl) TX.range (a9 (aA (ai ul hr (by rfl) (ae (a7 0) ag))) (a9 (aA (lK ge_int)) (a9 (aA (lK ge_int)) ah)))) (au (i:=2) sc.nd (by rfl) (gV rfl) (by rfl)) (aa (ak (i:=3) sc.nd (by rfl) (f_ rfl) (by rfl) (aA (ai pi hr (by rfl) (ae (a7 0) (ae (a7 2) ag))))) (aj (dv JK (by rfl) (br (aA (aO da (bP (a9 qX ah)) (ai u8 hr (by rfl) (ae (a7 0) ag))))) (au (i:=4) sc.nd (by rfl) (gV rfl) (by rfl)) (aa (lU sc (i:=5) ["number","tool","done","least","rows"] [none,some 4,some 2,some 1,some 0] nd1 (by rfl') (by rfl) (f_ rfl) (by rfl) (br (a7 3)) (λ_ _ _=>(au (i:=0) nd1 (by rfl) (f_ rfl) (by rfl) (hf:=(gV rfl)))) (λ_ _ _=>df) (λ_ _ _=>(ai sB hr (by rfl) (ae (a7 4) (ae (a7 3) (ae (a7 2) (ae (a7 1) (ae (a7 0) ag))))))) (by rfl)) (aj (p9 (aA (zC (by rfl) (by rfl) TX.min (a7 5))) (og (i:=1) hr (aA (cy (a9 (a7 2) (a9 (a7 4) ah)))))))))))) (aj (aU (qF 1))))),λts kk hl hp=>?_⟩;clear hl;obtain⟨o,R,rfl,hl,q⟩:=hp;have hW:2 ^ R.length<=1024:=FU (n:=2) (by decide) hl;have hp:0<2 ^ R.length:=Fh _;walk_at "go";refine⟨_,R,rfl,by lia,λz=>?_⟩;walk_at "go";refine⟨⟨by lia,by lia,by decide,by decide⟩,?_⟩;refine bx (λs env=>∃(D:List Ent) (z2 z3 z4 z5:T),Hld R D s []/\D.length<=s*11/\env=[.lst o (R.map rwT),.dT true (dM D),z2,z3,z4,z5]) ⟨[],_,_,_,_,Dg R,ES _,rfl⟩ ?_ ?_
 ·rintro s u _ ⟨D,z2,z3,z4,z5,H,hD,rfl⟩ ei;obtain⟨hs,rfl⟩:=Du ei;have hs:s<2 ^ R.length:=by lia
  have e0:((2 ^ R.length-1:Nat):Int)-(s:Int)=((2 ^ R.length-1-s:Nat):Int):=by lia
  rw[e0];have hd:2 ^ R.length-1-s<2 ^ R.length:=by omega
  walk_at "go";refine⟨_,R,_,rfl,by lia,λz=>?_⟩;walk_at "go";refine⟨_,R,rfl,by lia,λms z u1 u2=>?_⟩;walk_at "go";have tl1:=yh u1 u2;have tl2:ms.length+1<=R.length+1:=by rw[g_,a_]at tl1;exact tl1
  have nd:=BE u1;have mem:=Bs u2;rw[zH];generalize none::ms.map some=l at tl1 nd mem;refine⟨by lia,bx (λj env=>∃(D:List Ent) (z4 z5:T),Hld R D s (l.take j)/\D.length<=s*11+j/\env=[.lst o (R.map rwT),.dT true (dM D),.int ((2 ^ R.length-1-s:Nat):Int),.lst true ((rdy R (2 ^ R.length-1-s)).map nT),z4,z5]) ⟨D,_,_,H,hD,rfl⟩ ?_ ?_⟩
  ·clear H hD D;rintro j u _ ⟨D,z4,z5,H,hD,rfl⟩ ej;obtain⟨t,et,rfl⟩:=bB ej;have hj:j<l.length:=(b_.mp et).1;walk_at "go";have rl:(rdy R (2 ^ R.length-1-s)).length<=50:=by have:=GL (rdB R (2 ^ R.length-1-s)) (u_ R.length);rw[o_]at this;unfold rdy;lia
   refine aQ (by rw[a_,JG];lia) (λa acc ie=>∃z1,acc=((rdy R (2 ^ R.length-1-s)).take a).map (λi=>T.int (Lv R ((2 ^ R.length-1-s) ||| 2 ^ i) (some (tl R i))+cst t (tl R i)))/\ie=[z1,tT t,.int ((2 ^ R.length-1-s:Nat):Int),.dT false (dM D),.lst false (R.map rwT)]) ⟨_,rfl,rfl⟩ ?_ ?_
   ·rintro a u _ _ ⟨z1,rfl,rfl⟩ ea;obtain⟨i,ei',rfl⟩:=bB ea;have mi:=s_ ei';walk_at "go";refine⟨_,_,R,D,_,i,t,rfl,aI mi,by lia,H.1,C4 hs H mi,λz1 z2=>?_⟩;walk_at "go";exact⟨_,by rw[map_take ei'],rfl⟩
   rintro _ _ ⟨z1,rfl,rfl⟩;rw[a_,EU];walk_at "go";refine aw wK (λm hm=>?_);have em:=Bz hm;rw[<-Ai hd]at em;subst em;walk_at "go";have nm:(2 ^ R.length-1-s,t) ∉ D.map (·.1):=λm=>by
    rcases(H.2 _ _).mp m with m|m
    ·omega
    exact j5 nd et m.2
   refine⟨by unfold dM;rw[a_];lia,_,_,_,?_,?_,by rw[show([K4 ((2 ^ R.length-1-s:Nat):Int),tK t]:List Key)=kD (2 ^ R.length-1-s) t from rfl,Bq nm]⟩
   ·rw[FQ,et];exact zj H
   rw[j_,F5];lia
  rintro _ ⟨D,z4,z5,H,hD,rfl⟩;rw[a_]at H hD;rw[EU]at H;exact⟨D,_,_,_,_,xr hs H mem,by lia,rfl⟩
 rintro _ ⟨D,z2,z3,z4,z5,H,hD,rfl⟩;rw[vJ]at H;walk_at "go";refine q D _ H.1 λd t hd ht=>(H.2 d t).mpr (.inl ⟨by lia,hd,ht⟩)
end
def gR:FP:=λts k=>∃(t:T) (c:Bool) (J:List Jb),ts=[t]/\er t=jsT c false J/\isAny t=false/\J.length<=10/\(∀j∈J,∀n∈j.needs,n<=1000)/\cL (ba J)/\∀(L:Int) (os:List Nat) z,A0 (ba J) L os->k (.tup [.int L,.lst true (os.map nT)]) [z]
section
variable{P:Ji}{w:Jm}{K:Ja}{mg:Str->Option IY}{base:Jp}
theorem bz:FnScope ["jobs","rows","least","order","done","tool","takes","good"] ["jobs"] (af bY):=⟨rfl,rfl,rfl,by rfl',rfl,by rfl',by rfl'⟩
theorem lV(F:Fun K "least_takes" "least_takes" bY f fd)(TX:Txt mg)  (rc:Cal P w K mg base 2 "rows_of" ["jobs"] (ax K 1 dD))(ul:Cal P w K mg base 1 "whole_of" ["rows"] (ax K 1 bD))(pi:Cal P w K mg base 2 "ready" ["rows","done"] (ax K 2 gH))(po:Cal P w K mg base 3 "refuse_rings" ["rows"] (ax K 1 cC))(sK:Cal P w K mg base 3 "takes_from_all" ["rows"] (ax K 1 dG))(sB:Cal P w K mg base 1 "takes_by" ["rows","least","done","tool","number"] (ax K 5 iV)):FnOk P w K mg base CX0 4 f fd ["jobs"] (ax K 1 gR):=by
 refine bC F bz [true] rfl (λcdv A outer s H E hr=>?_);have sc:=@bz;have nd1:(["number","tool","done","least","rows","takes"]:List Str).Nodup:=by rfl'
 refine⟨_,(aa (ak (i:=1) sc.nd (by rfl) (gV rfl) (by rfl) (aA (ai rc hr (by rfl) (ae (a7 0) ag)))) (aa (dq (ai po hr (by rfl) (ae (aW 1) ag))) (aa (ak (i:=2) sc.nd (by rfl) (gV rfl) (by rfl) (aA (ai sK hr (by rfl) (ae (a7 1) ag)))) (aa (ak (i:=3) sc.nd (by rfl) (f_ rfl) (by rfl) (aA (bP ah))) (aa (ak (i:=4) sc.nd (by rfl) (gV rfl) (by rfl) ge_int) (aa (ak (i:=5) sc.nd (by rfl) (gV rfl) (by rfl) qX) (aa (gh JK (kY (bc (hU hr) (a7 4) (ai ul hr (by rfl) (ae (a7 1) ag)) (aZ _))) (aa (ak (i:=6) sc.nd (by rfl) (gV rfl) (by rfl) (aA (aH hr (a7 2) (cy (a9 (a7 4) (a9 (a7 5) ah)))))) (aa (lU sc (i:=7) ["number","tool","done","least","rows","takes"] [none,some 5,some 4,some 2,some 1,some 6] nd1 (by rfl') (by rfl) (f_ rfl) (by rfl) (br (ai pi hr (by rfl) (ae (a7 1) (ae (a7 4) ag)))) (λ_ _ _=>(au (i:=0) nd1 (by rfl) (f_ rfl) (by rfl) (hf:=(gV rfl)))) (λ_ _ _=>(jg (bc (ip hr) (ai sB hr (by rfl) (ae (a7 4) (ae (a7 3) (ae (a7 2) (ae (a7 1) (ae (a7 0) ag)))))) (a7 5) (aZ _)))) (λ_ _ _=>(a7 0)) (by rfl)) (aa (dq (gy 3 LF LG iq (a9 (aA (aH hr (a7 7) ge_int)) ah))) (aa (lJ (i:=4) sc.nd (by rfl) (gV rfl) (by rfl) (aA (aO gJ ge_int (aH hr (a7 7) ge_int))) lC) (aj (ak (i:=5) sc.nd (by rfl) (gV rfl) (by rfl) (aA (aH hr (aH hr (a7 1) (aH hr (a7 7) ge_int)) ge_int))))))))) (aj (aU (cy (a9 (aA (aH hr (a7 2) (cy (a9 ge_int (a9 qX ah))))) (a9 (qF 3) ah)))))))))))),λts kk hl hp=>?_⟩;clear hl;obtain⟨t0,c,J,rfl,et,ia,hl,hn,nr,q⟩:=hp;have hL:(ba J).length=J.length:=a_ ..;walk_at "go";rw[et];refine⟨aK,c,false,J,rfl,by lia,hn,λz=>?_⟩;walk_at "go";generalize ba J=R at *;refine⟨_,R,rfl,by lia,nr,λz=>?_⟩;walk_at "go";refine⟨_,R,rfl,by lia,λD z dk dm=>?_⟩;walk_at "go";have V:=zY R;have hW:2 ^ R.length<=1024:=FU (n:=2) (by decide) (by lia:R.length<=10);refine dE (λm env=>∃(d:Nat) (t:Option Int) (os:List Nat) (z6 z7:T),d<2 ^ R.length/\TS R t/\m=2 ^ R.length-d/\os.length<=d/\(∀o2,uV R (Lv R) d t o2->uV R (Lv R) 0 none (os++o2))/\env=[t0,.lst false (R.map rwT),.dT true (dM D),.lst true (os.map nT),.int (d:Int),tT t,z6,z7]) _ ⟨0,none,[],_,_,Fh _,.inl rfl,rfl,ES _,λo2 h=>h,rfl⟩ ?_;rintro m _ ⟨d,t,os,z6,z7,hd,ht,rfl,hos,hb,rfl⟩;walk_at "go";refine⟨_,R,rfl,by lia,λz=>?_⟩;walk_at "go";refine bZ (λh=>?_) (λh=>?_)
 ·have ew:d=2 ^ R.length-1:=by lia
  have B:=hb [] (by rw[ew];exact wz V ht);rw[ET]at B;walk_at "go";refine aw (rF dk (dm 0 none (Fh _) (.inl rfl))) ?_;walk_at "go";exact q _ _ _ (vP V B)
 obtain⟨i,l,eg,mi,vi,fi⟩:=wy nr hd (λz=>h (by rw[z])) ht;have il:=aI mi;have ig:=sO (eU mi);have it:=jm hd il;walk_at "go";refine aw (rF dk (dm d t hd ht)) ?_;walk_at "go";refine⟨_,R,d,rfl,by lia,λz=>?_⟩;walk_at "go";have rl:(rdy R d).length<=50:=by have:=GL (rdB R d) (u_ R.length);rw[o_]at this;unfold rdy;lia
 refine aQ (by rw[a_,JG];lia) (λa acc ie=>∃z1,acc=(((rdy R d).take a).filter λi=>decide (Lv R (d ||| 2 ^ i) (some (tl R i))+cst t (tl R i)=Lv R d t)).map nT/\ie=[z1,tT t,.int (d:Int),.dT false (dM D),.lst false (R.map rwT),.int (Lv R d t)]) ⟨_,rfl,rfl⟩ ?_ ?_
 ·rintro a u _ _ ⟨z1,rfl,rfl⟩ ea;obtain⟨j,ej,rfl⟩:=bB ea;have mj:=s_ ej;walk_at "go";refine⟨_,_,R,D,_,j,t,rfl,aI mj,by lia,dk,dm _ _ (jm hd (aI mj)) (.inr ⟨j,aI mj,rfl⟩),λz1 z2=>?_⟩;walk_at "go";rw[jO ej];refine bZ (λg=>?_) (λg=>?_)
  ·walk_at "go";exact⟨_,by rw[if_pos g],rfl⟩
  walk_at "go";exact⟨_,by rw[if_neg g];exact(ET _).symm,rfl⟩
 rintro _ _ ⟨z1,rfl,rfl⟩;rw[a_,EU];have eg':((rdy R d).filter λi=>decide (Lv R (d ||| 2 ^ i) (some (tl R i))+cst t (tl R i)=Lv R d t))=i::l:=eg;rw[eg'];walk_at "go";obtain⟨mk,em⟩:=nv il;refine⟨by lia,nH (by lia),aw (gb em) ?_⟩;walk_at "go";refine⟨_,?_,d ||| 2 ^ i,some (tl R i),os++[i],_,_,it,.inr ⟨i,il,rfl⟩,rfl,?_,λo2 B=>?_,by rw[x_];rfl⟩
 ·omega
 ·rw[j_,F5];lia
 rw[n_];exact hb _ (uu V hd ht mi vi fi B)
end
def xN:FP:=λts k=>∃(c:Cells) (n:Nat) (m u:Nat),ts=[stT c n,.int (m:Int),.int (u:Int)]/\n<2 ^ 30/\m<=10/\1<=u/\u<=5/\∀(c':Cells) (n':Nat) (J:List Jb) z1 z2,n'<=n+1000->J.length=m->JOk J->cL (ba J)->k (.lst true (J.map jbT)) [stT c' n',z1,z2]
section
variable{P:Ji}{w:Jm}{K:Ja}{mg:Str->Option IY}{base:Jp}
theorem sQ:FnScope ["_law_state","_law_many","_law_tools","_law_left","_law_turn","_law_order","_law_names","_law_jobs_here","_law_most","_law_place","_law_number","_law_needs"] ["_law_state","_law_many","_law_tools"] (af rN):=⟨rfl,rfl,rfl,by rfl',rfl,by rfl',by rfl'⟩
theorem yL(F:Fun K "_law_jobs" "_law_jobs" rN f fd)(TX:Txt mg)  (sw:Cal P w K mg base 1 "_law_take" ["_law_state","_law_many"] (ax K 2 p0)):FnOk P w K mg base CX0 2 f fd ["_law_state","_law_many","_law_tools"] (ax K 3 xN):=by
 refine bC F sQ [true,true,true] rfl (λcdv A outer s H E hr=>?_);have sc:=@sQ;have nd1:(["_law_turn","_law_left","_law_state"]:List Str).Nodup:=by rfl'
 refine⟨_,(@aa _ _ _ _ _ _ (@ak _ _ _ _ _ 3 _ _ sc.nd (by rfl) (gV rfl) (by rfl) (@aA _ _ _ (@gX _ _ _ _ _ _ _ (by rfl) (by rfl) TX.list (by rfl) TX.range (@a9 _ _ _ _ _ (@a7 _ _ 1 _ (by rfl) (by first|exact f_ rfl|exact gV (f_ rfl)|exact gV (gV rfl)) (by decide) (by decide)) (@ah _) (by rfl)) (by rfl) (by rfl))) (by rfl) (by first|exact .inl rfl|exact .inr rfl)) (@aa _ _ _ _ _ _ (@uq _ _ _ _ _ sc 5 _ _ _ ["_law_turn","_law_left","_law_state"] [none,some 3,some 0] nd1 _ _ _ _ _ _ _ _ _ _ (by rfl') (by rfl) (f_ rfl) (by rfl) (@dH _ _ _ _ _ _ (by rfl) TX.range (@a9 _ _ _ _ _ (@aW _ _ 1 _ (by rfl) (by first|exact f_ rfl|exact gV (f_ rfl)|exact gV (gV rfl)) (by decide) (by decide)) (@ah _) (by rfl)) (by rfl)) (λ_ _ _=>(@au _ _ _ 0 _ nd1 (by rfl) (f_ rfl) (by rfl) (gV rfl))) (λ_ _ _=>(@df _)) (λ_ _ _=>(@gy _ _ _ _ _ _ _ _ _ 1 _ _ Nw Ny ni (@a9 _ _ _ _ _ (@ai _ _ _ _ _ _ _ _ _ _ _ _ sw hr (by rfl) (@bF _ _ _ 2 _ _ (@ae _ _ _ _ _ (@aA _ _ _ (@dP _ _ _ _ _ _ _ _ _ cx (by rfl) TX.len (by rfl') (@a9 _ _ _ _ _ (@a7 _ _ 1 _ (by rfl) (by first|exact f_ rfl|exact gV (f_ rfl)|exact gV (gV rfl)) (by decide) (by decide)) (@ah _) (by rfl)) (by decide) (by decide) (by rfl) (by rfl))) (@ag _) (by rfl)) (by rfl) (by first|exact f_ rfl|exact gV (f_ rfl)|exact gV (gV rfl)) (by decide) (by decide) (by rfl)) (by lia) (by decide) (by rfl) (by rfl)) (@ah _) (by rfl)) (by rfl) (by first|exact f_ rfl|exact gV (f_ rfl)|exact gV (gV rfl)) (by decide) (by decide) (by rfl) (by rfl) (by rfl) (by rfl) (by rfl))) (by rfl) (by rfl) (by rfl) (by rfl) (by rfl) (by intro _;rfl)) (@aa _ _ _ _ _ _ (@ak _ _ _ _ _ 6 _ _ sc.nd (by rfl) (f_ rfl) (by rfl) (@aH _ _ _ _ _ _ _ hr (@aA _ _ _ (@bP _ _ _ _ (@a9 _ _ _ _ _ (@bP _ _ _ _ (@a9 _ _ _ _ _ (@ge_int _ _ _ _) (@a9 _ _ _ _ _ (@ge_int _ _ _ _) (@a9 _ _ _ _ _ (@ge_int _ _ _ _) (@a9 _ _ _ _ _ (@ge_int _ _ _ _) (@a9 _ _ _ _ _ (@ge_int _ _ _ _) (@ah _) (by rfl)) (by rfl)) (by rfl)) (by rfl)) (by rfl))) (@a9 _ _ _ _ _ (@bP _ _ _ _ (@a9 _ _ _ _ _ (@ge_int _ _ _ _) (@a9 _ _ _ _ _ (@ge_int _ _ _ _) (@a9 _ _ _ _ _ (@ge_int _ _ _ _) (@a9 _ _ _ _ _ (@ge_int _ _ _ _) (@a9 _ _ _ _ _ (@ge_int _ _ _ _) (@ah _) (by rfl)) (by rfl)) (by rfl)) (by rfl)) (by rfl))) (@a9 _ _ _ _ _ (@bP _ _ _ _ (@a9 _ _ _ _ _ (@ge_int _ _ _ _) (@a9 _ _ _ _ _ (@ge_int _ _ _ _) (@a9 _ _ _ _ _ (@ge_int _ _ _ _) (@a9 _ _ _ _ _ (@ge_int _ _ _ _) (@a9 _ _ _ _ _ (@ge_int _ _ _ _) (@ah _) (by rfl)) (by rfl)) (by rfl)) (by rfl)) (by rfl))) (@ah _) (by rfl)) (by rfl)) (by rfl)))) (@ai _ _ _ _ _ _ _ _ _ _ _ _ sw hr (by rfl) (@bF _ _ _ 0 _ _ (@ae _ _ _ _ _ (@ge_int _ _ _ _) (@ag _) (by rfl)) (by rfl) (by first|exact f_ rfl|exact gV (f_ rfl)|exact gV (gV rfl)) (by decide) (by decide) (by rfl)) (by lia) (by decide) (by rfl) (by rfl)) (by intro _ _;rfl)) (by rfl) (by first|exact .inl rfl|exact .inr rfl)) (@aa _ _ _ _ _ _ (@ak _ _ _ _ _ 7 _ _ sc.nd (by rfl) (f_ rfl) (by rfl) (@aO _ _ _ _ _ _ _ _ xS (@aA _ _ _ (@bP _ _ _ _ (@a9 _ _ _ _ _ (@cy _ _ _ _ _ (@a9 _ _ _ _ _ (@ge_int _ _ _ _) (@a9 _ _ _ _ _ (@bP _ _ _ _ (@ah _)) (@ah _) (by rfl)) (by rfl))) (@ah _) (by rfl)))) (@aW _ _ 1 _ (by rfl) (by first|exact f_ rfl|exact gV (f_ rfl)|exact gV (gV rfl)) (by decide) (by decide))) (by rfl) (by first|exact .inl rfl|exact .inr rfl)) (@aa _ _ _ _ _ _ (@ak _ _ _ _ _ 8 _ _ sc.nd (by rfl) (f_ rfl) (by rfl) (@aH _ _ _ _ _ _ _ hr (@aA _ _ _ (@bP _ _ _ _ (@a9 _ _ _ _ _ (@ge_int _ _ _ _) (@a9 _ _ _ _ _ (@ge_int _ _ _ _) (@a9 _ _ _ _ _ (@ge_int _ _ _ _) (@a9 _ _ _ _ _ (@ge_int _ _ _ _) (@ah _) (by rfl)) (by rfl)) (by rfl)) (by rfl)))) (@ai _ _ _ _ _ _ _ _ _ _ _ _ sw hr (by rfl) (@bF _ _ _ 0 _ _ (@ae _ _ _ _ _ (@ge_int _ _ _ _) (@ag _) (by rfl)) (by rfl) (by first|exact f_ rfl|exact gV (f_ rfl)|exact gV (gV rfl)) (by decide) (by decide) (by rfl)) (by lia) (by decide) (by rfl) (by rfl)) (by intro _ _;rfl)) (by rfl) (by first|exact .inl rfl|exact .inr rfl)) (@aa _ _ _ _ _ _ (@dv _ _ _ _ _ _ _ _ _ JK (by rfl) (@p5 _ _ _ _ _ _ _ _ (by rfl) TX.enumerate (@a9 _ _ _ _ _ (@aW _ _ 5 _ (by rfl) (by first|exact f_ rfl|exact gV (f_ rfl)|exact gV (gV rfl)) (by decide) (by decide)) (@ah _) (by rfl)) (by rfl)) (@p4 _ _ _ _ _ _ 2 (by rfl) (@cb _ _ _ _ _ _ (@au _ _ _ 9 _ sc.nd (by rfl) (f_ rfl) (by rfl) (by first|exact .inl rfl|exact .inr rfl)) (@cb _ _ _ _ _ _ (@au _ _ _ 10 _ sc.nd (by rfl) (f_ rfl) (by rfl) (by first|exact .inl rfl|exact .inr rfl)) (@lq _ _) (by rfl)) (by rfl)) (by rfl) (by rfl)) (@aa _ _ _ _ _ _ (@ak _ _ _ _ _ 11 _ _ sc.nd (by rfl) (f_ rfl) (by rfl) (@aA _ _ _ (@bP _ _ _ _ (@ah _))) (by rfl) (by first|exact .inl rfl|exact .inr rfl)) (@aa _ _ _ _ _ _ (@dv _ _ _ _ _ _ _ _ _ JK (by rfl) (@dH _ _ _ _ _ _ (by rfl) TX.range (@a9 _ _ _ _ _ (@ge_if _ _ _ _ _ _ _ _ (@kY _ _ _ (@bc _ _ _ _ _ _ _ _ C8 (@a7 _ _ 9 _ (by rfl) (by first|exact f_ rfl|exact gV (f_ rfl)|exact gV (gV rfl)) (by decide) (by decide)) (@ge_int _ _ _ _) (aZ _))) (@ai _ _ _ _ _ _ _ _ _ _ _ _ sw hr (by rfl) (@bF _ _ _ 0 _ _ (@ae _ _ _ _ _ (@aA _ _ _ (@aO _ _ _ _ _ _ _ _ da (@a7 _ _ 8 _ (by rfl) (by first|exact f_ rfl|exact gV (f_ rfl)|exact gV (gV rfl)) (by decide) (by decide)) (@ge_int _ _ _ _))) (@ag _) (by rfl)) (by rfl) (by first|exact f_ rfl|exact gV (f_ rfl)|exact gV (gV rfl)) (by decide) (by decide) (by rfl)) (by lia) (by decide) (by rfl) (by rfl)) (@ge_int _ _ _ _)) (@ah _) (by rfl)) (by rfl)) (@au _ _ _ 4 _ sc.nd (by rfl) (f_ rfl) (by rfl) (by first|exact .inl rfl|exact .inr rfl)) (@aj _ _ _ _ (@dq _ _ _ _ _ (@gy _ _ _ _ _ _ _ _ _ 11 _ _ LF LG iq (@a9 _ _ _ _ _ (@aH _ _ _ _ _ _ _ hr (@aW _ _ 5 _ (by rfl) (by first|exact f_ rfl|exact gV (f_ rfl)|exact gV (gV rfl)) (by decide) (by decide)) (@ai _ _ _ _ _ _ _ _ _ _ _ _ sw hr (by rfl) (@bF _ _ _ 0 _ _ (@ae _ _ _ _ _ (@aW _ _ 9 _ (by rfl) (by first|exact f_ rfl|exact gV (f_ rfl)|exact gV (gV rfl)) (by decide) (by decide)) (@ag _) (by rfl)) (by rfl) (by first|exact f_ rfl|exact gV (f_ rfl)|exact gV (gV rfl)) (by decide) (by decide) (by rfl)) (by lia) (by decide) (by rfl) (by rfl)) (by intro _ _;rfl)) (@ah _) (by rfl)) (by rfl) (by first|exact f_ rfl|exact gV (f_ rfl)|exact gV (gV rfl)) (by decide) (by decide) (by rfl) (by rfl) (by rfl) (by rfl) (by rfl)) (by rfl))) (by intro _;rfl)) (@aj _ _ _ _ (@p9 _ _ _ _ _ _ _ (@cy _ _ _ _ _ (@a9 _ _ _ _ _ (@aH _ _ _ _ _ _ _ hr (@aW _ _ 6 _ (by rfl) (by first|exact f_ rfl|exact gV (f_ rfl)|exact gV (gV rfl)) (by decide) (by decide)) (@ai _ _ _ _ _ _ _ _ _ _ _ _ sw hr (by rfl) (@bF _ _ _ 0 _ _ (@ae _ _ _ _ _ (@aW _ _ 2 _ (by rfl) (by first|exact f_ rfl|exact gV (f_ rfl)|exact gV (gV rfl)) (by decide) (by decide)) (@ag _) (by rfl)) (by rfl) (by first|exact f_ rfl|exact gV (f_ rfl)|exact gV (gV rfl)) (by decide) (by decide) (by rfl)) (by lia) (by decide) (by rfl) (by rfl)) (by intro _ _;rfl)) (@a9 _ _ _ _ _ (@aW _ _ 11 _ (by rfl) (by first|exact f_ rfl|exact gV (f_ rfl)|exact gV (gV rfl)) (by decide) (by decide)) (@ah _) (by rfl)) (by rfl))) (@og _ _ _ _ 7 _ _ _ _ hr (@aW _ _ 10 _ (by rfl) (by first|exact f_ rfl|exact gV (f_ rfl)|exact gV (gV rfl)) (by decide) (by decide)) (by rfl) (by first|exact f_ rfl|exact gV (f_ rfl)|exact gV (gV rfl)) (by decide) (by decide) (by intro _;rfl)) (by rfl) (by rfl) (by rfl))))) (by intro _;rfl)) (@aj _ _ _ _ (@aU _ _ _ _ _ (@qF _ _ 7 _ (by rfl) (by first|exact f_ rfl|exact gV (f_ rfl)|exact gV (gV rfl)) (by decide) (by decide)))))))))),λts kk hl hp=>?_⟩;clear hl;obtain⟨c,n,m,u,rfl,hn,hm,u0,u1,q⟩:=hp;walk_at "go";rw[B_,oh];refine⟨⟨by lia,by lia⟩,jt,⟨by lia,by lia⟩,?_⟩;refine aQ (by rw[a_,o_,JG];lia) (λi acc ie=>∃(c':Cells) (l os:List Nat) (z1:T),(os++l).Perm (u_ m)/\os.length=i/\acc=os.map nT/\ie=[z1,.lst true (l.map nT),stT c' (n+i)]) ⟨c,u_ m,[],_,.refl _,rfl,rfl,rfl⟩ ?_ ?_
 ·rintro i t _ _ ⟨c',l,os,z1,pm,hos,rfl,rfl⟩ ei;have hi:i<m:=by have:=(b_.mp ei).1;rwa[a_,o_]at this
  have hl:os.length+l.length=m:=by have:=pm.length_eq;rwa[j_,o_]at this
  walk_at "go";refine⟨_,_,_,rfl,by lia,by lia,by lia,?_⟩;intro r c1 a1 b1;have hr:r.toNat<l.length:=by lia
  have ex:l[r.toNat]?=some l[r.toNat]:=d_ hr;walk_at "go";refine⟨⟨a1,by lia⟩,aw (by rw[A_,ex];rfl) ?_⟩;walk_at "go";rw[qS];refine⟨c1,l.eraseIdx r.toNat,os++[l[r.toNat]],_,?_,by rw[j_,hos];rfl,by rw[x_];rfl,rfl⟩;rw[n_];exact((mJ ex).symm.append_left os).trans pm
 rintro _ _ ⟨c',l,os,z1,pm,hos,rfl,rfl⟩;rw[a_,o_]at hos ⊢;have hl:l=[]:=by have:=pm.length_eq;rw[j_,o_]at this;exact EW (by lia)
 subst hl;rw[ET]at pm;have nd:os.Nodup:=pm.nodup_iff.mpr Hq;have mem:∀i,i∈os↔i<m:=λi=>pm.mem_iff.trans Fq;walk_at "go";walk_at "take";intro r c1 a1 b1;walk_at "go";obtain⟨ns,hns,nsb,en⟩:=wV a1 b1;refine aw en ?_;walk_at "go";refine⟨⟨by lia,by lia⟩,?_⟩;walk_at "take";intro r2 c2 a2 b2;walk_at "go";obtain⟨v,v0,v1,ev⟩:=yG a2 b2;refine aw ev ?_;walk_at "go";rw[B_,Cb];refine bx (λp env=>∃(c':Cells) (n':Nat) (J:List Jb) (o6:Bool) (z4 z9 z10 z11:T),n'<=n+m+2+p*10/\JP os m p J/\env=[stT c' n',.int (m:Int),.int (u:Int),.lst true [],z4,.lst false (os.map nT),.lst o6 (ns.map T.int),.lst true (J.map jbT),.int (v:Int),z9,z10,z11]) ⟨c2,_,_,true,_,_,_,_,by lia,Ei,rfl⟩ ?_ ?_
 ·rintro p t _ ⟨c',n',J,o6,z4,z9,z10,z11,hn',hJ,rfl⟩ ei;obtain⟨i,ej,rfl⟩:=oM ei;have hp:p<os.length:=(b_.mp ej).1;have im:i<m:=(mem i).mp (s_ ej);walk_at "go";refine bZ (λg=>?_) (λg=>?_)
  ·walk_at "go";refine⟨_,_,_,rfl,by lia,by lia,by lia,?_⟩;intro r3 c3 a3 b3;walk_at "go";refine⟨⟨by lia,by lia⟩,bx (λa env=>∃(c3:Cells) (n3:Nat) (nds:List Nat) (z4:T),n3<=n'+1+a/\nds.length=a/\(∀x∈nds,x∈os.take p)/\env=[stT c3 n3,.int (m:Int),.int (u:Int),.lst true [],z4,.lst false (os.map nT),.lst o6 (ns.map T.int),.lst true (J.map jbT),.int (v:Int),.int (p:Int),.int (i:Int),.lst true (nds.map nT)]) ⟨c3,n'+1,[],_,by lia,rfl,(λx z=>by cases z),rfl⟩ ?_ ?_⟩
   ·rintro a t _ ⟨c5,n5,nds,z4,hn5,hnd,hx,rfl⟩ ea;have ha:=sA ea;walk_at "go";refine⟨_,_,_,rfl,by lia,by omega,by lia,?_⟩;intro r5 c6 a5 b5;have h5:r5.toNat<os.length:=by lia
    have e5:os[r5.toNat]?=some os[r5.toNat]:=d_ h5;walk_at "go";refine aw (u:=nT os[r5.toNat]) (by have:=gb (g:=nT) e5;rwa[HQ a5]at this) ?_;walk_at "go";refine⟨by lia,c6,n5+1,nds++[os[r5.toNat]],_,by lia,by rw[j_,hnd];rfl,λx hx'=>?_,by rw[x_];rfl⟩;rcases EO.mp hx' with hx'|hx'
    ·exact hx x hx'
    rw[z_.mp hx'];exact FO.mpr ⟨r5.toNat,by rw[FD (by lia)];exact e5⟩
   rintro _ ⟨c5,n5,nds,z4,hn5,hnd,hx,rfl⟩;rw[mm]at hn5 hnd;walk_at "go";refine⟨_,_,_,rfl,by lia,by lia,by lia,?_⟩;intro r4 c4 a4 b4;walk_at "go";obtain⟨tv,etv,htv⟩:=n8 (λv=>0<=v/\v<=40) (ns:=ns) (i:=r4) a4 (by lia) nsb;refine aw etv ?_;walk_at "go";refine aw (Ad (by rw[hJ.1];exact im)) ?_;walk_at "go";exact⟨c4,n5+1,J.set i ⟨tv,nds,false,true⟩,false,_,_,_,_,by lia,x8 htv nd mem hJ ej (by lia) hx,by rw[Hn];rfl⟩
  walk_at "go";refine⟨⟨by decide,by decide⟩,bx (λa env=>∃(c3:Cells) (n3:Nat) (nds:List Nat) (z4:T),n3<=n'+1+a/\nds.length=a/\(∀x∈nds,x∈os.take p)/\env=[stT c3 n3,.int (m:Int),.int (u:Int),.lst true [],z4,.lst false (os.map nT),.lst o6 (ns.map T.int),.lst true (J.map jbT),.int (v:Int),.int (p:Int),.int (i:Int),.lst true (nds.map nT)]) ⟨c',n',[],_,by lia,rfl,(λx z=>by cases z),rfl⟩ (λa t _ _ ea=>absurd (sA ea) (Hx _)) ?_⟩;rintro _ ⟨c5,n5,nds,z4,hn5,hnd,hx,rfl⟩;rw[mm]at hn5 hnd;walk_at "go";refine⟨_,_,_,rfl,by lia,by lia,by lia,?_⟩;intro r4 c4 a4 b4;walk_at "go";obtain⟨tv,etv,htv⟩:=n8 (λv=>0<=v/\v<=40) (ns:=ns) (i:=r4) a4 (by lia) nsb;refine aw etv ?_;walk_at "go";refine aw (Ad (by rw[hJ.1];exact im)) ?_;walk_at "go";exact⟨c4,n5+1,J.set i ⟨tv,nds,false,true⟩,false,_,_,_,_,by lia,x8 htv nd mem hJ ej (by lia) hx,by rw[Hn];rfl⟩
 rintro _ ⟨c',n',J,o6,z4,z9,z10,z11,hn',hJ,rfl⟩;rw[jj,hos]at hn' hJ;walk_at "go";exact q c' n' J _ _ (by lia) hJ.1 (by unfold JOk;rw[hJ.1];exact hJ.2.1) (yH nd mem hos hJ)
end
def nk:FP:=λts k=>∃(o:Bool) (R:Rws) (d:Nat) (u:Int),ts=[.lst o (R.map rwT),.int (d:Int),.int u]/\R.length<=50/\d<2 ^ R.length/\∀(c:Nat) z1 z2,GO R u d c->k (.int (c:Int)) [z1,z2,.int u]
section
variable{P:Ji}{w:Jm}{K:Ja}{mg:Str->Option IY}{base:Jp}
theorem ml:FnScope ["rows","done","tool","more"] ["rows","done","tool"] (af jJ):=⟨rfl,rfl,rfl,by rfl',rfl,by rfl',by rfl'⟩
theorem rO(F:Fun K "goes_on" "goes_on" jJ f fd)(TX:Txt mg)  (re:Cal P w K mg base 1 "set_of" ["numbers"] (ax K 1 gf))(pi:Cal P w K mg base 2 "ready" ["rows","done"] (ax K 2 gH)):FnOk P w K mg base CX0 3 f fd ["rows","done","tool"] (ax K 3 nk):=by
 refine bC F ml [true,false,true] rfl (λcdv A outer s H E hr=>?_);have sc:=@ml;have nd1:(["number","rows","tool"]:List Str).Nodup:=by rfl'
 have nd2:(["number","rows","tool"]:List Str).Nodup:=by rfl'
 refine⟨_,(aa (ak (i:=3) sc.nd (by rfl) (f_ rfl) (by rfl) (aA (ai re hr (by rfl) (ae (dc sc ["number","rows","tool"] [none,some 0,some 2] nd1 (by rfl') (br (ai pi hr (by rfl) (ae (a7 0) (ae (a7 1) ag)))) (λ_ _ _=>(au (i:=0) nd1 (by rfl) (f_ rfl) (by rfl) (hf:=(gV rfl)))) (λ_ _ _=>(jg (bc (ip hr) (aH hr (aH hr (a7 1) (a7 0)) ge_int) (a7 2) (aZ _)))) (λ_ _ _=>(a7 0))) ag)))) (aa (gh JK (kY (kc (a7 3))) (aa (lJ (i:=1) sc.nd (by rfl) (f_ rfl) (by rfl) (aW 3) lC) (aj (ak (i:=3) sc.nd (by rfl) (f_ rfl) (by rfl) (aA (ai re hr (by rfl) (ae (dc sc ["number","rows","tool"] [none,some 0,some 2] nd2 (by rfl') (br (ai pi hr (by rfl) (ae (a7 0) (ae (a7 1) ag)))) (λ_ _ _=>(au (i:=0) nd2 (by rfl) (f_ rfl) (by rfl) (hf:=(gV rfl)))) (λ_ _ _=>(jg (bc (ip hr) (aH hr (aH hr (a7 1) (a7 0)) ge_int) (a7 2) (aZ _)))) (λ_ _ _=>(a7 0))) ag))))))) (aj (aU (qF 1))))),λts kk hl hp=>?_⟩;clear hl;obtain⟨o,R,d,u,rfl,hl,hd,q⟩:=hp;have rl:=λd=>y9 (R:=R) (d:=d);walk_at "go";refine⟨_,R,d,rfl,hl,λz=>?_⟩;walk_at "go";refine aQ (by rw[a_,JG];have:=rl d;lia) (λi acc ie=>∃z1,acc=(((rdy R d).take i).filter λi=>decide (tl R i=u)).map nT/\ie=[z1,.lst false (R.map rwT),.int u]) ⟨_,rfl,rfl⟩ ?_ ?_
 ·rintro i t _ _ ⟨z1,rfl,rfl⟩ ei;obtain⟨j,ej,rfl⟩:=bB ei;obtain⟨mk,em⟩:=nv (aI (s_ ej));walk_at "go";refine aw (gb em) ?_;walk_at "go";rw[jO ej];refine bZ (λg=>?_) (λg=>?_)
  ·walk_at "go";exact⟨_,by rw[if_pos g],rfl⟩
  walk_at "go";exact⟨_,by rw[if_neg g];exact(ET _).symm,rfl⟩
 rintro _ _ ⟨z1,rfl,rfl⟩;rw[a_,EU];walk_at "go";refine⟨_,rdT R d u,rfl,rfl,by rw[er,fS];rfl,λn m=>by have:=aI (fg.mp m).1;lia,λz=>?_⟩;walk_at "go";refine dE (λm env=>∃(o':Bool) (d':Nat) (g:List Nat),d'<2 ^ R.length/\m=2 ^ R.length-d'/\Ch R d g/\(∀i∈g,tl R i=u)/\orM d g=d'/\env=[.lst o' (R.map rwT),.int (d':Int),.int u,.int (sM (rdT R d' u):Int)]) _ ⟨_,d,[],hd,rfl,trivial,(λi m=>by cases m),rfl,rfl⟩ ?_;rintro m _ ⟨o',d',g,hd',rfl,g1,g2,g3,rfl⟩;walk_at "go";refine kG (λh=>?_) (λh=>?_)
 ·have e:rdT R d' u=[]:=Iq.mp h;walk_at "go";exact q d' _ _ ⟨⟨g,g1,g2,g3⟩,λi m z=>by have:i∈rdT R d' u:=fg.mpr ⟨m,z⟩;rw[e]at this;cases this⟩
 have ne:rdT R d' u≠[]:=λz=>by rw[z]at h;cases h
 obtain⟨k1,k2⟩:=xA hd' ne;walk_at "go";refine⟨_,R,d' ||| sM (rdT R d' u),rfl,hl,λz=>?_⟩;walk_at "go";generalize ed:d' ||| sM (rdT R d' u)=d2 at k1 k2 ⊢;refine aQ (by rw[a_,JG];have:=rl d2;lia) (λi acc ie=>∃z1,acc=(((rdy R d2).take i).filter λi=>decide (tl R i=u)).map nT/\ie=[z1,.lst false (R.map rwT),.int u]) ⟨_,rfl,rfl⟩ ?_ ?_
 ·rintro i t _ _ ⟨z1,rfl,rfl⟩ ei;obtain⟨j,ej,rfl⟩:=bB ei;obtain⟨mk,em⟩:=nv (aI (s_ ej));walk_at "go";refine aw (gb em) ?_;walk_at "go";rw[jO ej];refine bZ (λg=>?_) (λg=>?_)
  ·walk_at "go";exact⟨_,by rw[if_pos g],rfl⟩
  walk_at "go";exact⟨_,by rw[if_neg g];exact(ET _).symm,rfl⟩
 rintro _ _ ⟨z1,rfl,rfl⟩;rw[a_,EU];walk_at "go";refine⟨_,rdT R d2 u,rfl,rfl,by rw[er,fS];rfl,λn m=>by have:=aI (fg.mp m).1;lia,λz=>?_⟩;walk_at "go";refine⟨_,?_,_,d2,g++rdT R d' u,k2,rfl,u3 _ _ _ g1 (by rw[g3];exact B5),λi m=>(EO.mp m).elim (g2 i) λz=>(fg.mp z).2,by rw[qK,g3,<-qh,ed],by rw[ed]⟩;lia
end
def j9:FP:=λts k=>∃(o:Bool) (R:Rws) (d:Nat),ts=[.lst o (R.map rwT),.int (d:Int)]/\R.length<=50/\∀z,k (.lst true ((bts R.length d).map nT)) [z,.int (d:Int)]
section
variable{P:Ji}{w:Jm}{K:Ja}{mg:Str->Option IY}{base:Jp}
theorem gY:FnScope ["rows","some"] ["rows","some"] (af eQ):=⟨rfl,rfl,rfl,by rfl',rfl,by rfl',by rfl'⟩
theorem mX(F:Fun K "numbers_in" "numbers_in" eQ f fd)(TX:Txt mg)  :FnOk P w K mg base CX0 1 f fd ["rows","some"] (ax K 2 j9):=by
 refine bC F gY [true,true] rfl (λcdv A outer s H E hr=>?_);have sc:=@gY;have nd1:(["number","some"]:List Str).Nodup:=by rfl'
 refine⟨_,(aj (aU (aA (dc sc ["number","some"] [none,some 1] nd1 (by rfl') (dH (by rfl) TX.range (a9 (dP cx (by rfl) TX.len (by rfl') (a9 (a7 0) ah)) ah)) (λ_ _ _=>(au (i:=0) nd1 (by rfl) (f_ rfl) (by rfl) (hf:=(gV rfl)))) (λ_ _ _=>(jg (kc (aO p3 (a7 1) (aO gJ ge_int (a7 0)))))) (λ_ _ _=>(a7 0)))))),λts kk hl hp=>?_⟩;clear hl;obtain⟨o,R,d,rfl,hl,q⟩:=hp;walk_at "go";rw[B_,oh];refine⟨⟨by lia,by lia⟩,aQ (by rw[a_,o_,JG];lia) (λi acc ie=>∃z1,acc=(bts i d).map nT/\ie=[z1,.int (d:Int)]) ⟨_,rfl,rfl⟩ ?_ ?_⟩
 ·rintro i t _ _ ⟨z1,rfl,rfl⟩ ei;obtain⟨j,ej,rfl⟩:=bB ei;obtain⟨hj,rfl⟩:=b_.mp ej;rw[H_];rw[o_]at hj;walk_at "go";refine⟨nH (by lia),?_⟩;rw[D4];unfold bts;rw[wW];refine kG (λh=>?_) (λh=>?_)
  ·walk_at "go";exact⟨_,by rw[h];rfl,rfl⟩
  walk_at "go";exact⟨_,by rw[h];exact(ET _).symm,rfl⟩
 rintro _ _ ⟨z1,rfl,rfl⟩;rw[a_,o_];walk_at "go";exact q _
end
def jA:FP:=λts k=>∃(o o2:Bool) (R:Rws) (L:List Nat),ts=[.lst o (R.map rwT),.lst o2 (L.map nT)]/\R.length<=10/\(∀e∈L,e<2 ^ R.length)/\∀(M:List Nat) z1 z2,Nxt R L M->k (.lst true (M.map nT)) [z1,z2]
section
variable{P:Ji}{w:Jm}{K:Ja}{mg:Str->Option IY}{base:Jp}
theorem gZ:FnScope ["rows","level","found","done","tool","more"] ["rows","level"] (af dR):=⟨rfl,rfl,rfl,by rfl',rfl,by rfl',by rfl'⟩
theorem mR(F:Fun K "next_level" "next_level" dR f fd)(TX:Txt mg)  (u8:Cal P w K mg base 1 "tools_in" ["rows"] (ax K 1 iH))(lw:Cal P w K mg base 3 "goes_on" ["rows","done","tool"] (ax K 3 nk)):FnOk P w K mg base CX0 4 f fd ["rows","level"] (ax K 2 jA):=by
 refine bC F gZ [true,true] rfl (λcdv A outer s H E hr=>?_);have sc:=@gZ;refine⟨_,(aa (ak (i:=2) sc.nd (by rfl) (f_ rfl) (by rfl) (aA Bi)) (aa (dv JK (by rfl) (br (aW 1)) (au (i:=3) sc.nd (by rfl) (f_ rfl) (by rfl)) (aj (dv JK (by rfl) (br (aA (ai u8 hr (by rfl) (ae (a7 0) ag)))) (au (i:=4) sc.nd (by rfl) (f_ rfl) (by rfl)) (aa (ak (i:=5) sc.nd (by rfl) (f_ rfl) (by rfl) (aA (ai lw hr (by rfl) (ae (a7 0) (ae (a7 3) (ae (a7 4) ag)))))) (aj (uh (kY (bc (hU hr) (a7 5) (a7 3) (aZ _))) (aj (p9 wN (og (i:=2) hr (aW 5)))) oy)))))) (aj (aU (aA (dC (qH rfl) (by rfl) TX.list (by rfl') (a9 (a7 2) ah))))))),λts kk hl hp=>?_⟩;clear hl;obtain⟨o,o2,R,L,rfl,hl,hL,q⟩:=hp;have hW:2 ^ R.length<=1024:=FU (n:=2) (by decide) (by omega:R.length<=10);walk_at "go";refine⟨rfl,bx (λa env=>∃(M:List Nat) (o':Bool) (z3 z4 z5:T),M.Nodup/\(∀c,c∈M↔∃e∈L.take a,∃i<R.length,GO R (tl R i) e c/\c≠e)/\env=[.lst o' (R.map rwT),.lst false (L.map nT),.dK true (dB M),z3,z4,z5]) ⟨[],_,_,_,_,F6,λc=>⟨λm=>(by cases m),λ⟨e,m,_⟩=>(by cases m)⟩,rfl⟩ ?_ ?_⟩
 ·rintro a t _ ⟨M,o',z3,z4,z5,nd,mem,rfl⟩ ea;obtain⟨e,ee,rfl⟩:=bB ea;have he:=hL e (s_ ee);walk_at "go";refine⟨_,R,rfl,by lia,λms z us ht=>?_⟩;have hti:=CB ht;walk_at "go";refine bx (λb env=>∃(M':List Nat) (o':Bool) (z4 z5:T),M'.Nodup/\(∀c,c∈M'↔c∈M\/∃t∈ms.take b,GO R t e c/\c≠e)/\env=[.lst o' (R.map rwT),.lst false (L.map nT),.dK true (dB M'),nT e,z4,z5]) ⟨M,_,_,_,nd,λc=>⟨.inl,λh=>h.elim id λ⟨e,m,_⟩=>(by cases m)⟩,rfl⟩ ?_ ?_
  ·rintro b t _ ⟨M',o',z4,z5,nd',mem',rfl⟩ eb;obtain⟨u,eu,rfl⟩:=bB eb;walk_at "go";refine⟨_,R,e,u,rfl,by lia,he,λc z1 z2 g=>?_⟩;walk_at "go";have hM:M'.length<=2 ^ R.length:=tq nd' λx mx=>by
    rcases(mem' x).mp mx with h|⟨t,_,g,_⟩
    ·obtain⟨e,me,i,_,g,_⟩:=(mem x).mp h;exact vM (hL e (Gb me)) g
    exact vM he g
   have step:∀x,(x∈M\/∃t∈ms.take (b+1),GO R t e x/\x≠e)↔x∈M'\/(x=c/\c≠e):=λx=>by
    rw[mem' x,or_assoc];refine or_congr_right ⟨?_,?_⟩
    ·rintro⟨t,mt,gt,ne⟩;rcases(dN eu).mp mt with mt|rfl
     ·exact .inl ⟨t,mt,gt,ne⟩
     have:=DI gt g;exact .inr ⟨this,by rw[<-this];exact ne⟩
    rintro(⟨t,mt,gt,ne⟩|⟨rfl,ne⟩)
    ·exact⟨t,(dN eu).mpr (.inl mt),gt,ne⟩
    exact⟨u,(dN eu).mpr (.inr rfl),g,ne⟩
   refine bZ (λh=>?_) (λh=>?_)
   ·walk_at "go";exact⟨M',_,_,_,nd',λx=>by rw[step x];exact⟨.inl,λz=>z.elim id λw=>absurd h λe=>w.2 (by lia)⟩,rfl⟩
   walk_at "go";refine⟨by unfold dB;rw[a_];lia,if c∈M' then M' else M'++[c],_,_,_,?_,λx=>?_,by rw[AI]⟩
   ·split
    ·exact nd'
    rename_i nm;exact FG.mpr ⟨nd',Gy _ _,λa ma b mb z=>nm (by rw[<-z_.mp mb,<-z];exact ma)⟩
   rw[step x];split
   ·rename_i mc;exact⟨.inl,λz=>z.elim id λw=>by rw[w.1];exact mc⟩
   rw[EO,z_];exact or_congr_right ⟨λz=>⟨z,λe=>h (by lia)⟩,λz=>z.1⟩
  rintro _ ⟨M',o',z4,z5,nd',mem',rfl⟩;rw[a_,EU]at mem';walk_at "go";refine⟨M',_,_,_,_,nd',λc=>?_,rfl⟩;rw[mem' c,mem c];constructor
  ·rintro(⟨e',m',h⟩|⟨t,mt,h⟩)
   ·exact⟨e',(dN ee).mpr (.inl m'),h⟩
   obtain⟨i,hi,rfl⟩:=(hti t).mp mt;exact⟨e,(dN ee).mpr (.inr rfl),i,hi,h⟩
  rintro⟨e',m',i,hi,h⟩;rcases(dN ee).mp m' with m'|rfl
  ·exact .inl ⟨e',m',i,hi,h⟩
  exact .inr ⟨_,(hti _).mpr ⟨i,hi,rfl⟩,h⟩
 rintro _ ⟨M,o',z3,z4,z5,nd,mem,rfl⟩;rw[a_,EU]at mem;walk_at "go";refine⟨ci M,by unfold dB ci;rw[Fp,Fp];rfl,λ_=>?_⟩;rw[CL];exact q M _ _ ⟨nd,mem⟩
end
def jo:FP:=λts k=>∃(o o2:Bool) (R:Rws) (L:List Nat),ts=[.lst o (R.map rwT),.lst o2 (L.map nT)]/\R.length<=50/\L.length<=2000/\∀z1 z2,k (.lst true (L.map λd=>.tup ((bts R.length d).map nT))) [z1,z2]
section
variable{P:Ji}{w:Jm}{K:Ja}{mg:Str->Option IY}{base:Jp}
theorem gU:FnScope ["rows","level"] ["rows","level"] (af dS):=⟨rfl,rfl,rfl,by rfl',rfl,by rfl',by rfl'⟩
theorem mZ(F:Fun K "told_level" "told_level" dS f fd)(TX:Txt mg)  (pc:Cal P w K mg base 1 "numbers_in" ["rows","some"] (ax K 2 j9)):FnOk P w K mg base CX0 2 f fd ["rows","level"] (ax K 2 jo):=by
 refine bC F gU [true,true] rfl (λcdv A outer s H E hr=>?_);have sc:=@gU;have nd1:(["done","rows"]:List Str).Nodup:=by rfl'
 refine⟨_,(aj (aU (aA (dc sc ["done","rows"] [none,some 0] nd1 (by rfl') (br (a7 1)) (λ_ _ _=>(au (i:=0) nd1 (by rfl) (f_ rfl) (by rfl) (hf:=(gV rfl)))) (λ_ _ _=>df) (λ_ _ _=>(dC qv (by rfl) TX.tuple (by rfl') (a9 (ai pc hr (by rfl) (ae (a7 1) (ae (a7 0) ag))) ah))))))),λts kk hl hp=>?_⟩;clear hl;obtain⟨o,o2,R,L,rfl,hl,hL,q⟩:=hp;walk_at "go";refine aQ (by rw[a_,JG];lia) (λi acc ie=>∃z1,acc=(L.take i).map (λd=>T.tup ((bts R.length d).map nT))/\ie=[z1,.lst false (R.map rwT)]) ⟨_,rfl,rfl⟩ ?_ ?_
 ·rintro i t _ _ ⟨z1,rfl,rfl⟩ ei;obtain⟨j,ej,rfl⟩:=bB ei;walk_at "go";refine⟨_,R,_,rfl,hl,λz=>?_⟩;walk_at "go";exact⟨_,by rw[map_take ej],rfl⟩
 rintro _ _ ⟨z1,rfl,rfl⟩;rw[a_,EU];walk_at "go";exact q _ _
end
def lB:FP:=λts k=>∃(t:T) (c:Bool) (J:List Jb),ts=[t]/\er t=jsT c false J/\isAny t=false/\J.length<=10/\(∀j∈J,∀n∈j.needs,n<=1000)/\cL (ba J)/\∀(L:List Nat) (Ls:List (List Nat)) z,Lvs (ba J) (L::Ls)->2 ^ J.length-1∈L->k (.lst true (((L::Ls).reverse.drop 1).dropLast.map λF=>.lst true (F.map λd=>.tup ((bts J.length d).map nT)))) [z]
section
variable{P:Ji}{w:Jm}{K:Ja}{mg:Str->Option IY}{base:Jp}
theorem dg:FnScope ["jobs","rows","levels"] ["jobs"] (af fE):=⟨rfl,rfl,rfl,by rfl',rfl,by rfl',by rfl'⟩
theorem pU(F:Fun K "bound_of" "bound_of" fE f fd)(TX:Txt mg)  (rc:Cal P w K mg base 2 "rows_of" ["jobs"] (ax K 1 dD))(ul:Cal P w K mg base 1 "whole_of" ["rows"] (ax K 1 bD))(po:Cal P w K mg base 3 "refuse_rings" ["rows"] (ax K 1 cC))(on:Cal P w K mg base 4 "next_level" ["rows","level"] (ax K 2 jA))(tz:Cal P w K mg base 2 "told_level" ["rows","level"] (ax K 2 jo)):FnOk P w K mg base CX0 5 f fd ["jobs"] (ax K 1 lB):=by
 refine bC F dg [true] rfl (λcdv A outer s H E hr=>?_);have sc:=@dg;have nd1:(["level","rows"]:List Str).Nodup:=by rfl'
 refine⟨_,(aa (ak (i:=1) sc.nd (by rfl) (gV rfl) (by rfl) (aA (ai rc hr (by rfl) (ae (a7 0) ag)))) (aa (dq (ai po hr (by rfl) (ae (aW 1) ag))) (aa (ak (i:=2) sc.nd (by rfl) (f_ rfl) (by rfl) (aA (bP (a9 (bP (a9 ge_int ah)) ah)))) (aa (gh JK (kY (bc (yi hr) (ai ul hr (by rfl) (ae (a7 1) ag)) (aH hr (a7 2) (lK ge_int)) (by with_unfolding_all rfl))) (aj (dq (gy 2 LF LG iq (a9 (aA (ai on hr (by rfl) (ae (a7 1) (ae (aH hr (a7 2) (lK ge_int)) ag)))) ah))))) (aj (aU (aA (dc sc ["level","rows"] [none,some 1] nd1 (by rfl') (br (xi (a7 2) (tY ge_int) (tY (lK ge_int)))) (λ_ _ _=>(au (i:=0) nd1 (by rfl) (f_ rfl) (by rfl) (hf:=(gV rfl)))) (λ_ _ _=>df) (λ_ _ _=>(ai tz hr (by rfl) (ae (a7 1) (ae (a7 0) ag)))))))))))),λts kk hl hp=>?_⟩;clear hl;obtain⟨t0,c,J,rfl,et,ia,hl,hn,nr,q⟩:=hp;have hL:(ba J).length=J.length:=a_ ..;walk_at "go";rw[et];refine⟨aK,c,false,J,rfl,by lia,hn,λz=>?_⟩;walk_at "go";rw[<-hL]at hl q;generalize ba J=R at *;have hW:2 ^ R.length<=1024:=FU (n:=2) (by decide) (by omega:R.length<=10);refine⟨_,R,rfl,by lia,nr,λz=>?_⟩;walk_at "go";refine dE (λm env=>∃(L:List Nat) (Ls:List (List Nat)) (o':Bool),Lvs R (L::Ls)/\m=2 ^ R.length-Ls.length/\env=[t0,.lst o' (R.map rwT),.lst true ((L::Ls).reverse.map λF=>.lst true (F.map nT))]) _ ⟨[0],[],_,rfl,rfl,rfl⟩ ?_;rintro m _ ⟨L,Ls,o',hv,rfl,rfl⟩;have ll:=tf nr hv;have lt:=fT Ls L hv;walk_at "go";refine⟨_,R,rfl,by lia,λz=>?_⟩;walk_at "go";refine aw sI ?_;walk_at "go";refine bZ (λh=>?_) (λh=>?_)
 ·have rl:∀F∈((L::Ls).reverse.drop 1).dropLast,F.length<=1024:=λF mF=>by have:=tW Ls L hv F (Hi.mp (y6 mF));exact ER (tq this.1 this.2) hW
  have sl:((L::Ls).reverse.drop 1).dropLast.length<=1024:=by rw[List.length_dropLast,Fi,FW,g_];lia
  walk_at "go";rw[yQ,ym,aP];refine aQ (by rw[a_,JG];lia) (λi acc ie=>∃z1,acc=(((L::Ls).reverse.drop 1).dropLast.take i).map (λF=>T.lst true (F.map λd=>T.tup ((bts R.length d).map nT)))/\ie=[z1,.lst false (R.map rwT)]) ⟨_,rfl,rfl⟩ ?_ ?_
  ·rintro i t _ _ ⟨z1,rfl,rfl⟩ ei;obtain⟨F,eF,rfl⟩:=bB ei;walk_at "go";refine⟨_,_,R,F,rfl,by lia,by have:=rl F (s_ eF);lia,λz1 z2=>?_⟩;walk_at "go";exact⟨_,by rw[map_take eF],rfl⟩
  rintro _ _ ⟨z1,rfl,rfl⟩;rw[a_,EU];walk_at "go";exact q L Ls _ hv h
 walk_at "go";refine aw sI ?_;walk_at "go";refine⟨_,_,R,L,rfl,by omega,λe m=>(lt.2 e m).1,λM z1 z2 hM=>?_⟩;walk_at "go";have hv':Lvs R (M::L::Ls):=⟨hM,h,hv⟩;have l2:=tf nr hv';rw[g_]at l2;refine⟨by rw[FW,g_];lia,_,?_,M,L::Ls,_,hv',rfl,by rw[Ik (a:=M),x_];rfl⟩;rw[g_];lia
end
def cu:List T->Prop:=λts=>∃(o:Bool) (R:Rws),ts=[.lst o (R.map rwT)]/\R.length<=50/\Rg R
def bu:List T->Prop:=λts=>∃(c o:Bool) (J:List Jb),ts=[jsT c o J]/\J.length<=10/\(∀j∈J,∀n∈j.needs,n<=1000)/\Rg (ba J)
section
variable{P:Ji}{w:Jm}{K:Ja}{mg:Str->Option IY}{base:Jp}{C M a1 a2 a3 a4 a5 a6 fw:I_}
theorem kq(F:Fun K "refuse_rings" "refuse_rings" bA f fd)(TX:Txt mg)(EX:ExcH K mg base C M a1 a2 a3 a4 a5 a6)(re:Cal P w K mg base 1 "set_of" ["numbers"] (ax K 1 gf))(ul:Cal P w K mg base 1 "whole_of" ["rows"] (ax K 1 bD))(pi:Cal P w K mg base 2 "ready" ["rows","done"] (ax K 2 gH)):FnOk P w K mg base (CXr P w C) 3 f fd ["rows"] (spR K C 1 cu):=by
 refine sC F b9 [true] rfl (λcdv A outer s H E hr=>?_);have sc:=@b9;refine⟨_,(bS (mQ (ak (i:=1) sc.nd (by rfl) (f_ rfl) (by rfl) ge_int)) (bS (mQ (ak (i:=2) sc.nd (by rfl) (f_ rfl) (by rfl) (aA (ai pi hr (by rfl) (ae (a7 0) (ae (a7 1) ag)))))) (bS (mQ (gh JK (kY (kc (a7 2))) (aa (lJ (i:=1) sc.nd (by rfl) (f_ rfl) (by rfl) (aA (ai re hr (by rfl) (ae (a7 2) ag))) lC) (aj (ak (i:=2) sc.nd (by rfl) (f_ rfl) (by rfl) (aA (ai pi hr (by rfl) (ae (a7 0) (ae (a7 1) ag))))))))) (qk (By (kY (bc (hU hr) (a7 1) (ai ul hr (by rfl) (ae (a7 0) ag)) (aZ _))) (qk (uR kQ EX.O MA (by decide) MA hr.hd (by rfl))) xD))))),λts hl hp=>?_⟩;clear hl;obtain⟨o,R,rfl,hl,S,hS,hR⟩:=hp;walk_at "go";refine⟨false,R,0,rfl,hl,λz=>?_⟩;walk_at "go";refine dE (λm env=>∃d:Nat,d<2 ^ R.length/\Fr0 S d/\m=2 ^ R.length-d/\env=[.lst o (R.map rwT),.int (d:Int),.lst true ((rdy R d).map nT)]) _ ⟨0,Fh _,DN,rfl,rfl⟩ ?_;rintro m _ ⟨d,hd,h0,rfl,rfl⟩;walk_at "go";refine kG (λh=>?_) (λh=>?_)
 ·walk_at "go";refine⟨false,R,rfl,hl,λz=>?_⟩;walk_at "go";have ne:=Dz hS (λi m=>(hR i m).1) h0;refine bZ (λg=>?_) (λg=>?_)
  ·exact absurd (by lia) ne
  trivial
 have ne:rdy R d≠[]:=λz=>by rw[z]at h;cases h
 obtain⟨g1,g2⟩:=tO hd ne;walk_at "go";refine⟨_,rdy R d,rfl,rfl,by rw[er,fS];rfl,λn m=>by have:=aI m;lia,λz=>?_⟩;walk_at "go";refine⟨false,R,d ||| sM (rdy R d),rfl,hl,λz=>?_⟩;walk_at "go";exact⟨_,by omega,_,g2,CK hR h0,rfl,rfl⟩
theorem kX(F:Fun K "least_takes" "least_takes" bY f fd)(TX:Txt mg)(rc:Cal P w K mg base 2 "rows_of" ["jobs"] (ax K 1 dD))(R_refuse_rings:CalR P w K mg base C 3 "refuse_rings" ["rows"] (spR K C 1 cu)):FnOk P w K mg base (CXr P w C) 4 f fd ["jobs"] (spR K C 1 bu):=by refine sC F bz [true] rfl (λcdv A outer s H E hr=>?_);have sc:=@bz;refine⟨_,(bS (mQ (ak (i:=1) sc.nd (by rfl) (gV rfl) (by rfl) (aA (ai rc hr (by rfl) (ae (a7 0) ag))))) (bS (qR kQ R_refuse_rings hr (by rfl) (ae (aW 1) ag)) nG)),λts hl hp=>?_⟩;clear hl;obtain⟨c,o,J,rfl,hl,hn,hg⟩:=hp;walk_at "go";refine⟨c,false,J,rfl,by lia,hn,λz=>?_⟩;walk_at "go";have hL:(ba J).length=J.length:=a_ ..;exact⟨rfl,rfl,⟨_,ba J,congrArg (λx=>[x]) (show er (.lst true ((ba J).map rwT))=.lst false ((ba J).map rwT) by rw[er,aP];rfl),by lia,hg⟩,λ_=>trivial⟩
theorem o7(F:Fun K "bound_of" "bound_of" fE f fd)(TX:Txt mg)(rc:Cal P w K mg base 2 "rows_of" ["jobs"] (ax K 1 dD))(R_refuse_rings:CalR P w K mg base C 3 "refuse_rings" ["rows"] (spR K C 1 cu)):FnOk P w K mg base (CXr P w C) 4 f fd ["jobs"] (spR K C 1 bu):=by refine sC F dg [true] rfl (λcdv A outer s H E hr=>?_);have sc:=@dg;refine⟨_,(bS (mQ (ak (i:=1) sc.nd (by rfl) (gV rfl) (by rfl) (aA (ai rc hr (by rfl) (ae (a7 0) ag))))) (bS (qR kQ R_refuse_rings hr (by rfl) (ae (aW 1) ag)) nG)),λts hl hp=>?_⟩;clear hl;obtain⟨c,o,J,rfl,hl,hn,hg⟩:=hp;walk_at "go";refine⟨c,false,J,rfl,by lia,hn,λz=>?_⟩;walk_at "go";have hL:(ba J).length=J.length:=a_ ..;exact⟨rfl,rfl,⟨_,ba J,congrArg (λx=>[x]) (show er (.lst true ((ba J).map rwT))=.lst false ((ba J).map rwT) by rw[er,aP];rfl),by lia,hg⟩,λ_=>trivial⟩
theorem tN:FnScope ["_law_error","_law_others"] ["_law_error"] (af oA):=⟨rfl,rfl,rfl,by rfl',rfl,by rfl',by rfl'⟩
theorem y1(F:Fun K "_law_word" "_law_word" oA f fd)(TX:Txt mg)(EX:ExcH K mg base C M a1 a2 a3 a4 a5 a6)(hb:Binds K fd ["_law_error"] []):kA P w K mg base C f "round":=by
 refine zb F tN rfl hb λcdv A outer s H ea oe xe=>?_;have sc:=@tN;refine⟨_,aN (dy (i:=1) sc.nd (by rfl) (f_ rfl) (dJ (lM (.head _) xe EX.F) (by rfl) TX.isinstance (by rfl) (aC (cq (i:=0) (by rfl) (f_ rfl)) (aC (BP (aC (dZ (v:=.ref a1) (by rfl) EX.h1 rfl) (aC (dZ (v:=.ref a2) (by rfl) EX.h2 rfl) (aC (dZ (v:=.ref a3) (by rfl) EX.h3 rfl) (aC (dZ (v:=.ref a4) (by rfl) EX.h4 rfl) (aC (dZ (v:=.ref a5) (by rfl) EX.h5 rfl) (aC (dZ (v:=.ref a6) (by rfl) EX.h6 rfl) bU))))))) bU)))) (aN (pG (xj (sr (cq (i:=1) (by rfl) (f_ rfl))) (xj (rX (sr (dJ (lM (.head _) xe EX.F) (by rfl) TX.isinstance (by rfl) (aC (cq (i:=0) (by rfl) (f_ rfl)) (aC (yO (v:=.ty "ValueError") (by rfl) EX.hV (by rfl) rfl) bU))))) (ve (rX (sr (dJ (lM (.head _) xe EX.F) (by rfl) TX.isinstance (by rfl) (aC (cq (i:=0) (by rfl) (f_ rfl)) (aC (dZ (v:=.ref C) (by rfl) EX.O.bound rfl) bU)))))))).pt (cw (jZ cH)) jr) (cw (jZ cH))),?_⟩;refine⟨.ref ea,rfl,by show 6<=sizeLine;decide,λp hp=>⟨.ref p,false,rfl,.inl ⟨p,[a1,a2,a3,a4,a5,a6],rfl,SqT.of (aq),EX.k1⟩,?_⟩⟩;refine⟨.bl false,rfl,false,rfl,?_⟩;show if false=true then _ else _
 rw[if_neg EZ];refine⟨.ref ea,rfl,.ty "ValueError",true,rfl,.inr (.inr ⟨_,rfl,EX.k2⟩),true,rfl,?_⟩;show if(!true)=true then _ else _
 rw[if_neg (by decide)];refine⟨.ref ea,rfl,.ref C,true,rfl,.inr (.inl ⟨_,rfl,by unfold Nv;rw[if_pos (beq_self_eq_true _)]⟩),true,rfl,?_⟩;exact⟨rfl,aF hp _⟩
end
def nh:FP:=λts k=>∃(i:Int) (c:Bool) (J:List Jb),ts=[.int i,jsT c false J]/\J.length<=10/\(∀j∈J,∀n∈j.needs,n<=1000)/\((cL (ba J)/\k (.str "") [.int i,jsT c false J])\/(Rg (ba J)/\k (.str "round") [.int i,jsT c false J]))
section
variable{P:Ji}{w:Jm}{K:Ja}{mg:Str->Option IY}{base:Jp}{C M a1 a2 a3 a4 a5 a6 fw:I_}
theorem lA:FnScope ["_law_which","_law_jobs_here","_law_word_here","_law_error"] ["_law_which","_law_jobs_here"] (af kJ):=⟨rfl,rfl,rfl,by rfl',rfl,by rfl',by rfl'⟩
theorem rH(F:Fun K "_law_refused" "_law_refused" kJ f fd)(TX:Txt mg)(EX:ExcH K mg base C M a1 a2 a3 a4 a5 a6)(o0:Cal P w K mg base 4 "least_takes" ["jobs"] (ax K 1 gR))(lm:Cal P w K mg base 5 "bound_of" ["jobs"] (ax K 1 lB))
  (R_least_takes:CalR P w K mg base C 4 "least_takes" ["jobs"] (spR K C 1 bu)) (R_bound_of:CalR P w K mg base C 4 "bound_of" ["jobs"] (spR K C 1 bu)) (W:kA P w K mg base C fw "round") (hW:mg "_law_word"=some (.ref fw)) (kW:KA K (.ref fw)=true):FnOk P w K mg base CX0 6 f fd ["_law_which","_law_jobs_here"] (ax K 2 nh):=by
 refine bC F lA [true,true] rfl (λcdv A outer s H E hr=>?_);have sc:=@lA;refine⟨_,(aa (ak (i:=2) sc.nd (by rfl) (f_ rfl) (by rfl) ge_str) (aa (Dh (zt (λ_ _ z=>z) (aj (uh (kY (bc (ip hr) (a7 0) ge_int (aZ _))) (aj (dq (ai o0 hr (by rfl) (ae (a7 1) ag)))) (aj (dq (ai lm hr (by rfl) (ae (a7 1) ag)))))))
  (y0 (j:=3) (mi:=2) (λ_ _ z=>z) rfl rfl hr (kY (bc (ip hr) (a7 0) ge_int (aZ _))) R_least_takes (by rfl) (ae (a7 1) ag) R_bound_of (by rfl) (ae (a7 1) ag) (by rfl) EX.hM EX.m1 EX.m2 EX.m3 EX.m4 W (by rfl) hW kW sc.nd (by rfl) (by rfl) (by rfl) (by rfl) (by decide) (by rfl) (by rfl))) (aj (aU (a7 2))))),λts kk hl hp=>?_⟩
 clear hl;obtain⟨i,c,J,rfl,hl,hn,h⟩:=hp;walk_at "go";have ra:isAny (jsT c false J)=false:=aK;have rn:aD (jsT c false J)=true:=bo;rcases h with⟨nr,q⟩|⟨rg,q⟩
 ·refine f_ (bZ (λg=>?_) (λg=>?_))
  ·walk_at "go";refine⟨_,c,J,rfl,du,aK,hl,hn,nr,λL os z _=>?_⟩;walk_at "go";exact q
  walk_at "go";refine⟨_,c,J,rfl,du,aK,hl,hn,nr,λL Ls z _ _=>?_⟩;walk_at "go";exact q
 refine gV ?_;unfold Ac;walk_at "go";have fin:∀ts',(hnd 2 3 "round" { nx:=yb (v8 2) { nx:=λenv=>kk .non (GZ (λb t=>if b=true then t else T.any) [true,true] env),rt:=λt env=>kk t (GZ (λb t=>if b=true then t else T.any) [true,true] env) },rt:=λt env=>kk t (GZ (λb t=>if b=true then t else T.any) [true,true] env) }).bk (back [.val (jsT c false J)] ts' [.int i,jsT c false J,.str "",.any]):=λts'=>by
  have e:back [.val (jsT c false J)] ts' [.int i,jsT c false J,.str "",.any]=[.int i,jsT c false J,.str "",.any]:=by cases ts' <;> rfl
  rw[e];show yb (v8 2) _ [.int i,jsT c false J,.str "round",.any];walk_at "go";exact q
 exact⟨λ_=>⟨ra,rn,rfl,⟨c,false,J,rfl,hl,hn,rg⟩,fin⟩,λ_=>⟨ra,rn,rfl,⟨c,false,J,rfl,hl,hn,rg⟩,fin⟩⟩
end
section
variable{P:Ji}{w:Jm}{K:Ja}{mg:Str->Option IY}{base:Jp}
theorem vg:FnScope ["_law_script","_law_state","_law_turn","_law_many","_law_good","_law_left","_law_k","_law_ring","_law_jobs_here","_law_number","_law_needs","_law_kept","_law_which"] ["_law_script"] (af gq):=⟨rfl,rfl,rfl,by rfl',rfl,by rfl',by rfl'⟩
theorem BB(F:Fun K "law" "law" gq f fd)(TX:Txt mg)  (li:Cal P w K mg base 1 "_law_begin" ["_law_script"] (ax K 1 (oV K)))(sw:Cal P w K mg base 1 "_law_take" ["_law_state","_law_many"] (ax K 2 p0))(nw:Cal P w K mg base 2 "_law_jobs" ["_law_state","_law_many","_law_tools"] (ax K 3 xN))(pp:Cal P w K mg base 6 "_law_refused" ["_law_which","_law_jobs_here"] (ax K 2 nh)):FnOk P w K mg base CX0 7 f fd ["_law_script"] (ax K 1 (xt K)):=by
 refine bC F vg [true] rfl (λcdv A outer s H E hr=>?_);have sc:=@vg;have nd1:(["_law_k","_law_left","_law_state"]:List Str).Nodup:=by rfl'
 have nd2:(["_law_tool","_law_needs"]:List Str).Nodup:=by rfl'
 refine⟨_,(aa (ak (i:=1) sc.nd (by rfl) (gV rfl) (by rfl) (aA (ai li hr (by rfl) (ae (a7 0) ag)))) (aa (dv JK (by rfl) (dH (by rfl) TX.range (a9 ge_int ah)) (au (i:=2) sc.nd (by rfl) (f_ rfl) (by rfl)) (aa (ak (i:=3) sc.nd (by rfl) (f_ rfl) (by rfl) (aO da ge_int (ai sw hr (by rfl) (bF 1 (ae (aH hr (aA (bP (a9 ge_int (a9 ge_int ah)))) (ai sw hr (by rfl) (bF 1 (ae ge_int ag)))) ag))))) (aa (ak (i:=4) sc.nd (by rfl) (f_ rfl) (by rfl) (ai nw hr (by rfl) (bF 1 (ae (aW 3) (ae (aO da ge_int (ai sw hr (by rfl) (bF 1 (ae ge_int ag)))) ag))))) (aa (ak (i:=5) sc.nd (by rfl) (gV rfl) (by rfl) (aA (gX (by rfl) (by rfl) TX.list (by rfl) TX.range (a9 (a7 3) ah)))) (aa (uq sc (i:=7) ["_law_k","_law_left","_law_state"] [none,some 5,some 1] nd1 (by rfl') (by rfl) (f_ rfl) (by rfl) (dH (by rfl) TX.range (a9 (aO da ge_int (ai sw hr (by rfl) (bF 1 (ae (aW 3) ag)))) ah)) (λ_ _ _=>(au (i:=0) nd1 (by rfl) (f_ rfl) (by rfl) (hf:=(gV rfl)))) (λ_ _ _=>df) (λ_ _ _=>(gy 1 Nw Ny ni (a9 (ai sw hr (by rfl) (bF 2 (ae (aA (dP cx (by rfl) TX.len (by rfl') (a9 (a7 1) ah))) ag))) ah))) (by rfl)) (aa (ak (i:=8) sc.nd (by rfl) (f_ rfl) (by rfl) (dC iT (by rfl) TX.list (by rfl') (a9 (aW 4) ah))) (aa (dv JK (by rfl) (p5 (by rfl) TX.enumerate (a9 (aW 7) ah)) (p4 (n:=2) (by rfl) (cb (au (i:=6) sc.nd (by rfl) (f_ rfl) (by rfl)) (cb (au (i:=9) sc.nd (by rfl) (f_ rfl) (by rfl)) lq))) (aa (ak (i:=10) sc.nd (by rfl) (f_ rfl) (by rfl) (aA (dC iT (by rfl) TX.list (by rfl') (a9 (aH hr (aH hr (a7 8) (a7 9)) ge_int) ah)))) (aa (dq (gy 10 PySem.F.slot_list_insert PySem.F.type_list_insert rm (a9 (ai sw hr (by rfl) (bF 1 (ae (aA (aO da (dP cx (by rfl) TX.len (by rfl') (a9 (a7 10) ah)) ge_int)) ag))) (a9 (aA (aH hr (a7 7) (aO zO (aO da (a7 6) ge_int) (dP cx (by rfl) TX.len (by rfl') (a9 (a7 7) ah))))) ah)))) (aj (p9 (cy (a9 (aA (aH hr (aH hr (a7 8) (a7 9)) ge_int)) (a9 (aW 10) ah))) (og (i:=8) hr (aW 9))))))) (aa (lU sc (i:=11) ["_law_tool","_law_needs"] [none,none] nd2 (by rfl') (by rfl) (f_ rfl) (by rfl) (br (a7 8)) (λ_ _ _=>(p4 (n:=2) (by rfl) (cb (au (i:=0) nd2 (by rfl) (f_ rfl) (by rfl) (hf:=(gV rfl))) (cb (au (i:=1) nd2 (by rfl) (f_ rfl) (by rfl) (hf:=(gV rfl))) lq)))) (λ_ _ _=>df) (λ_ _ _=>(cy (a9 (a7 0) (a9 (dC iT (by rfl) TX.list (by rfl') (a9 (a7 1) ah)) ah)))) (by rfl)) (aj (dv JK (by rfl) (br (cy (a9 ge_int (a9 ge_int (a9 ge_int ah))))) (au (i:=12) sc.nd (by rfl) (f_ rfl) (by rfl)) (aj (uh (kY (Dj (Ap (bc (hU hr) (ai pp hr (by rfl) (ae (a7 12) (ae (a7 8) ag))) ge_str (aZ _)) (Ap (bc (hU hr) (a7 8) (a7 11) (aZ _)) (C5 (bc (hU hr) (ai pp hr (by rfl) (ae (a7 12) (ae (a7 4) ag))) ge_str (aZ _))))))) (aj (aU wN)) oy)))))))))))) (aj (aU wN)))),λts kk hl hp=>?_⟩;clear hl;obtain⟨t,ns,rfl,hs,hn,q⟩:=hp;walk_at "go";obtain⟨e,i⟩:=BH hs;rw[e];refine⟨i,t,ns,rfl,hs,hn,λc=>?_⟩;walk_at "go";refine⟨⟨by decide,by decide⟩,bx (λi env=>∃(c:Cells) (n:Nat) (z0 z2 z3 z4 z5 z6 z7 z8 z9 z10 z11 z12:T),n<=i*2000/\env=[z0,stT c n,z2,z3,z4,z5,z6,z7,z8,z9,z10,z11,z12]) ⟨c,0,_,_,_,_,_,_,_,_,_,_,_,_,ES _,rfl⟩ ?_ ?_⟩
 ·clear c;rintro i t _ ⟨c,n,z0,z2,z3,z4,z5,z6,z7,z8,z9,z10,z11,z12,hn',rfl⟩ ei;have hi:i<3:=sA ei;walk_at "go";refine⟨_,_,_,rfl,by lia,by decide,by decide,?_⟩;intro r c1 a1 b1;walk_at "go";obtain⟨v,v0,v1,ev⟩:=CJ a1 b1;refine aw ev ?_;walk_at "go";refine⟨_,_,_,rfl,by lia,by lia,by lia,?_⟩;intro m c2 a2 b2;obtain⟨m,rfl⟩:=Gz a2;walk_at "go";refine⟨_,_,_,rfl,by lia,by decide,by decide,?_⟩;intro u c3 a3 b3;obtain⟨u,rfl⟩:=Gz a3;walk_at "go";refine⟨c3,_,1+m,1+u,rfl,by lia,by lia,by lia,by lia,λc4 n4 J z1' z2' h1 h2 h3 h4=>?_⟩;walk_at "go";rw[show(1+(m:Int)).toNat=1+m by lia,oh];refine⟨⟨by lia,by lia⟩,jt,?_⟩;refine⟨_,_,_,rfl,by lia,by lia,by lia,?_⟩;intro g c5 a5 b5;obtain⟨g,rfl⟩:=Gz a5;walk_at "go";refine⟨⟨by lia,by lia⟩,?_⟩;rw[show(1+(g:Int)).toNat=1+g by lia,oh];refine aQ (by rw[a_,o_,JG];lia) (λi acc ie=>∃(c':Cells) (l os:List Nat) (z1:T),(os++l).Perm (u_ (1+m))/\os.length=i/\acc=os.map nT/\ie=[z1,.lst true (l.map nT),stT c' (n4+1+i)]) ⟨c5,u_ (1+m),[],_,.refl _,rfl,rfl,rfl⟩ ?_ ?_
  ·rintro i t _ _ ⟨c',l,os,z1,pm,hos,rfl,rfl⟩ ei;have hi:i<1+g:=by have:=(b_.mp ei).1;rwa[a_,o_]at this
   have hl:os.length+l.length=1+m:=by have:=pm.length_eq;rwa[j_,o_]at this
   walk_at "go";refine⟨_,_,_,rfl,by lia,by lia,by lia,?_⟩;intro r c1 a1 b1;have hr:r.toNat<l.length:=by lia
   have ex:l[r.toNat]?=some l[r.toNat]:=d_ hr;walk_at "go";refine⟨⟨a1,by lia⟩,aw (by rw[A_,ex];rfl) ?_⟩;walk_at "go";rw[qS];refine⟨c1,l.eraseIdx r.toNat,os++[l[r.toNat]],_,?_,by rw[j_,hos];rfl,by rw[x_];rfl,rfl⟩;rw[n_];exact((mJ ex).symm.append_left os).trans pm
  rintro _ _ ⟨c6,l,os,z1,pm,hos,rfl,rfl⟩;rw[a_,o_]at hos ⊢;have nd:(os++l).Nodup:=pm.nodup_iff.mpr Hq;have nd:os.Nodup:=nd.sublist (List.sublist_append_left _ _);have lt:∀i∈os,i<J.length:=λi mi=>by have:=Fq.mp (pm.mem_iff.mp (EL _ mi));lia
  clear pm;walk_at "go";refine bx (λk env=>∃(c':Cells) (Jk:List Jb) (z6 z9 z10:T),RgP os k J.length Jk/\env=[z0,stT c' (n4+1+(1+g)+k),t,.int (1+(m:Int)),.lst false (J.map jbT),.lst true (l.map nT),z6,.lst false (os.map nT),.lst true (Jk.map jbT),z9,z10,z11,z12]) ⟨c6,J,_,_,_,E7 h3,rfl⟩ ?_ ?_
  ·rintro k t' _ ⟨c',Jk,z6,z9,z10,hJ,rfl⟩ ej;obtain⟨x,ex,rfl⟩:=oM ej;have xl:=lt x (s_ ex);have kl:k<os.length:=(b_.mp ex).1;obtain⟨tool,needs,ejb,hnl⟩:=vK hJ xl;walk_at "go";refine aw (gb ejb) ?_;walk_at "go";show tG [T.lst false (needs.map nT)] _;walk_at "go";refine⟨c',_,needs.length+1,rfl,by lia,by lia,by lia,?_⟩;intro r c1 a1 b1;have om:(k+1)%os.length<os.length:=Iw _ (by lia);have ey:os[(k+1)%os.length]?=some os[(k+1)%os.length]:=d_ om;walk_at "go";refine⟨by lia,aw (BR ey) ?_⟩;walk_at "go";refine⟨⟨a1,by lia,by lia⟩,aw (gb ejb) ?_⟩;walk_at "go";refine aw (zL (by rw[hJ.1];exact xl)) ?_;walk_at "go";rw[AW];exact⟨c1,Jk.set x ⟨tool,needs.take r.toNat++os[(k+1)%os.length]::needs.drop r.toNat,false,true⟩,_,_,_,Ax hJ nd ex ey lt ejb,by rw[Hn];rfl⟩
  rintro _ ⟨c',Jk,z6,z9,z10,hJ,rfl⟩;rw[jj]at hJ ⊢;have rg:=Bt hJ (λz=>by rw[z]at hos;exact absurd hos (by show ¬ 0=_;lia)) lt;walk_at "go";refine aQ (by rw[a_,JG,hJ.1];lia) (λi acc ie=>∃z1 z2,acc=(Jk.take i).map joT/\ie=[z1,z2]) ⟨_,_,rfl,rfl⟩ ?_ ?_
  ·rintro p t' _ _ ⟨z1,z2,rfl,rfl⟩ ej;obtain⟨j,ejb,rfl⟩:=bB ej;obtain⟨tool,needs,e,hnl⟩:=vK hJ (x:=p) (by rw[<-hJ.1];exact(b_.mp ejb).1);rw[ejb]at e;cases e;walk_at "go";show gTp 2 _ (T.tup [.int tool,.lst false (needs.map nT)]) _ _;walk_at "go";exact⟨_,_,by rw[map_take ejb];rfl,rfl⟩
  rintro _ _ ⟨z1,z2,rfl,rfl⟩;rw[a_,EU];walk_at "go";refine⟨GF.mpr λj _=>wH,?_⟩;refine bx (λi env=>∃z,env=[z0,stT c' (n4+1+(1+g)+os.length),t,.int (1+(m:Int)),.lst false (J.map jbT),.lst true (l.map nT),z6,.lst false (os.map nT),.lst true (Jk.map jbT),z9,z10,.lst true (Jk.map joT),z]) ⟨_,rfl⟩ ?_ ?_
  ·rintro p t' _ ⟨z,rfl⟩ et;obtain⟨w,rfl⟩:∃w:Int,t'=.int w:=by have:=s_ et;simp only[k_,GJ,or_false]at this;rcases this with h|h|h <;> exact⟨_,h⟩
   walk_at "go";refine⟨w,false,Jk,rfl,by rw[hJ.1];lia,λj mj i mi=>?_,.inr ⟨rg,?_⟩⟩
   ·have:=(hJ.2.1 j mj).2.2 i mi;lia
   walk_at "go";rw[zy hJ];refine Cn ?_;walk_at "go";refine⟨w,false,J,rfl,by lia,AS h3 (by lia),.inl ⟨h4,?_⟩⟩;walk_at "go";exact⟨_,rfl⟩
  rintro _ ⟨z,rfl⟩;exact⟨_,_,_,_,_,_,_,_,_,_,_,_,_,_,by lia,rfl⟩
 rintro _ ⟨c,n,z0,z2,z3,z4,z5,z6,z7,z8,z9,z10,z11,z12,hn',rfl⟩;walk_at "go";exact q _
end
variable {α:Type}
theorem ar0{P:List α->Prop}(h:P []):∀us:List α,us.length=0->P us:=λus e=>by
 cases us with
 |nil=>exact h
 |cons a r=>cases e
theorem ar1{P:List α->Prop}(h:∀a0,P [a0]):∀us:List α,us.length=1->P us:=λus e=>by
 cases us with
 |nil=>cases e
 |cons a0 r=>exact ar0 (P:=λr=>P (a0::r)) (h a0) r (FV e)
theorem ar2{P:List α->Prop}(h:∀a0 a1,P [a0,a1]):∀us:List α,us.length=2->P us:=λus e=>by
 cases us with
 |nil=>cases e
 |cons a0 r=>exact ar1 (P:=λr=>P (a0::r)) (h a0) r (FV e)
theorem ar3{P:List α->Prop}(h:∀a0 a1 a2,P [a0,a1,a2]):∀us:List α,us.length=3->P us:=λus e=>by
 cases us with
 |nil=>cases e
 |cons a0 r=>exact ar2 (P:=λr=>P (a0::r)) (h a0) r (FV e)
theorem ar4{P:List α->Prop}(h:∀a0 a1 a2 a3,P [a0,a1,a2,a3]):∀us:List α,us.length=4->P us:=λus e=>by
 cases us with
 |nil=>cases e
 |cons a0 r=>exact ar3 (P:=λr=>P (a0::r)) (h a0) r (FV e)
theorem ar5{P:List α->Prop}(h:∀a0 a1 a2 a3 a4,P [a0,a1,a2,a3,a4]):∀us:List α,us.length=5->P us:=λus e=>by
 cases us with
 |nil=>cases e
 |cons a0 r=>exact ar4 (P:=λr=>P (a0::r)) (h a0) r (FV e)
theorem walk{l:M4}{q:Ji}{loose:List Str}{XP:(Str->Option IY)->Jp->Prop}{YP:Jm->Jp->Prop}{d:DefRec}{K:MS->Ja}(hn:l.most=some 63)(hdf:d.params.defaults=[])
  (hY:∀(w:Jm) (h:Jp),YP w h->(K w.params).In h)
  (F:∀(w:Jm) (mg:Str->Option IY) (fa:I_) (h:Jp),(K w.params).In h->h.Ns JD mg->mg d.name=some (.ref fa)->
   ∃fd:Jt,(∀(s:Jc) (u:IY),Nh s fd ⟨[u],[]⟩ [("_law_script",u)])/\∀base:Jp,(K w.params).In base->base.Ns JD mg->FnOk l.prog w (K w.params) mg base CX0 7 fa fd ["_law_script"] (uf (K w.params))) :
  Pq q loose XP YP l.row.toRowW d [] (λf vs=>OH f vs):=
 L2.zN (n:=63) (k:=7) (x:="_law_script") (CX:=λ_=>CX0) (sp:=λw=>uf (K w.params)) hn (by decide) hdf ⟨rfl,by decide,by decide,rfl⟩ hY F (λ_ _ a ns hl _ hS=>⟨a,ns,rfl,hS,hl,λ_=>rfl⟩) λ_ _ _ _ _ z=>z
noncomputable def kd(P:MS) (x:Str) (t:Tok) (v:IY):K8:=⟨PyData.keyHash P x,.str x t,v⟩
def kf(n:Str) (s:JA) (m:IY) (c:I_):Obj:=⟨.type "function",none,.func (KI n n (dh s) (b8 s) (af s) .none .none .none m none (.ref c) .none),#[]⟩
def KK(P:MS):Ja:=[(3,⟨.type "dict",none,.dict #[kd P "__name__" 165 (.str "law_millpath_k60_needs_in_a_ring" 472),kd P "__doc__" 166 (.none),kd P "__package__" 167 (.none),kd P "__loader__" 168 (.builtin "__main__.__loader__#opaque"),kd P "__spec__" 169 (.none),kd P "__annotations__" 170 (.ref 6),kd P "__builtins__" 171 (.ref 4),kd P "__file__" 173 (.str "/claim/cut.py" 172),kd P "__cached__" 174 (.none),kd P "MillError" 206 (.ref 24),kd P "NoTool" 222 (.ref 37),kd P "NoWay" 238 (.ref 49),kd P "Round" 254 (.ref 61),kd P "Meets" 279 (.ref 80),kd P "Bites" 304 (.ref 99),kd P "Cuts" 331 (.ref 118),kd P "BadRow" 356 (.ref 137),kd P "rows_of" 364 (.ref 144),kd P "set_of" 373 (.ref 151),kd P "numbers_in" 379 (.ref 156),kd P "whole_of" 386 (.ref 163),kd P "is_part" 394 (.ref 170),kd P "ready" 400 (.ref 175),kd P "tools_in" 406 (.ref 180),kd P "goes_on" 412 (.ref 185),kd P "least_takes" 420 (.ref 190),kd P "refuse_rings" 429 (.ref 197),kd P "takes_from_all" 435 (.ref 202),kd P "takes_by" 447 (.ref 209),kd P "bound_of" 453 (.ref 214),kd P "next_level" 465 (.ref 221),kd P "told_level" 471 (.ref 226),kd P "_law_begin" 481 (.ref 233),kd P "_law_take" 494 (.ref 240),kd P "_law_jobs" 500 (.ref 245),kd P "_law_word" 508 (.ref 252),kd P "_law_refused" 518 (.ref 259),kd P "law" 524 (.ref 264)] 38,#[]⟩),(144,kf "rows_of" jV (.str "millpath.jobsets" 357) 143),(143,⟨.type "code",none,.fields #[.str "rows_of" 359,.str "rows_of" 360,.str "/claim/cut.py" 361,.int (32) 0,.int (1) 0,.int (0) 0,.int (0) 0,.int (3) 0,.ref 140,.bool true,.int (181) 0,.ref 141,.none,.none,.none,.ref 142,.int (362) 0,.int (32) 0,.str "/claim/cut.py" 363],#[]⟩),(151,kf "set_of" mI (.str "millpath.jobsets" 357) 150),(150,⟨.type "code",none,.fields #[.str "set_of" 365,.str "set_of" 366,.str "/claim/cut.py" 367,.int (34) 0,.int (1) 0,.int (0) 0,.int (0) 0,.int (3) 0,.ref 145,.bool true,.int (181) 0,.ref 146,.none,.ref 147,.ref 148,.ref 149,.int (371) 0,.int (34) 0,.str "/claim/cut.py" 372],#[]⟩),(156,kf "numbers_in" eQ (.str "millpath.jobsets" 357) 155),(155,⟨.type "code",none,.fields #[.str "numbers_in" 374,.str "numbers_in" 375,.str "/claim/cut.py" 376,.int (39) 0,.int (2) 0,.int (0) 0,.int (0) 0,.int (3) 0,.ref 152,.bool true,.int (181) 0,.ref 153,.none,.none,.none,.ref 154,.int (377) 0,.int (39) 0,.str "/claim/cut.py" 378],#[]⟩),(163,kf "whole_of" i9 (.str "millpath.jobsets" 357) 162),(162,⟨.type "code",none,.fields #[.str "whole_of" 380,.str "whole_of" 381,.str "/claim/cut.py" 382,.int (41) 0,.int (1) 0,.int (0) 0,.int (0) 0,.int (3) 0,.ref 157,.bool true,.int (181) 0,.ref 158,.none,.ref 159,.ref 160,.ref 161,.int (384) 0,.int (41) 0,.str "/claim/cut.py" 385],#[]⟩),(170,kf "is_part" ky (.str "millpath.jobsets" 357) 169),(169,⟨.type "code",none,.fields #[.str "is_part" 387,.str "is_part" 388,.str "/claim/cut.py" 389,.int (43) 0,.int (2) 0,.int (0) 0,.int (0) 0,.int (3) 0,.ref 164,.bool true,.int (181) 0,.ref 165,.none,.ref 166,.ref 167,.ref 168,.int (392) 0,.int (43) 0,.str "/claim/cut.py" 393],#[]⟩),(175,kf "ready" o8 (.str "millpath.jobsets" 357) 174),(174,⟨.type "code",none,.fields #[.str "ready" 395,.str "ready" 396,.str "/claim/cut.py" 397,.int (45) 0,.int (2) 0,.int (0) 0,.int (0) 0,.int (3) 0,.ref 171,.bool true,.int (181) 0,.ref 172,.none,.none,.none,.ref 173,.int (398) 0,.int (45) 0,.str "/claim/cut.py" 399],#[]⟩),(180,kf "tools_in" hX (.str "millpath.jobsets" 357) 179),(179,⟨.type "code",none,.fields #[.str "tools_in" 401,.str "tools_in" 402,.str "/claim/cut.py" 403,.int (47) 0,.int (1) 0,.int (0) 0,.int (0) 0,.int (3) 0,.ref 176,.bool true,.int (181) 0,.ref 177,.none,.none,.none,.ref 178,.int (404) 0,.int (47) 0,.str "/claim/cut.py" 405],#[]⟩),(185,kf "goes_on" jJ (.str "millpath.jobsets" 357) 184),(184,⟨.type "code",none,.fields #[.str "goes_on" 407,.str "goes_on" 408,.str "/claim/cut.py" 409,.int (49) 0,.int (3) 0,.int (0) 0,.int (0) 0,.int (3) 0,.ref 181,.bool true,.int (181) 0,.ref 182,.none,.none,.none,.ref 183,.int (410) 0,.int (49) 0,.str "/claim/cut.py" 411],#[]⟩),(190,kf "least_takes" bY (.str "millpath.jobs" 413) 189),(189,⟨.type "code",none,.fields #[.str "least_takes" 415,.str "least_takes" 416,.str "/claim/cut.py" 417,.int (56) 0,.int (1) 0,.int (0) 0,.int (0) 0,.int (3) 0,.ref 186,.bool true,.int (181) 0,.ref 187,.none,.none,.none,.ref 188,.int (418) 0,.int (56) 0,.str "/claim/cut.py" 419],#[]⟩),(197,kf "refuse_rings" bA (.str "millpath.jobs" 413) 196),(196,⟨.type "code",none,.fields #[.str "refuse_rings" 421,.str "refuse_rings" 422,.str "/claim/cut.py" 423,.int (70) 0,.int (1) 0,.int (0) 0,.int (0) 0,.int (3) 0,.ref 191,.bool true,.int (181) 0,.ref 192,.none,.ref 193,.ref 194,.ref 195,.int (427) 0,.int (70) 0,.str "/claim/cut.py" 428],#[]⟩),(202,kf "takes_from_all" bR (.str "millpath.jobs" 413) 201),(201,⟨.type "code",none,.fields #[.str "takes_from_all" 430,.str "takes_from_all" 431,.str "/claim/cut.py" 432,.int (78) 0,.int (1) 0,.int (0) 0,.int (0) 0,.int (3) 0,.ref 198,.bool true,.int (181) 0,.ref 199,.none,.none,.none,.ref 200,.int (433) 0,.int (78) 0,.str "/claim/cut.py" 434],#[]⟩),(209,kf "takes_by" j4 (.str "millpath.jobs" 413) 208),(208,⟨.type "code",none,.fields #[.str "takes_by" 436,.str "takes_by" 437,.str "/claim/cut.py" 438,.int (86) 0,.int (5) 0,.int (0) 0,.int (0) 0,.int (3) 0,.ref 203,.bool true,.int (181) 0,.ref 204,.none,.ref 205,.ref 206,.ref 207,.int (445) 0,.int (86) 0,.str "/claim/cut.py" 446],#[]⟩),(214,kf "bound_of" fE (.str "millpath.jobs" 413) 213),(213,⟨.type "code",none,.fields #[.str "bound_of" 448,.str "bound_of" 449,.str "/claim/cut.py" 450,.int (89) 0,.int (1) 0,.int (0) 0,.int (0) 0,.int (3) 0,.ref 210,.bool true,.int (181) 0,.ref 211,.none,.none,.none,.ref 212,.int (451) 0,.int (89) 0,.str "/claim/cut.py" 452],#[]⟩),(221,kf "next_level" dR (.str "millpath.jobs" 413) 220),(220,⟨.type "code",none,.fields #[.str "next_level" 454,.str "next_level" 455,.str "/claim/cut.py" 456,.int (96) 0,.int (2) 0,.int (0) 0,.int (0) 0,.int (3) 0,.ref 215,.bool true,.int (181) 0,.ref 216,.none,.ref 217,.ref 218,.ref 219,.int (463) 0,.int (96) 0,.str "/claim/cut.py" 464],#[]⟩),(226,kf "told_level" dS (.str "millpath.jobs" 413) 225),(225,⟨.type "code",none,.fields #[.str "told_level" 466,.str "told_level" 467,.str "/claim/cut.py" 468,.int (104) 0,.int (2) 0,.int (0) 0,.int (0) 0,.int (3) 0,.ref 222,.bool true,.int (181) 0,.ref 223,.none,.none,.none,.ref 224,.int (469) 0,.int (104) 0,.str "/claim/cut.py" 470],#[]⟩),(233,kf "_law_begin" l7 (.str "law_millpath_k60_needs_in_a_ring" 472) 232),(232,⟨.type "code",none,.fields #[.str "_law_begin" 474,.str "_law_begin" 475,.str "/claim/cut.py" 476,.int (107) 0,.int (1) 0,.int (0) 0,.int (0) 0,.int (3) 0,.ref 227,.bool true,.int (181) 0,.ref 228,.none,.ref 229,.ref 230,.ref 231,.int (479) 0,.int (107) 0,.str "/claim/cut.py" 480],#[]⟩),(240,kf "_law_take" oY (.str "law_millpath_k60_needs_in_a_ring" 472) 239),(239,⟨.type "code",none,.fields #[.str "_law_take" 482,.str "_law_take" 483,.str "/claim/cut.py" 484,.int (112) 0,.int (2) 0,.int (0) 0,.int (0) 0,.int (3) 0,.ref 234,.bool true,.int (181) 0,.ref 235,.none,.ref 236,.ref 237,.ref 238,.int (492) 0,.int (112) 0,.str "/claim/cut.py" 493],#[]⟩),(245,kf "_law_jobs" rN (.str "law_millpath_k60_needs_in_a_ring" 472) 244),(244,⟨.type "code",none,.fields #[.str "_law_jobs" 495,.str "_law_jobs" 496,.str "/claim/cut.py" 497,.int (123) 0,.int (3) 0,.int (0) 0,.int (0) 0,.int (3) 0,.ref 241,.bool true,.int (181) 0,.ref 242,.none,.none,.none,.ref 243,.int (498) 0,.int (123) 0,.str "/claim/cut.py" 499],#[]⟩),(252,kf "_law_word" oA (.str "law_millpath_k60_needs_in_a_ring" 472) 251),(251,⟨.type "code",none,.fields #[.str "_law_word" 501,.str "_law_word" 502,.str "/claim/cut.py" 503,.int (135) 0,.int (1) 0,.int (0) 0,.int (0) 0,.int (3) 0,.ref 246,.bool true,.int (181) 0,.ref 247,.none,.ref 248,.ref 249,.ref 250,.int (506) 0,.int (135) 0,.str "/claim/cut.py" 507],#[]⟩),(259,kf "_law_refused" kJ (.str "law_millpath_k60_needs_in_a_ring" 472) 258),(258,⟨.type "code",none,.fields #[.str "_law_refused" 509,.str "_law_refused" 510,.str "/claim/cut.py" 511,.int (140) 0,.int (2) 0,.int (0) 0,.int (0) 0,.int (3) 0,.ref 253,.bool true,.int (181) 0,.ref 254,.none,.ref 255,.ref 256,.ref 257,.int (516) 0,.int (140) 0,.str "/claim/cut.py" 517],#[]⟩),(264,kf "law" gq (.str "law_millpath_k60_needs_in_a_ring" 472) 263),(263,⟨.type "code",none,.fields #[.str "law" 519,.str "law" 520,.str "/claim/cut.py" 521,.int (150) 0,.int (1) 0,.int (0) 0,.int (0) 0,.int (3) 0,.ref 260,.bool true,.int (181) 0,.ref 261,.none,.none,.none,.ref 262,.int (522) 0,.int (150) 0,.str "/claim/cut.py" 523],#[]⟩),(61,⟨.type "type",none,.cls ⟨"Round",[.ref 24],[.ref 61,.ref 24,.type "ValueError",.type "Exception",.type "BaseException",.type "object"],60,"Round",true,[],[],false,none,false⟩,#[some (.ref 52),none,some (.str "Round" 239),some (.str "Round" 247),some (.builtin "ValueError.__new__"),some (.bool true)]⟩),(24,⟨.type "type",none,.cls ⟨"MillError",[.type "ValueError"],[.ref 24,.type "ValueError",.type "Exception",.type "BaseException",.type "object"],23,"MillError",true,[],[.ref 37,.ref 49,.ref 61,.ref 80,.ref 99,.ref 118,.ref 137],false,none,false⟩,#[some (.ref 15),none,some (.str "MillError" 189),some (.str "MillError" 197),some (.builtin "ValueError.__new__"),some (.bool true)]⟩),(37,⟨.type "type",none,.cls ⟨"NoTool",[.ref 24],[.ref 37,.ref 24,.type "ValueError",.type "Exception",.type "BaseException",.type "object"],36,"NoTool",true,[],[],false,none,false⟩,#[some (.ref 28),none,some (.str "NoTool" 207),some (.str "NoTool" 215),some (.builtin "ValueError.__new__"),some (.bool true)]⟩),(49,⟨.type "type",none,.cls ⟨"NoWay",[.ref 24],[.ref 49,.ref 24,.type "ValueError",.type "Exception",.type "BaseException",.type "object"],48,"NoWay",true,[],[],false,none,false⟩,#[some (.ref 40),none,some (.str "NoWay" 223),some (.str "NoWay" 231),some (.builtin "ValueError.__new__"),some (.bool true)]⟩),(80,⟨.type "type",none,.cls ⟨"Meets",[.ref 24],[.ref 80,.ref 24,.type "ValueError",.type "Exception",.type "BaseException",.type "object"],79,"Meets",true,[],[],false,none,false⟩,#[some (.ref 64),none,some (.str "Meets" 255),some (.str "Meets" 263),some (.builtin "ValueError.__new__"),some (.bool true)]⟩),(99,⟨.type "type",none,.cls ⟨"Bites",[.ref 24],[.ref 99,.ref 24,.type "ValueError",.type "Exception",.type "BaseException",.type "object"],98,"Bites",true,[],[],false,none,false⟩,#[some (.ref 83),none,some (.str "Bites" 280),some (.str "Bites" 288),some (.builtin "ValueError.__new__"),some (.bool true)]⟩),(118,⟨.type "type",none,.cls ⟨"Cuts",[.ref 24],[.ref 118,.ref 24,.type "ValueError",.type "Exception",.type "BaseException",.type "object"],117,"Cuts",true,[],[],false,none,false⟩,#[some (.ref 102),none,some (.str "Cuts" 305),some (.str "Cuts" 313),some (.builtin "ValueError.__new__"),some (.bool true)]⟩),(137,⟨.type "type",none,.cls ⟨"BadRow",[.ref 24],[.ref 137,.ref 24,.type "ValueError",.type "Exception",.type "BaseException",.type "object"],136,"BadRow",true,[],[],false,none,false⟩,#[some (.ref 121),none,some (.str "BadRow" 332),some (.str "BadRow" 340),some (.builtin "ValueError.__new__"),some (.bool true)]⟩),(60,⟨.type "dict",none,.dict #[kd P "__module__" 246 (.str "millpath.errors" 187),kd P "__firstlineno__" 250 (.int (8) 249),kd P "__static_attributes__" 251 (.ref 59),kd P "__doc__" 252 (.none)] 2,#[]⟩),(23,⟨.type "dict",none,.dict #[kd P "__module__" 196 (.str "millpath.errors" 187),kd P "__firstlineno__" 200 (.int (2) 199),kd P "__static_attributes__" 201 (.ref 22),kd P "__weakref__" 203 (.ref 25),kd P "__doc__" 204 (.none)] 3,#[]⟩)]
noncomputable def kas:List I_:=[3,144,143,151,150,156,155,163,162,170,169,175,174,180,179,185,184,190,189,197,196,202,201,209,208,214,213,221,220,226,225,233,232,240,239,245,244,252,251,259,258,264,263,61,24,37,49,80,99,118,137,60,23]
theorem sa(P:MS):kas=(KK P).map (·.1):=by kernel_rfl
noncomputable def VW:Ji:=PySem.W.view PySem.Challenge.pw_millpath_k60_needs_in_a_ring [1,2,3,4,5,6,7,8,10,11,12,13,14,15,16,17,19,20,21,22,23,24,25,27,28,29,30,31,32]
noncomputable def B7(s:JA):Pos:=match s with
 | .FunctionDef _ _ _ _ _ _ _ _ _ p=>p
 | _=>⟨0,0,0,0⟩
variable {mg:Str->Option IY}
theorem dfn{h:Jp}{P:MS}{x:Str}{st:JA}{ps:List Str}(X:(KK P).In h)(G:h.Ns JD mg)(f c:I_)(m:IY)(l:(KK P).lookup f=some (kf x st m c):=by kernel_rfl)(a:Kk (KK P) JD x=some (some (.ref f)):=by kernel_rfl)(cd:Mc (KK P) (.ref c) x=true:=by kernel_rfl)(kp:KA (KK P) (.ref f)=true:=by kernel_rfl)
  (hb:∀(kV doc pm:IY) (an:Option I_) (cdv ct:IY) (us:List IY),us.length=ps.length->PZ (KI x x (dh st) (b8 st) (af st) .none kV doc pm an cdv ct) ⟨us,[]⟩=pure (ps.zip us):=by intro _ _ _ _ _ _ us;revert us;first|(apply ar1;intros;rfl)|(apply ar2;intros;rfl)|(apply ar3;intros;rfl)|(apply ar5;intros;rfl)):Dfn (KK P) mg x st ps:=⟨f,_,sg (st:=st) l cd kp,Km X G a,(sg (st:=st) l cd kp).binds hb⟩
noncomputable def mo0:IY:=.str "millpath.jobsets" 357
noncomputable def mo1:IY:=.str "millpath.jobs" 413
noncomputable def mo2:IY:=.str "law_millpath_k60_needs_in_a_ring" 472
set_option maxHeartbeats 0 in
theorem all_mk{l:M4}{w:Jm}{h:Jp}{fa:I_}(X:(KK w.params).In h)(G:h.Ns JD mg)(hfa:mg "law"=some (.ref fa)):∃fd:Jt,(∀(s:Jc) (v:IY),Nh s fd ⟨[v],[]⟩ [("_law_script",v)])/\∀base:Jp,(KK w.params).In base->base.Ns JD mg->FnOk l.prog w (KK w.params) mg base CX0 7 fa fd ["_law_script"] (uf (KK w.params)):=by have e:=hfa.symm.trans (Km X G (show Kk (KK w.params) JD "law"=some (some (.ref 264)) by kernel_rfl));cases e;have z:∀{x:Str},Kk (KK w.params) JD x=some none->mg x=none:=λh=>PySem.W.mg_none_of X G h;have T:Txt mg:=⟨z (by kernel_rfl),z (by kernel_rfl),z (by kernel_rfl),z (by kernel_rfl),z (by kernel_rfl),z (by kernel_rfl),z (by kernel_rfl),z (by kernel_rfl),z (by kernel_rfl),z (by kernel_rfl),z (by kernel_rfl),z (by kernel_rfl),z (by kernel_rfl),z (by kernel_rfl),z (by kernel_rfl),z (by kernel_rfl),z (by kernel_rfl),z (by kernel_rfl),z (by kernel_rfl),z (by kernel_rfl),z (by kernel_rfl)⟩;have F:=sg (st:=gq) (K:=KK w.params) (x:="law") (qual:="law") (f:=264) (oc:=.type "function") (od:=none) (an:=none) (osl:=#[]) (kV:=.none) (doc:=.none) (pm:=mo2) (cdv:=.ref 263) (ct:=.none) (by kernel_rfl) (by kernel_rfl) (by kernel_rfl);refine⟨KI "law" "law" (dh gq) (b8 gq) (af gq) .none .none .none mo2 none (.ref 263) .none,λs v=>.of_eq rfl,λbase KB _=>?_⟩;have EX:ExcH (KK w.params) mg base 61 24 37 49 80 99 118 137:=⟨AD KB (Km X G (show Kk (KK w.params) JD "Round"=some (some (.ref 61)) by kernel_rfl)) (by kernel_rfl),⟨by kernel_rfl,by kernel_rfl,by kernel_rfl,by kernel_rfl,by kernel_rfl,by kernel_rfl⟩,(Km X G (show Kk (KK w.params) JD "MillError"=some (some (.ref 24)) by kernel_rfl)),by kernel_rfl,by kernel_rfl,by kernel_rfl,by kernel_rfl,z (by kernel_rfl),(Km X G (show Kk (KK w.params) JD "NoTool"=some (some (.ref 37)) by kernel_rfl)),(Km X G (show Kk (KK w.params) JD "NoWay"=some (some (.ref 49)) by kernel_rfl)),(Km X G (show Kk (KK w.params) JD "Meets"=some (some (.ref 80)) by kernel_rfl)),(Km X G (show Kk (KK w.params) JD "Bites"=some (some (.ref 99)) by kernel_rfl)),(Km X G (show Kk (KK w.params) JD "Cuts"=some (some (.ref 118)) by kernel_rfl)),(Km X G (show Kk (KK w.params) JD "BadRow"=some (some (.ref 137)) by kernel_rfl)),by kernel_rfl,by kernel_rfl⟩;have sw:Cal l.prog w (KK w.params) mg base 1 "_law_take" ["_law_state","_law_many"] (ax (KK w.params) 2 p0):=wq (dfn X G 240 239 mo2) T;have li:Cal l.prog w (KK w.params) mg base 1 "_law_begin" ["_law_script"] (ax (KK w.params) 1 (oV (KK w.params))):=uD (dfn X G 233 232 mo2) T;have re:=(dfn X G 151 150 mo0).cal (base:=base) (P:=l.prog) (w:=w) λ_ _ F=>uT F T;have rc:=(dfn X G 144 143 mo0).cal (base:=base) (P:=l.prog) (w:=w) λ_ _ F=>qZ F T re;have ul:=(dfn X G 163 162 mo0).cal (base:=base) (P:=l.prog) (w:=w) λ_ _ F=>pH F T;have mo:=(dfn X G 170 169 mo0).cal (base:=base) (P:=l.prog) (w:=w) λ_ _ F=>sf F T;have pi:=(dfn X G 175 174 mo0).cal (base:=base) (P:=l.prog) (w:=w) λ_ _ F=>xx F T mo;have u8:=(dfn X G 180 179 mo0).cal (base:=base) (P:=l.prog) (w:=w) λ_ _ F=>qm F T;have po:=(dfn X G 197 196 mo1).cal (base:=base) (P:=l.prog) (w:=w) λ_ _ F=>kU F T re ul pi;have sB:=(dfn X G 209 208 mo1).cal (base:=base) (P:=l.prog) (w:=w) λ_ _ F=>qt F T;have sK:=(dfn X G 202 201 mo1).cal (base:=base) (P:=l.prog) (w:=w) λ_ _ F=>j8 F T ul pi u8 sB;have o0:=(dfn X G 190 189 mo1).cal (base:=base) (P:=l.prog) (w:=w) λ_ _ F=>lV F T rc ul pi po sK sB;have nw:=(dfn X G 245 244 mo2).cal (base:=base) (P:=l.prog) (w:=w) λ_ _ F=>yL F T sw;have lw:=(dfn X G 185 184 mo0).cal (base:=base) (P:=l.prog) (w:=w) λ_ _ F=>rO F T re pi;have pc:=(dfn X G 156 155 mo0).cal (base:=base) (P:=l.prog) (w:=w) λ_ _ F=>mX F T;have on:=(dfn X G 221 220 mo1).cal (base:=base) (P:=l.prog) (w:=w) λ_ _ F=>mR F T u8 lw;have tz:=(dfn X G 226 225 mo1).cal (base:=base) (P:=l.prog) (w:=w) λ_ _ F=>mZ F T pc;have lm:=(dfn X G 214 213 mo1).cal (base:=base) (P:=l.prog) (w:=w) λ_ _ F=>pU F T rc ul po on tz;have R_refuse_rings:=(dfn X G 197 196 mo1).Ca (base:=base) (C:=61) (P:=l.prog) (w:=w) λ_ _ F=>kq F T EX re ul pi;have R_least_takes:=(dfn X G 190 189 mo1).Ca (base:=base) (C:=61) (P:=l.prog) (w:=w) λ_ _ F=>kX F T rc R_refuse_rings;have R_bound_of:=(dfn X G 214 213 mo1).Ca (base:=base) (C:=61) (P:=l.prog) (w:=w) λ_ _ F=>o7 F T rc R_refuse_rings;obtain⟨fw,fdw,Fw,hW,hbw⟩:=(show Dfn (KK w.params) mg "_law_word" oA ["_law_error"]from(dfn X G 252 251 mo2)).ex;have W:=y1 (P:=l.prog) (w:=w) (base:=base) Fw T EX hbw;have pp:=(dfn X G 259 258 mo2).cal (base:=base) (P:=l.prog) (w:=w) λ_ _ F=>rH F T EX o0 lm R_least_takes R_bound_of W hW Fw.kp;exact C7 (BB F T li sw nw pp)
end Mp
open PySem PySem.W PyProof.Rows
set_option maxRecDepth 100000 in
set_option maxHeartbeats 0 in
theorem Mp.BC:PySem.Challenge.rw_millpath_k60_needs_in_a_ring.wellSaid=true:=by kernel_rfl
set_option maxRecDepth 100000 in
theorem Mp.left:PySem.W.LeftO PySem.Challenge.rw_millpath_k60_needs_in_a_ring.row.prog Mp.VW [] (λs=>PySem.W.xlAt Mp.VW [] s&&PySem.W.recOk (PySem.Challenge.rw_millpath_k60_needs_in_a_ring.row.toRowW.records) s) (QX (NM Mp.KK Mp.kas Mp.sa)) (QY (NM Mp.KK Mp.kas Mp.sa)) 6000:=λw=>by kernel_rfl
set_option maxRecDepth 100000 in
set_option maxHeartbeats 0 in
theorem PySem.Challenge.cw_millpath_k60_needs_in_a_ring_holds : PySem.Challenge.rw_millpath_k60_needs_in_a_ring.Holds := by
 refine PySem.W.holds_law Mp.BC λBC=>?_;refine PySem.W.holds_open (r:=PySem.Challenge.rw_millpath_k60_needs_in_a_ring.row) (XP:=PySem.W.XL Mp.VW []) (YP:=QT (NM Mp.KK Mp.kas Mp.sa)) (d:=⟨"law",L2.dh Mp.gq,L2.b8 Mp.gq,L2.af Mp.gq,Mp.B7 Mp.gq⟩) (kwd:=[]) Mp.left (Q3 _) (QN _) (λs e=>PySem.W.xl_of s (HL.mp e).1) QZ (by kernel_rfl) (by kernel_rfl) (by kernel_rfl) (λs e=>PySem.W.recFacts_of (HL.mp e).2) (by kernel_rfl) BC (by kernel_rfl) ⟨rfl,rfl,rfl,rfl,rfl,by rfl'⟩ ?hw ?hc
 case hw=>w_witness2
 case hc=>
  refine Mp.walk (l:=PySem.Challenge.rw_millpath_k60_needs_in_a_ring) rfl (by kernel_rfl) (λw h Y=>PySem.W.kIn_of Y) ?F
  case F=>
  intro w mg fa h KX G hmg;exact Mp.all_mk KX G hmg
