import PyProof.Rows.All
import Wide.All
import OpenK.AllK
import Wide.FinOn
import Lean
import PyProof.EqAt
import PyProof.EqKinds
import PyProof.TupleCall
import PyProof.ZipIter
import PyProof.NeKinds
import PyProof.SeqI3
import PyProof.MaxThree
import PyProof.CompUse
import PyProof.EnumMake
import PyProof.Draws
import PyProof.EnumFor
import PyProof.Rows.EnumRows
import KE.KDictList
import KE.KItemsList
import PyProof.ListRange
import KE.KUnpack
import PyProof.Rows.SetFrom
import PyProof.TupleKey
import PySem.Challenge.RW_millpath_k11_what_outlines_are
set_option maxHeartbeats 4000000
set_option Elab.async false
set_option linter.all false
set_option maxRecDepth 100000
set_option genSizeOf false
set_option bootstrap.genMatcherCode false
local macro_rules | `(tactic| rfl')=>`(tactic| decide +kernel)
noncomputable section
open List renaming length_map->a_,length_append->b_,getElem?_eq_some_iff->c_,perm_middle->d_,length_cons->f_,getElem?_eq_getElem->f',append_assoc->g_,map_cons->h_,getD_eq_getElem?_getD->i_,size_toArray->j_,mem_cons_of_mem->l_,mem_cons->m_,mem_append_right->n_,length_drop->o_,map_append->p_,length_take->q_,range->r_,perm_append_comm_assoc->s_,length_reverse->x_,getElem?_map->y_,mem_range->z_,mem_cons_self->A_,take_append_drop->A',flatMap_cons->B',mem_append->C_,mem_of_getElem?->D_,length_range->D',cons_append->F_,length_set->F',Perm.trans->GX,nodup_cons->kw,mem_map->Ha,mem_singleton->Hc,take_length->Hd,not_mem_nil->He,mem_append_left->Hf,getElem?_append_right->Hi,getElem?_append_left->Hk,forall_mem_cons->Hm,append_nil->Hn,getElem?_take_of_lt->Ho,eq_nil_of_length_eq_zero->Hs,reverse_cons->Ht,map_drop->Hu,perm_append_comm->Hv,map_map->Hw,nil_append->Hx,getElem_mem->HB,mem_of_mem_drop->HC,map_take->HD,getElem?_range->HE,flatMap_append->HF,length_nil->HG,find?_cons->HH,getElem?_eq_none->HJ,zip_cons_cons->HL,any_eq_true->HM,getElem?_drop->HN,mem_iff_getElem->HP,mem_of_mem_take->HQ,map->HS,cons.injEq->HU,filter_cons->HZ,getLastD_cons->Ib,drop_eq_getElem_cons->Ie,Pairwise.nil->Ig,getElem?_cons_succ->Ii,replicate->Ij,map_nil->Il,pairwise_cons->Im,Perm.append_left->Io,take_add_one->Iv,all_eq_true->Iz,filterMap_cons->IB,map_congr_left->IC,mem_filterMap->ID,nodup_append->II,pairwise_map->IJ,all_map->IL,getElem?_reverse->IM,mem_iff_getElem?->IP,lookup_cons->IQ,flatMap_nil->IT,sum_cons->IV,range'->IW,mem_filter->IZ,forIn_cons->I0,pairwise_iff_getElem->I_,mem_or_eq_of_mem_set->Jb,set_eq_of_length_le->Jf,zip_nil_right->Jl,forIn_nil->Jn,getElem?_cons_zero->Jo,ext_getElem?->Jq,reverse_perm->Jr,take_of_length_le->Jt,cons.inj->Jw,mem_reverse->Jz,nodup_range->JB,getElem?_set_ne->JD,of_mem_zip->JE,any_map->JF,range_succ->JK,sum_nil->JL,getLastD_concat->JM,filter_eq_self->JO,nodup_nil->JQ,set_cons_succ->JV,find?_eq_none->JX,any_cons->J0,all_cons->J1,filter_congr->J6,getLastD_eq_getLast?->J_,mem_of_find?_eq_some->J',set_set->Kc,map_set->Kf,Perm->Kj,take->Kk,drop->Kl,all_append->Km,find?_some->Kn,getElem?_set_self->Ko,length->Kq,drop_eq_nil_of_le->Kv,singleton_append->Kx,Perm.swap->Ky,Perm.cons->Kz,getElem?_zipWith->KA,take_zero->KC,pairwise_flatMap->KH,pairwise_append->KI,length_eraseIdx->KJ,take_nil->KP,length_zipWith->KR,replicate_succ->KS,forIn_toArray->KU,length_range'->KW,zipIdx_cons->K_,ext_getElem->K',drop_length->Le,map_reverse->Lf,zipIdx_nil->Lg,zip_append->Lh,length_zip->Lj,foldl_cons->Ll,Nodup->Lm,Perm.refl->Lr,drop_nil->Lu,zip_map->Ly,zipWith->Lz,map_id->LF
open Nat renaming le_refl->e_,ne_of_lt->k_,lt_of_lt_of_le->C',le_trans->GZ,pow_succ->Hg,succ_pos->Hh,mod_eq_of_lt->Hj,mod_lt->Hl,zero_le->Hq,two_pow_pos->HA,not_lt_zero->HI,succ.inj->HX,lt_irrefl->HY,lt_of_le_of_lt->H_,le_of_ble_eq_true->Ic,lt_of_succ_lt_succ->Ik,min_eq_left->Ip,le_of_lt_succ->Iu,add_mul_mod_self_left->Iw,succ_le_succ->Iy,pos_of_ne_zero->IF,le_of_lt->IK,ne_of_gt->Jc,lt_trans->Jd,lt_succ_iff_lt_or_eq->Je,zero_add->Jg,sub_self->Ji,mod_self->Jk,mul_mod->Ju,mul_assoc->Jv,le_add_right->JA,add_sub_cancel'->JN,add_right_comm->JW,lt_succ_of_lt->J7,min_self->Kb,lt_of_not_le->Ke,add_sub_cancel_left->Ki,le_succ->Kr,dvd_of_mod_eq_zero->Kt,one_mul->Ku,add_mod->Kw,sub_eq_zero_of_le->KD,mul_max_mul_right->KG,pow_le_pow_right->KL,add_zero->KY,lt_of_le_of_ne->KZ,one_lt_two_pow->K0,le_total->K2,lt_succ_of_le->K5,mul_one->K6,le_of_not_lt->K9,lt_succ_self->Lb,succ_lt_succ->Lc,min_eq_right->Ld,div_le_self->Lk,mul_le_mul->Lq,pow_zero->Lx,add_comm->LD,pow_mul->LG,pow_add->LH,mul_add->LI,mod_mod->LJ
open Int renaming toNat_natCast->HR,eq_of_mul_eq_mul_right->Ir,mul_zero->IA,emod_lt_of_pos->IG,add_left_cancel->IX,mul_ediv_cancel->IY,emod_nonneg->Ja,le_trans->Jj,zero_mul->Jm,eq_ofNat_of_zero_le->Jp,mul_nonpos_of_nonneg_of_nonpos->Js,not_lt->JH,ne_of_gt->JI,sub_zero->JJ,toNat_of_nonneg->JP,natAbs_mul->JT,fdiv_eq_ediv_of_nonneg->JY,fmod_eq_emod_of_nonneg->JZ,lt_trichotomy->J8,eq_of_mul_eq_mul_left->Ka,le_of_lt->Kh,zero_add->K4,mul_pos->K7,add_assoc->Lv,min_comm->LA,max_comm->LB,add_zero->LC,natAbs->LK
open Option renaming some.inj->GY,isSome_iff_exists->HK,map_eq_some_iff->HV,isSome_map->J4,some.injEq->J5,bind_some->Kg,some->Ks,getD_none->K8,getD_some->La
open Bool renaming false_ne_true->B_,and_eq_true->E_,true_and->Hb,false_and->H0,beq_eq_decide_eq->Ia,eq_false_iff->Ih,false_eq_true->IE,not_false->JR,not_true->J2,and_true->J3,not_eq_true'->J9,and_eq_true_iff->KN,false_or->KO,and_comm->KQ,decide_and->Li,and_false->Ln
open Array renaming getElem?_toList->u_,getD_eq_getD_getElem?->v_,getElem?_eq_getElem->w_,length_toList->G',getElem?_eq_none->HW,getElem?_eq_some_iff->Iq,toList_filterMap->IH,mem_toList_iff->IS,getElem?_setIfInBounds_self_of_lt->IU,getElem?_replicate->Jh,getElem?_setIfInBounds_ne->JC,replicate->JG,forIn_toList->K3,size_map->Lo,toList->Lw
open And renaming imp_right->Jy
open Or renaming inl->gV,inr->t_
open Prod renaming ext->Hr,mk.injEq->Jx,snd->JS,fst->JU,mk->Ls
open Classical renaming byContradiction->MN,propDecidable->Rh
open Decidable renaming of_not_not->Pe
open False renaming elim->L4
open ForInStep renaming yield->Nh
open LT renaming lt->R0
open Ne renaming symm->Nl
open PyProof renaming noPylong_small->OU
open PyProof.Rows renaming slot_tuple_getitem->Nd,callWith_type1->Nr,subscriptTail->NY,AllBare->N4,envOfC->N9,assignInOrder_cons->Oh,subscriptTail_builtinR->OW,IntsAre->PC,assignInOrder_nil->PJ,callWith_builtin1->Qc,Subscript_->Qd,slicePart_none->Qu,IsTup->Q1
open PyProof.Rows.F renaming plain_set_update_loop->NQ,entry_set_update_loop->OP
open PyProof.Rows.IsTup renaming new->Pn
open PyProof.Rows.LSm renaming kept_iter->QS
open PySem renaming wpAny_bind->LL,Value->LM,Addr->LO,Shared->LP,wpAny_pure->LR,wpAny->LS,Program->LV,model->LW,Expr->LY,Heap->LZ,World->L0,starEach->L3,FuncData->L6,Around->L_,wpAny_ite_split->L',wpAny_holding->Ma,Stmt->Md,wpAny_field->Mh,eval->Mi,wpAny_mono->Ml,wpAny_seqItems->Mn,intItems->Mr,compareOp->Ms,sizeLine_eq->Mt,wpAny_callSpecial?_slot->Mu,assignEach->Mv,wpAny_pyIter_tuple->Mw,mainGlobals->Mx,IsPair->My,foldedSetIterable->Mz,wpAny_Call_Name_kw->MC,Scope->MD,binaryOp->MF,wpAny_pyIter_list->MG,mem_of_lookup->MI,wpAny_call_entry->MK,wpAny_setField_rec->MM,sysModules->MO,wpAny_newObj_type->MP,bootBuiltins->MQ,wpAny_specialOf->MX,SetTable->M1,wpAny_truthy_bool->M3,wpAny_setState_of->M4,NameKind->M8,wpAny_standAt->Nf,pyNext->Ng,codeAny_builtin->Ni,backTo->Nm,codeAny->Nn,codeAny_mono->Np,Builtin->Nq,IsZip->Nu,numAt->Nv,behindInMarks->Nw,wpAny_attempt->Nx,setSearchFrom->Ny,sliceBounds->Nz,wpAny_passesOwn->NC,wpAny_updateSeq->NF,swapsWith->NG,assign->NH,ofAClassStatement->NT,wpAny_letGo->NV,intItems_at->NW,comprehension->NZ,plainId_quiet->N0,holding->N5,wpAny_rule->N7,letOwnedTupleGo->N8,field->N_,wpAny_updateSeq_pair->Oa,getItem->Od,subscripted->Of,rawInt->Oi,assignInOrder->Om,swapsWithSole->Oo,swappedStores->Oq,attributeBase->Ou,wpAny_onRaise->Ov,Comprehension->Ow,again->Oz,valueAt->OD,callerA->OE,Paired->OF,noFill_tuple_add->OG,IsPart->OH,wpAny_typeOf->OI,Params->OJ,wpAny_isInstance->OK,wpAny_forIn_list->OM,tupleKind->OQ,wpAny_execs_nil->OR,atKey->OS,wpAny_of_eq->OY,codeAny_compStart_list->OZ,hashByValue->O0,pyIter->O1,BindsTo->O2,getitemInPython_of_ne->O3,builtinLookup_eq_fast->O4,wpAny_eqIsQuiet_tuple->O7,builtinsNs->O9,bindL->O_,bindC->O',typeLookup->Pa,call_meets->Pb,wpAny_letTemporaryGo->Pc,wpAny_newFunctionEnv->Pd,seq_tuple_add->Pf,isTrue->Pm,wpAny_List_spliced->Po,concat_meets->Pp,seqIndex_neg->Pq,tupleKind_room_in1->Pu,wpAny_assign_Name->PH,wpAny_pyIter_enum->PR,searchCouldBeSeen->PX,wpAny_storeSet_of->PZ,seqIndex_of->P0,GenState->P4,wpAny_execs_cons->P5,bindName->P6,wpAny_comp_letGo->P8,Model->Qa,wpAny_Name->Qb,call_tuple_same->Qe,wpAny_operating->Qf,call->Qg,typeLookup_type->Qk,codeAny_of_tree->Qm,intKind->Qp,setItem->Qq,standAt->Qr,wpAny_bindName->Qs,Keyword->Qv,letTemporaryGo->Qx,wpAny_setField->Qy,firstArgMember->Qz,wpAny_newTuple->QA,isSubtype_stop->QB,argBest->QD,callType_codes->QE,cellsFrom->QG,seqIndex?->QH,DictEntry->QI,updateSeq->QJ,intBits_le_64->QL,evalPart_none->QN,call_list_seq->QO,wpAny_standIf->QQ,wpAny_newList->QR,code_list_new->QV,CmpOp->Q2,Result->Q5,bindArgs->Q6,typeOf->Q7,callType_new->Q8,IsEnum->Ra,SetFound->Rb,setAddHashed->Rc,wpAny_mkInt->Rj,interactive->Rk,IsRangeIter->Rl,keywordEach->Rn,operate->Ru
open PySem.Around renaming under_plainId->M7
open PySem.AutoSeq1 renaming wpAny_loadPart'->M_,list_insert_list_int_val_1->PD,list_reverse_list_0->Qw
open PySem.Builtin.Dict renaming pendingCount->Q4
open PySem.Builtin.Frozenset renaming updateFrom->QF,newClass->QY
open PySem.Builtin.List renaming listLengthHint->MU,listExtendWith->MV,listSameRef->M',listFitsIndex->QX
open PySem.Builtin.Range renaming rangeSize->Rf
open PySem.Builtin.Slice renaming slicePlaces->M5,sliceAdjust->ND,sliceApplied->Ot,slicePartIndex->Qt,sliceFields->Q3
open PySem.Builtin.SmallTypes renaming nextOf->L8,ownedTupleIsFree->Mc,ownedTupleHandOut->NJ
open PySem.Builtin.Tuple renaming tupleExact->M9,tupleItemsOf->QM
open PySem.Calls renaming spliced_cons->MR,Name_function_global->Ol,callWith_builtin->OX,spliced_nil->PK
open PySem.Data renaming fields->Rm,cell->RJ
open PySem.Env renaming kindOf->Qh
open PySem.F renaming slot_zip_next->MH,slot_tuple_iterator_next->MZ,called_set->Nb,plain_extend_loop->Nc,args_tuple_add_2->NI,slot_list_append->NK,type_list_append->NL,slot_list_insert->NM,type_list_insert->NN,entry_tuple_add->NP,args_zip_next_1->NR,slot_tuple_add->NU,entry_zip_next->N2,args_tuple_iterator_next_1->Oe,entry_tuple_iterator_next->Oj,slot_dict_getitem->OA,plainAttrs_list->OO,slot_dict_len->O5,entry_extend_loop->Pj,args_list_init_2->Py,typeCall_list_1->PU,entry_list_init->PV,slot_zip_iter->Ql,plain_set_new->Qn,called_list->QU
open PySem.Flow renaming next->RI
open PySem.Heap renaming get?_push_of_some->LQ,lt_size->LU,get?_push_size->LX,SameBut->Mk,size_push->Mo,get?_update_self->MA,get?_update_other->Nj,size_update->N3,push->N6,get?_update_ne->Ob,ExtBut->Og,IsTuple->OL,IsList->P1
open PySem.Heap.DictOf renaming new->RZ
open PySem.Heap.IsList renaming push->P7,extBut->RL
open PySem.Heap.IsListIter renaming extBut->Rq
open PySem.Heap.IsRevIter renaming typeIs->Rv
open PySem.Heap.IsSliceOf renaming new->RK
open PySem.Heap.IsTuple renaming push->PN,extBut->RC
open PySem.Heap.IsTupleIter renaming extBut->Rg
open PySem.Heap.SameBut renaming update->NB
open PySem.IsL renaming update->RT
open PySem.MeetsSeq renaming list_pop_at->Rw
open PySem.NameKind renaming free->MJ,cell->R3
open PySem.Obj renaming mapSeq->Mg,putSet->OC,data_mapFields->Pw
open PySem.Paired renaming length->NX,snoc->Ro
open PySem.PassesOwn renaming never->MY
open PySem.SeqAt renaming EqAt->OB,RcAt->Qj,RcNeAt->Q9
open PySem.SeqAt.EqAt renaming same->P_,int_none->Rx,str_none->Ry,none_int->RA,none_str->RB,int_str->RG,str_int->RH,of_refs->RM
open PySem.SeqAt.RcAt renaming lists_lengths->Q_,tuples->RQ,lists->RU
open PySem.SeqAt.RcNeAt renaming lists_lengths->QT,tuples->RD,lists->RN
open PySem.SetTable renaming Probe->L7,below->L9,insertAt->Me,runEnd->Mf,turns->Mj,bits->Mq,advance->ML,sizeAbove->MW,toList_insertAt->Na,slot->N1,fill->Ox,grown->O8,layClean->PY,laid->QZ,fits->Q0,probeStart->RE,sameMemory->RF,gaveWay->RV,has->R4,put->R5
open PySem.SetTable.Met renaming candidate->Rt,empty->RO
open PySem.SetTable.Probe renaming j->P9,mk->RR
open PySem.SetTable.below renaming go->NS
open PySem.SetTable.layClean renaming free->Mm
open PySem.SetTable.probe renaming go->Nk
open PySem.SetTable.sizeAbove renaming go->O6
open PySem.Shared renaming heap->NA,TypeIs->QW
open PySem.Str renaming ofString->MT
open PySem.StrLaws renaming seqIndex_nonneg->Qo
open PySem.Value renaming ref->L5,int->MB,none->ME,type->Nt,str->Pl,bool->P',isStrOf->QK,isInt->Ri
open PySem.W renaming Frag->LN,fnOf->MS,keepIn->NO,codeIn->Oc,methodObj->Oy,nsIn->ON,OpenLaw->OT,cellsFrom_some->OV,mg_of->Pg,kHook->Ph,kitAny->QC,WalkO->QP
open PySem.W.Hook renaming keeps->RP,says->RS,obs->RW,val->RX,of->R1
open PySem.W.XL renaming keeps->RY
open PySem.Walks renaming list->Qi,tuple->Rr
open Sum renaming inr->Mb,inl->Pz
open True renaming intro->M6
namespace L2
open PySem PySem.Spec PyProof.Rows
abbrev Key:=Sum Int (Option Str)
noncomputable def qb:Key->LM->Bool
 | .inl k,v=>Ri k v
 | .inr (some x),v=>QK x v
 | .inr none,.none=>true
 | .inr none,_=>false
noncomputable def Ge(w:L0):Key->Int
 | .inl k=>hashInt k
 | .inr (some x)=>hashStr w x
 | .inr none=>4238894112
theorem cU:∀{k:Key}{v:LM},qb k v=true->(∃i t,k=Pz i/\v=MB i t)\/(∃x t,k=Mb (some x)/\v=Pl x t)\/(k=Mb none/\v=ME)
 | .inl i,v,h=>by obtain⟨t,e⟩:=Value.isInt_shape (k:=i) (v:=v) h;exact .inl ⟨i,t,rfl,e⟩
 | .inr (some x),v,h=>by obtain⟨t,e⟩:=Value.isStrOf_shape (x:=x) (v:=v) h;exact .inr (.inl ⟨x,t,rfl,e⟩)
 | .inr none,v,h=>by cases v <;> first|exact .inr (.inr ⟨rfl,rfl⟩)|cases h
theorem xJ(i:Int)(t:Tok):qb (.inl i) (.int i t)=true:=by simp[qb,Ri]
theorem xr(x:Str)(t:Tok):qb (.inr x) (.str x t)=true:=by simp[qb,QK]
theorem CD(a b:Int):decide ((Pz a:Key)=Pz b)=(a == b):=by
 by_cases e:a=b
 ·subst e;simp
 have h:¬(Pz a:Key)=Pz b:=λq=>e (Sum.inl.inj q);rw[decide_eq_false h];exact(beq_eq_false_iff_ne.mpr e).symm
theorem Ek(a b:Str):decide ((Mb (some a):Key)=Mb (some b))=decide (a=b):=by
 by_cases e:a=b
 ·subst e;simp
 have h:¬(Mb (some a):Key)=Mb (some b):=λq=>e (GY (Sum.inr.inj q));rw[decide_eq_false h,decide_eq_false e]
variable {A:L_}{E:LM->LP->Prop}{s:LP}{w:L0}
theorem yK{prog:LV}{Q:Int->LP->Prop}(h:Q 4238894112 {s with toks:=s.toks+1}):LS (LW prog w) A (PySem.pyHash .none) Q E s:=
 PySem.W.pyHash_slot (T:="NoneType") rfl F.slot_NoneType_hash F.entry_NoneType_hash (F.args_NoneType_hash_1 _) (beq_builtin_none _) (.inl rfl) (LL (LR (LL (Rj (LR ⟨_,_,rfl,h⟩)))))
def bS(prog:LV)(w:L0):PySem.KeyKind prog w Key where
 is:=qb
 hash:=Ge w
 inj:=λv a b ha hb=>by rcases cU ha with⟨i,t,rfl,rfl⟩|⟨x,t,rfl,rfl⟩|⟨rfl,rfl⟩ <;> rcases cU hb with⟨j,u,rfl,e⟩|⟨y,u,rfl,e⟩|⟨rfl,e⟩ <;> cases e <;> rfl
 byValue:=λk v h=>by rcases cU h with⟨i,t,rfl,rfl⟩|⟨x,t,rfl,rfl⟩|⟨rfl,rfl⟩ <;> rfl
 pyHash:=λhv h=>by
  rcases cU hv with⟨i,t,rfl,rfl⟩|⟨x,t,rfl,rfl⟩|⟨rfl,rfl⟩
  ·exact wpAny_pyHash_int h
  ·exact wpAny_pyHash_str h
  exact yK h
 eqBool:=λhu hv h=>by
  rcases cU hu with⟨i,t,rfl,rfl⟩|⟨x,t,rfl,rfl⟩|⟨rfl,rfl⟩ <;> rcases cU hv with⟨j,u,rfl,rfl⟩|⟨y,u,rfl,rfl⟩|⟨rfl,rfl⟩
  ·rw[CD]at h;exact wpAny_eqBool_int h
  ·exact RG i t y u _ _ _ _ h
  ·exact Rx i t _ _ _ _ h
  ·exact RH x t j u _ _ _ _ h
  ·rw[Ek]at h;exact wpAny_eqBool_str h
  ·exact Ry x t _ _ _ _ h
  ·exact RA j u _ _ _ _ h
  ·exact RB y u _ _ _ _ h
  exact P_ _ _ _ _ _ h
 «strs»:=λk x t v h=>by
  rcases cU h with⟨i,u,rfl,e⟩|⟨y,u,rfl,e⟩|⟨rfl,e⟩
  ·exact nomatch e
  ·injection e with e1 _
   subst e1;cases v <;> rfl
  exact nomatch e
theorem su(prog:LV)(w:L0)(i:Int)(t:Tok):(bS prog w).is (.inl i) (.int i t)=true:=xJ i t
theorem sr(prog:LV)(w:L0)(x:Str)(t:Tok):(bS prog w).is (.inr x) (.str x t)=true:=xr x t
inductive V where
 |non|bl (b:Bool)|int (i:Int)|str (x:Str)|byt (b:Array UInt8)|flt (b:UInt64)|ref (a:LO)|ty (n:String)
 deriving DecidableEq
set_option genInjectivity false
noncomputable def RelV:V->LM->Prop
 | .non,u=>u=ME
 | .bl b,u=>u=P' b
 | .int i,u=>∃t,u=MB i t
 | .str x,u=>∃t,u=Pl x t
 | .byt b,u=>∃t,u=Value.bytes b t
 | .flt b,u=>∃t,u=Value.float b t
 | .ref a,u=>u=L5 a
 | .ty n,u=>u=Nt n
abbrev Vals:List V->List LM->Prop:=OF RelV
variable {us:List LM}{xs:List V}
theorem Vals.length (r:Vals xs us):xs.length=us.length:=NX r
theorem Vals.get:∀{xs:List V}{us:List LM}{i:Nat}{x:V},Vals xs us->xs[i]?=some x->∃u,us[i]?=some u/\RelV x u
 | _,_,_,_,.nil,e=>by simp at e
 | _,_,0,_,.cons r _,e=>by simp at e;subst e;exact⟨_,rfl,r⟩
 | _,_,i+1,x,.cons _ t,e=>by obtain⟨u,h1,h2⟩:=Vals.get (i:=i) (x:=x) t (by simpa using e);exact⟨u,by simpa using h1,h2⟩
variable {u:LM}
theorem Vals.set {x:V}(r:RelV x u):∀{xs:List V}{us:List LM} (i:Nat),Vals xs us->Vals (xs.set i x) (us.set i u)
 | _,_,_,.nil=>.nil
 | _,_,0,.cons _ t=>.cons r t
 | _,_,i+1,.cons q t=>.cons q (Vals.set r i t)
theorem Vals.append:∀{xs ys:List V}{us ws:List LM},Vals xs us->Vals ys ws->Vals (xs++ys) (us++ws):=by
 intro xs ys us ws x s;induction x with
 |nil=>exact s
 |cons r t ih=>exact .cons r ih
theorem Vals.take:∀{xs:List V}{us:List LM} (n:Nat),Vals xs us->Vals (xs.take n) (us.take n)
 | _,_,0,_=>.nil
 | _,_,_+1,.nil=>.nil
 | _,_,n+1,.cons r t=>.cons r (Vals.take n t)
theorem Vals.drop:∀{xs:List V}{us:List LM} (n:Nat),Vals xs us->Vals (xs.drop n) (us.drop n)
 | _,_,0,r=>r
 | _,_,_+1,.nil=>.nil
 | _,_,n+1,.cons _ t=>Vals.drop n t
def p9:Option V->Option LM->Prop
 |some v,some u=>RelV v u
 |none,none=>True
 | _,_=>False
def KV{κ:Type}:List (κ×V)->List (κ×LM)->Prop:=OF λ(p:κ×V) (q:κ×LM)=>p.1=q.1/\RelV p.2 q.2
noncomputable def kV:Key->V
 | .inl i=>.int i
 | .inr (some x)=>.str x
 | .inr none=>.non
inductive HO where
 |lst (xs:List V)
 |tup (xs:List V)
 |dK (ap:List (Key×V))|dT (ap:List (List Key×V))
 |set (S:Int->Bool) (n:Nat)
 |ins (C dx:LO) (fs:List (Str×V))
 |own (x:LO)
 |xd (fs:List (Str×V))
 |met (f x:LO)
 |rng (lo hi:Int)
 |frz (o:Obj) (u:HO)
 |tbl (ps:Array LM)
 |ext (φ:LZ->Prop)
abbrev Hp:=LO->Option HO
noncomputable def upd(H:Hp)(a:LO)(o:HO):Hp:=λb=>if b=a then some o else H b
variable {H:Hp}{a:LO}{o:HO}
theorem aV:upd H a o a=some o:=by unfold upd;rw[if_pos rfl]
variable {b:LO}
theorem aO(h:b≠a):upd H a o b=H b:=by unfold upd;rw[if_neg h]
theorem Ai{u:HO}:upd (upd H a o) a u=upd H a u:=by funext b;unfold upd;split <;> rfl
theorem Cm{u:HO}(h:H a=some o)(h':H b=some u)(d:o≠u):a≠b:=by intro e;subst e;rw[h]at h';exact d (GY h')
theorem cg(h:H a=some o)(h':H b=none):a≠b:=by intro e;subst e;rw[h]at h';cases h'
section
variable(P:LV)(w:L0)
def bZ(H:Hp)(h:LZ)(a:LO):HO->Prop
 | .lst xs=>xs.length<=sizeLine/\∃(bi:List LM) (n:Nat),Vals xs bi/\h.get? a=some { cls:=.type "list",data:=.seq bi.toArray n}
 | .tup xs=>xs.length<=sizeLine/\∃bi:List LM,Vals xs bi/\Q1 h a bi.toArray
 | .dK ap=>ap.length<=sizeLine/\(a == MO)=false/\∃vs,KV ap vs/\h.DictOf (bS P w) a vs
 | .dT ap=>ap.length<=sizeLine/\(a == MO)=false/\∃xs:List (List Key×LO×LM),
   OF (λ(p:List Key×V) (q:List Key×LO×LM)=>p.1=q.1/\H q.2.1=some (.tup (p.1.map kV))/\RelV p.2 q.2.2) ap xs/\
   ∃o es ep,h.get? a=some o/\o.ExactDict/\o.data=.dict es ep/\es.toList=xs.map (entryOfKey (OQ (bS P w)))/\(xs.map (·.1)).Nodup
 | .set S n=>h.SetOf (Qp P w) a S n
 | .ins C dx fs=>H dx=some (.own a)/\fs.length<=1000/\dx≠a/\h.get? a=some (PySem.W.instObj C dx)/\
   ∃mA,h.Ns1 dx mA/\(∀f,p9 (fs.lookup f) (mA f))/\PySem.Within mA (fs.map (·.1))
 | .own _=>∃o,h.get? a=some o
 | .xd fs=>∃mA,h.Ns1 a mA/\∀f,p9 (fs.lookup f) (mA f)
 | .rng lo hi=>∃t u v,h.get? a=some { cls:=.type "range",data:=.fields #[.int lo t,.int hi u,.int 1 v] }
 | .frz o u=>h.get? a=some o/\bZ H h a u
 | .tbl ps=>h.get? a=some { cls:=.none,data:=.fields ps}
 | .met f x=>h.get? a=some (Oy (.ref f) (.ref x))
 | .ext φ=>φ h/\(∃o,h.get? a=some o)/\∀h1 h2:LZ,φ h1->(∀o,h1.get? a=some o->h2.get? a=some o)->φ h2
def HOk(H:Hp)(h:LZ):Prop:=∀a o,H a=some o->bZ P w H h a o
end
section
variable{P:LV}{w:L0}{H H':Hp}{h h':LZ}{a:LO}{o:HO}
theorem bZ.lt (x:bZ P w H h a o):a<h.objs.size:=by
 cases o with
 |lst xs=>obtain⟨_,_,_,_,e⟩:=x;exact LU e
 |tup xs=>obtain⟨_,_,_,p⟩:=x;exact p.lt
 |dK ap=>obtain⟨_,_,_,_,o,_,_,e,_⟩:=x;exact LU e
 |dT ap=>obtain⟨_,_,_,_,o,_,_,e,_⟩:=x;exact LU e
 |set S n=>obtain⟨o,_,_,_,e,_⟩:=x;exact LU e
 |ins C dx fs=>obtain⟨_,_,_,e,_⟩:=x;exact LU e
 |own y=>obtain⟨_,e⟩:=x;exact LU e
 |xd fs=>obtain⟨_,⟨_,_,_,e,_⟩,_⟩:=x;exact LU e
 |rng lo hi=>obtain⟨_,_,_,e⟩:=x;exact LU e
 |frz ob u=>obtain⟨e,_⟩:=x;exact LU e
 |tbl ps=>exact LU (show h.get? a=some _ from x)
 |met f y=>exact LU (show h.get? a=some _ from x)
 |ext φ=>obtain⟨_,⟨_,e⟩,_⟩:=x;exact LU e
theorem Paired.FY {α β:Type}{F G:α->β->Prop}:∀{l₁:List α}{l₂:List β},OF F l₁ l₂->(∀a b,F a b->G a b)->OF G l₁ l₂:=by
 intro l₁ l₂ x f;induction x with
 |nil=>exact .nil
 |cons r t ih=>exact .cons (f _ _ r) ih
theorem bZ.oU (x:bZ P w H h a o)(k:∀b u,(b=a\/H b=some (.own a))->h.get? b=some u->h'.get? b=some u)
  (ho:∀b,H b=some (.own a)->H' b=some (.own a)) (ht:∀b xs,H b=some (.tup xs)->H' b=some (.tup xs)):bZ P w H' h' a o:=by
 induction o with
 |lst xs=>obtain⟨z,bi,n,r,e⟩:=x;exact⟨z,bi,n,r,k _ _ (.inl rfl) e⟩
 |tup xs=>obtain⟨z,bi,r,ob,e,c⟩:=x;exact⟨z,bi,r,ob,k _ _ (.inl rfl) e,c⟩
 |dK ap=>obtain⟨z,y,vs,r,ob,es,ep,e,c⟩:=x;exact⟨z,y,vs,r,ob,es,ep,k _ _ (.inl rfl) e,c⟩
 |dT ap=>
  obtain⟨z,y,xs,r,ob,es,ep,e,c⟩:=x;exact⟨z,y,xs,Paired.FY r λp q z=>⟨z.1,ht _ _ z.2.1,z.2.2⟩,ob,es,ep,k _ _ (.inl rfl) e,c⟩
 |set S n=>obtain⟨ob,es,ep,t,e,c⟩:=x;exact⟨ob,es,ep,t,k _ _ (.inl rfl) e,c⟩
 |ins C dx fs=>
  obtain⟨d,z,ne,e,mA,⟨od,es,ep,e2,c⟩,r⟩:=x;exact⟨ho _ d,z,ne,k _ _ (.inl rfl) e,mA,⟨od,es,ep,k _ _ (.inr d) e2,c⟩,r⟩
 |own y=>obtain⟨ob,e⟩:=x;exact⟨ob,k _ _ (.inl rfl) e⟩
 |xd fs=>obtain⟨mA,⟨od,es,ep,e,c⟩,r⟩:=x;exact⟨mA,⟨od,es,ep,k _ _ (.inl rfl) e,c⟩,r⟩
 |rng lo hi=>obtain⟨t,u,v,e⟩:=x;exact⟨t,u,v,k _ _ (.inl rfl) e⟩
 |frz ob u ih=>obtain⟨e,q⟩:=x;exact⟨k _ _ (.inl rfl) e,ih q⟩
 |tbl ps=>
  have e:h.get? a=some { cls:=.none,data:=.fields ps}:=x;show h'.get? a=some { cls:=.none,data:=.fields ps};exact k a _ (.inl rfl) e
 |met f y=>
  have e:h.get? a=some (Oy (.ref f) (.ref y)):=x;show h'.get? a=some (Oy (.ref f) (.ref y));exact k a _ (.inl rfl) e
 |ext φ=>obtain⟨p,⟨o,e⟩,st⟩:=x;exact⟨st _ _ p λo q=>k _ _ (.inl rfl) q,⟨o,k _ _ (.inl rfl) e⟩,st⟩
theorem HOk.lt (x:HOk P w H h)(e:H a=some o):a<h.objs.size:=(x a o e).lt
theorem HOk.fresh (x:HOk P w H h)(e:h.objs.size<=a):H a=none:=by
 cases q:H a with
 |none=>rfl
 |some u=>exact absurd (C' (x.lt q) e) (HY _)
theorem HOk.kept (x:HOk P w H h)(k:∀b u,h.get? b=some u->h'.get? b=some u):HOk P w H h':=λa o e=>
 (x a o e).oU (λb u _ q=>k b u q) (λ_ q=>q) λ_ _ q=>q
theorem HOk.laid (x:HOk P w H h)(k:∀b u,h.get? b=some u->h'.get? b=some u)(hp:h.objs.size<=a)(new:bZ P w (upd H a o) h' a o):HOk P w (upd H a o) h':=λb u e=>by
 have hn:=x.fresh hp;by_cases hb:b=a
 ·subst hb;rw[aV]at e;cases e;exact new
 rw[aO hb]at e;exact(x b u e).oU (λc v _ q=>k c v q) (λc q=>by rw[aO (cg q hn)];exact q) λc xs q=>by rw[aO (cg q hn)];exact q
end
noncomputable def Rd(H:Hp)(a:LO)(u:HO):Prop:=H a=some u\/∃o,H a=some (.frz o u)
variable {P:LV}{h:LZ}
theorem Rd.ok {u:HO}(r:Rd H a u)(x:HOk P w H h):bZ P w H h a u:=by
 rcases r with r|⟨o,r⟩
 ·exact x a u r
 obtain⟨_,q⟩:=x a _ r;exact q
noncomputable def Mut:Option HO->Prop
 |some (.lst _)=>True
 |some (.dK _)=>True
 |some (.dT _)=>True
 |some (.set _ _)=>True
 |some (.ins _ _ _)=>True
 |some (.ext _)=>True
 | _=>False
section
variable{P:LV}{w:L0}{H:Hp}{h h':LZ}{x e:LO}{o':HO}
theorem HOk.write (ok:HOk P w H h)(mu:Mut (H x))(he:e=x\/H e=some (.own x))(k:∀b u,b≠e->h.get? b=some u->h'.get? b=some u)(heo:∃u,h'.get? e=some u)
  (new:bZ P w (upd H x o') h' x o'):HOk P w (upd H x o') h':=λb u q=>by
 have nown:∀c y,H c=some (.own y)->c≠x:=λc y r z=>by subst z;rw[r]at mu;exact mu
 have ntup:∀c xs,H c=some (.tup xs)->c≠x:=λc xs r z=>by subst z;rw[r]at mu;exact mu
 by_cases hb:b=x
 ·subst hb;rw[aV]at q;cases q;exact new
 rw[aO hb]at q;by_cases hbe:b=e
 ·have q':H b=some (.own x):=by
   rcases he with z|z
   ·exact absurd (hbe.trans z) hb
   rw[hbe];exact z
  rw[q]at q';cases q';obtain⟨v,hv⟩:=heo;exact⟨v,by rw[hbe];exact hv⟩
 refine(ok b u q).oU (λc v hc r=>k c v ?_ r) (λc r=>by rw[aO (nown c b r)];exact r) λc xs r=>by rw[aO (ntup c xs r)];exact r
 rcases hc with rfl|hc
 ·exact hbe
 rintro rfl;rcases he with z|z
 ·exact nown c b hc z
 rw[hc]at z;cases z;exact hb rfl
end
structure Un (fs ex:List LO) (H H':Hp) (h h':LZ):Prop where
 keep:∀b o,h.get? b=some o->H b=none->b ∉ fs->b ∉ ex->h'.get? b=some o
 slot:∀b o,h.get? b=some o->H b=none->b∈fs->b ∉ ex->∃sl,h'.get? b=some {o with slots:=sl}
 free:∀b o,h.get? b=some o->H b=none->b ∉ ex->H' b=none
 there:∀b o,h.get? b=some o->b ∉ ex->∃o',h'.get? b=some o'
 tups:∀b xs,H b=some (.tup xs)->H' b=some (.tup xs)
 frzs:∀b o u,H b=some (.frz o u)->H' b=some (.frz o u)
 tbls:∀b ps,H b=some (.tbl ps)->∃more,H' b=some (.tbl (ps++more))
section
variable{fs fs' ex ex':List LO}{H H1 H2:Hp}{h h1 h2 h':LZ}{a x e:LO}{o:HO}
theorem Un.any (u:Un fs ex H H1 h h1){ob:Obj}(q:h.get? b=some ob)(n:H b=none)(hx:b ∉ ex):∃sl,h1.get? b=some {ob with slots:=sl}:=by
 by_cases hb:b∈fs
 ·exact u.slot b ob q n hb hx
 exact⟨ob.slots,u.keep b ob q n hb hx⟩
theorem Un.kept (k:∀b u,h.get? b=some u->h'.get? b=some u):Un fs ex H H h h':=
 ⟨λb ob q _ _ _=>k b ob q,λb ob q _ _ _=>⟨ob.slots,k b ob q⟩,λ_ _ _ n _=>n,λb ob q _=>⟨ob,k b ob q⟩,λ_ _ q=>q,λ_ _ _ q=>q,λ_ ps q=>⟨#[],by rw[q];simp⟩⟩
theorem Un.refl:Un fs ex H H h h:=Un.kept λ_ _ q=>q
theorem Un.laid (k:∀b u,h.get? b=some u->h'.get? b=some u)(hp:h.objs.size<=a)(hn:H a=none):Un fs ex H (upd H a o) h h' where
 keep:=λb u q _ _ _=>k b u q
 slot:=λb u q _ _ _=>⟨u.slots,k b u q⟩
 free:=λb u q n _=>by rw[aO (k_ (C' (LU q) hp))];exact n
 there:=λb u q _=>⟨u,k b u q⟩
 tups:=λb xs q=>by rw[aO (cg q hn)];exact q
 frzs:=λb u xs q=>by rw[aO (cg q hn)];exact q
 tbls:=λb ps q=>⟨#[],by rw[aO (cg q hn),q];simp⟩
theorem Un.write (mu:Mut (H x))(he:e=x\/H e=some (.own x))(k:∀b u,b≠e->h.get? b=some u->h'.get? b=some u)(heo:∃u,h'.get? e=some u):Un fs ex H (upd H x o) h h':=by
 have hx:∀b,H b=none->b≠x:=λb n z=>by subst z;rw[n]at mu;exact mu
 have hb:∀b,H b=none->b≠e:=λb n z=>by
  subst z;rcases he with r|r
  ·exact hx b n r
  rw[n]at r;cases r
 have hm:∀b u,H b=some u->¬Mut (some u)->b≠x:=λb u q nm z=>by subst z;rw[q]at mu;exact nm mu
 refine⟨λb u q n _ _=>k b u (hb b n) q,λb u q n _ _=>⟨u.slots,k b u (hb b n) q⟩,λb u q n _=>by rw[aO (hx b n)];exact n,λb u q _=>?_,
  λb xs q=>by rw[aO (hm b _ q λz=>z)];exact q,λb u xs q=>by rw[aO (hm b _ q λz=>z)];exact q,λb ps q=>⟨#[],by rw[aO (hm b _ q λz=>z),q];simp⟩⟩
 by_cases hbe:b=e
 ·subst hbe;exact heo
 exact⟨u,k b u hbe q⟩
end
noncomputable def trk(h:LZ)(H:Hp):List LO:=(r_ h.objs.size).filter λa=>(H a).isSome
def qz(h:LZ)(H:Hp):LZ:=PySem.W.hideAll h (trk h H)
theorem xC(h:LZ)(H:Hp):(qz h H).objs.size=h.objs.size:=PySem.W.hideAll_size _ _
theorem ya{o:Obj}(e:h.get? b=some o)(n:H b=none):(qz h H).get? b=some o:=
 PySem.W.hideAll_get _ e λhm=>by have q:(H b).isSome=true:=(IZ.mp hm).2;rw[n]at q;simp at q
theorem Bh{o:Obj}(e:(qz h H).get? b=some o):h.get? b=some o/\H b=none:=by
 have e':h.get? b=some o:=PySem.W.of_hideAll (trk h H) e;refine⟨e',?_⟩;cases q:H b with
 |none=>rfl
 |some x=>
  have hm:b∈trk h H:=IZ.mpr ⟨z_.mpr (LU e'),by simp[q]⟩;have z:(qz h H).get? b=none:=PySem.W.hideAll_none (trk h H) hm;rw[z]at e;cases e
noncomputable def AY(g h:LZ)(L:LO):List (LO×Obj):=(r_ h.objs.size).filterMap λa=>if a=L\/(g.get? a).isSome=true then none else(h.get? a).map λo=>(a,o)
def rest(g h:LZ)(L d:LO):List (LO×Obj):=(AY g h L).filter λp=>decide (p.1≠d)
structure Mod (K:LN) (mg:Str->Option LM) (base:LZ):Prop where
 kin:K.In base
 glob:base.Ns Mx mg
 blt:∃mb,base.Ns O9 mb/\∀x:Str,x≠"__name__"->mb x=MQ x
 nolimit:base.NoLimit
structure Cx where
 prog:LV
 w:L0
 K:LN
 mg:Str->Option LM
 base:LZ
 A:L_
 N:List Str
 s₀:LP
 H₀:Hp
 env:Env
 outer:List Env
 stack:List Env
 ex:List LO
 fn:Str->Bool
 calm:Bool
 pn:List (LO×Obj)
 xe:LM->LP->Prop
noncomputable def frs(l:List Env):List LO:=l.filterMap (·.frame)
abbrev Cx.fs (X:Cx):List LO:=frs X.outer
noncomputable def Vis(sc:MD)(x:Str):Prop:=sc.names.lookup x=some .local\/sc.names.lookup x=some .cell\/sc.names.lookup x=some .free
noncomputable def Loc(sc:MD)(x:Str):Prop:=sc.names.lookup x=some .local\/sc.names.lookup x=some .cell
noncomputable def Look(env:Env)(h:LZ)(m:Str->Option LM)(x:Str)(u:LM):Prop:=
 (env.kindOf x=some .local/\m x=some u)\/((env.kindOf x=some .cell\/env.kindOf x=some .free)/\∃c,env.cells.lookup x=some c/\h.IsCell c (some u))
structure Cx.Ok (X:Cx):Prop where
 mod:Mod X.K X.mg X.base
 kind:X.env.scope.kind=.function
 glob:X.env.globals=Mx
 blt:X.env.builtins=O9
 above:X.s₀.heap.objs.size<=X.env.locals
 inj:∀x y c,X.env.cells.lookup x=some c->X.env.cells.lookup y=some c->x=y
 has:∀x,(X.env.kindOf x=some .cell\/X.env.kindOf x=some .free)->∃c,X.env.cells.lookup x=some c
 cab:∀x c,X.fn x=true->X.env.cells.lookup x=some c->X.s₀.heap.objs.size<=c
 hd:X.calm=true->X.A.handled=none
 frames:X.A.frames=some X.stack
 stk:X.stack=X.outer\/(X.stack=X.env::X.outer/\X.env.frame=some X.env.locals)
 exf:∀b∈X.ex,b≠X.env.locals/\∀x c,X.env.cells.lookup x=some c->c≠b
 bs:∀b o,X.base.get? b=some o->X.s₀.heap.get? b=some o/\X.H₀ b=none
 bsz:X.base.objs.size<=X.s₀.heap.objs.size
 noex:∀b o,X.base.get? b=some o->b ∉ X.ex
 exfs:∀b∈X.ex,b ∉ X.fs
 nU:X.s₀.heap.FunFrames X.base X.outer
 frf:∀b∈X.fs,X.H₀ b=none
structure Inv (X:Cx) (ad:List (LO×Obj)) (σ:List (Option V)) (H:Hp) (s:LP):Prop where
 ok:X.Ok
 os:s.os=X.s₀.os
 bare:N4 s.gens
 base:Un X.fs X.ex X.H₀ H X.s₀.heap s.heap
 loc:∃m,s.heap.Ns X.env.locals m/\∀(i:Nat) (x:Str) (v:V),X.N[i]?=some x->σ[i]?=some (some v)->Vis X.env.scope x->∃u,RelV v u/\Look X.env s.heap m x u
 cell:∀x c,X.env.cells.lookup x=some c->∃v,s.heap.IsCell c v
 free:H X.env.locals=none
 freeC:∀x c,X.env.cells.lookup x=some c->H c=none
 pin:∀p∈X.pn++ad,s.heap.get? p.1=some p.2/\H p.1=none/\p.1≠X.env.locals/\p.1 ∉ X.fs/\∀v,p.2.data≠.cell v
 hok:HOk X.prog X.w H s.heap
 len:σ.length=X.N.length
variable {M:Qa}{N:List Str}{Q:Unit->LP->Prop}{ch:List LO}{g':Array P4}{i j t':Nat}{v:V}{x:Str}
section
variable{X:Cx}{ad:List (LO×Obj)}{σ:List (Option V)}{H H':Hp}{s:LP}{h':LZ}
theorem Cx.Ok.GL (ok:X.Ok){o:Obj}(e:X.base.get? b=some o):b ∉ X.fs:=λhb=>by have:=(ok.nU.mem hb).1;rw[e]at this;cases this
theorem Inv.bs (I:Inv X ad σ H s):∀b o,X.base.get? b=some o->s.heap.get? b=some o/\H b=none:=λb o e=>
 ⟨I.base.keep b o (I.ok.bs b o e).1 (I.ok.bs b o e).2 (I.ok.GL e) (I.ok.noex b o e),I.base.free b o (I.ok.bs b o e).1 (I.ok.bs b o e).2 (I.ok.noex b o e)⟩
theorem Inv.bk (I:Inv X ad σ H s):∀b o,X.base.get? b=some o->s.heap.get? b=some o:=λb o e=>(I.bs b o e).1
theorem Inv.mod (I:Inv X ad σ H s):Mod X.K X.mg X.base:=I.ok.mod
theorem Inv.kIn (I:Inv X ad σ H s):X.K.In s.heap:=I.ok.mod.kin.keeps I.bk
theorem Inv.lt (I:Inv X ad σ H s):X.env.locals<s.heap.objs.size:=let ⟨_,hn,_⟩:=I.loc;hn.lt
theorem Inv.sz (I:Inv X ad σ H s):X.s₀.heap.objs.size<=s.heap.objs.size:=GZ I.ok.above (IK I.lt)
theorem Inv.GK (I:Inv X ad σ H s)(h:s.heap.objs.size<=a):a ∉ X.fs:=λhb=>by obtain⟨_,o,ho,_⟩:=I.ok.nU.mem hb;exact absurd (C' (LU ho) (GZ I.sz h)) (HY _)
theorem Inv.cne (I:Inv X ad σ H s):∀x c,X.env.cells.lookup x=some c->c≠X.env.locals:=λx c e z=>by obtain⟨v,o,ho,hd⟩:=I.cell x c e;obtain⟨m,⟨o',es,ep,ho',hd',_⟩,_⟩:=I.loc;rw[z,ho']at ho;cases ho;rw[hd']at hd;cases hd
theorem Inv.nU (I:Inv X ad σ H s):s.heap.FunFrames X.base X.outer:=by
 have all:∀(l:List Env),(∀b∈frs l,b∈X.fs)->X.s₀.heap.FunFrames X.base l->s.heap.FunFrames X.base l:=by
  intro l;induction l with
  |nil=>intro _ _;trivial
  |cons env r ih=>
   intro hs hl;obtain⟨hk,⟨L,o,hf,hn,ho,hd⟩,hr⟩:=hl;have hL:L∈X.fs:=hs L (by unfold frs;rw[IB,hf];exact A_);obtain⟨sl,e⟩:=I.base.slot L o ho (I.ok.frf L hL) hL λz=>I.ok.exfs L z hL;exact⟨hk,⟨L,_,hf,hn,e,hd⟩,ih (λb hb=>hs b (by unfold frs;rw[IB,hf];exact l_ _ hb)) hr⟩
 exact all X.outer (λ_ hb=>hb) I.ok.nU
theorem Inv.stack (I:Inv X ad σ H s):s.heap.FunFrames X.base X.stack:=by
 rcases I.ok.stk with e|⟨e,hf⟩
 ·rw[e];exact I.nU
 rw[e];obtain⟨m,hn,_⟩:=I.loc;refine .cons (by rw[I.ok.kind];decide) hf hn ?_ I.nU;exact Heap.get?_none_of_le (GZ I.ok.bsz I.ok.above)
theorem Inv.tS (I:Inv X ad σ H s):∀b∈frs X.stack,b∈X.env.locals::X.fs:=λb hb=>by
 rcases I.ok.stk with e|⟨e,hf⟩
 ·rw[e]at hb;exact l_ _ hb
 rw[e]at hb;unfold frs at hb;rw[IB,hf]at hb;exact hb
theorem Inv.vk (I:Inv X ad σ H s):∀b∈frs X.stack,H b=none:=λb hb=>by
 rcases m_.mp (I.tS b hb)with e|hb
 ·rw[e];exact I.free
 obtain⟨_,o,ho,_⟩:=I.ok.nU.mem hb;exact I.base.free b o ho (I.ok.frf b hb) λz=>I.ok.exfs b z hb
theorem Inv.step {d':Drawn}(I:Inv X ad σ H s)
  (hch:∀b∈ch,(b∈X.ex\/X.s₀.heap.objs.size<=b)/\b≠X.env.locals/\(∀x c,X.env.cells.lookup x=some c->c≠b)/\∀p∈X.pn++ad,p.1≠b)
  (keep:∀b o,b≠X.env.locals->b ∉ X.fs->b ∉ ch->s.heap.get? b=some o->H b=none->h'.get? b=some o)
  (slot:∀b o,b≠X.env.locals->b∈X.fs->b ∉ ch->s.heap.get? b=some o->H b=none->∃sl,h'.get? b=some {o with slots:=sl}) (free:∀b o,b ∉ ch->s.heap.get? b=some o->H b=none->H' b=none)
  (there:∀b o,b ∉ ch->s.heap.get? b=some o->∃o',h'.get? b=some o')
  (tups:∀b xs,H b=some (.tup xs)->H' b=some (.tup xs)) (frzs:∀b o u,H b=some (.frz o u)->H' b=some (.frz o u)) (tbls:∀b ps,H b=some (.tbl ps)->∃more,H' b=some (.tbl (ps++more)))
  (ns:∀m,s.heap.Ns X.env.locals m->h'.Ns X.env.locals m) (hok:HOk X.prog X.w H' h') (hg:N4 g') :
  Inv X ad σ H' {s with heap:=h',gens:=g',drawn:=d',toks:=t'}:=by
 have neL:∀b o,X.s₀.heap.get? b=some o->b≠X.env.locals:=λb o e=>k_ (C' (LU e) I.ok.above);have neC:∀b o,X.s₀.heap.get? b=some o->b ∉ X.ex->b ∉ ch:=λb o e hx hb=>by
  rcases(hch b hb).1 with z|z
  ·exact hx z
  exact absurd (C' (LU e) z) (HY _)
 have cellK:∀x c,X.env.cells.lookup x=some c->∀v,s.heap.IsCell c v->h'.IsCell c v:=λx c e v ⟨o,ho,hd⟩=>by
  have nch:c ∉ ch:=λz=>(hch c z).2.2.1 x c e rfl;by_cases hc:c∈X.fs
  ·obtain⟨sl,q⟩:=slot c o (I.cne x c e) hc nch ho (I.freeC x c e);exact⟨_,q,hd⟩
  exact⟨o,keep c o (I.cne x c e) hc nch ho (I.freeC x c e),hd⟩
 refine⟨I.ok,I.os,hg,⟨λb o e n hb hx=>?_,λb o e n hb hx=>?_,λb o e n hx=>?_,λb o e hx=>?_,λb xs e=>tups b xs (I.base.tups b xs e),λb o xs e=>frzs b o xs (I.base.frzs b o xs e),λb ps e=>?_⟩,?_,λx c e=>?_,?_,λx c e=>?_,λp hp=>?_,hok,I.len⟩
 ·exact keep b o (neL b o e) hb (neC b o e hx) (I.base.keep b o e n hb hx) (I.base.free b o e n hx)
 ·obtain⟨sl,e1⟩:=I.base.slot b o e n hb hx;obtain⟨sl',e2⟩:=slot b _ (neL b o e) hb (neC b o e hx) e1 (I.base.free b o e n hx);exact⟨sl',e2⟩
 ·obtain⟨o',e1⟩:=I.base.there b o e hx;exact free b o' (neC b o e hx) e1 (I.base.free b o e n hx)
 ·obtain⟨o',e1⟩:=I.base.there b o e hx;exact there b o' (neC b o e hx) e1
 ·obtain⟨m1,e1⟩:=I.base.tbls b ps e;obtain⟨m2,e2⟩:=tbls b _ e1;exact⟨m1++m2,by rw[e2,Array.append_assoc]⟩
 ·obtain⟨m,hn,hl⟩:=I.loc;refine⟨m,ns m hn,λi x v e1 e2 e3=>?_⟩;obtain⟨u,r,l⟩:=hl i x v e1 e2 e3;refine⟨u,r,?_⟩;rcases l with l|⟨k,c,e,z⟩
  ·exact .inl l
  exact .inr ⟨k,c,e,cellK x c e _ z⟩
 ·obtain⟨v,z⟩:=I.cell x c e;exact⟨v,cellK x c e v z⟩
 ·obtain⟨m,⟨o,_,_,ho,_⟩,_⟩:=I.loc;exact free _ o (λz=>(hch _ z).2.1 rfl) ho I.free
 ·obtain⟨v,o,ho,hd⟩:=I.cell x c e;exact free c o (λz=>(hch c z).2.2.1 x c e rfl) ho (I.freeC x c e)
 obtain⟨e,n,ne,nf,d⟩:=I.pin p hp;have nch:p.1 ∉ ch:=λz=>(hch p.1 z).2.2.2 p hp rfl;exact⟨keep p.1 p.2 ne nf nch e n,free p.1 p.2 nch e n,ne,nf,d⟩
theorem Inv.un (I:Inv X ad σ H s)(u:Un X.fs [] H H' s.heap h')(hok:HOk X.prog X.w H' h'):Inv X ad σ H' {s with heap:=h',toks:=t'}:=by
 obtain⟨m,⟨o,es,ep,ho,r⟩,_⟩:=id I.loc;obtain⟨sl,hL⟩:=u.any ho I.free (by simp);exact I.step (g':=s.gens) (d':=s.drawn) (ch:=[]) (λ_ z=>nomatch z) (λb o _ hb _ e n=>u.keep b o e n hb (by simp)) (λb o _ hb _ e n=>u.slot b o e n hb (by simp)) (λb o _ e n=>u.free b o e n (by simp)) (λb o _ e=>u.there b o e (by simp)) u.tups u.frzs u.tbls (λm' hm=>by obtain⟨o',es',ep',ho',r'⟩:=hm;rw[ho]at ho';cases ho';exact⟨_,es',ep',hL,r'⟩) hok I.bare
theorem Inv.call {d':Drawn}(I:Inv X ad σ H s)(u:Un (frs X.stack) ch H H' s.heap h')(hok:HOk X.prog X.w H' h')(hg:N4 g')
  (hch:∀b∈ch,(b∈X.ex\/X.s₀.heap.objs.size<=b)/\b≠X.env.locals/\(∀x c,X.env.cells.lookup x=some c->c≠b)/\∀p∈X.pn++ad,p.1≠b) :
  Inv X ad σ H' {s with heap:=h',gens:=g',drawn:=d',toks:=t'}:=by
 obtain⟨m,⟨o,es,ep,ho,r⟩,_⟩:=id I.loc;obtain⟨sl,hL⟩:=u.any ho I.free λz=>(hch _ z).2.1 rfl;exact I.step (ch:=ch) hch (λb o hL hb hc e n=>u.keep b o e n (λz=>(m_.mp (I.tS b z)).elim hL hb) hc) (λb o _ _ hc e n=>u.any e n hc) (λb o hc e n=>u.free b o e n hc) (λb o hc e=>u.there b o e hc) u.tups u.frzs u.tbls (λm' hm=>by obtain⟨o',es',ep',ho',r'⟩:=hm;rw[ho]at ho';cases ho';exact⟨_,es',ep',hL,r'⟩) hok hg
theorem Inv.turned {it:LO}(I:Inv X ad σ H s)(k:∀b o,b≠it->s.heap.get? b=some o->h'.get? b=some o)(hn:H it=none)(hL:it≠X.env.locals)
  (h1:it∈X.ex\/X.s₀.heap.objs.size<=it) (h2:∀x c,X.env.cells.lookup x=some c->c≠it) (h3:∀p∈X.pn++ad,p.1≠it):Inv X ad σ H {s with heap:=h',toks:=t'}:=by
 have nit:∀b u,H b=some u->b≠it:=λb u e z=>by rw[z,hn]at e;cases e
 refine I.step (g':=s.gens) (d':=s.drawn) (ch:=[it]) (λb hb=>?_) (λb o _ _ hc e _=>k b o (λz=>hc (by simp[z])) e) (λb o _ _ hc e _=>⟨o.slots,k b o (λz=>hc (by simp[z])) e⟩) (λ_ _ _ _ n=>n)
  (λb o hc e=>⟨o,k b o (λz=>hc (by simp[z])) e⟩) (λ_ _ e=>e) (λ_ _ _ e=>e) (λb ps e=>⟨#[],by rw[e];simp⟩) (λm hm=>?_) (λb u e=>?_) I.bare
 ·have e:b=it:=by simpa using hb
  subst e;exact⟨h1,hL,h2,h3⟩
 ·obtain⟨o,es,ep,ho,r⟩:=hm;exact⟨o,es,ep,k _ o (Nl hL) ho,r⟩
 refine(I.hok b u e).oU (λc v hc q=>k c v ?_ q) (λ_ q=>q) λ_ _ q=>q;rcases hc with z|z
 ·rw[z];exact nit b u e
 exact nit c _ z
theorem Inv.tok (I:Inv X ad σ H s)(t:Nat):Inv X ad σ H {s with toks:=t}:=I.un (h':=s.heap) (t':=t) Un.refl I.hok
theorem Inv.kept (I:Inv X ad σ H s)(k:∀b u,s.heap.get? b=some u->h'.get? b=some u):Inv X ad σ H {s with heap:=h',toks:=t'}:=I.un (Un.kept k) (I.hok.kept k)
theorem Inv.laid (I:Inv X ad σ H s)(k:∀b u,s.heap.get? b=some u->h'.get? b=some u)(hp:s.heap.objs.size<=a)(new:bZ X.prog X.w (upd H a o) h' a o) :
  Inv X ad σ (upd H a o) {s with heap:=h',toks:=t'}:=I.un (Un.laid k hp (I.hok.fresh hp)) (I.hok.laid k hp new)
theorem Inv.write {x e:LO}(I:Inv X ad σ H s)(mu:Mut (H x))(he:e=x\/H e=some (.own x))(k:∀b u,b≠e->s.heap.get? b=some u->h'.get? b=some u)(heo:∃u,h'.get? e=some u)
  (new:bZ X.prog X.w (upd H x o) h' x o):Inv X ad σ (upd H x o) {s with heap:=h',toks:=t'}:=I.un (Un.write mu he k heo) (I.hok.write mu he k heo new)
theorem Inv.vM {pins':List (LO×Obj)}(I:Inv X ad σ H s)(h:∀p∈pins',s.heap.get? p.1=some p.2/\H p.1=none/\p.1≠X.env.locals/\p.1 ∉ X.fs/\∀v,p.2.data≠.cell v):Inv X pins' σ H s:=
 ⟨I.ok,I.os,I.bare,I.base,I.loc,I.cell,I.free,I.freeC,λp hp=>(C_.mp hp).elim (λz=>I.pin p (Hf _ z)) (h p),I.hok,I.len⟩
theorem tj(hN:N.Nodup)(a:N[i]?=some x)(b:N[j]?=some x):i=j:=by obtain⟨h1,e1⟩:=c_.mp a;obtain⟨h2,e2⟩:=c_.mp b;exact(List.getElem_inj hN).mp (e1.trans e2.symm)
theorem qt(I:Inv X ad σ H s)(hN:X.N.Nodup)(hi:X.N[i]?=some x)(hx:Loc X.env.scope x)(r:RelV v u)
  (h:∀s',Inv X ad (σ.set i (some v)) H s'->(∃a,Mk a s.heap s'.heap/\(a=X.env.locals\/X.env.cells.lookup x=some a))->Q () s') (hf:X.fn x=true\/X.env.scope.names.lookup x=some .local:=by first|exact .inl rfl|exact .inr rfl|assumption):LS M A (storeName X.env x u) Q E s:=by
 obtain⟨m,hn,hl⟩:=id I.loc;have hcls:(X.env.scope.kind == .class || (X.env.scope.kind == .module&&X.env.locals != X.env.globals))=false:=by rw[I.ok.kind];rfl
 have hiσ:i<σ.length:=by rw[I.len];exact(c_.mp hi).1
 have cne:=I.cne;have tracked:∀{a:LO}{h':LZ},(∃o,s.heap.get? a=some o/\H a=none)->Mk a s.heap h'->HOk X.prog X.w H h':=λ{a h'} ha hs b ob e=>by
  obtain⟨_,_,hfree⟩:=ha;refine(I.hok b ob e).oU (λc w' hc q=>(hs.2 c ?_).trans q) (λ_ q=>q) λ_ _ q=>q;rintro rfl;rcases hc with rfl|hc
  ·rw[hfree]at e;cases e
  rw[hfree]at hc;cases hc
 rcases hx with hk|hk
 ·refine wpAny_storeName_local hk hn (λh' hn' hs=>?_) hcls;obtain⟨oL,_,_,hoL,_⟩:=id hn;refine h _ ⟨I.ok,I.os,I.bare,⟨λb o e n hb hx=>?_,λb o e n hb hx=>?_,I.base.free,λb o e hx=>?_,I.base.tups,I.base.frzs,I.base.tbls⟩,⟨_,hn',λj y v' e1 e2 e3=>?_⟩,λy c e=>?_,I.free,I.freeC,λp hp=>?_,tracked ⟨oL,hoL,I.free⟩ hs,by simpa using I.len⟩ ⟨_,hs,.inl rfl⟩
  ·exact(hs.2 b (k_ (C' (LU e) I.ok.above))).trans (I.base.keep b o e n hb hx)
  ·obtain⟨sl,e1⟩:=I.base.slot b o e n hb hx;exact⟨sl,(hs.2 b (k_ (C' (LU e) I.ok.above))).trans e1⟩
  ·obtain⟨o',e1⟩:=I.base.there b o e hx;exact⟨o',(hs.2 b (k_ (C' (LU e) I.ok.above))).trans e1⟩
  ·by_cases hj:j=i
   ·subst hj;rw[hi]at e1;cases e1;rw[Ko hiσ]at e2;cases e2;exact⟨u,r,.inl ⟨hk,by simp⟩⟩
   rw[JD (Nl hj)]at e2;obtain⟨u',r',q⟩:=hl j y v' e1 e2 e3;refine⟨u',r',?_⟩;rcases q with⟨k,e⟩|⟨k,c,e,z⟩
   ·refine .inl ⟨k,?_⟩;have:y≠x:=λe=>hj (tj hN e1 (e▸hi));simp[this,e]
   exact .inr ⟨k,c,e,z.sameBut hs (cne y c e)⟩
  ·obtain⟨w',z⟩:=I.cell y c e;exact⟨w',z.sameBut hs (cne y c e)⟩
  obtain⟨e,n,ne,nf,d⟩:=I.pin p hp;exact⟨(hs.2 p.1 ne).trans e,n,ne,nf,d⟩
 have hfn:X.fn x=true:=by
  rcases hf with z|z
  ·exact z
  rw[z]at hk;cases hk
 obtain⟨c,hc⟩:=I.ok.has x (.inl hk);obtain⟨w',z⟩:=I.cell x c hc;refine wpAny_storeName_cell I.ok.kind hk hc z (λh' hc' hs=>?_);obtain⟨oc,hoc,hocd⟩:=id z;refine h {s with heap:=h'} ⟨I.ok,I.os,I.bare,⟨λb o e n hb hx=>?_,λb o e n hb hx=>?_,I.base.free,λb o e hx=>?_,I.base.tups,I.base.frzs,I.base.tbls⟩,⟨m,hn.sameBut hs (Nl (cne x c hc)),λj y v' e1 e2 e3=>?_⟩,λy c' e=>?_,I.free,I.freeC,λp hp=>?_,tracked ⟨oc,hoc,I.freeC x c hc⟩ hs,by simpa using I.len⟩ ⟨c,hs,.inr hc⟩
 ·exact(hs.2 b (k_ (C' (LU e) (I.ok.cab x c hfn hc)))).trans (I.base.keep b o e n hb hx)
 ·obtain⟨sl,e1⟩:=I.base.slot b o e n hb hx;exact⟨sl,(hs.2 b (k_ (C' (LU e) (I.ok.cab x c hfn hc)))).trans e1⟩
 ·obtain⟨o',e1⟩:=I.base.there b o e hx;exact⟨o',(hs.2 b (k_ (C' (LU e) (I.ok.cab x c hfn hc)))).trans e1⟩
 ·by_cases hj:j=i
  ·subst hj;rw[hi]at e1;cases e1;rw[Ko hiσ]at e2;cases e2;exact⟨u,r,.inr ⟨.inl hk,c,hc,hc'⟩⟩
  rw[JD (Nl hj)]at e2;obtain⟨u',r',q⟩:=hl j y v' e1 e2 e3;refine⟨u',r',?_⟩;rcases q with q|⟨k,c',e,z'⟩
  ·exact .inl q
  refine .inr ⟨k,c',e,z'.sameBut hs ?_⟩;rintro rfl;exact hj (tj hN e1 (I.ok.inj _ _ _ e hc▸hi))
 ·by_cases hcc:c'=c
  ·subst hcc;exact⟨_,hc'⟩
  obtain⟨w2,z2⟩:=I.cell y c' e;exact⟨w2,z2.sameBut hs hcc⟩
 obtain⟨e,n,ne,nf,d⟩:=I.pin p hp;refine⟨(hs.2 p.1 ?_).trans e,n,ne,nf,d⟩;intro q;rw[q,hoc]at e;have q':oc=p.2:=GY e;exact d w' (by rw[<-q'];exact hocd)
theorem kA(I:Inv X ad σ H s)(hN:X.N.Nodup)(hi:X.N[i]?=some x)(hx:Loc X.env.scope x)(r:RelV v u)
  (h:∀s',Inv X ad (σ.set i (some v)) H s'->Q () s') (hf:X.fn x=true\/X.env.scope.names.lookup x=some .local:=by first|exact .inl rfl|exact .inr rfl|assumption):LS M A (storeName X.env x u) Q E s:=
 qt I hN hi hx r (λs' I' _=>h s' I') hf
theorem Inv.C7 {s':LP}(I:Inv X ad σ H s)(ho:s'.os=s.os)(u:Un (frs X.stack) ch H H' s.heap s'.heap)(hok:HOk X.prog X.w H' s'.heap)(hg:N4 s'.gens)
  (hch:∀b∈ch,(b∈X.ex\/X.s₀.heap.objs.size<=b)/\b≠X.env.locals/\(∀x c,X.env.cells.lookup x=some c->c≠b)/\∀p∈X.pn++ad,p.1≠b):Inv X ad σ H' s':=by
 obtain⟨h',g',d',t',o'⟩:=s';have e:o'=s.os:=ho;subst e;exact I.call (g':=g') (t':=t') (d':=d') u hok hg hch
end
abbrev XK:=LM->Option LO->Hp->Prop
abbrev St:=List (Option V)
abbrev VK:=V->Hp->Prop
abbrev TE:=St->Hp->VK->Prop
abbrev TT:=St->Hp->(Bool->Hp->Prop)->Prop
abbrev TA:=St->Hp->(List V->Hp->Prop)->Prop
structure Ends where
 nx:St->Hp->Prop
 rt:VK
 bk:St->Hp->Prop:=λ_ _=>False
 ct:St->Hp->Prop:=λ_ _=>False
abbrev TS:=Ends->St->Hp->Prop
def EP(X:Cx)(ad:List (LO×Obj))(σ:St)(Q:VK)(u:LM)(s':LP):Prop:=∃v H',Inv X ad σ H' s'/\RelV v u/\Q v H'
noncomputable def TP(X:Cx)(ad:List (LO×Obj))(σ:St)(Q:Bool->Hp->Prop)(b:Bool)(s':LP):Prop:=∃H',Inv X ad σ H' s'/\Q b H'
def AP(X:Cx)(ad:List (LO×Obj))(σ:St)(Q:List V->Hp->Prop)(us:List LM)(s':LP):Prop:=∃vs H',Inv X ad σ H' s'/\Vals vs us/\Q vs H'
def SP(X:Cx)(ad:List (LO×Obj))(D:Ends)(f:Flow)(s':LP):Prop:=
 match f with
 | .next=>∃ cr H',Inv X ad cr H' s'/\D.nx cr H'
 | .brk=>∃ cr H',Inv X ad cr H' s'/\D.bk cr H'
 | .cont=>∃ cr H',Inv X ad cr H' s'/\D.ct cr H'
 | .ret u=>∃v cr H',Inv X ad cr H' s'/\RelV v u/\D.rt v H'
def PE(X:Cx)(e:LY)(t:TE):Prop:=
 ∀(ad:List (LO×Obj)) (s:LP) (σ:St) (H:Hp) (Q:VK),Inv X ad σ H s->t σ H Q->LS (LW X.prog X.w) X.A (Mi e X.env) (EP X ad σ Q) X.xe s
def PT(X:Cx)(e:LY)(t:TT):Prop:=
 ∀(ad:List (LO×Obj)) (s:LP) (σ:St) (H:Hp) (Q:Bool->Hp->Prop),Inv X ad σ H s->t σ H Q->LS (LW X.prog X.w) X.A (Pm e X.env (Mi e X.env)) (TP X ad σ Q) X.xe s
def PW(X:Cx)(e:LY)(t:TT):Prop:=
 ∀(whole:Sem LM) (ad:List (LO×Obj)) (s:LP) (σ:St) (H:Hp) (Q:Bool->Hp->Prop),Inv X ad σ H s->t σ H Q->LS (LW X.prog X.w) X.A (Pm e X.env whole) (TP X ad σ Q) X.xe s
variable {X:Cx}{e:LY}
theorem PW.pt {t:TT}(h:PW X e t):PT X e t:=h _
def PA(X:Cx)(es:List LY)(t:TA):Prop:=
 ∀(pos:Pos) (ad:List (LO×Obj)) (s:LP) (σ:St) (H:Hp) (Q:List V->Hp->Prop),Inv X ad σ H s->t σ H Q->LS (LW X.prog X.w) X.A (spliced (Nm pos (L3 es X.env))) (AP X ad σ Q) X.xe s
def PS(X:Cx)(st:Md)(t:TS):Prop:=
 ∀(ad:List (LO×Obj)) (s:LP) (σ:St) (H:Hp) (D:Ends),Inv X ad σ H s->t D σ H->LS (LW X.prog X.w) X.A (exec st X.env) (SP X ad D) X.xe s
def PSs(X:Cx)(st:List Md)(t:TS):Prop:=
 ∀(ad:List (LO×Obj)) (s:LP) (σ:St) (H:Hp) (D:Ends),Inv X ad σ H s->t D σ H->LS (LW X.prog X.w) X.A (execs st X.env) (SP X ad D) X.xe s
theorem thn{α:Type}{t:Sem α}{Q Q':α->LP->Prop}(h:LS M A t Q E s)(hQ:∀a s,Q a s->Q' a s):LS M A t Q' E s:=Ml h hQ λ_ _ x=>x
variable {ad:List (LO×Obj)}{pos:Pos}{σ:St}
section
variable{X:Cx}
noncomputable def Eo(i:Nat):TE:=λσ H Q=>∃v,σ[i]?=some (some v)/\Q v H
noncomputable def tC(v:V):TE:=λ_ H Q=>Q v H
theorem iQ(hN:X.N[i]?=some x)(hv:Vis X.env.scope x)(hd:(x ==("__debug__":Str))=false:=by decide)(hcd:(x ==("__classdict__":Str))=false:=by decide):PE X (.Name x pos) (Eo i):=by
 intro ad s σ H Q I h;obtain⟨v,e,h⟩:=h;obtain⟨m,hn,hl⟩:=I.loc;obtain⟨u,r,l⟩:=hl i x v hN e hv;have fin:EP X ad σ Q u s:=⟨v,H,I,r,h⟩;rcases l with⟨hk,hm⟩|⟨hk,c,hc,hcell⟩
 ·exact Qb (wpAny_loadName_local I.ok.kind hk hn hm fin) hd
 rcases hk with hk|hk
 ·exact Qb (wpAny_loadName_cell I.ok.kind hk hc hcell fin) hd
 exact Qb (wpAny_loadName_free I.ok.kind hk hc hcell fin hcd) hd
theorem cV{i j pos}:PE X (.Constant (.int i) j pos) (tC (.int i)):=λ_ _ _ H _ I h=>wpAny_Constant_int ⟨.int i,H,I.tok _,⟨_,rfl⟩,h⟩
theorem EX{b j pos}:PE X (.Constant (.bool b) j pos) (tC (.bl b)):=λ_ _ _ H _ I h=>Constant_bool ⟨.bl b,H,I,rfl,h⟩
theorem CS{j pos}:PE X (.Constant .none j pos) (tC .non):=λ_ _ _ H _ I h=>Constant_none ⟨.non,H,I,rfl,h⟩
theorem jT{x j pos}:PE X (.Constant (.str x) j pos) (tC (.str x)):=λ_ _ _ H _ I h=>Calls.Constant_str ⟨.str x,H,I.tok _,⟨_,rfl⟩,h⟩
noncomputable def Gl(X:Cx)(x:Str):Prop:=X.env.kindOf x=some .globalImplicit
theorem vZ{Q:LM->LP->Prop}(I:Inv X ad σ H s)(hg:Gl X x)(hm:X.mg x=some u)(h:Q u s)
  (hd:(x ==("__debug__":Str))=false:=by decide):LS (LW X.prog X.w) X.A (Mi (.Name x pos) X.env) Q E s:=
 Ol I.ok.kind hg (Calls.loadGlobal_global (by rw[I.ok.glob];exact I.mod.glob.keeps I.bk) hm h) hd
theorem gA{Q:LM->LP->Prop}(I:Inv X ad σ H s)(hg:Gl X x)(hm:X.mg x=none)(hv:MQ x=some u)(h:Q u s)
  (hn:x≠"__name__":=by decide) (hd:(x ==("__debug__":Str))=false:=by decide):LS (LW X.prog X.w) X.A (Mi (.Name x pos) X.env) Q E s:=by
 obtain⟨mb,h1,h2⟩:=I.mod.blt;exact Ol I.ok.kind hg (Calls.loadGlobal_builtin (by rw[I.ok.glob];exact I.mod.glob.keeps I.bk) hm (by rw[I.ok.blt];exact h1.keeps I.bk) ((h2 x hn).trans hv) h) hd
theorem BN(hg:Gl X x)(hm:X.mg x=some u)(r:RelV v u)(hd:(x ==("__debug__":Str))=false:=by decide):PE X (.Name x pos) (tC v):=
 λ_ _ _ H _ I h=>vZ I hg hm ⟨v,H,I,r,h⟩ hd
theorem Bl(hg:Gl X x)(hm:X.mg x=none)(hv:MQ x=some u)(r:RelV v u)(hn:x≠"__name__":=by decide)(hd:(x ==("__debug__":Str))=false:=by decide):PE X (.Name x pos) (tC v):=
 λ_ _ _ H _ I h=>gA I hg hm hv ⟨v,H,I,r,h⟩ hn hd
variable{a b:LY}{ta tb:TE}{pos:Pos}
variable{tA tB':TT}{rest:List LY}
noncomputable def Gf(t u:TT):TT:=λσ H Q=>t σ H λc H1=>if c=true then u σ H1 Q else Q false H1
noncomputable def tOr(t u:TT):TT:=λσ H Q=>t σ H λc H1=>if c=true then Q true H1 else u σ H1 Q
noncomputable def Gi(t:TT):TT:=λσ H Q=>t σ H λc H1=>Q (!c) H1
theorem Bz(ha:PT X a tA):PW X (.BoolOp .And [a] pos) tA:=by
 intro wh ad s σ H Q I h;refine isTrue_and (thn (ha ad s σ H Q I h) λc s1 e=>?_);cases c with
 |true=>exact isTrue_and_nil e
 |false=>exact e
theorem E1(ha:PT X a tA):PW X (.BoolOp .Or [a] pos) tA:=by
 intro wh ad s σ H Q I h;refine isTrue_or (thn (ha ad s σ H Q I h) λc s1 e=>?_);cases c with
 |false=>exact isTrue_or_nil e
 |true=>exact e
theorem CN(ha:PT X a tA)(hb:PW X (.BoolOp .And (b::rest) pos) tB'):PW X (.BoolOp .And (a::b::rest) pos) (Gf tA tB'):=by
 intro wh ad s σ H Q I h;refine isTrue_and (thn (ha ad s σ H _ I h) ?_);rintro c s1 ⟨H1,I1,q1⟩;cases c with
 |true=>exact hb wh ad s1 σ H1 Q I1 q1
 |false=>exact⟨H1,I1,q1⟩
theorem G0(ha:PT X a tA)(hb:PW X (.BoolOp .Or (b::rest) pos) tB'):PW X (.BoolOp .Or (a::b::rest) pos) (tOr tA tB'):=by
 intro wh ad s σ H Q I h;refine isTrue_or (thn (ha ad s σ H _ I h) ?_);rintro c s1 ⟨H1,I1,q1⟩;cases c with
 |true=>exact⟨H1,I1,q1⟩
 |false=>exact hb wh ad s1 σ H1 Q I1 q1
theorem Ee(ha:PT X a tA):PT X (.UnaryOp .Not a pos) (Gi tA):=by intro ad s σ H Q I h;exact isTrue_not (ha ad s σ H (λc H1=>Q (!c) H1) I h)
noncomputable def Fb(ta tb:TE):TE:=λσ H Q=>ta σ H λx H1=>∃c,x=.bl c/\if c=true then tb σ H1 Q else Q (.bl false) H1
noncomputable def F9(ta:TE):TE:=λσ H Q=>ta σ H λx H1=>∃c,x=.bl c/\Q (.bl (!c)) H1
theorem Eb{op}{t:TE}(h:PE X a t):PE X (.BoolOp op [a] pos) t:=λad s σ H Q I hw=>BoolOp_one (h ad s σ H Q I hw)
theorem E4(ha:PE X a ta)(hb:PE X (.BoolOp .And (b::rest) pos) tb):PE X (.BoolOp .And (a::b::rest) pos) (Fb ta tb):=by
 intro ad s σ H Q I h;refine BoolOp_and (thn (ha ad s σ H _ I h) ?_);rintro v s1 ⟨x,H1,I1,r1,q1⟩;obtain⟨c,rfl,q1⟩:=q1;cases r1;refine M3 ?_;cases c with
 |true=>exact hb ad s1 σ H1 Q I1 q1
 |false=>exact⟨.bl false,H1,I1,rfl,q1⟩
theorem DP(ha:PE X a ta):PE X (.UnaryOp .Not a pos) (F9 ta):=by intro ad s σ H Q I h;refine UnaryOp_ (thn (ha ad s σ H _ I h) ?_);rintro v s1 ⟨x,H1,I1,r1,q1⟩;obtain⟨c,rfl,q1⟩:=q1;cases r1;exact not_of (M3 ⟨.bl (!c),H1,I1,rfl,q1⟩)
noncomputable def tIf(t:TT)(ta tb:TE):TE:=λσ H Q=>t σ H λc H1=>if c=true then ta σ H1 Q else tb σ H1 Q
theorem zl{c:LY}(hc:PT X c tA)(ha:PE X a ta)(hb:PE X b tb):PE X (.IfExp c a b pos) (tIf tA ta tb):=by
 intro ad s σ H Q I h;refine wpAny_IfExp (thn (hc ad s σ H _ I h) ?_);rintro d s1 ⟨H1,I1,q1⟩;cases d with
 |true=>exact ha ad s1 σ H1 Q I1 q1
 |false=>exact hb ad s1 σ H1 Q I1 q1
end
def SqL(K:LN)(H:Hp)(a:LO)(xs:List V):Prop:=
 Rd H a (.lst xs)\/
  ∃(o:Obj) (bi:Array LM) (n:Nat),K.lookup a=some o/\o.cls=.type "list"/\o.dict=none/\o.data=.seq bi n/\bi.size<=sizeLine/\Vals xs bi.toList
def SqT(K:LN)(H:Hp)(a:LO)(xs:List V):Prop:=
 Rd H a (.tup xs)\/
  ∃(o:Obj) (bi:Array LM) (n:Nat),K.lookup a=some o/\o.cls=.type "tuple"/\o.data=.seq bi n/\bi.size<=sizeLine/\Vals xs bi.toList
noncomputable def GQ:LM->Option V
 | .none=>some .non
 | .bool b=>some (.bl b)
 | .int i _=>some (.int i)
 | .str x _=>some (.str x)
 | .bytes b _=>some (.byt b)
 | .float b _=>some (.flt b)
 | .ref a=>some (.ref a)
 | .type n=>some (.ty n)
 | _=>none
theorem RelV.abs {x:V}(r:RelV x u):GQ u=some x:=by
 cases x with
 |non=>cases r;rfl
 |bl _=>cases r;rfl
 |int _=>obtain⟨t,rfl⟩:=r;rfl
 |str _=>obtain⟨t,rfl⟩:=r;rfl
 |byt _=>obtain⟨t,rfl⟩:=r;rfl
 |flt _=>obtain⟨t,rfl⟩:=r;rfl
 |ref _=>cases r;rfl
 |ty _=>cases r;rfl
theorem RelV.inj {x y:V}(r:RelV x u)(q:RelV y u):x=y:=GY (r.abs.symm.trans q.abs)
theorem Vals.inj:∀{xs ys:List V}{us:List LM},Vals xs us->Vals ys us->xs=ys:=by
 intro xs ys us x;induction x generalizing ys with
 |nil=>intro y;cases y;rfl
 |cons r t ih=>
  intro y;cases y with
  |cons r' t'=>rw[r.inj r',ih t']
variable {K:LN}
section
variable{X:Cx}{ad:List (LO×Obj)}{σ:St}{H:Hp}{s:LP}{a:LO}{xs ys:List V}
theorem SqL.of (h:H a=some (.lst xs)):SqL K H a xs:=.inl (.inl h)
theorem SqT.of (h:H a=some (.tup xs)):SqT K H a xs:=.inl (.inl h)
theorem Inv.list (I:Inv X ad σ H s)(h:SqL X.K H a xs):∃bi:List LM,Vals xs bi/\PlainL s.heap a bi.toArray/\xs.length<=sizeLine:=by
 rcases h with h|⟨o,bi,n,hk,hc,hd,hs,hz,r⟩
 ·obtain⟨z,bi,n,r,e⟩:=h.ok I.hok;exact⟨bi,r,⟨_,n,e,rfl,rfl,rfl⟩,z⟩
 refine⟨bi.toList,r,⟨o,n,I.kIn a o hk,hc,hd,by simpa using hs⟩,?_⟩;have e:=r.length;simp only[G']at e;lia
theorem Inv.tuple (I:Inv X ad σ H s)(h:SqT X.K H a xs):∃bi:List LM,Vals xs bi/\Q1 s.heap a bi.toArray/\xs.length<=sizeLine:=by
 rcases h with h|⟨o,bi,n,hk,hc,hs,hz,r⟩
 ·obtain⟨z,bi,r,p⟩:=h.ok I.hok;exact⟨bi,r,p,z⟩
 refine⟨bi.toList,r,⟨o,I.kIn a o hk,hc,n,by simpa using hs⟩,?_⟩;have e:=r.length;simp only[G']at e;lia
theorem Inv.oK (I:Inv X ad σ H s)(h:SqL X.K H a xs)(h':SqL X.K H a ys):xs=ys:=by
 obtain⟨bi,r,⟨o,n,e,_,_,d⟩,_⟩:=I.list h;obtain⟨its',r',⟨o',n',e',_,_,d'⟩,_⟩:=I.list h';rw[e]at e';cases e';rw[d]at d';injection d' with d1 _
 have:bi=its':=by simpa using congrArg Lw d1
 subst this;exact r.inj r'
theorem Inv.lY (I:Inv X ad σ H s)(h:SqT X.K H a xs)(h':SqT X.K H a ys):xs=ys:=by
 obtain⟨bi,r,⟨o,e,_,n,d⟩,_⟩:=I.tuple h;obtain⟨its',r',⟨o',e',_,n',d'⟩,_⟩:=I.tuple h';rw[e]at e';cases e';rw[d]at d';injection d' with d1 _
 have:bi=its':=by simpa using congrArg Lw d1
 subst this;exact r.inj r'
end
abbrev Cx.oO (X:Cx)(E:LM->LP->Prop):Cx:={ X with xe:=E}
abbrev Cx.nox (X:Cx):Cx:=X.oO λ_ _=>False
theorem Cx.Ok.oO (ok:X.Ok)(E:LM->LP->Prop):(X.oO E).Ok:=
 ⟨ok.mod,ok.kind,ok.glob,ok.blt,ok.above,ok.inj,ok.has,ok.cab,ok.hd,ok.frames,ok.stk,ok.exf,ok.bs,ok.bsz,ok.noex,ok.exfs,ok.nU,ok.frf⟩
theorem Cx.Ok.j9 (ok:(X.oO E).Ok):X.Ok:=
 ⟨ok.mod,ok.kind,ok.glob,ok.blt,ok.above,ok.inj,ok.has,ok.cab,ok.hd,ok.frames,ok.stk,ok.exf,ok.bs,ok.bsz,ok.noex,ok.exfs,ok.nU,ok.frf⟩
section
variable{X:Cx}{ad:List (LO×Obj)}{σ:St}{H:Hp}{s:LP}{E:LM->LP->Prop}
theorem Inv.oO (I:Inv X ad σ H s)(E:LM->LP->Prop):Inv (X.oO E) ad σ H s:=⟨I.ok.oO E,I.os,I.bare,I.base,I.loc,I.cell,I.free,I.freeC,I.pin,I.hok,I.len⟩
theorem Inv.j9 (I:Inv (X.oO E) ad σ H s):Inv X ad σ H s:=⟨I.ok.j9,I.os,I.bare,I.base,I.loc,I.cell,I.free,I.freeC,I.pin,I.hok,I.len⟩
theorem SP.j9 {D:Ends}{f:Flow}{s':LP}(h:SP (X.oO E) ad D f s'):SP X ad D f s':=by
 cases f with
 |next=>obtain⟨cr,H',I,q⟩:=h;exact⟨cr,H',I.j9,q⟩
 |brk=>obtain⟨cr,H',I,q⟩:=h;exact⟨cr,H',I.j9,q⟩
 |cont=>obtain⟨cr,H',I,q⟩:=h;exact⟨cr,H',I.j9,q⟩
 |ret u=>obtain⟨v,cr,H',I,r,q⟩:=h;exact⟨v,cr,H',I.j9,r,q⟩
theorem PSs.nox {st:List Md}{t:TS}(h:PSs X.nox st t):PSs X st t:=λad s σ H D I hw=>
 Ml (h ad s σ H D (I.oO _) hw) (λ_ _ q=>q.j9) λ_ _ z=>L4 z
end
section
variable{X:Cx}{st:Md}{rest:List Md}{t u:TS}{e:LY}{te:TE}{pos:Pos}
noncomputable def Fc:TS:=λD σ H=>D.nx σ H
noncomputable def Gj(t u:TS):TS:=λD σ H=>t { D with nx:=u D} σ H
theorem qH:PSs X [] Fc:=λ_ _ σ H _ I h=>OR ⟨σ,H,I,h⟩
theorem cz(h1:PS X st t)(h2:PSs X rest u):PSs X (st::rest) (Gj t u):=by
 intro ad s σ H D I h;refine P5 (thn (h1 ad s σ H { D with nx:=u D} I h) λf s1 q=>?_);cases f with
 |next=>
  obtain⟨cr,H',I',q⟩:=q;exact h2 ad s1 cr H' D I' q
 |ret v=>exact q
 |brk=>exact q
 |cont=>exact q
theorem kW(h1:PS X st t):PSs X [st] t:=by
 intro ad s σ H D I h;refine P5 (thn (h1 ad s σ H D I h) λf s1 q=>?_);cases f with
 |next=>exact OR q
 |ret v=>exact q
 |brk=>exact q
 |cont=>exact q
theorem Inv.quiet (I:Inv X ad σ H s):Rk X.env=false:=by simp[Rk,I.ok.kind]
noncomputable def Fs(te:TE):TS:=λD σ H=>te σ H λ_ H1=>D.nx σ H1
theorem B8(he:PE X e te)(hs:NG e none pos.line X.env=pure false:=by rfl):PS X (.Expr e pos) (Fs te):=by intro ad s σ H D I h;exact wpAny_Expr_any (thn (he ad s σ H _ I h) λv s1 ⟨x,H1,I1,r1,q1⟩=>⟨σ,H1,I1,q1⟩) I.quiet hs
noncomputable def GD(te:TE):TS:=λD σ H=>te σ H D.rt
theorem r9(he:PE X e te):PS X (.Return (some e) pos) (GD te):=by intro ad s σ H D I h;exact wpAny_Return_some (thn (he ad s σ H _ I h) λv s1 ⟨x,H1,I1,r1,q1⟩=>⟨x,σ,H1,I1,r1,q1⟩)
noncomputable def GJ(c:TT)(t u:TS):TS:=λD σ H=>c σ H λb H1=>if b=true then t D σ H1 else u D σ H1
theorem zx{c:LY}{a b:List Md}{tc:TT}(hc:PT X c tc)(ha:PSs X a t)(hb:PSs X b u):PS X (.If c a b pos) (GJ tc t u):=by
 intro ad s σ H D I h;refine wpAny_If (thn (hc ad s σ H _ I h) ?_);rintro d s1 ⟨H1,I1,q1⟩;cases d with
 |true=>exact ha ad s1 σ H1 D I1 q1
 |false=>exact hb ad s1 σ H1 D I1 q1
end
abbrev TG:=V->St->Hp->(St->Hp->Prop)->Prop
abbrev TGs:=List V->St->Hp->(St->Hp->Prop)->Prop
def PG(X:Cx)(target:LY)(t:TG):Prop:=
 ∀(ad:List (LO×Obj)) (s:LP) (σ:St) (H:Hp) (v:V) (u:LM) (Q:St->Hp->Prop),Inv X ad σ H s->RelV v u->t v σ H Q->
  LS (LW X.prog X.w) X.A (NH target X.env u) (λ_ s'=>∃ cr H',Inv X ad cr H' s'/\Q cr H') X.xe s
def PGs(X:Cx)(ts:List LY)(t:TGs):Prop:=
 ∀(ad:List (LO×Obj)) (s:LP) (σ:St) (H:Hp) (vs:List V) (us:List LM) (Q:St->Hp->Prop),Inv X ad σ H s->Vals vs us->t vs σ H Q->
  LS (LW X.prog X.w) X.A (Om ((Mv ts X.env).map (·.2)) us) (λ_ s'=>∃ cr H',Inv X ad cr H' s'/\Q cr H') X.xe s
abbrev Az:=V->V->V->Hp->(Hp->Prop)->Prop
def uN(X:Cx)(t:Az):Prop:=
 ∀(ad:List (LO×Obj)) (s:LP) (σ:St) (H:Hp) (o i v:V) (ov iv u:LM) (Q:Hp->Prop),Inv X ad σ H s->RelV o ov->RelV i iv->RelV v u->t o i v H Q->
  LS (LW X.prog X.w) X.A (Qq ov iv u) (λ_ s'=>∃H',Inv X ad σ H' s'/\Q H') X.xe s
variable {es:List LY}{tg:LY}
section
variable{X:Cx}{pos:Pos}
noncomputable def wg(i:Nat):TG:=λv σ H Q=>Q (σ.set i (some v)) H
theorem wb(hN:X.N.Nodup)(hi:X.N[i]?=some x)(hx:Loc X.env.scope x)(hf:X.fn x=true\/X.env.scope.names.lookup x=some .local:=by first|exact .inl rfl|exact .inr rfl|assumption):PG X (.Name x pos) (wg i):=by intro ad s σ H v u Q I r h;exact PH (kA I hN hi hx r (λs' I'=>⟨_,H,I',h⟩) hf)
noncomputable def Gp:TGs:=λvs σ H Q=>vs=[]/\Q σ H
noncomputable def Fq(t:TG)(u:TGs):TGs:=λvs σ H Q=>∃v r,vs=v::r/\t v σ H λcr H'=>u r cr H' Q
theorem vn:PGs X [] Gp:=by intro ad s σ H vs us Q I r h;obtain⟨e,h⟩:=h;subst e;cases r;exact PJ ⟨σ,H,I,h⟩
theorem nz{t:TG}{u:TGs}(h1:PG X e t)(h2:PGs X es u)
  (hs:(Mv (e::es) X.env).map (·.2)=NH e X.env::(Mv es X.env).map (·.2):=by rfl):PGs X (e::es) (Fq t u):=by
 intro ad s σ H vs us Q I r h;obtain⟨v,vr,e1,h⟩:=h;subst e1;cases r with
 |cons r rr=>
  rw[hs];refine Oh (thn (h1 ad s σ H _ _ _ I r h) ?_);rintro _ s1 ⟨σ1,H1,I1,q1⟩;exact h2 ad s1 σ1 H1 _ _ Q I1 rr q1
def Gq(K:LN)(n:Nat)(t:TGs):TG:=λv σ H Q=>∃a xs,v=.ref a/\SqT K H a xs/\xs.length=n/\t xs σ H Q
theorem yE{k:Nat}{t:TGs}{n:Nat}(hc:X.calm=true)(h:PGs X es t)
  (hn:(Mv es X.env).length=n:=by rfl) (hst:(Mv es X.env).findIdx? (·.1)=none:=by rfl):PG X (.Tuple es k pos) (Gq X.K n t):=by
 intro ad s σ H v u Q I r hw;obtain⟨a,xs,e1,hq,hl,hw⟩:=hw;subst e1;cases r;obtain⟨bi,rv,ht,hz⟩:=I.tuple hq;refine assign_Tuple_tuple (I.ok.hd hc) ht (by simp[hn,<-hl,rv.length]) hst λh' hx=>?_
 have I1:Inv X ad σ H {s with heap:=h'}:=I.kept (t':=s.toks) λb o e=>hx b o (k_ (LU e)) e;exact h ad _ σ H xs _ Q I1 (by simpa using rv) hw
noncomputable def Gz(to ti:TE)(t:Az):TG:=λv σ H Q=>to σ H λo H1=>ti σ H1 λi H2=>t o i v H2 λH3=>Q σ H3
theorem xS{o i:LY}{to ti:TE}{t:Az}(ho:PE X o to)(hi:PE X i ti)(hs:uN X t)
  (ha:∀v,NH (.Subscript o i pos) X.env v=(do
   let ov <-N5 [v] (Mi o X.env)
   let iv <-N5 [v,ov] (Mi i X.env)
   Qr pos
   N5 [v,ov,iv] (Qq ov iv v)
   release [v,ov,iv] []):=by intro _;rfl):PG X (.Subscript o i pos) (Gz to ti t):=by
 intro ad s σ H v u Q I r h;rw[ha];refine LL (Ma (thn (ho ad s σ H _ I h) ?_));rintro ov s1 ⟨x,H1,I1,r1,q1⟩;refine LL (Ma (thn (hi ad s1 σ H1 _ I1 q1) ?_));rintro iv s2 ⟨y,H2,I2,r2,q2⟩;refine LL (Nf (LL (Ma (thn (hs ad s2 σ H2 x y v ov iv u _ I2 r1 r2 r q2) ?_))));rintro _ s3 ⟨H3,I3,q3⟩;exact wpAny_release ⟨σ,H3,I3,q3⟩
noncomputable def AL(te:TE)(g:TG):TS:=λD σ H=>te σ H λx H1=>g x σ H1 D.nx
theorem zR{te:TE}{g:TG}(he:PE X e te)(hg:PG X tg g)(hs:Oo [tg] e pos.line X.env=pure false:=by rfl)(hw:Oq [tg] e X.env=pure none:=by rfl)
  (h1:(Mv [tg] X.env).map (·.2)=[NH tg X.env]:=by rfl):PS X (.Assign [tg] e pos) (AL te g):=by
 intro ad s σ H D I h;refine wpAny_Assign_stores (thn (he ad s σ H _ I h) λv s1 ⟨x,H1,I1,r1,q1⟩=>?_) hs hw;rw[h1];exact thn (hg ad s1 σ H1 x v _ I1 r1 q1) λ_ s2 q=>q
theorem j7{te:TE}{pos':Pos}(hN:X.N.Nodup)(hi:X.N[i]?=some x)(hx:Loc X.env.scope x)(he:PE X e te)(hs:NG e (some (.Name x pos')) pos.line X.env=pure false:=by rfl)(hf:X.fn x=true\/X.env.scope.names.lookup x=some .local:=by first|exact .inl rfl|exact .inr rfl|assumption) :
  PS X (.Assign [.Name x pos'] e pos) (AL te (wg i)):=by
 intro ad s σ H D I h;refine wpAny_Assign_Name (thn (he ad s σ H _ I h) λv s1 ⟨y,H1,I1,r1,q1⟩=>?_) hs;exact kA I1 hN hi hx r1 (λs2 I2=>⟨_,H1,I2,q1⟩) hf
noncomputable def Gy(i j:Nat)(ta:TA):TS:=λD σ H=>ta σ H λvs H1=>∃v w,vs=[v,w]/\D.nx ((σ.set i (some v)).set j (some w)) H1
theorem Dk{y:Str}{a b:LY}{ta:TA}{px py pt:Pos}{kt k2 pt2}(hc:X.calm=true)(hN:X.N.Nodup)(hi:X.N[i]?=some x)(hj:X.N[j]?=some y)(im:i≠j)
  (hx:X.env.scope.names.lookup x=some .local) (hy:X.env.scope.names.lookup y=some .local) (ha:PA X [a,b] ta)
  (hw:Oq [.Tuple [.Name x px,.Name y py] kt pt] (.Tuple [a,b] k2 pt2) X.env=pure (some [x,y]))
  (hs:Oo [.Tuple [.Name x px,.Name y py] kt pt] (.Tuple [a,b] k2 pt2) pos.line X.env=pure false:=by rfl) :
  PS X (.Assign [.Tuple [.Name x px,.Name y py] kt pt] (.Tuple [a,b] k2 pt2) pos) (Gy i j ta):=by
 intro ad s σ H D I h;rw[exec_Assign_arm];refine LL (Nf ?_);rw[hs];refine LL (LR ?_);rw[if_neg (by decide)];refine LL (Tuple_ (thn (ha _ ad s σ H _ I h) ?_));rintro us s1 ⟨vs,H1,I1,r1,q1⟩;obtain⟨v,w,e1,q1⟩:=q1;subst e1;obtain⟨u1,u2,rfl,rv,rw'⟩:∃u1 u2,us=[u1,u2]/\RelV v u1/\RelV w u2:=by
  cases r1 with
  |cons p q=>
   cases q with
   |cons p' q'=>
    cases q';exact⟨_,_,rfl,p,p'⟩
 refine MP ?_ (by show 2<=sizeLine;decide);have I2:Inv X ad σ H1 {s1 with heap:=s1.heap.push { cls:=.type "tuple",data:=.seq [u1,u2].toArray} }:=I1.kept (t':=s1.toks) λb o e=>LQ _ e;rw[hw];refine LL (LR ?_);show LS (LW X.prog X.w) X.A (do rule "assign.swapped-stores";let items <-unpackItems (.ref s1.heap.objs.size) 2 none;Om [λv=>P6 X.env y v,λv=>P6 X.env x v] items.reverse;pure RI) _ _ _;refine LL (N7 (LL (unpackItems_tuple (items:=#[u1,u2]) (I.ok.hd hc) (Pn s1.heap _) λh' hx'=>?_)));have I3:=I2.kept (h':=h') (t':=s1.toks) λb o e=>hx' b o (k_ (LU e)) e;show LS _ _ (Om [λv=>P6 X.env y v,λv=>P6 X.env x v] [u2,u1] >>= λ_=>pure RI) _ _ _;refine LL (Oh (Qs (kA I3 hN hj (.inl hy) rw' (λs2 I4=>?_) (.inr hy))));refine Oh (Qs (kA I4 hN hi (.inl hx) rv (λs3 I5=>PJ (LR ?_)) (.inr hx)));rw[List.set_comm _ _ (Nl im)]at I5;exact⟨_,H1,I5,q1⟩
end
structure It where
 go:Nat->Hp->Prop
 yld:Nat->Hp->V->Hp->Prop
 stop:Nat->Hp->Prop
noncomputable def kX(X:Cx)(ad:List (LO×Obj))(H:Hp)(b:LO):Prop:=
 H b=none/\b≠X.env.locals/\b ∉ X.fs/\(b∈X.ex\/X.s₀.heap.objs.size<=b)/\(∀x c,X.env.cells.lookup x=some c->c≠b)/\∀p∈X.pn++ad,p.1≠b
theorem Inv.uW {H':Hp}(I:Inv X ad σ H s)(hb:s.heap.objs.size<=b)(hn:H' b=none):kX X ad H' b:=by
 refine⟨hn,Jc (C' I.lt hb),I.GK hb,.inr (GZ I.sz hb),λx c e z=>?_,λp hp z=>?_⟩
 ·obtain⟨v,q⟩:=I.cell x c e;exact absurd (C' q.lt (by rw[z];exact hb)) (HY _)
 exact absurd (C' (LU (I.pin p hp).1) (by rw[z];exact hb)) (HY _)
structure Turn (P:LV) (w:L0) (K:LN) (tg:LY) (J:It) (fp:List LO) (it:LO) (tn:Nat->LZ->Prop):Prop where
 mem:it∈fp
 obj:∀i h,tn i h->∀b∈fp,∃o,h.get? b=some o/\∀v,o.data≠.cell v
 keep:∀i h h',tn i h->(∀b∈fp,∀o,h.get? b=some o->h'.get? b=some o)->tn i h'
 item:∀(X:Cx),X.prog=P->X.w=w->X.K=K->X.calm=true->∀(i:Nat) (ad:List (LO×Obj)) (s:LP) (σ:St) (H:Hp) (E:LM->LP->Prop),Inv X ad σ H s->(∀b∈fp,kX X ad H b)->tn i s.heap->J.go i H->
  LS (LW P w) X.A (Ng (.ref it)) (λr s1=>∃u,r=some u/\
   LS (LW P w) X.A (N8 tg (.ref it) u) (λ_ s2=>∃x H',Inv X ad σ H' s2/\RelV x u/\J.yld i H x H'/\tn (i+1) s2.heap/\∀b∈fp,H' b=none) E s1) E s
 done:∀(X:Cx),X.prog=P->X.w=w->X.K=K->X.calm=true->∀(i:Nat) (ad:List (LO×Obj)) (s:LP) (σ:St) (H:Hp) (E:LM->LP->Prop),Inv X ad σ H s->(∀b∈fp,kX X ad H b)->tn i s.heap->J.stop i H->
  LS (LW P w) X.A (Ng (.ref it)) (λr s1=>r=none/\Inv X ad σ H s1) E s
 self:∀(A:L_) (i:Nat) (s:LP) (Q:LM->LP->Prop) (E:LM->LP->Prop),tn i s.heap->Q (.ref it) s->LS (LW P w) A (O1 (.ref it)) Q E s
abbrev TI:=St->Hp->(It->Hp->Prop)->Prop
def PIE(X:Cx)(ad:List (LO×Obj))(σ:St)(tg:LY)(R:It->Hp->Prop)(itv:LM)(s2:LP):Prop:=
 ∃(it:LO) (fp:List LO) (tn:Nat->LZ->Prop) (J:It) (H':Hp),itv=.ref it/\Inv X ad σ H' s2/\Turn X.prog X.w X.K tg J fp it tn/\tn 0 s2.heap/\(∀b∈fp,kX X ad H' b)/\R J H'
def PI(X:Cx)(tg iter:LY)(wi:TI):Prop:=
 ∀(ad:List (LO×Obj)) (s:LP) (σ:St) (H:Hp) (R:It->Hp->Prop),Inv X ad σ H s->wi σ H R->
  LS (LW X.prog X.w) X.A (Mi iter X.env) (λv s1=>LS (LW X.prog X.w) X.A (O1 v) (PIE X ad σ tg R) X.xe s1) X.xe s
theorem xP{it:LO}{o:Obj}{n:String}{vs:Array LM}(ho:s.heap.get? it=some o)(hc:o.cls=.type n)(hd:o.data=.fields vs)
    (hn:["enumerate","zip","dict_itemiterator","dict_reverseitemiterator","odict_iterator","itertools.zip_longest","itertools.pairwise"].contains n=false) (hQ:Q () s):LS M A (N8 tg (.ref it) u) Q E s:=by
  unfold N8;cases tg <;> first
    |exact LR hQ
    | (cases u <;> first
        |exact LR hQ
        | (refine LL (wpAny_load ho ?_)
           rw[hc,hd];show LS M A (if(["enumerate","zip","dict_itemiterator","dict_reverseitemiterator","odict_iterator","itertools.zip_longest","itertools.pairwise"].contains n&&vs[0]? == some (Oi _))=true then _ else _) Q E s;rw[if_neg (by intro h;rw[hn,H0]at h;cases h)];exact LR hQ))
def Itl(K:LN)(a:LO):It:=
 ⟨λi H=>∃xs x,SqL K H a xs/\xs[i]?=some x,λi H x H'=>H'=H/\∀xs,SqL K H a xs->xs[i]?=some x,λi H=>∃xs,SqL K H a xs/\xs.length<=i⟩
def Itt(K:LN)(a:LO):It:=
 ⟨λi H=>∃xs x,SqT K H a xs/\xs[i]?=some x,λi H x H'=>H'=H/\∀xs,SqT K H a xs->xs[i]?=some x,λi H=>∃xs,SqT K H a xs/\xs.length<=i⟩
noncomputable def Itr(lo:Int)(n:Nat):It:=⟨λi _=>i<n,λi H x H'=>H'=H/\x=.int (lo+i),λi _=>n<=i⟩
theorem wZ(a it:LO):Turn P w K tg (Itl K a) [it] it (λi h=>h.IsListIter it a i) where
 mem:=by simp
 obj:=λi h st b hb=>by
  have e:b=it:=by simpa using hb
  subst e;obtain⟨o,e,c,d⟩:=st;exact⟨o,e,λv z=>by rw[d]at z;cases z⟩
 keep:=λi h h' st k=>st.at λo e=>k it (by simp) o e
 item:=by
  intro X hP hw hK hc i ad s σ H E I hf st hg;subst hP hw hK;obtain⟨xs,x,hq,hx⟩:=hg;obtain⟨bi,rv,p,hz⟩:=I.list hq;obtain⟨u,hu,ru⟩:=rv.get hx;obtain⟨f0,f1,f2,f3,f4,f5⟩:=hf it (by simp);refine wpAny_pyNext_list_item st p.isList (x:=u) (by simpa using hu) λh' be sb=>?_
  have I1:Inv X ad σ H {s with heap:=h'}:=I.turned (t':=s.toks) (λb o hb e=>(sb.2 b hb).trans e) f0 f1 f3 f4 f5;obtain⟨o,e,c,d⟩:=id be;exact⟨u,rfl,xP (s:={s with heap:=h'}) e c d (by decide) ⟨x,H,I1,ru,⟨rfl,λys hy=>by rw[I.oK hy hq];exact hx⟩,be,λb hb=>(hf b hb).1⟩⟩
 done:=by intro X hP hw hK hc i ad s σ H E I hf st hg;subst hP hw hK;obtain⟨xs,hq,hx⟩:=hg;obtain⟨bi,rv,p,hz⟩:=I.list hq;obtain⟨f0,f1,f2,f3,f4,f5⟩:=hf it (by simp);have hl:=rv.length;exact wpAny_pyNext_list_end (I.ok.hd hc) st p.isList (by simp;lia) λh' eb=>⟨rfl,I.turned (t':=s.toks) (λb o hb e=>eb b o hb e) f0 f1 f3 f4 f5⟩
 self:=λ_ _ _ _ _ st h=>wpAny_pyIter_listiter st h
theorem u9(a it:LO):Turn P w K tg (Itt K a) [it] it (λi h=>h.IsTupleIter it a i) where
 mem:=by simp
 obj:=λi h st b hb=>by
  have e:b=it:=by simpa using hb
  subst e;obtain⟨o,e,c,d⟩:=st;exact⟨o,e,λv z=>by rw[d]at z;cases z⟩
 keep:=λi h h' st k=>st.at λo e=>k it (by simp) o e
 item:=by
  intro X hP hw hK hc i ad s σ H E I hf st hg;subst hP hw hK;obtain⟨xs,x,hq,hx⟩:=hg;obtain⟨bi,rv,p,hz⟩:=I.tuple hq;obtain⟨u,hu,ru⟩:=rv.get hx;obtain⟨f0,f1,f2,f3,f4,f5⟩:=hf it (by simp);refine wpAny_pyNext_tuple_item st (show s.heap.IsTuple a bi.toArray from p) (x:=u) (by simpa using hu) λh' be sb=>?_
  have I1:Inv X ad σ H {s with heap:=h'}:=I.turned (t':=s.toks) (λb o hb e=>(sb.2 b hb).trans e) f0 f1 f3 f4 f5;obtain⟨o,e,c,d⟩:=id be;exact⟨u,rfl,xP (s:={s with heap:=h'}) e c d (by decide) ⟨x,H,I1,ru,⟨rfl,λys hy=>by rw[I.lY hy hq];exact hx⟩,be,λb hb=>(hf b hb).1⟩⟩
 done:=by intro X hP hw hK hc i ad s σ H E I hf st hg;subst hP hw hK;obtain⟨xs,hq,hx⟩:=hg;obtain⟨bi,rv,p,hz⟩:=I.tuple hq;obtain⟨f0,f1,f2,f3,f4,f5⟩:=hf it (by simp);have hl:=rv.length;exact wpAny_pyNext_tuple_end (I.ok.hd hc) st (show s.heap.IsTuple a bi.toArray from p) (by simp;lia) λh' eb=>⟨rfl,I.turned (t':=s.toks) (λb o hb e=>eb b o hb e) f0 f1 f3 f4 f5⟩
 self:=λ_ _ _ _ _ st h=>wpAny_pyIter_tupleiter st h
theorem uD(it:LO)(lo:Int)(n:Nat):Turn P w K tg (Itr lo n) [it] it (λi h=>Rl h it (lo+(i:Nat)*1) ((n:Int)-(i:Nat)) 1) where
 mem:=by simp
 obj:=λi h st b hb=>by
  have e:b=it:=by simpa using hb
  subst e;exact⟨_,st,λv z=>by have z':Rm _=RJ v:=z;cases z'⟩
 keep:=λi h h' st k=>k it (by simp) _ st
 item:=by intro X hP hw hK hc i ad s σ H E I hf st hg;subst hP hw hK;obtain⟨f0,f1,f2,f3,f4,f5⟩:=hf it (by simp);have W:=Walks.range (prog:=X.prog) (w:=X.w) (I.ok.hd hc) it lo 1 n;refine W.item i s _ _ hg st λv h' tk hv be kk=>?_;obtain⟨t,rfl⟩:=hv;have I1:Inv X ad σ H {s with heap:=h',toks:=tk}:=I.turned (λb o hb e=>kk b o (by simpa using hb) e) f0 f1 f3 f4 f5;refine⟨_,rfl,xP (s:={s with heap:=h',toks:=tk}) (n:="range_iterator") be rfl rfl (by decide) ⟨.int (lo+i),H,I1,⟨t,?_⟩,⟨rfl,rfl⟩,be,λb hb=>(hf b hb).1⟩⟩;rw[Int.mul_one]
 done:=by intro X hP hw hK hc i ad s σ H E I hf st hg;subst hP hw hK;obtain⟨f0,f1,f2,f3,f4,f5⟩:=hf it (by simp);exact wpAny_pyNext_range_end (I.ok.hd hc) st (by have:n<=i:=hg;lia) λh' eb=>⟨rfl,I.turned (t':=s.toks) (λb o hb e=>eb b o hb e) f0 f1 f3 f4 f5⟩
 self:=λ_ _ _ _ _ st h=>wpAny_pyIter_rangeiter st h
variable {body:List Md}{fp:List LO}
section
variable{X:Cx}{tg:LY}
theorem yH{R:It->Hp->Prop}{lo hi:Int}{t u v:Tok}{tk:Nat}(I:Inv X ad σ H s)(h1:-(2 ^ 62)<=lo)(h2:lo<2 ^ 62)(h3:-(2 ^ 62)<=hi)(h4:hi<2 ^ 62)
  (q:R (Itr lo (hi-lo).toNat) H):LS (LW X.prog X.w) X.A (O1 (.ref s.heap.objs.size)) (PIE X ad σ tg R) E {s with heap:=s.heap.push { cls:=.type "range",data:=.fields #[.int lo t,.int hi u,.int 1 v] },toks:=tk}:=by
 refine wpAny_pyIter_range (IsRange.new ..) (small_one h1 h2 h3 h4) ?_;have I1:Inv X ad σ H {s with heap:=s.heap.push { cls:=.type "range",data:=.fields #[.int lo t,.int hi u,.int 1 v] },toks:=tk}:=I.kept λb o e=>LQ _ e;refine⟨(s.heap.push { cls:=.type "range",data:=.fields #[.int lo t,.int hi u,.int 1 v] }).objs.size,[(s.heap.push { cls:=.type "range",data:=.fields #[.int lo t,.int hi u,.int 1 v] }).objs.size],_,_,H,rfl,
  I1.kept (t':=tk) λb o e=>LQ _ e,uD _ lo (hi-lo).toNat,?_,λb hb=>?_,q⟩
 ·have e1:lo+((0:Nat):Int)*1=lo:=by simp
  have e2:(((hi-lo).toNat:Nat):Int)-((0:Nat):Int)=Rf lo hi 1:=by rw[rangeSize_one];split <;> lia
  show Rl _ _ (lo+((0:Nat):Int)*1) ((((hi-lo).toNat:Nat):Int)-((0:Nat):Int)) 1;rw[e1,e2];exact LX _ rfl
 have e:b=(s.heap.push { cls:=.type "range",data:=.fields #[.int lo t,.int hi u,.int 1 v] }).objs.size:=by simpa using hb
 subst e;exact I1.uW (e_ _) (I1.hok.fresh (e_ _))
def EK(ta:TA):TI:=λσ H R=>ta σ H λvs H1=>∃j:Int,vs=[.int j]/\-(2 ^ 62)<=j/\j<2 ^ 62/\R (Itr 0 j.toNat) H1
theorem xy{a:LY}{ta:TA}{p:Pos}(hg:Gl X "range")(hm:X.mg "range"=none)(ha:PA X [a] ta)(hs:L3 [a] X.env=[(false,Mi a X.env)]:=by rfl):PI X tg (.Call (.Name "range" p) [a] [] pos) (EK ta):=by
 intro ad s σ H R I h;refine Call_ (gA I hg hm boot_range (Nr (thn (ha pos ad s σ H _ I h) λus s1 ⟨vs,H1,I1,r1,q1⟩=>?_) hs rfl));obtain⟨j,e,q1,q2,q⟩:=q1;subst e;cases r1 with
 |cons r rr=>
  cases rr;obtain⟨t,rfl⟩:=r;exact call_range_1 (yH I1 (by lia) (by lia) q1 q2 (by simpa using q))
noncomputable def Gs(wi:TI)(g:TG)(tb:TS):TS:=λD σ H=>wi σ H λJ H1=>∃W:Nat->Nat->St->Hp->Prop,(∃m,W 0 m σ H1)/\∀i m σ H,W i m σ H->
 (J.stop i H/\D.nx σ H)\/(J.go i H/\∃N:St->Hp->Prop,(∀ cr H',N cr H'->∃m',m'<m/\W (i+1) m' cr H')/\∀x H',J.yld i H x H'->g x σ H' λσ2 H2=>tb { D with nx:=N,ct:=N,bk:=D.nx} σ2 H2)
noncomputable def lB(fp:List LO)(h:LZ):List (LO×Obj):=fp.filterMap λb=>(h.get? b).map λo=>(b,o)
theorem eV{o:Obj}(hb:b∈fp)(e:h.get? b=some o):(b,o)∈lB fp h:=ID.mpr ⟨b,hb,by rw[e];rfl⟩
theorem xq{p:LO×Obj}(hp:p∈lB fp h):p.1∈fp/\h.get? p.1=some p.2:=by
 obtain⟨b,hb,e⟩:=ID.mp hp;cases q:h.get? b with
 |none=>rw[q]at e;cases e
 |some o=>
  rw[q]at e;have e':(b,o)=p:=GY e;subst e';exact⟨hb,q⟩
theorem Inv.pinned (I:Inv X ad σ H s)(hf:∀b∈fp,kX X ad H b)(ho:∀b∈fp,∃o,s.heap.get? b=some o/\∀v,o.data≠.cell v):Inv X (ad++lB fp s.heap) σ H s:=
 I.vM λp hp=>(C_.mp hp).elim (λz=>I.pin p (n_ _ z)) λz=>by obtain⟨hb,e⟩:=xq z;obtain⟨f0,f1,f2,_⟩:=hf p.1 hb;obtain⟨o,e',d⟩:=ho p.1 hb;rw[e]at e';cases e';exact⟨e,f0,f1,f2,d⟩
theorem Inv.j5 {pl:List (LO×Obj)}(I:Inv X (ad++pl) σ H s):Inv X ad σ H s:=I.vM λp hp=>I.pin p (n_ _ (Hf _ hp))
theorem DB{iter:LY}{wi:TI}{g:TG}{tb:TS}(hp:PassesOwn (LW X.prog X.w) X.A X.env X.xe)(hc:X.calm=true)(hi:PI X tg iter wi)(hg:PG X tg g)(hb:PSs X body tb)
  (hs:∀x,Mz iter X.env x=pure x:=by intro _;rfl):PS X (.For tg iter body [] pos) (Gs wi g tb):=by
 intro ad s σ H D I h;refine wpAny_For (thn (hi ad s σ H _ I h) λv s1 h1=>thn h1 λitv s2 h2=>?_) hs;obtain⟨it,fp,tn,J,H2,e,I2,T,ga,f2,W,⟨m0,w0⟩,turn⟩:=h2;subst e;have stat:∀{H':Hp},(∀b∈fp,H' b=none)->∀b∈fp,kX X ad H' b:=λhn b hb=>⟨hn b hb,(f2 b hb).2⟩;refine codeAny_forLoop_any (λn s'=>∃i cr H',Inv X ad cr H' s'/\tn i s'.heap/\(∀b∈fp,H' b=none)/\W i n cr H') ?_ m0 ⟨0,σ,H2,I2,ga,λb hb=>(f2 b hb).1,w0⟩;rintro n s3 ⟨i,σ3,H3,I3,gl,fr3,w3⟩;rcases turn i n σ3 H3 w3 with⟨stop,qn⟩|⟨go,N,hN,step⟩
 ·refine NC hp (thn (T.done X rfl rfl rfl hc i ad s3 σ3 H3 X.xe I3 (stat fr3) gl stop) ?_);rintro r s4 ⟨hr,I4⟩;subst hr;exact OR ⟨σ3,H3,I4,qn⟩
 refine NC hp (thn (T.item X rfl rfl rfl hc i ad s3 σ3 H3 X.xe I3 (stat fr3) gl go) ?_);rintro r s4 ⟨u,hr,h4⟩;subst hr;refine NC hp (thn h4 ?_);rintro _ s5 ⟨x,H5,I5,r5,y5,st5,fr5⟩;have I5':=I5.pinned (stat fr5) (T.obj _ _ st5);refine NC hp (thn (hg _ s5 σ3 H5 x u _ I5' r5 (step x H5 y5)) ?_);rintro _ s6 ⟨σ6,H6,I6,q6⟩;refine NC hp (thn (hb _ s6 σ6 H6 _ I6 q6) λf s7 q7=>?_);have Oz:∀{σ7:St}{H7:Hp},Inv X (ad++lB fp s5.heap) σ7 H7 s7->N σ7 H7->∃m,m<n/\∃i cr H',Inv X ad cr H' s7/\tn i s7.heap/\(∀b∈fp,H' b=none)/\W i m cr H':=λ{σ7 H7} I7 n7=>by obtain⟨m',hm,w7⟩:=hN σ7 H7 n7;refine⟨m',hm,i+1,σ7,H7,I7.j5,T.keep _ _ _ st5 λb hb o e=>(I7.pin (b,o) (n_ _ (n_ _ (eV hb e)))).1,λb hb=>?_,w7⟩;obtain⟨o,e,d⟩:=T.obj _ _ st5 b hb;exact(I7.pin (b,o) (n_ _ (n_ _ (eV hb e)))).2.1
 cases f with
 |next=>obtain⟨σ7,H7,I7,n7⟩:=q7;exact Oz I7 n7
 |cont=>obtain⟨σ7,H7,I7,n7⟩:=q7;exact Oz I7 n7
 |brk=>obtain⟨σ7,H7,I7,q7⟩:=q7;exact⟨σ7,H7,I7.j5,q7⟩
 |ret v=>obtain⟨x7,σ7,H7,I7,r7,q7⟩:=q7;exact⟨x7,σ7,H7,I7.j5,r7,q7⟩
end
abbrev R2:=V->V->Hp->VK->Prop
def OpR(X:Cx)(f:LM->LM->Sem LM)(r:R2):Prop:=
 ∀(ad:List (LO×Obj)) (s:LP) (σ:St) (H:Hp) (x y:V) (v u:LM) (Q:VK),Inv X ad σ H s->RelV x v->RelV y u->r x y H Q->
  LS (LW X.prog X.w) X.A (f v u) (EP X ad σ Q) X.xe s
def UnR(X:Cx)(f:LM->Sem LM)(r:V->Hp->VK->Prop):Prop:=
 ∀(ad:List (LO×Obj)) (s:LP) (σ:St) (H:Hp) (x:V) (v:LM) (Q:VK),Inv X ad σ H s->RelV x v->r x H Q->
  LS (LW X.prog X.w) X.A (f v) (EP X ad σ Q) X.xe s
def bX(X:Cx)(f:LM)(r:List V->Hp->VK->Prop):Prop:=
 ∀(ad:List (LO×Obj)) (s:LP) (σ:St) (H:Hp) (xs:List V) (us:List LM) (Q:VK),Inv X ad σ H s->Vals xs us->r xs H Q->
  LS (LW X.prog X.w) X.A (call f us) (EP X ad σ Q) X.xe s
def Gn(X:Cx)(r:V->Hp->(Bool->Hp->Prop)->Prop):Prop:=
 ∀(ad:List (LO×Obj)) (s:LP) (σ:St) (H:Hp) (x:V) (v:LM) (Q:Bool->Hp->Prop),Inv X ad σ H s->RelV x v->r x H Q->
  LS (LW X.prog X.w) X.A (truthy v) (TP X ad σ Q) X.xe s
noncomputable def tOp(r:R2)(ta tb:TE):TE:=λσ H Q=>ta σ H λx H1=>tb σ H1 λy H2=>r x y H2 Q
noncomputable def tUn(r:V->Hp->VK->Prop)(ta:TE):TE:=λσ H Q=>ta σ H λx H1=>r x H1 Q
noncomputable def rI(C:Int->Int->Prop)(g:Int->Int->V):R2:=λx y H Q=>∃i j,x=.int i/\y=.int j/\C i j/\Q (g i j) H
noncomputable def rI0(g:Int->Int->V):R2:=λx y H Q=>∃i j,x=.int i/\y=.int j/\Q (g i j) H
noncomputable def rU(g:Int->V):V->Hp->VK->Prop:=λx H Q=>∃i,x=.int i/\Q (g i) H
variable {f:LM->LM->Sem LM}{g:Int->Int->Int}{op:Q2}
section
variable{X:Cx}{a b c:LY}{ta tb tc:TE}{pos:Pos}
theorem CL(ha:PE X a ta)(hb:PE X b tb){R:V->V->Hp->Prop}(I:Inv X ad σ H s)
  (h:ta σ H λx H1=>tb σ H1 λy H2=>R x y H2) {Q:LM->LP->Prop} {f:LM->LM->Sem LM}
  (hf:∀v u s2 x y H2,Inv X ad σ H2 s2->RelV x v->RelV y u->R x y H2->LS (LW X.prog X.w) X.A (f v u) Q X.xe s2) :
  LS (LW X.prog X.w) X.A (Mi a X.env) (λv s₁=>LS (LW X.prog X.w) X.A (Mi b X.env) (λu s₂=>LS (LW X.prog X.w) X.A (f v u) Q X.xe s₂) X.xe s₁) X.xe s:=by
 refine thn (ha ad s σ H _ I h) ?_;rintro v s1 ⟨x,H1,I1,r1,q1⟩;refine thn (hb ad s1 σ H1 _ I1 q1) ?_;rintro u s2 ⟨y,H2,I2,r2,q2⟩;exact hf v u s2 x y H2 I2 r1 r2 q2
theorem eQ{op:Operator}{r:R2}(ho:OpR X (MF op) r)(ha:PE X a ta)(hb:PE X b tb):PE X (.BinOp a op b pos) (tOp r ta tb):=by intro ad s σ H Q I h;exact wpAny_BinOp (CL ha hb I h λv u s2 x y H2 I2 rx ry q=>ho ad s2 σ H2 x y v u Q I2 rx ry q)
theorem Fx{op:UnaryOp}{r:V->Hp->VK->Prop}(ho:UnR X (unaryOp op) r)(ha:PE X a ta):PE X (.UnaryOp op a pos) (tUn r ta):=by intro ad s σ H Q I h;exact UnaryOp_ (thn (ha ad s σ H _ I h) λv s1 ⟨x,H1,I1,r1,q1⟩=>ho ad s1 σ H1 x v Q I1 r1 q1)
theorem opI{C:Int->Int->Prop}
  (rule:∀(i j:Int) (t u:Tok) (s:LP) (Q:LM->LP->Prop) (E:LM->LP->Prop),C i j->Q (.int (g i j) s.toks) {s with toks:=s.toks+1}->LS (LW X.prog X.w) X.A (f (.int i t) (.int j u)) Q E s) :
  OpR X f (rI C λi j=>.int (g i j)):=by
 intro ad s σ H x y v u Q I rx ry h;obtain⟨i,j,rfl,rfl,hc,q⟩:=h;obtain⟨t,rfl⟩:=rx;obtain⟨t',rfl⟩:=ry;exact rule i j t t' s _ _ hc ⟨.int (g i j),H,I.tok _,⟨_,rfl⟩,q⟩
theorem F2
  (rule:∀(i j:Int) (t u:Tok) (s:LP) (Q:LM->LP->Prop) (E:LM->LP->Prop),Q (.int (g i j) s.toks) {s with toks:=s.toks+1}->LS (LW X.prog X.w) X.A (f (.int i t) (.int j u)) Q E s) :
  OpR X f (rI0 λi j=>.int (g i j)):=by
 intro ad s σ H x y v u Q I rx ry h;obtain⟨i,j,rfl,rfl,q⟩:=h;obtain⟨t,rfl⟩:=rx;obtain⟨t',rfl⟩:=ry;exact rule i j t t' s _ _ ⟨.int (g i j),H,I.tok _,⟨_,rfl⟩,q⟩
theorem Bp{g:Int->Int->Bool}
  (rule:∀(i j:Int) (t u:Tok) (s:LP) (Q:LM->LP->Prop) (E:LM->LP->Prop),Q (.bool (g i j)) s->LS (LW X.prog X.w) X.A (f (.int i t) (.int j u)) Q E s) :
  OpR X f (rI0 λi j=>.bl (g i j)):=by
 intro ad s σ H x y v u Q I rx ry h;obtain⟨i,j,rfl,rfl,q⟩:=h;obtain⟨t,rfl⟩:=rx;obtain⟨t',rfl⟩:=ry;exact rule i j t t' s _ _ ⟨.bl (g i j),H,I,rfl,q⟩
noncomputable def A2(i j:Int):Prop:=0<j/\j<1073741824
noncomputable def GP(i j:Int):Prop:=0<=j/\j<=1000000/\i.natAbs<2 ^ 64
noncomputable def x6(i j:Int):Prop:=(-(2 ^ 64)<i/\i<2 ^ 64)\/(-(2 ^ 64)<j/\j<2 ^ 64)
theorem x6.ok {i j:Int}(h:x6 i j):IntMulOk i j:=by
 rcases h with⟨h1,h2⟩|⟨h1,h2⟩
 ·exact .of_left (QL h1 h2)
 exact .of_right (QL h1 h2)
theorem nA:OpR X (MF .Add) (rI0 λi j=>.int (i+j)):=F2 λ_ _ _ _ _ _ _ q=>add_int q
theorem Eh:OpR X (MF .Sub) (rI0 λi j=>.int (i-j)):=F2 λ_ _ _ _ _ _ _ q=>sub_int q
theorem k9:OpR X (MF .Mult) (rI x6 λi j=>.int (i*j)):=opI λ_ _ _ _ _ _ _ hc q=>mul_int q hc.ok
theorem wa:OpR X (MF .FloorDiv) (rI A2 λi j=>.int (i/j)):=opI λi j _ _ _ _ _ hc q=>by have h1:(0:Int)<j:=hc.1;have h2:j<1073741824:=hc.2;exact floordiv_int (by lia) (by rw[JY i (by lia)];exact q) (.inl (OU (by lia)))
theorem jJ:OpR X (MF .Mod) (rI (λ_ j=>0<j) λi j=>.int (i%j)):=opI λi j _ _ _ _ _ hc q=>by have h1:(0:Int)<j:=hc;exact mod_int' (by lia) (by rw[JZ i (by lia)];exact q)
theorem Dl:OpR X (MF .Pow) (rI GP λi j=>.int (i ^ j.toNat)):=opI λ_ _ _ _ _ _ _ hc q=>pow_int_small hc.1 hc.2.1 hc.2.2 q
theorem unI{f:LM->Sem LM}{g:Int->Int}
  (rule:∀(i:Int) (t:Tok) (s:LP) (Q:LM->LP->Prop) (E:LM->LP->Prop),Q (.int (g i) s.toks) {s with toks:=s.toks+1}->LS (LW X.prog X.w) X.A (f (.int i t)) Q E s) :
  UnR X f (rU λi=>.int (g i)):=by
 intro ad s σ H x v Q I rx h;obtain⟨i,rfl,q⟩:=h;obtain⟨t,rfl⟩:=rx;exact rule i t s _ _ ⟨.int (g i),H,I.tok _,⟨_,rfl⟩,q⟩
theorem Dh:UnR X (unaryOp .USub) (rU λi=>.int (-i)):=unI λ_ _ _ _ _ q=>neg_int q
theorem uk{Q:VK}{k k':Bool}(I:Inv X ad σ H s)(q:Q (.bl k) H)(e:k=k'):EP X ad σ Q (.bool k') s:=by subst e;exact⟨.bl k,H,I,rfl,q⟩
theorem FA:OpR X (Ms .Lt) (rI0 λi j=>.bl (decide (i<j))):=Bp λ_ _ _ _ _ _ _ q=>lt_int q
theorem G5:OpR X (Ms .LtE) (rI0 λi j=>.bl (decide (i<=j))):=Bp λ_ _ _ _ _ _ _ q=>le_int q
theorem FD:OpR X (Ms .Gt) (rI0 λi j=>.bl (decide (j<i))):=Bp λ_ _ _ _ _ _ _ q=>gt_int q
theorem FG:OpR X (Ms .GtE) (rI0 λi j=>.bl (decide (j<=i))):=Bp λ_ _ _ _ _ _ _ q=>ge_int q
theorem Bg:OpR X (Ms .IsNot) (λx y H Q=>y=.non/\Q (.bl (!decide (x=.non))) H):=by
 intro ad s σ H x y v u Q I rx ry h;obtain⟨rfl,q⟩:=h;cases ry;refine isnot_none_gen (uk I q ?_);cases x <;> first
  | (cases rx;rfl)
  | (obtain⟨t,rfl⟩:=rx;rfl)
theorem aA(b:LY)(h:op≠.In:=by decide)(h2:op≠.NotIn:=by decide):Nw op b=false:=by
 have e1:(op == CmpOp.In)=false:=by cases op <;> first|rfl|exact absurd rfl h
 have e2:(op == CmpOp.NotIn)=false:=by cases op <;> first|rfl|exact absurd rfl h2
 cases b <;> simp[Nw,e1,e2]
theorem AN{r:R2}(ho:OpR X (Ms op) r)(ha:PE X a ta)(hb:PE X b tb)(hm:Nw op b=false):PE X (.Compare a [op] [b] pos) (tOp r ta tb):=by intro ad s σ H Q I h;exact wpAny_Compare1 (CL ha hb I h λv u s2 x y H2 I2 rx ry q=>ho ad s2 σ H2 x y v u Q I2 rx ry q) hm
noncomputable def BY(t:TE):TT:=λσ H Q=>t σ H λx H'=>∃k,x=.bl k/\Q k H'
theorem qP{r:R2}(ho:OpR X (Ms op) r)(ha:PE X a ta)(hb:PE X b tb)(hm:Nw op b=false):PT X (.Compare a [op] [b] pos) (BY (tOp r ta tb)):=by
 intro ad s σ H Q I h;refine wpAny_isTrue_Compare1 (thn (ha ad s σ H _ I h) λv s1 ⟨x,H1,I1,r1,q1⟩=>thn (hb ad s1 σ H1 _ I1 q1) λu s2 ⟨y,H2,I2,r2,q2⟩=>
  thn (ho ad s2 σ H2 x y v u _ I2 r1 r2 q2) λc s3 ⟨z,H3,I3,r3,k,e,q3⟩=>?_) hm
 subst e;cases r3;exact M3 ⟨H3,I3,q3⟩
def DF(K:LN)(x:V)(H:Hp)(k:Bool):Prop:=
 match x with
 | .non=>k=false
 | .bl b=>k=b
 | .int i=>k=(i != 0)
 | .str y=>y.length<=sizeLine/\k=((y.length:Int) != 0)
 | .byt y=>y.size<=sizeLine/\k=((y.size:Int) != 0)
 | .ref p=>(∃xs,SqL K H p xs/\k=!xs.isEmpty)\/(∃xs,SqT K H p xs/\k=!xs.isEmpty)\/∃ap,H p=some (.dK ap)/\k=!ap.isEmpty
 | _=>False
theorem tY{κ:Type}{ap:List (κ×V)}{vs:List (κ×LM)}(r:KV ap vs):(!vs.isEmpty)=!ap.isEmpty:=by cases r <;> rfl
theorem nq{bi:List LM}(r:Vals xs bi):(!bi.toArray.isEmpty)=!xs.isEmpty:=by cases r <;> simp
theorem jN:(sizeLine:Nat)<2 ^ 63:=by rw[Mt];decide
theorem DU:Gn X (λx H Q=>∃k,DF X.K x H k/\Q k H):=by
 intro ad s σ H x v Q I rx h;obtain⟨k,e,q⟩:=h;have hl:=jN;have hs:sizeLine=16777216:=Mt;cases x with
 |non=>
  cases rx;have e':k=false:=e;subst e';exact truthy_none ⟨H,I,q⟩
 |bl b=>
  cases rx;have e':k=b:=e;subst e';exact M3 ⟨H,I,q⟩
 |int i=>
  obtain⟨t,rfl⟩:=rx;have e':k=(i != 0):=e;subst e';exact PySem.P.truthy_int ⟨H,I,q⟩
 |str y=>
  obtain⟨t,rfl⟩:=rx;obtain⟨hy,e'⟩:y.length<=sizeLine/\k=((y.length:Int) != 0):=e;subst e';exact PySem.P.truthy_str (by lia) ⟨H,I.tok _,q⟩
 |byt y=>
  obtain⟨t,rfl⟩:=rx;obtain⟨hy,e'⟩:y.size<=sizeLine/\k=((y.size:Int) != 0):=e;subst e';exact PySem.W.truthy_bytes (by lia) ⟨H,I.tok _,q⟩
 |ref p=>
  cases rx;have e':(∃xs,SqL X.K H p xs/\k=!xs.isEmpty)\/(∃xs,SqT X.K H p xs/\k=!xs.isEmpty)\/∃ap,H p=some (.dK ap)/\k=!ap.isEmpty:=e;rcases e' with⟨xs,hx,e'⟩|⟨xs,hx,e'⟩|⟨ap,hx,e'⟩
  ·subst e';obtain⟨bi,r,pl,hz⟩:=I.list hx;have hlen:=r.length;exact wpAny_truthy_list pl.isList (by simp only[j_];lia) ⟨H,I.tok _,by rw[nq r];exact q⟩
  ·subst e';obtain⟨bi,r,pl,hz⟩:=I.tuple hx;have hlen:=r.length;exact truthy_tuple pl (by simp only[j_];lia) ⟨H,I.tok _,by rw[nq r];exact q⟩
  ·subst e';obtain⟨hz,hS,vs,r,m⟩:ap.length<=sizeLine/\(p == MO)=false/\∃vs,KV ap vs/\s.heap.DictOf (bS X.prog X.w) p vs:=I.hok p _ hx;have hlen:ap.length=vs.length:=NX r;exact wpAny_truthy_dict hS m (by lia) ⟨H,I.tok _,by rw[tY r];exact q⟩
 | _=>exact(show False from e).elim
theorem zG(ha:PE X a ta)(he:∀whole,Pm a X.env whole=(do let v <-whole;Qr a.pos;N5 [v] (truthy v))) :
  PT X a (λσ H Q=>ta σ H λx H'=>∃k,DF X.K x H' k/\Q k H'):=by
 intro ad s σ H Q I h;exact isTrue_plain (thn (ha ad s σ H _ I h) λv s1 ⟨x,H1,I1,r1,q1⟩=>DU ad s1 σ H1 x v Q I1 r1 q1) (he _)
theorem uH:OpR X (MF .Add) (λx y H Q=>∃i j,x=.str i/\y=.str j/\i.length+j.length<=sizeLine/\Q (.str (i++j)) H):=by intro ad s σ H x y v u Q I rx ry h;obtain⟨i,j,rfl,rfl,hz,q⟩:=h;obtain⟨t,rfl⟩:=rx;obtain⟨t',rfl⟩:=ry;exact add_str (λt' tk=>⟨.str (i++j),H,I.tok _,⟨_,rfl⟩,q⟩) hz
theorem vals1{x:V}(r:Vals [x] us):∃u,us=[u]/\RelV x u:=by
 cases r with
 |cons r1 r2=>cases r2;exact⟨_,rfl,r1⟩
theorem vals2{x y:V}(r:Vals [x,y] us):∃u w',us=[u,w']/\RelV x u/\RelV y w':=by
 cases r with
 |cons r1 r2=>
  cases r2 with
  |cons r3 r4=>cases r4;exact⟨_,_,rfl,r1,r3⟩
theorem yb:bX X (.builtin "abs") (λxs H Q=>∃i,xs=[.int i]/\Q (.int (if i<0 then -i else i)) H):=by intro ad s σ H xs us Q I r h;obtain⟨i,rfl,q⟩:=h;obtain⟨u,rfl,t,rfl⟩:=vals1 r;exact call_abs_int λu tk=>⟨.int (if i<0 then -i else i),H,I.tok _,⟨_,rfl⟩,q⟩
theorem xo(hc:X.calm=true):bX X (.builtin "max") (λxs H Q=>∃i j,xs=[.int i,.int j]/\Q (.int (if j > i then j else i)) H):=by
 intro ad s σ H xs us Q I r h;obtain⟨i,j,rfl,q⟩:=h;obtain⟨u,w',rfl,⟨t,rfl⟩,⟨t',rfl⟩⟩:=vals2 r;refine max_two_ints (I.ok.hd hc) λh' tk k=>⟨_,H,I.kept k,?_,q⟩;by_cases hj:j > i
 ·rw[if_pos hj,if_pos hj];exact⟨_,rfl⟩
 rw[if_neg hj,if_neg hj];exact⟨_,rfl⟩
theorem xl(hc:X.calm=true):bX X (.builtin "min") (λxs H Q=>∃i j,xs=[.int i,.int j]/\Q (.int (if j<i then j else i)) H):=by
 intro ad s σ H xs us Q I r h;obtain⟨i,j,rfl,q⟩:=h;obtain⟨u,w',rfl,⟨t,rfl⟩,⟨t',rfl⟩⟩:=vals2 r;refine min_two_ints (I.ok.hd hc) λh' tk k=>⟨_,H,I.kept k,?_,q⟩;by_cases hj:j<i
 ·rw[if_pos hj,if_pos hj];exact⟨_,rfl⟩
 rw[if_neg hj,if_neg hj];exact⟨_,rfl⟩
theorem tD:bX X (.builtin "divmod") (λxs H Q=>∃i j,xs=[.int i,.int j]/\A2 i j/\∀p,H p=none->Q (.ref p) (upd H p (.tup [.int (i/j),.int (i%j)]))):=by intro ad s σ H xs us Q I r h;obtain⟨i,j,rfl,⟨h1,h2⟩,q⟩:=h;obtain⟨u,w',rfl,⟨t,rfl⟩,⟨t',rfl⟩⟩:=vals2 r;refine divmod_int (by lia) ?_ (.inl (OU (by lia)));rw[JY i (by lia),JZ i (by lia)];have hn:H s.heap.objs.size=none:=I.hok.fresh (e_ _);refine⟨.ref s.heap.objs.size,_,?_,rfl,q _ hn⟩;refine I.laid (λb o e=>LQ _ e) (e_ _) ⟨by simp only[f_,HG];rw[Mt];decide,[.int (i/j) s.toks,.int (i%j) (s.toks+1)],.cons ⟨_,rfl⟩ (.cons ⟨_,rfl⟩ .nil),?_⟩;exact⟨_,LX s.heap rfl,rfl,0,rfl⟩
end
theorem p9.some_of {o:Option LM}(r:p9 (some v) o):∃u,o=some u/\RelV v u:=by
 cases o with
 |none=>exact(show False from r).elim
 |some u=>exact⟨u,rfl,r⟩
structure Room (k:Nat) (A:L_):Prop where
 hd:A.handled=none
 dp:A.depth+3*k+5<recursionLimit
 un:A.units+16*k+200<cLine
 gs:A.guards=some []
theorem Room.mono {k:Nat}(r:Room k A)(h:j<=k):Room j A:=⟨r.hd,by have:=r.dp;lia,by have:=r.un;lia,r.gs⟩
theorem Room.deeper {k:Nat}(r:Room (k+1) A)(env:Env):Room k (A.deeper env):=
 ⟨r.hd,by have:=r.dp;show A.depth+1+3*k+5<_;lia,by have:=r.un;show A.units+3+16*k+200<_;lia,r.gs⟩
theorem Room.depth {k:Nat}(r:Room k A):A.depth<recursionLimit:=by have:=r.dp;lia
theorem Room.units {k:Nat}(r:Room k A):A.units+64<cLine:=by have:=r.un;lia
noncomputable def GN:TA:=λ_ H Q=>Q [] H
noncomputable def G3(ta:TE)(tr:TA):TA:=λσ H Q=>ta σ H λx H1=>tr σ H1 λxs H2=>Q (x::xs) H2
section
variable{X:Cx}{e:LY}{es:List LY}{te:TE}{t:TA}{pos:Pos}
theorem jS:PA X [] GN:=λ_ _ _ _ H Q I h=>PK ⟨[],H,I,.nil,h⟩
theorem gK(ha:PE X e te)(hr:PA X es t)(hs:L3 (e::es) X.env=(false,Mi e X.env)::L3 es X.env:=by rfl):PA X (e::es) (G3 te t):=by intro pos ad s σ H Q I h;rw[hs];show LS _ _ (spliced ((false,Mi e X.env)::Nm pos (L3 es X.env))) _ _ s;refine MR (thn (ha ad s σ H _ I h) ?_);rintro u s1 ⟨x,H1,I1,r1,q1⟩;exact thn (hr pos ad s1 σ H1 _ I1 q1) λus s2 ⟨xs,H2,I2,r2,q2⟩=>⟨x::xs,H2,I2,.cons r1 r2,q2⟩
def Gb(t:TA):TE:=λσ H Q=>t σ H λxs H1=>xs.length<=sizeLine/\∀p,H1 p=none->Q (.ref p) (upd H1 p (.lst xs))
theorem zO(h:PA X es t):PE X (.List es pos) (Gb t):=by intro ad s σ H Q I hq;refine Po (thn (h pos ad s σ H _ I hq) λus s1 ⟨xs,H1,I1,r,z,q⟩=>⟨by rw[<-r.length];exact z,?_⟩);have hf:H1 s1.heap.objs.size=none:=I1.hok.fresh (e_ _);refine⟨.ref s1.heap.objs.size,upd H1 s1.heap.objs.size (.lst xs),I1.laid (t':=s1.toks) (λb u e=>LQ _ e) (e_ _) ?_,rfl,q _ hf⟩;exact⟨z,us,0,r,LX _ rfl⟩
end
abbrev Sp:=List V->Hp->VK->XK->Prop
abbrev CXT:=List Env->Hp->LP->XK->LM->LP->Prop
structure Env0 (P:LV) (w:L0) (K:LN) (mg:Str->Option LM) (base:LZ) (A:L_) (outer:List Env) (s:LP) (H:Hp):Prop where
 frames:A.frames=some outer
 mod:Mod K mg base
 bs:∀b o,base.get? b=some o->s.heap.get? b=some o/\H b=none
 bsz:base.objs.size<=s.heap.objs.size
 nU:s.heap.FunFrames base outer
 frf:∀b∈frs outer,H b=none
 hok:HOk P w H s.heap
 bare:N4 s.gens
def CE(outer:List Env)(P:LV)(w:L0)(H:Hp)(s:LP)(Q:VK)(u:LM)(s':LP):Prop:=
 ∃v H',s'.os=s.os/\N4 s'.gens/\Un (frs outer) [] H H' s.heap s'.heap/\HOk P w H' s'.heap/\RelV v u/\Q v H'
def CR(CX:CXT)(outer:List Env)(P:LV)(w:L0)(H:Hp)(s:LP)(Q:VK)(E:XK)(r:Q5)(s':LP):Prop:=
 match r with
 | .ok (.ret u)=>CE outer P w H s Q u s'
 | .ok _=>False
 | .error e=>CX outer H s E e s'
structure FnOk (P:LV) (w:L0) (K:LN) (mg:Str->Option LM) (base:LZ) (CX:CXT) (k:Nat) (f:LO) (fd:L6) (ps:List Str) (sp:Sp):Prop where
 len:∀vs H Q E,sp vs H Q E->vs.length=ps.length
 run:∀(A:L_) (outer:List Env) (s:LP) (H:Hp) (args:Args) (us:List LM) (vs:List V) (Q:VK) (E:XK),Room k A->Env0 P w K mg base A outer s H->O2 s fd args (ps.zip us)->Vals vs us->sp vs H Q E->
  Nn (LW P w) A (.call (.ref f) args) (CR CX outer P w H s Q E) s
variable {CX:CXT}{base:LZ}{mg:Str->Option LM}{ps:List Str}
theorem FnOk.imp {k:Nat}{f:LO}{fd:L6}{sp sp':Sp}(F:FnOk P w K mg base CX k f fd ps sp)
  (h:∀vs H Q E,sp' vs H Q E->sp vs H Q E):FnOk P w K mg base CX k f fd ps sp':=
 ⟨λvs H Q E q=>F.len vs H Q E (h _ _ _ _ q),λA outer s H args us vs Q E hr he hb hv hs=>F.run A outer s H args us vs Q E hr he hb hv (h _ _ _ _ hs)⟩
section
variable{X:Cx}{ad:List (LO×Obj)}{σ:St}{H:Hp}{s s':LP}
theorem Inv.Ga (I:Inv X ad σ H s):Env0 X.prog X.w X.K X.mg X.base X.A X.stack s H:=
 ⟨I.ok.frames,I.ok.mod,I.bs,GZ I.ok.bsz I.sz,I.stack,I.vk,I.hok,I.bare⟩
theorem Inv.after {Q:VK}(I:Inv X ad σ H s)(h:CE X.stack X.prog X.w H s Q u s'):EP X ad σ Q u s':=by obtain⟨v,H',os,bare,un,hok,r,q⟩:=h;obtain⟨hh,g,d,t,os'⟩:=s';obtain rfl:os'=s.os:=os;exact⟨v,H',I.call (h':=hh) (g':=g) (d':=d) (t':=t) (ch:=[]) un hok bare (λb z=>absurd z (by simp)),r,q⟩
end
noncomputable def zu(sp:Sp)(dvs:List V)(E:XK)(t:TA):TE:=λσ H Q=>t σ H λvs H1=>sp (vs++dvs) H1 Q E
noncomputable def Binds(K:LN)(fd:L6)(ps:List Str)(ds:List LM):Prop:=
 ∀(s:LP) (us:List LM),K.In s.heap->(us++ds).length=ps.length->O2 s fd ⟨us,[]⟩ (ps.zip (us++ds))
theorem Binds.all {fd:L6}(h:∀us:List LM,us.length=ps.length->Q6 fd ⟨us,[]⟩=pure (ps.zip us)):Binds K fd ps []:=λs us _ hl=>by rw[Hn]at hl ⊢;exact .of_eq (h us hl)
noncomputable def Passes(CX:CXT)(X:Cx)(E:XK):Prop:=∀(ad:List (LO×Obj)) (σ:St) (H:Hp) (s:LP) (e:LM) (s':LP),Inv X ad σ H s->CX X.stack H s E e s'->X.xe e s'
variable {vs:List V}
section
variable{X:Cx}{CX:CXT}{k:Nat}{f C:LO}{fd:L6}{ps:List Str}{sp:Sp}{dvs:List V}{ds:List LM}{E:XK}{x m:Str}{p pos apos:Pos}{e o:LY}{es:List LY}{ta:TE}{t:TA}
theorem Cp{Q:VK}(F:FnOk X.prog X.w X.K X.mg X.base CX k f fd ps sp)(hr:Room k X.A)(hb:Binds X.K fd ps ds)(hd:Vals dvs ds)(hx:Passes CX X E)
  (I:Inv X ad σ H s) (r:Vals vs us) (h:sp (vs++dvs) H Q E):LS (LW X.prog X.w) X.A (call (.ref f) us) (EP X ad σ Q) X.xe s:=by
 have r2:Vals (vs++dvs) (us++ds):=r.append hd;have hl:(us++ds).length=ps.length:=by rw[<-r2.length];exact F.len _ _ _ _ h
 refine wpAny_call (Np (F.run X.A X.stack s H ⟨us,[]⟩ (us++ds) (vs++dvs) Q E hr I.Ga (hb s us I.kIn hl) r2 h) λr s' hq=>?_);cases r with
 |error e=>exact hx ad σ H s e s' I hq
 |ok fl=>
  cases fl with
  |ret u=>exact I.after hq
  |next=>exact L4 hq
  |brk=>exact L4 hq
  |cont=>exact L4 hq
theorem AZ(F:FnOk X.prog X.w X.K X.mg X.base CX k f fd ps sp)(hr:Room k X.A)(hg:Gl X x)(hm:X.mg x=some (.ref f))(hk:NO X.K (.ref f)=true)(hb:Binds X.K fd ps ds)(hd:Vals dvs ds)(hx:Passes CX X E)
  (ha:PA X (e::es) t) (hdb:(x ==("__debug__":Str))=false:=by decide) (he:L3 (e::es) X.env=(false,Mi e X.env)::L3 es X.env:=by rfl) (hpl:(Nm pos (L3 es X.env)).any (·.1)=false:=by rfl) :
  PE X (.Call (.Name x p) (e::es) [] pos) (zu sp dvs E t):=by
 intro ad s σ H Q I h;refine MC (vZ I hg hm ?_ hdb);refine PySem.W.callWith_K (h₀:=X.base) I.ok.mod.kin hk (thn (ha pos ad s σ H _ I h) λus s1 ⟨vs,H1,I1,r,q⟩=>⟨I1.kIn,?_⟩) he hpl;exact Cp F hr hb hd hx I1 r q
end
structure FnScope (N P:List Str) (sc:MD):Prop where
 kind:sc.kind=.function
 co:sc.isCoroutine=false
 gen:sc.isGenerator=false
 nd:N.Nodup
 pre:N.take P.length=P
 par:∀x∈P,sc.names.lookup x=some .local\/sc.names.lookup x=some .cell
 nofree:∀y∈sc.names,y.2≠.free
theorem pM{kindOf:Str->Option M8}{x:Str}:∀{binds:List (Str×LM)}{m:Str->Option LM},(∀v,(x,v) ∉ binds)->O_ kindOf binds m x=m x
 | [],_,_=>rfl
 | (n,v)::r,m,h=>by
  unfold O_;rw[pM λw hw=>h w (l_ _ hw)];split
  ·have:x≠n:=by rintro rfl;exact h v A_
   simp[this]
  rfl
theorem qh{kindOf:Str->Option M8}{x:Str}:∀{binds:List (Str×LM)}{m:Str->Option LM},(∀v,(x,v) ∉ binds)->O' kindOf binds m x=m x
 | [],_,_=>rfl
 | (n,v)::r,m,h=>by
  unfold O';rw[qh λw hw=>h w (l_ _ hw)];split
  ·rfl
  have:x≠n:=by rintro rfl;exact h v A_
  simp[this]
theorem ql{kindOf:Str->Option M8}{x:Str}{v:LM}:∀{P:List Str}{vs:List LM}{i:Nat}{m:Str->Option LM},P.Nodup->P[i]?=some x->vs[i]?=some v->kindOf x=some .local->
  O_ kindOf (P.zip vs) m x=some v
 | [],_,_,_,_,h,_,_=>by simp at h
 | _::_,[],_,_,_,_,h,_=>by simp at h
 |p::P,w::vs,0,m,nd,h1,h2,hk=>by simp at h1 h2;subst h1;subst h2;show O_ kindOf ((p,w)::P.zip vs) m p=_;unfold O_;rw[pM λv hv=>(kw.mp nd).1 (JE hv).1,if_pos hk];simp
 |p::P,w::vs,i+1,m,nd,h1,h2,hk=>by show O_ kindOf ((p,w)::P.zip vs) m x=_;unfold O_;exact ql (i:=i) (kw.mp nd).2 (by simpa using h1) (by simpa using h2) hk
theorem pA{kindOf:Str->Option M8}{x:Str}{v:LM}:∀{P:List Str}{vs:List LM}{i:Nat}{m:Str->Option LM},P.Nodup->P[i]?=some x->vs[i]?=some v->kindOf x≠some .local->
  O' kindOf (P.zip vs) m x=some v
 | [],_,_,_,_,h,_,_=>by simp at h
 | _::_,[],_,_,_,_,h,_=>by simp at h
 |p::P,w::vs,0,m,nd,h1,h2,hk=>by simp at h1 h2;subst h1;subst h2;show O' kindOf ((p,w)::P.zip vs) m p=_;unfold O';rw[qh λv hv=>(kw.mp nd).1 (JE hv).1,if_neg hk];simp
 |p::P,w::vs,i+1,m,nd,h1,h2,hk=>by show O' kindOf ((p,w)::P.zip vs) m x=_;unfold O';exact pA (i:=i) (kw.mp nd).2 (by simpa using h1) (by simpa using h2) hk
noncomputable def start(N:List Str)(vs:List V):St:=vs.map some++Ij (N.length-vs.length) none
noncomputable def uE(CX:CXT)(P:LV)(w:L0)(K:LN)(mg:Str->Option LM)(base:LZ)(N:List Str)(qual:Str)(scope:MD)(f:LO)(cd:LM)(A:L_)(outer:List Env)(s:LP)(H:Hp)(E:XK):Cx where
 prog:=P
 w:=w
 K:=K
 mg:=mg
 base:=base
 A:=A.deeper (N9 qual scope s.heap.objs.size f cd)
 N:=N
 s₀:=s
 H₀:=H
 env:=N9 qual scope s.heap.objs.size f cd
 outer:=outer
 stack:=N9 qual scope s.heap.objs.size f cd::outer
 ex:=[]
 calm:=true
 fn:=λ_=>true
 pn:=[]
 xe:=λe s'=>LS (LW P w) (A.deeper (N9 qual scope s.heap.objs.size f cd)) (leaving (N9 qual scope s.heap.objs.size f cd) e) (λ_ s''=>CX outer H s E e s'') (λe' s''=>CX outer H s E e' s'') s'
theorem si{sc:MD}{n:Nat}(h:sc.names.lookup x=some .cell):∃c,(QG n sc.names []).lookup x=some c:=by have q:=OV sc.names n [] (.inl h);exact HK.mp q
theorem xH{qual:Str}{scope:MD}{f:LO}{cd:LM}{outer:List Env}{s1:LP}{E:XK}
  (S:FnScope N ps scope) (hd:A.handled=none) (e0:Env0 P w K mg base A outer s H) (hl:vs.length=ps.length) (r:Vals vs us)
  (x:InCallC s s.heap.objs.size (O_ (N9 qual scope s.heap.objs.size f cd).kindOf (ps.zip us) λ_=>none) (QG (s.heap.objs.size+1) scope.names []) (O' (N9 qual scope s.heap.objs.size f cd).kindOf (ps.zip us) λ_=>none) s1) :
  Inv (uE CX P w K mg base N qual scope f cd A outer s H E) [] (start N vs) H s1:=by
 have hpl:ps.length<=N.length:=by have:=congrArg Kq S.pre;rw[q_]at this;lia
 obtain⟨h1,tk,rfl,hk⟩:=x.done;have noA:∀b:LO,b ∉ (uE CX P w K mg base N qual scope f cd A outer s H E).ex:=λb z=>absurd (show b∈([]:List LO)from z) (by simp)
 refine⟨⟨e0.mod,S.kind,rfl,rfl,e_ _,λy z c h1 h2=>?_,λy hy=>?_,λy c _ h=>?_,λ_=>hd,Around.frames_deeper e0.frames,.inr ⟨rfl,rfl⟩,λb z=>absurd z (noA b),e0.bs,e0.bsz,λb _ _=>noA b,λb z=>absurd z (noA b),e0.nU,e0.frf⟩,
  rfl,e0.bare,Un.kept hk,⟨_,x.toInCall.ns,λi y v h1 h2 h3=>?_⟩,λy c h=>⟨_,x.cell y c h⟩,e0.hok.fresh (e_ _),λy c h=>?_,λp hp=>absurd (show p∈([]:List (LO×Obj))from hp) (by simp),e0.hok.kept hk,?_⟩
 ·exact name_of_addr x.apart (MI h1) (MI h2)
 ·have hy:scope.names.lookup y=some .cell\/scope.names.lookup y=some .free:=hy;rcases hy with hy|hy
  ·exact si hy
  exact absurd rfl (S.nofree _ (MI hy))
 ·exact IK (x.above y c (MI h))
 ·have hi:i<vs.length:=by
   unfold start at h2;by_cases hi:i<vs.length
   ·exact hi
   rw[Hi (by simpa using hi)]at h2;rw[List.getElem?_replicate]at h2;split at h2 <;> cases h2
  have ha:vs[i]?=some v:=by
   unfold start at h2;rw[Hk (by simpa using hi),y_]at h2;cases e:vs[i]? with
   |none=>rw[e]at h2;cases h2
   |some a=>rw[e]at h2;cases h2;rfl
  obtain⟨u,hu,rv⟩:=r.get ha;have hp:ps[i]?=some y:=by rw[<-S.pre,Ho (by lia)];exact h1
  have ndP:ps.Nodup:=by rw[<-S.pre];exact S.nd.sublist (List.take_sublist _ _)
  refine⟨u,rv,?_⟩;rcases S.par y (D_ hp)with k|k
  ·exact .inl ⟨k,ql ndP hp hu k⟩
  obtain⟨c,e⟩:=si (n:=s.heap.objs.size+1) k;refine .inr ⟨.inl k,c,e,?_⟩;have q:=x.cell y c e;rw[pA ndP hp hu (by show scope.names.lookup y≠_;rw[k];decide)]at q;exact q
 ·exact e0.hok.fresh (IK (x.above y c (MI h)))
 unfold start;show _=N.length;rw[b_,a_,List.length_replicate];lia
theorem F0{k:Nat}{f:LO}{name qual:Str}{params:Arguments}{scope:MD}{dV kV doc pm cdv ct oc:LM}{an od:Option LO}
  {osl:Array (Option LM)}{N ps:List Str}{sp:Sp} (lk:K.lookup f=some ⟨oc,od,.func (MS name qual params body scope dV kV doc pm an cdv ct),osl⟩) (hcd:Oc K cdv qual=true) (S:FnScope N ps scope)
  (len:∀vs H Q E,sp vs H Q E->vs.length=ps.length)
  (hbody:∀(A:L_) (outer:List Env) (s:LP) (H:Hp) (vs:List V) (Q:VK) (E:XK),Room k (A.deeper (N9 qual scope s.heap.objs.size f cdv))->sp vs H Q E->
   ∃t,PSs (uE CX P w K mg base N qual scope f cdv A outer s H E) body t/\t { nx:=λ_ H'=>Q .non H',rt:=Q} (start N vs) H) :
  FnOk P w K mg base CX (k+1) f (MS name qual params body scope dV kV doc pm an cdv ct) ps sp:=by
 refine⟨len,λA outer s H args us vs Q E hr e0 hb r hsp=>?_⟩;have hl:=len _ _ _ _ hsp;have KX:K.In s.heap:=e0.mod.kin.keeps λb o e=>(e0.bs b o e).1;have lim:s.heap.NoLimit:=e0.mod.nolimit.keeps λb o e=>(e0.bs b o e).1;have hkind:∀y∈ps.zip us,scope.names.lookup y.1=some .local\/(scope.names.lookup y.1=some .cell/\((QG (s.heap.objs.size+1) scope.names []).lookup y.1).isSome=true):=λ⟨n,v⟩ hy=>by
  rcases S.par n (JE hy).1 with q|q
  ·exact .inl q
  exact .inr ⟨q,OV _ _ _ (.inl q)⟩
 refine codeAny_call_function hr.depth (KX _ _ lk) rfl S.co S.gen rfl (PySem.W.codeRec_of KX hcd) (hb _ _ _ _ ?_);refine wpAny_newFunctionEnv_cells S.kind hkind λenv he s1 x=>?_;subst he;refine⟨lim.keeps x.toInCall.keep,codeAny_func ?_⟩;obtain⟨t,ht,hq⟩:=hbody A outer s H vs Q E (hr.deeper _) hsp;have I:Inv (uE CX P w K mg base N qual scope f cdv A outer s H E) [] (start N vs) H s1:=xH S hr.hd e0 hl r x;refine Ml (ht [] s1 (start N vs) H _ I hq) (λfl s' hs=>?_) λe s' hs=>hs;have fin:∀{cr:St}{H':Hp}{v:V}{u:LM},Inv (uE CX P w K mg base N qual scope f cdv A outer s H E) [] cr H' s'->RelV v u->Q v H'->CE outer P w H s Q u s':=
  λ{cr H' v u} J rv q=>⟨v,H',J.os,J.bare,J.base,J.hok,rv,q⟩
 cases fl with
 |ret u=>
  obtain⟨v,cr,H',J,rv,q⟩:=hs;exact fin J rv q
 |next=>
  obtain⟨cr,H',J,q⟩:=hs;exact fin (v:=V.non) (u:=ME) J rfl q
 |brk=>
  obtain⟨_,_,_,q⟩:=hs;exact L4 q
 |cont=>
  obtain⟨_,_,_,q⟩:=hs;exact L4 q
section
variable{X:Cx}{x:Str}{p pos:Pos}{e:LY}{es:List LY}{t:TA}{id T:String}{r:List V->Hp->VK->Prop}
noncomputable def tCB(r:List V->Hp->VK->Prop)(t:TA):TE:=λσ H Q=>t σ H λvs H1=>r vs H1 Q
theorem oa(hc:bX X (.builtin id) r)(hg:Gl X x)(hm:X.mg x=none)(hv:MQ x=some (.builtin id))(ha:PA X (e::es) t)(hn:x≠"__name__":=by decide)(hdb:(x ==("__debug__":Str))=false:=by decide)
  (he:L3 (e::es) X.env=(false,Mi e X.env)::L3 es X.env:=by rfl) (hpl:(Nm pos (L3 es X.env)).any (·.1)=false:=by rfl):PE X (.Call (.Name x p) (e::es) [] pos) (tCB r t):=by
 intro ad s σ H Q I h;refine MC (gA I hg hm hv ?_ hn hdb);exact Qc (thn (ha pos ad s σ H _ I h) λus s1 ⟨vs,H1,I1,r1,q1⟩=>hc ad s1 σ H1 vs us Q I1 r1 q1) he hpl
theorem pR(hc:bX X (.type T) r)(hg:Gl X x)(hm:X.mg x=none)(hv:MQ x=some (.type T))(ha:PA X (e::es) t)(hn:x≠"__name__":=by decide)(hdb:(x ==("__debug__":Str))=false:=by decide)
  (he:L3 (e::es) X.env=(false,Mi e X.env)::L3 es X.env:=by rfl) (hpl:(Nm pos (L3 es X.env)).any (·.1)=false:=by rfl):PE X (.Call (.Name x p) (e::es) [] pos) (tCB r t):=by
 intro ad s σ H Q I h;refine MC (gA I hg hm hv ?_ hn hdb);exact Nr (thn (ha pos ad s σ H _ I h) λus s1 ⟨vs,H1,I1,r1,q1⟩=>hc ad s1 σ H1 vs us Q I1 r1 q1) he hpl
end
end L2
namespace HT
open PySem PyProof.Rows
variable {Q:LM->LP->Prop}{hi lo:Option Int}
section
variable{prog:LV}{w:L0}{A:L_}{E:LM->LP->Prop}{s:LP}
theorem A7{t b:LO}{vs ws:List LM}(ht:Q1 s.heap t vs.toArray)(hb:Q1 s.heap b ws.toArray)(hv:vs≠[])
  (h1:ws=[]->Q (.ref t) s) (h2:ws≠[]->Q (.ref s.heap.objs.size) {s with heap:=s.heap.push { cls:=.type "tuple",data:=.seq (vs++ws).toArray} })
  (hsz:vs.length+ws.length<=sizeLine):LS (LW prog w) A (MF .Add (.ref t) (.ref b)) Q E s:=by
 obtain⟨⟨cls,dd,data,sl⟩,ho,hc,n,hd⟩:=id ht;obtain⟨⟨cls2,dd2,data2,sl2⟩,ho2,hc2,n2,hd2⟩:=id hb;simp only at hc hd hc2 hd2;subst hc hd hc2 hd2;have e:vs.toArray++ws.toArray=(vs++ws).toArray:=by simp
 by_cases hw:ws=[]
 ·exact Pp ⟨_,ho,rfl⟩ ⟨_,ho2,rfl⟩ OG Pf NU NP (NI _ _)
   (tuple_addW1 t b vs.toArray ws.toArray n n2 dd dd2 sl sl2 (by simpa using hv) (by simp[hw])) ⟨ho,ho2,h1 hw⟩
 refine Pp ⟨_,ho,rfl⟩ ⟨_,ho2,rfl⟩ OG Pf NU NP (NI _ _)
  (tuple_addW2 t b vs.toArray ws.toArray n n2 dd dd2 sl sl2 (by simpa using hv) (by simpa using hw) (by rw[j_,j_];exact hsz)) ⟨ho,ho2,?_⟩
 rw[e];exact h2 hw
noncomputable def sIx(n d:Nat):Option Int->Nat
 |none=>d
 |some v=>if v<0 then(v+(n:Int)).toNat else min v.toNat n
theorem jf(n d:Nat):sIx n d none=d:=rfl
theorem i7(n d k:Nat):sIx n d (some (k:Int))=min k n:=by show(if(k:Int)<0 then((k:Int)+(n:Int)).toNat else min (k:Int).toNat n)=min k n;rw[if_neg (by lia),HR]
theorem Cq(n d:Nat)(hd:d<=n)(o:Option Int):sIx n d o<=n:=by
 cases o with
 |none=>exact hd
 |some v=>
  show(if v<0 then(v+(n:Int)).toNat else min v.toNat n)<=n;by_cases hv:v<0
  ·rw[if_pos hv];lia
  rw[if_neg hv];exact Nat.min_le_right _ _
theorem vz(v:Int)(n d:Nat):(if v<0 then max (v+(n:Int)) 0 else min v (n:Int))=((sIx n d (some v):Nat):Int):=by
 show(if v<0 then max (v+(n:Int)) 0 else min v (n:Int))=(((if v<0 then(v+(n:Int)).toNat else min v.toNat n):Nat):Int);by_cases hv:v<0
 ·simp only[if_pos hv];lia
 simp only[if_neg hv];lia
theorem uC(lo hi:Option Int)(n:Nat):ND lo hi 1 (n:Int)=(((sIx n 0 lo:Nat):Int),((sIx n n hi:Nat):Int)):=by
 have h1:¬((1:Int)<0):=by lia
 unfold ND;simp only[h1,if_false];refine Hr ?_ ?_
 ·cases lo with
  |none=>rfl
  |some v=>exact vz v n 0
 cases hi with
 |none=>rfl
 |some v=>exact vz v n n
theorem uI(i j:Nat):M5 (i:Int) (j:Int) 1=j-i:=by
 unfold M5;have h1:(1:Int) > 0:=by lia
 simp only[h1,if_true,Int.ediv_one];split <;> lia
theorem oG{v:LM}{o:Option Int}{Q:Option Int->LP->Prop}(p:OH v o)(h:Q o s):LS (LW prog w) A (Qt v) Q E s:=by
 cases p with
 |none=>exact Qu h
 |int i t=>exact slicePart_int h
theorem lA{sl:LO}{vl vu:LM}{n:Nat}{Q:Int×Int×Nat->LP->Prop}(hs:s.heap.IsSliceOf sl vl vu .none)(pl:OH vl lo)(pu:OH vu hi)
  (h:Q (((sIx n 0 lo:Nat):Int),1,sIx n n hi-sIx n 0 lo) s):LS (LW prog w) A (Ot (.ref sl) (pure (n:Int))) Q E s:=by
 obtain⟨os,hos,hcs,hds⟩:=id hs;unfold Ot Q3;refine LL (LL (Mh hos hds (x:=vl) rfl (LL (Mh hos hds (x:=vu) rfl (LL (Mh hos hds (x:=.none) rfl (LR ?_)))))));refine LL (Qu ?_);show LS _ _ (if((1:Int) == 0)=true then _ else _) _ _ s;rw[if_neg (by decide)];refine LL (oG pl (LL (oG pu (LL (LR ?_)))));show LS _ _ (match ND lo hi 1 (n:Int)with|(lo,hi)=>pure (lo,(1:Int),M5 lo hi 1)) _ _ s;rw[uC lo hi n];show LS _ _ (pure (((sIx n 0 lo:Nat):Int),(1:Int),M5 ((sIx n 0 lo:Nat):Int) ((sIx n n hi:Nat):Int) 1)) _ _ s;rw[uI];exact LR h
theorem yY(xs:Array LM)(i k:Nat):((r_ k).filterMap λ(m:Nat)=>xs[((i:Int)+(m:Int)*1).toNat]?).toArray=((xs.toList.drop i).take k).toArray:=by
 have e:(λ(m:Nat)=>xs[((i:Int)+(m:Int)*1).toNat]?)=λm=>xs[i+m]?:=by
  funext m;have:((i:Int)+(m:Int)*1).toNat=i+m:=by lia
  rw[this]
 rw[e];have:=pick_run xs i k;rw[List.filterMap_map]at this;have e2:((λx=>xs[x]?) ∘ λx=>i+x)=λm=>xs[i+m]?:=rfl;rw[e2]at this;rw[this]
theorem kc{t sl:LO}{items:Array LM}{vl vu:LM}(ht:Q1 s.heap t items)(hs:s.heap.IsSliceOf sl vl vu .none)(pl:OH vl lo)(pu:OH vu hi)
  (hw:¬(sIx items.size 0 lo=0/\sIx items.size items.size hi=items.size))
  (h:Q (.ref s.heap.objs.size) {s with heap:=s.heap.push { cls:=.type "tuple",data:=.seq ((items.toList.drop (sIx items.size 0 lo)).take (sIx items.size items.size hi-sIx items.size 0 lo)).toArray} })
  (hsz:items.size<=sizeLine):LS (LW prog w) A (Od (.ref t) (.ref sl)) Q E s:=by
 have htake:sizeOk (.seq ((items.toList.drop (sIx items.size 0 lo)).take (sIx items.size items.size hi-sIx items.size 0 lo)).toArray):=by show((items.toList.drop (sIx items.size 0 lo)).take (sIx items.size items.size hi-sIx items.size 0 lo)).toArray.size<=sizeLine;rw[j_,q_,o_,G'];omega
 have hj:sIx items.size items.size hi<=items.size:=Cq _ _ (e_ _) hi;obtain⟨os,hos,hcs,hds⟩:=id hs;have hTs:s.TypeIs (.ref sl) "slice":=⟨os,hos,hcs⟩;unfold Od
 try with_reducible refine Ma ?_
 first|refine LL (LR ?_)|skip
 refine LL (wpAny_sequenceKey ht.typeIs (by decide) ?_);refine LL (Mu (name:=MT "__getitem__") ht.typeIs Nd
  (MK Nd ht.typeIs entry_tuple_getitem ?_ (args_tuple_getitem _ _)))
 show LS _ _ (QM (.ref t) >>= _) _ _ s;refine LL (tupleItemsOf_ ht ?_);refine LL (OI hTs ?_);rw[if_pos (by decide)];refine LL (lA hs pl pu ?_);have hno:¬((((sIx items.size 0 lo:Nat):Int) == 0&&(1:Int) == 1&&(sIx items.size items.size hi-sIx items.size 0 lo) == items.size)=true):=by intro q;rw[E_,E_]at q;have q1:((sIx items.size 0 lo:Nat):Int)=0:=eq_of_beq q.1.1;have q2:sIx items.size items.size hi-sIx items.size 0 lo=items.size:=eq_of_beq q.2;exact hw ⟨by lia,by lia⟩
 show LS _ _ (if(((sIx items.size 0 lo:Nat):Int) == 0&&(1:Int) == 1&&(sIx items.size items.size hi-sIx items.size 0 lo) == items.size)=true then _ else _) _ _ s;rw[if_neg hno,yY]
 first
  |exact LL (m:=M9 _) (MP (LR ⟨_,rfl,LR h⟩) htake)
  |exact LL (m:=M9 _) (MP (LL (LR (LR ⟨_,rfl,LR h⟩))) htake)
  |exact LL (LL (m:=M9 _) (MP (LR (LR ⟨_,rfl,LR h⟩)) htake))
  |exact LL (LL (m:=M9 _) (MP (LR ⟨_,rfl,LR h⟩) htake))
end
end HT
namespace L2
open PySem PySem.Spec PyProof.Rows
abbrev TO:=St->Hp->(Option Int->Hp->Prop)->Prop
noncomputable def PO(X:Cx)(e:Option LY)(t:TO):Prop:=
 ∀(ad:List (LO×Obj)) (s:LP) (σ:St) (H:Hp) (Q:Option Int->Hp->Prop),Inv X ad σ H s->t σ H Q->
  LS (LW X.prog X.w) X.A (evalPart e X.env) (λu s'=>∃o H',Inv X ad σ H' s'/\OH u o/\Q o H') X.xe s
noncomputable def Bq:TO:=λ_ H Q=>Q none H
noncomputable def G8(t:TE):TO:=λσ H Q=>t σ H λx H1=>∃i,x=.int i/\Q (some i) H1
variable {us:List LM}
section
variable{X:Cx}{e:LY}{te:TE}{lo hi:Option LY}{tl th:TO}{pos p2:Pos}
theorem wz:PO X none Bq:=by intro ad s σ H Q I h;rw[QN];exact LR ⟨none,H,I,.none,h⟩
theorem uZ(h:PE X e te):PO X (some e) (G8 te):=by intro ad s σ H Q I hw;rw[evalPart_some];refine thn (h ad s σ H _ I hw) ?_;rintro u s1 ⟨x,H1,I1,r1,q1⟩;obtain⟨i,rfl,q⟩:=q1;obtain⟨t,rfl⟩:=r1;exact⟨some i,H1,I1,.int i t,q⟩
def SlR(X:Cx)(r:V->Option Int->Option Int->Hp->VK->Prop):Prop:=
 ∀(ad:List (LO×Obj)) (s:LP) (σ:St) (H:Hp) (x:V) (v vl vu:LM) (lo hi:Option Int) (sl:LO) (Q:VK),Inv X ad σ H s->RelV x v->s.heap.IsSliceOf sl vl vu .none->OH vl lo->OH vu hi->r x lo hi H Q->
  ∃T id,Pa (.type T) "__getitem__"=pure (some (.builtin id))/\s.TypeIs v T/\LS (LW X.prog X.w) X.A (Od v (.ref sl)) (EP X ad σ Q) X.xe s
noncomputable def tSl(r:V->Option Int->Option Int->Hp->VK->Prop)(te:TE)(tl th:TO):TE:=λσ H Q=>te σ H λx H1=>tl σ H1 λl H2=>th σ H2 λu H3=>r x l u H3 Q
theorem sg{r:V->Option Int->Option Int->Hp->VK->Prop}(hr:SlR X r)(he:PE X e te)(hl:PO X lo tl)(hu:PO X hi th):PE X (.Subscript e (.Slice lo hi none p2) pos) (tSl r te tl th):=by intro ad s σ H Q I h;refine Qd (thn (he ad s σ H _ I h) ?_);rintro v s1 ⟨x,H1,I1,r1,q1⟩;refine wpAny_Slice (thn (hl ad s1 σ H1 _ I1 q1) λvl s2 ⟨l,H2,I2,pl,q2⟩=>thn (hu ad s2 σ H2 _ I2 q2) ?_);rintro vu s3 ⟨u,H3,I3,pu,q3⟩;rw[QN];refine LR ?_;have I4:Inv X ad σ H3 {s3 with heap:=s3.heap.push { cls:=.type "slice",data:=.fields #[vl,vu,.none] } }:=I3.kept (t':=s3.toks) λb ob q=>LQ _ q;obtain⟨T,id,hT,ht,hg⟩:=hr ad {s3 with heap:=s3.heap.push { cls:=.type "slice",data:=.fields #[vl,vu,.none] } } σ H3 x v vl vu l u s3.heap.objs.size Q I4 r1 (RK ..) pl pu q3;show LS (LW X.prog X.w) X.A (NY e (.Slice lo hi none p2) v (.ref s3.heap.objs.size)) (EP X ad σ Q) X.xe {s3 with heap:=s3.heap.push { cls:=.type "slice",data:=.fields #[vl,vu,.none] } };exact tail_any (ops:=[.ref s3.heap.objs.size,v]) ht hT hg (by with_unfolding_all rfl)
def iX(xs:List V)(lo hi:Option Int):List V:=(xs.drop (HT.sIx xs.length 0 lo)).take (HT.sIx xs.length xs.length hi-HT.sIx xs.length 0 lo)
theorem mF(xs:List V)(lo hi:Option Int):(iX xs lo hi).length<=xs.length:=by unfold iX;rw[q_,o_];lia
def Gk(K:LN):V->Option Int->Option Int->Hp->VK->Prop:=λx lo hi H Q=>∃a xs,x=.ref a/\SqT K H a xs/\
 ¬(HT.sIx xs.length 0 lo=0/\HT.sIx xs.length xs.length hi=xs.length)/\∀p,H p=none->Q (.ref p) (upd H p (.tup (iX xs lo hi)))
theorem CY:SlR X (Gk X.K):=by
 intro ad s σ H x v vl vu lo hi sl Q I rx hs pl pu h;obtain⟨a,xs,rfl,hx,hw,q⟩:=h;cases rx;obtain⟨bi,r,ht,hz⟩:=I.tuple hx;have hlen:bi.toArray.size=xs.length:=by rw[j_];exact r.length.symm
 refine⟨"tuple",_,Nd.lookup,ht.typeIs,?_⟩;refine HT.kc ht hs pl pu (by rw[hlen];exact hw) ?_ (by rw[hlen];exact hz);rw[hlen];refine⟨.ref s.heap.objs.size,_,I.laid (t':=s.toks) (o:=.tup (iX xs lo hi)) (λb ob q=>LQ _ q) (e_ _) ?_,rfl,q _ (I.hok.fresh (e_ _))⟩;exact⟨GZ (mF xs lo hi) hz,_,(r.drop (HT.sIx xs.length 0 lo)).take (HT.sIx xs.length xs.length hi-HT.sIx xs.length 0 lo),Pn _ _⟩
def F3(K:LN):R2:=λx y H Q=>∃a b xs ys,x=.ref a/\y=.ref b/\SqT K H a xs/\SqT K H b ys/\xs≠[]/\xs.length+ys.length<=sizeLine/\
 (ys=[]->Q (.ref a) H)/\(ys≠[]->∀p,H p=none->Q (.ref p) (upd H p (.tup (xs++ys))))
theorem Vals.rR {xs:List V}(r:Vals xs us):us=[]↔xs=[]:=by
 cases r with
 |nil=>simp
 |cons _ _=>simp
theorem A9:OpR X (MF .Add) (F3 X.K):=by intro ad s σ H x y v u Q I rx ry h;obtain⟨a,b,xs,ys,rfl,rfl,ha,hb,hx,hz,q1,q2⟩:=h;cases rx;cases ry;obtain⟨bi,r1,p1,_⟩:=I.tuple ha;obtain⟨its2,r2,p2,_⟩:=I.tuple hb;refine HT.A7 p1 p2 (λz=>hx (r1.rR.mp z)) (λz=>⟨.ref a,H,I,rfl,q1 (r2.rR.mp z)⟩) (λz=>?_) (by rw[<-r1.length,<-r2.length];exact hz);refine⟨.ref s.heap.objs.size,_,I.laid (t':=s.toks) (o:=.tup (xs++ys)) (λb ob q=>LQ _ q) (e_ _) ?_,rfl,q2 (λw=>z (r2.rR.mpr w)) _ (I.hok.fresh (e_ _))⟩;exact⟨by rw[b_];exact hz,_,r1.append r2,Pn _ _⟩
theorem mE:bX X (.type "tuple") (λxs H Q=>∃a ys,xs=[.ref a]/\SqT X.K H a ys/\Q (.ref a) H):=by intro ad s σ H xs us Q I r h;obtain⟨a,ys,rfl,ha,q⟩:=h;obtain⟨u,rfl,ru⟩:=vals1 r;cases ru;obtain⟨bi,_,p1,_⟩:=I.tuple ha;exact Qe (items:=bi.toArray) p1 ⟨.ref a,H,I,rfl,q⟩
end
noncomputable def ixN(n:Nat)(i:Int):Option Nat:=if 0<=i then(if i<n then some i.toNat else none)else if -(n:Int)<=i then some (i+n).toNat else none
variable {α:Type}
def atI(xs:List α)(i:Int):Option α:=(ixN xs.length i).bind λj=>xs[j]?
variable {n:Nat}
theorem qJ{i:Int}{j:Nat}(h:ixN n i=some j):QH i n=some j/\j<n/\-(n:Int)<=i/\i<n:=by
 unfold ixN at h;by_cases h0:0<=i
 ·rw[if_pos h0]at h;by_cases h1:i<n
  ·rw[if_pos h1]at h;have e:i.toNat=j:=GY h;exact⟨by rw[P0 h0 h1,e],by lia,by lia,h1⟩
  rw[if_neg h1]at h;cases h
 rw[if_neg h0]at h;by_cases h1:-(n:Int)<=i
 ·rw[if_pos h1]at h;have e:(i+n).toNat=j:=GY h;exact⟨by rw[Pq (by lia) h1,e],by lia,h1,by lia⟩
 rw[if_neg h1]at h;cases h
theorem rL{xs:List α}{i:Int}{v:α}(h:atI xs i=some v):∃j,QH i xs.length=some j/\xs[j]?=some v/\j<xs.length/\-(xs.length:Int)<=i/\i<xs.length:=by
 unfold atI at h;cases e:ixN xs.length i with
 |none=>rw[e]at h;cases h
 |some j=>
  rw[e]at h;obtain⟨h1,h2,h3,h4⟩:=qJ e;exact⟨j,h1,h,h2,h3,h4⟩
theorem iy{xs:List α}{j:Nat}{v:α}(h:xs[j]?=some v):atI xs (j:Int)=some v:=by
 have hj:j<xs.length:=(c_.mp h).1;have e:ixN xs.length (j:Int)=some j:=by unfold ixN;rw[if_pos (by lia),if_pos (by lia)];simp
 unfold atI;rw[e];exact h
noncomputable def vO(b:LY):Prop:=∀o i,Of b false o i=Ru [o,i] (Od o i)
def IxR(X:Cx)(r:R2):Prop:=
 ∀(value slice:LY) (ad:List (LO×Obj)) (s:LP) (σ:St) (H:Hp) (x y:V) (v u:LM) (Q:VK),Inv X ad σ H s->RelV x v->RelV y u->r x y H Q->
  Of slice false v u=Ru [v,u] (Od v u)->LS (LW X.prog X.w) X.A (NY value slice v u) (EP X ad σ Q) X.xe s
def MtR(X:Cx)(id:String)(r:V->List V->Hp->VK->Prop):Prop:=
 ∀(ad:List (LO×Obj)) (s:LP) (σ:St) (H:Hp) (x:V) (xs:List V) (v:LM) (us:List LM) (Q:VK),Inv X ad σ H s->RelV x v->Vals xs us->r x xs H Q->
  LS (LW X.prog X.w) X.A (call (.builtin id) (v::us)) (EP X ad σ Q) X.xe s
variable {H:Hp}{bi its':List LM}{ad:List (LO×Obj)}{s:LP}{σ:St}
section
variable{X:Cx}{a b:LY}{ta tb:TE}{pos:Pos}
theorem IxR.or {r r':R2}(h:IxR X r)(h':IxR X r'):IxR X (λx y H Q=>r x y H Q\/r' x y H Q):=by
 intro value slice ad s σ H x y v u Q I rx ry q hs;rcases q with q|q
 ·exact h value slice ad s σ H x y v u Q I rx ry q hs
 exact h' value slice ad s σ H x y v u Q I rx ry q hs
theorem Ca{r:R2}(hr:IxR X r)(ha:PE X a ta)(hb:PE X b tb)(hs:vO b):PE X (.Subscript a b pos) (tOp r ta tb):=by intro ad s σ H Q I h;exact Qd (CL ha hb I h λv u s2 x y H2 I2 rx ry q=>hr a b ad s2 σ H2 x y v u Q I2 rx ry q (hs _ _))
def Eu(K:LN):R2:=λx y H Q=>∃p xs i v,x=.ref p/\y=.int i/\SqL K H p xs/\atI xs i=some v/\Q v H
def FX(K:LN):R2:=λx y H Q=>∃p xs i v,x=.ref p/\y=.int i/\SqT K H p xs/\atI xs i=some v/\Q v H
def EH:R2:=λx y H Q=>∃z i c,x=.str z/\y=.int i/\z.length<=sizeLine/\atI z.cps.toList i=some c/\Q (.str ⟨#[c]⟩) H
theorem vc:IxR X (Eu X.K):=by
 intro value slice ad s σ H x y v u Q I rx ry h hs;obtain⟨p,xs,i,z,rfl,rfl,hq,he,q⟩:=h;cases rx;obtain⟨t,rfl⟩:=ry;obtain⟨bi,r,pl,hz⟩:=I.list hq;obtain⟨j,h1,h2,h3,h4,h5⟩:=rL he;obtain⟨w,ew,rw'⟩:=r.get h2;have hl:=r.length;have hn:=jN;have fin:EP X ad σ Q w s:=⟨z,H,I,rw',q⟩;by_cases h0:0<=i
 ·have hj:i.toNat=j:=by rw[P0 h0 h5]at h1;exact GY h1
  exact item_listR pl.isList h0 (by lia) (by rw[hj];simpa using ew) fin hs
 have hj:(i+(bi.toArray.size:Int)).toNat=j:=by rw[Pq (by lia) h4]at h1;rw[j_,<-hl];exact GY h1
 exact OW (x:=w) pl.isList.typeIs slot_list_getitem.lookup
  (wpAny_getItem_list_neg (Q:=λr s'=>r=w/\EP X ad σ Q r s') pl.isList (by lia) (by rw[j_] <;> lia) (by lia) (by rw[hj];simpa using ew) ⟨rfl,fin⟩) hs
theorem Cu:IxR X (FX X.K):=by
 intro value slice ad s σ H x y v u Q I rx ry h hs;obtain⟨p,xs,i,z,rfl,rfl,hq,he,q⟩:=h;cases rx;obtain⟨t,rfl⟩:=ry;obtain⟨bi,r,pl,hz⟩:=I.tuple hq;obtain⟨j,h1,h2,h3,h4,h5⟩:=rL he;obtain⟨w,ew,rw'⟩:=r.get h2;have hl:=r.length;have hn:=jN;have fin:EP X ad σ Q w s:=⟨z,H,I,rw',q⟩;exact OW (x:=w) pl.typeIs slot_tuple_getitem.lookup
  (getItem_tuple (j:=j) (Q:=λr s'=>r=w/\EP X ad σ Q r s') pl (by lia) (by lia) (by rw[j_,<-hl];exact h1) (by simpa using ew) ⟨rfl,fin⟩) hs
theorem yg:IxR X EH:=by
 intro value slice ad s σ H x y v u Q I rx ry h hs;obtain⟨z,i,c,rfl,rfl,hz,he,q⟩:=h;obtain⟨t,rfl⟩:=rx;obtain⟨t',rfl⟩:=ry;obtain⟨j,h1,h2,h3,h4,h5⟩:=rL he;have hl:z.cps.toList.length=z.length:=by simp[Str.length]
 rw[hl]at h1 h4 h5;have hn:=jN;exact tail_any (typeIs_str s z t) slot_str_getitem.lookup (getItem_str (c:=c) (by have e1:decide (i < -(2 ^ 63:Int))=false:=decide_eq_false (by lia);have e2:decide (i>=2 ^ 63)=false:=decide_eq_false (by lia);rw[e1,e2,Bool.or_false]) (by rw[h1];simpa using h2) ⟨.str ⟨#[c]⟩,H,I.tok _,⟨_,rfl⟩,q⟩) hs
def rIx(K:LN):R2:=λx y H Q=>Eu K x y H Q\/FX K x y H Q\/EH x y H Q
theorem DI:IxR X (rIx X.K):=vc.or (Cu.or yg)
theorem ug(bi:List LM)(n j:Nat)(u:LM):Mg (·.setIfInBounds j u) { cls:=.type "list",data:=.seq bi.toArray n}={ cls:=.type "list",data:=.seq (bi.set j u).toArray n}:=by simp[Mg]
theorem Inv.lst {ad:List (LO×Obj)}{σ:St}{H:Hp}{s:LP}{p:LO}{xs:List V}(I:Inv X ad σ H s)(h:H p=some (.lst xs)) :
  ∃(bi:List LM) (n:Nat),Vals xs bi/\s.heap.get? p=some { cls:=.type "list",data:=.seq bi.toArray n}/\xs.length<=sizeLine:=by
 obtain⟨z,bi,n,r,e⟩:=I.hok p _ h;exact⟨bi,n,r,e,z⟩
theorem Inv.De {p:LO}{xs ys:List V}{n':Nat}{f:Obj->Obj}(I:Inv X ad σ H s)(h:H p=some (.lst xs))
  (ho:s.heap.get? p=some { cls:=.type "list",data:=.seq bi.toArray n}) (hf:f { cls:=.type "list",data:=.seq bi.toArray n}={ cls:=.type "list",data:=.seq its'.toArray n'}) (r:Vals ys its') (hz:ys.length<=sizeLine) (t:Nat) :
  Inv X ad σ (upd H p (.lst ys)) {s with heap:=s.heap.update p f,toks:=t}:=by
 have e:(s.heap.update p f).get? p=some { cls:=.type "list",data:=.seq its'.toArray n'}:=by rw[MA f ho (by rw[hf] <;> rfl),hf]
 refine I.write (x:=p) (e:=p) (by rw[h];trivial) (.inl rfl) (λb u hb q=>(Nj _ _ (Nl hb)).trans q) ⟨_,e⟩ ?_;exact⟨hz,its',n',r,e⟩
def EM:V->V->V->Hp->(Hp->Prop)->Prop:=λo i v H Q=>∃p xs k j,o=.ref p/\i=.int k/\H p=some (.lst xs)/\ixN xs.length k=some j/\Q (upd H p (.lst (xs.set j v)))
theorem set_list:uN X EM:=by
 intro ad s σ H o i v ov iv u Q I ro ri rv h;obtain⟨p,xs,k,j,rfl,rfl,hp,hj,q⟩:=h;cases ro;obtain⟨t,rfl⟩:=ri;obtain⟨bi,n,r,ho,hz⟩:=I.lst hp;obtain⟨h1,h2,h3,h4⟩:=qJ hj;have hl:=r.length;have hn:=jN;have I':Inv X ad σ (upd H p (.lst (xs.set j v))) {s with heap:=s.heap.update p (Mg (·.setIfInBounds j u)) }:=
  I.De hp ho (ug bi n j u) (r.set rv j) (by rw[F'];exact hz) s.toks
 by_cases h0:0<=k
 ·have hk:k.toNat=j:=by rw[P0 h0 h4]at h1;exact GY h1
  exact PySem.W.ki_setAt ho h0 (by lia) (by rw[j_,<-hl];exact h4) (by rw[hk];exact⟨_,I',q⟩)
 have hk:(k+(bi.toArray.size:Int)).toNat=j:=by rw[Pq (by lia) h3]at h1;rw[j_,<-hl];exact GY h1
 exact PySem.W.ki_setBack ho (by lia) (by rw[j_,<-hl];exact h3) (by lia) (by rw[hk];exact⟨_,I',q⟩)
theorem qM(lo hi:Option Int)(n:Nat):(Nz lo hi none n).1=((HT.sIx n 0 lo:Nat):Int)/\(Nz lo hi none n).2.1=((HT.sIx n n hi:Nat):Int)/\(Nz lo hi none n).2.2=1:=by
 refine⟨?_,?_,rfl⟩
 ·cases lo with
  |none=>simp[Nz,HT.sIx]
  |some i=>
   simp only[Nz,HT.sIx,K8,show(1:Int) > 0 by decide,if_true];by_cases h:i<0
   ·simp only[h,if_true] <;> lia
   simp only[h,if_false] <;> lia
 cases hi with
 |none=>simp[Nz,HT.sIx]
 |some i=>
  simp only[Nz,HT.sIx,K8,show(1:Int) > 0 by decide,if_true];by_cases h:i<0
  ·simp only[h,if_true] <;> lia
  simp only[h,if_false] <;> lia
theorem oQ(bi:List LM)(lo hi:Option Int):slicePick bi.toArray lo hi none=((bi.drop (HT.sIx bi.length 0 lo)).take (HT.sIx bi.length bi.length hi-HT.sIx bi.length 0 lo)).toArray:=by obtain⟨h1,h2,h3⟩:=qM lo hi bi.toArray.size;unfold slicePick;rw[h1,h2,h3];simp only[sliceRange_one,pick_run,j_] <;> rfl
def GU(K:LN):V->Option Int->Option Int->Hp->VK->Prop:=λx lo hi H Q=>∃a xs,x=.ref a/\SqL K H a xs/\∀p,H p=none->Q (.ref p) (upd H p (.lst (iX xs lo hi)))
theorem vC:SlR X (GU X.K):=by intro ad s σ H x v vl vu lo hi sl Q I rx hs pl pu h;obtain⟨a,xs,rfl,hx,q⟩:=h;cases rx;obtain⟨bi,r,ht,hz⟩:=I.list hx;have hlen:=r.length;refine⟨"list",_,slot_list_getitem.lookup,ht.isList.typeIs,?_⟩;refine wpAny_getItem_list_slice ht.isList hs pl pu .none (by simp) ?_ (by rw[j_] <;> lia);rw[oQ,<-hlen];refine⟨.ref s.heap.objs.size,_,I.laid (t':=s.toks) (o:=.lst (iX xs lo hi)) (λb ob q=>LQ _ q) (e_ _) ?_,rfl,q _ (I.hok.fresh (e_ _))⟩;exact⟨GZ (mF xs lo hi) hz,_,0,(r.drop (HT.sIx xs.length 0 lo)).take (HT.sIx xs.length xs.length hi-HT.sIx xs.length 0 lo),LX _ rfl⟩
theorem kQ:bX X (.builtin "len") (λxs H Q=>∃p ys,xs=[.ref p]/\(SqL X.K H p ys\/SqT X.K H p ys)/\Q (.int ys.length) H):=by
 intro ad s σ H xs us Q I r h;obtain⟨p,ys,rfl,hq,q⟩:=h;obtain⟨u,rfl,rx⟩:=vals1 r;cases rx;have hn:=jN;rcases hq with hq|hq
 ·obtain⟨bi,r',pl,hz⟩:=I.list hq;have hlen:=r'.length;exact Calls.call_len_list pl.isList (by simp only[j_] <;> lia) ⟨.int ys.length,H,I.tok _,⟨s.toks+1,by rw[j_,hlen]⟩,q⟩
 obtain⟨bi,r',pl,hz⟩:=I.tuple hq;have hlen:=r'.length;exact len_tuple pl (by simp only[j_] <;> lia) ⟨.int ys.length,H,I.tok _,⟨s.toks+1,by rw[j_,hlen]⟩,q⟩
theorem rb:bX X (.builtin "len") (λxs H Q=>∃z,xs=[.str z]/\z.length<=sizeLine/\Q (.int z.length) H):=by intro ad s σ H xs us Q I r h;obtain⟨z,rfl,hz,q⟩:=h;obtain⟨u,rfl,t,rfl⟩:=vals1 r;have hn:=jN;exact len_str (by lia) ⟨.int z.length,H,I.tok _,⟨_,rfl⟩,q⟩
theorem kL:bX X (.type "list") (λxs H Q=>∃p ys,xs=[.ref p]/\(SqL X.K H p ys\/SqT X.K H p ys)/\∀l,H l=none->Q (.ref l) (upd H l (.lst ys))):=by
 intro ad s σ H xs us Q I r h;obtain⟨p,ys,rfl,hq,q⟩:=h;obtain⟨u,rfl,rx⟩:=vals1 r;cases rx;have fin:∀(bi:List LM),Vals ys bi->ys.length<=sizeLine->∀(h':LZ) (c':Nat),(∀b o',s.heap.get? b=some o'->h'.get? b=some o')->
   h'.get? s.heap.objs.size=some { cls:=.type "list",dict:=none,data:=.seq bi.toArray c',slots:=#[] }->EP X ad σ Q (.ref s.heap.objs.size) {s with heap:=h'}:=λbi r' hz h' c' kp e=>
  ⟨.ref s.heap.objs.size,_,I.laid (t':=s.toks) kp (e_ _) (show bZ X.prog X.w _ h' _ (.lst ys)from⟨hz,bi,c',r',e⟩),rfl,q _ (I.hok.fresh (e_ _))⟩
 rcases hq with hq|hq
 ·obtain⟨bi,r',pl,hz⟩:=I.list hq;have hlen:=r'.length;obtain⟨o,ho,hc,n,hd⟩:=pl.isList;exact QO p (.inl rfl) ho hc hd (λh' c' kp e=>fin bi r' hz h' c' kp e) (by simp only[j_] <;> lia)
 obtain⟨bi,r',pl,hz⟩:=I.tuple hq;have hlen:=r'.length;obtain⟨o,ho,hc,n,hd⟩:=pl;exact QO p (.inr rfl) ho hc hd (λh' c' kp e=>fin bi r' hz h' c' kp e) (by simp only[j_] <;> lia)
theorem oZ:bX X (.type "tuple") (λxs H Q=>∃p ys,xs=[.ref p]/\((SqL X.K H p ys/\∀l,H l=none->Q (.ref l) (upd H l (.tup ys)))\/(SqT X.K H p ys/\Q (.ref p) H))):=by
 intro ad s σ H xs us Q I r h;obtain⟨p,ys,rfl,h⟩:=h;obtain⟨u,rfl,rx⟩:=vals1 r;cases rx;rcases h with⟨hq,q⟩|⟨hq,q⟩
 ·obtain⟨bi,r',pl,hz⟩:=I.list hq;have hlen:=r'.length;refine call_tuple_list pl.isList (λh' kp=>?_) (by simp only[j_] <;> lia);have I1:Inv X ad σ H {s with heap:=h'}:=I.kept (t':=s.toks) kp;have I2:Inv X ad σ (upd H h'.objs.size (.tup ys)) {s with heap:=h'.push { cls:=.type "tuple",data:=.seq bi.toArray} }:=
   I1.laid (t':=s.toks) (λb o e=>LQ _ e) (e_ _) (show bZ X.prog X.w _ _ _ (.tup ys)from⟨hz,bi,r',Pn _ _⟩)
  exact⟨.ref h'.objs.size,_,I2,rfl,q _ (I1.hok.fresh (e_ _))⟩
 obtain⟨bi,r',pl,hz⟩:=I.tuple hq;exact Qe pl ⟨.ref p,H,I,rfl,q⟩
def tyV(K:LN)(T:String)(x:V)(H:Hp):Prop:=match x with
 | .str _=>T="str"
 | .int _=>T="int"
 | .ref p=>(T="list"/\∃xs,SqL K H p xs)\/(T="tuple"/\∃o,K.lookup p=some o/\o.cls=.type "tuple"/\o.dict=none)\/
   (T="dict"/\((∃ap,H p=some (.dK ap))\/∃ap,H p=some (.dT ap)))\/(T="set"/\∃S n,H p=some (.set S n))
 | _=>False
theorem zH{T:String}{x:V}{v:LM}(I:Inv X ad σ H s)(r:RelV x v)(ty:tyV X.K T x H) :
  s.TypeIs v T/\∀a,v=.ref a->∃ob,s.heap.get? a=some ob/\ob.dict=none:=by
 cases x with
 |str z=>
  obtain⟨t,rfl⟩:=r;cases (show T="str" from ty);exact⟨typeIs_str s z t,λ_ e=>nomatch e⟩
 |int i=>
  obtain⟨t,rfl⟩:=r;cases (show T="int" from ty);exact⟨typeIs_int s i t,λ_ e=>nomatch e⟩
 |ref p=>
  cases r;rcases ty with⟨rfl,xs,hq⟩|⟨rfl,o,hk,hc,hd⟩|⟨rfl,hk⟩|⟨rfl,S,n,hk⟩
  ·obtain⟨bi,_,pl,_⟩:=I.list hq;refine⟨pl.isList.typeIs,λa e=>?_⟩;cases e;obtain⟨o,n,e,c,hd,_⟩:=pl;exact⟨o,e,hd⟩
  ·refine⟨⟨o,I.kIn p o hk,hc⟩,λa e=>?_⟩;cases e;exact⟨o,I.kIn _ o hk,hd⟩
  ·have z:∃o,s.heap.get? p=some o/\o.ExactDict:=by
    rcases hk with⟨ap,hk⟩|⟨ap,hk⟩
    ·obtain⟨_,_,_,_,o,_,_,e,ex,_⟩:=I.hok p _ hk;exact⟨o,e,ex⟩
    obtain⟨_,_,_,_,o,_,_,e,ex,_⟩:=I.hok p _ hk;exact⟨o,e,ex⟩
   obtain⟨o,e,ex⟩:=z;refine⟨⟨o,e,ex.1⟩,λa e2=>?_⟩;cases e2;exact⟨o,e,ex.2.1⟩
  ·obtain⟨o,_,_,_,e,ex,_⟩:=I.hok p _ hk;refine⟨⟨o,e,ex.1⟩,λa e2=>?_⟩;cases e2;exact⟨o,e,ex.2.1⟩
 | _=>exact L4 ty
def GB(K:LN)(T:String)(r:V->List V->Hp->VK->Prop)(to:TE):TE:=λσ H Q=>to σ H λx H1=>tyV K T x H1/\r x [] H1 Q
def tBM(K:LN)(T:String)(r:V->List V->Hp->VK->Prop)(to:TE)(t:TA):TE:=λσ H Q=>to σ H λx H1=>tyV K T x H1/\t σ H1 λxs H2=>r x xs H2 Q
variable{o e:LY}{es:List LY}{to:TE}{t:TA}{name:Str}{apos io:Pos}{T id:String}{r:V->List V->Hp->VK->Prop}
theorem E5(pa:PlainAttrs T)(slot:Slot T name id)(hty:Q7 (.builtin id)=pure (.type "method_descriptor"))(hm:MtR X id r)(ho:PE X o to)
  (hbase:Ou o name X.env (Mi o X.env)=Mi o X.env:=by rfl) (hline:(apos.endLine == io.line)=true:=by rfl):PE X (.Call (.Attribute o name apos) [] [] io) (GB X.K T r to):=by
 intro ad s σ H Q I h;refine wpAny_Call_method0_late hbase hline (thn (ho ad s σ H _ I h) ?_);rintro v s1 ⟨x,H1,I1,r1,ty,q1⟩;obtain⟨h1,h2⟩:=zH I1 r1 ty;exact⟨T,id,pa,slot,hty,h1,h2,OX rfl (PySem.evalArgs_none (hm ad s1 σ H1 x [] v [] Q I1 r1 .nil q1))⟩
theorem EA(pa:PlainAttrs T)(slot:Slot T name id)(hty:Q7 (.builtin id)=pure (.type "method_descriptor"))(hm:MtR X id r)(ho:PE X o to)(ha:PA X (e::es) t)
  (hbase:Ou o name X.env (Mi o X.env)=Mi o X.env:=by rfl)
  (hfew:((Nm io (L3 (e::es) X.env)).all (λx=>!x.1)&&(backToKw io (Rn [] X.env)).all (λx=>x.1.isSome)
   && decide ((e::es).length+([]:List Qv).length+(if([]:List Qv).isEmpty then 0 else 1)<30))=true:=by rfl)
  (hline:(apos.endLine == io.line)=true:=by rfl) (hs:L3 (e::es) X.env=(false,Mi e X.env)::L3 es X.env:=by rfl) (hplain:(Nm io (L3 es X.env)).any (·.1)=false:=by rfl) :
  PE X (.Call (.Attribute o name apos) (e::es) [] io) (tBM X.K T r to t):=by
 intro ad s σ H Q I h;refine wpAny_Call_method_late hbase hfew hline rfl (thn (ho ad s σ H _ I h) ?_);rintro v s1 ⟨x,H1,I1,r1,ty,q1⟩;obtain⟨h1,h2⟩:=zH I1 r1 ty;refine⟨T,id,pa,slot,hty,h1,h2,?_⟩;have hA:=ha io ad s1 σ H1 _ I1 q1;rw[hs]at hA ⊢;refine OX (by show(false || (Nm io (L3 es X.env)).any (·.1))=false;rw[hplain] <;> rfl) (Calls.evalArgs_plain ?_);exact thn hA λus s2 ⟨vs,H2,I2,r2,q2⟩=>hm ad s2 σ H2 x vs v us Q I2 r1 r2 q2
end
def MtM(X:Cx)(id:String)(r:V->List V->Hp->VK->Prop):Prop:=
 ∀(ad:List (LO×Obj)) (s:LP) (σ:St) (H:Hp) (x:V) (xs:List V) (v:LM) (us:List LM) (Q:VK),Inv X ad σ H s->RelV x v->Vals xs us->r x xs H Q->
  LS (LW X.prog X.w) X.A (call (.builtin id) (v::us)) (EP X ad σ Q) X.xe s
theorem Vals.one:∀{x:V}{us:List LM},Vals [x] us->∃u,us=[u]/\RelV x u:=by
 intro x us h;cases h with
 |cons r t=>cases t;exact⟨_,rfl,r⟩
theorem Vals.zero:∀{us:List LM},Vals [] us->us=[]
 | _,.nil=>rfl
theorem Vals.eraseIdx:∀{xs:List V}{us:List LM} (i:Nat),Vals xs us->Vals (xs.eraseIdx i) (us.eraseIdx i)
 | _,_,_,.nil=>.nil
 | _,_,0,.cons _ t=>t
 | _,_,i+1,.cons r t=>.cons r (Vals.eraseIdx i t)
theorem Vals.reverse {xs:List V}(h:Vals xs us):Vals xs.reverse us.reverse:=by
 induction h with
 |nil=>exact .nil
 |cons r t ih=>rw[Ht,Ht];exact Vals.append ih (.cons r .nil)
theorem pN{α:Type}:∀(l:List α) (i:Nat),(l.eraseIdx i).length<=l.length
 | [],_=>e_ _
 | _::_,0=>Kr _
 | _::r,i+1=>Iy (pN r i)
variable {t':Nat}
section
variable{X:Cx}{ad:List (LO×Obj)}{σ:St}{H:Hp}{s:LP}{l b:LO}{xs ys zs:List V}
theorem Inv.Af {f:Array LM->Array LM}(I:Inv X ad σ H s)(hH:H l=some (.lst xs))
  (e:s.heap.get? l=some { cls:=.type "list",data:=.seq bi.toArray n}) (hf:f bi.toArray=its'.toArray) (hv:Vals ys its') (hz:ys.length<=sizeLine) :
  Inv X ad σ (upd H l (.lst ys)) {s with heap:=s.heap.update l (Mg f),toks:=t'}:=by
 have q:=RT e f;rw[hf]at q;refine I.write (x:=l) (e:=l) (by rw[hH];exact trivial) (.inl rfl) (λb' u hb hu=>(Nj s.heap (Mg f) (Nl hb)).trans hu) ⟨_,q⟩ ?_;exact⟨hz,its',_,hv,q⟩
theorem Inv.Gu (I:Inv X ad σ H s)(hv:Vals ys bi)(hz:ys.length<=sizeLine) :
  Inv X ad σ (upd H s.heap.objs.size (.lst ys)) {s with heap:=s.heap.push { cls:=.type "list",data:=.seq bi.toArray},toks:=t'}:=
 I.laid (λ_ _ q=>LQ _ q) (e_ _) ⟨hz,bi,0,hv,LX _ rfl⟩
theorem Inv.fresh (I:Inv X ad σ H s):H s.heap.objs.size=none:=I.hok.fresh (e_ _)
theorem Inv.A4 (I:Inv X ad σ H s)(hH:H l=some (.lst xs)):xs.length<=sizeLine/\∃(bi:List LM) (n:Nat),Vals xs bi/\xs.length=bi.length/\s.heap.get? l=some { cls:=.type "list",data:=.seq bi.toArray n}:=by obtain⟨z,bi,n,r,e⟩:=I.hok l _ hH;exact⟨z,bi,n,r,r.length,e⟩
end
section
variable{X:Cx}
def BA:V->List V->Hp->VK->Prop:=λx vs H Q=>∃l xs y,x=.ref l/\vs=[y]/\H l=some (.lst xs)/\xs.length<sizeLine/\Q .non (upd H l (.lst (xs++[y])))
theorem lN:MtM X "list.append" BA:=by intro ad s σ H x vs v us Q I rx rv h;obtain⟨l,xs,y,rfl,rfl,hH,hz,q⟩:=h;cases rx;obtain⟨u,rfl,ru⟩:=rv.one;obtain⟨z,bi,n,r,hl,e⟩:=I.A4 hH;refine Pb F.slot_list_append ⟨_,e,rfl⟩ F.entry_list_append (F.args_list_append_2 _ _) (PySem.list_append l bi.toArray n u (by rw[j_];lia)) ⟨e,?_⟩;refine⟨.non,_,I.Af (its':=bi++[u]) hH e (by simp) (r.append (.cons ru .nil)) ?_,rfl,q⟩;rw[b_,List.length_singleton];lia
def DM:V->List V->Hp->VK->Prop:=λx vs H Q=>∃l xs i k y,x=.ref l/\vs=[.int i]/\H l=some (.lst xs)/\-(2 ^ 63)<=i/\i<2 ^ 63/\QH i xs.length=some k/\xs[k]?=some y/\Q y (upd H l (.lst (xs.eraseIdx k)))
theorem zD:MtM X "list.pop" DM:=by
 intro ad s σ H x vs v us Q I rx rv h;obtain⟨l,xs,i,k,y,rfl,rfl,hH,h1,h2,hk,hy,q⟩:=h;cases rx;obtain⟨u,rfl,ru⟩:=rv.one;obtain⟨t,rfl⟩:=ru;obtain⟨z,bi,n,r,hl,e⟩:=I.A4 hH;obtain⟨w,hw,rw'⟩:=r.get hy;refine Pb F.slot_list_pop ⟨_,e,rfl⟩ F.entry_list_pop (F.args_list_pop_2 _ _)
  (Rw l bi.toArray n i t k w (fitsIndex_both h1 h2) (by rw[j_,<-hl];exact hk) (by rw[<-u_];exact hw) (by rw[j_];lia)) ⟨e,?_⟩
 refine⟨y,_,I.Af (its':=bi.eraseIdx k) hH e ?_ (r.eraseIdx k) ?_,rw',q⟩
 ·show bi.toArray.eraseIdxIfInBounds k=(bi.eraseIdx k).toArray;rw[List.eraseIdxIfInBounds_toArray]
 have:=pN xs k;lia
def yI:V->List V->Hp->VK->Prop:=λx vs H Q=>∃l xs,x=.ref l/\vs=[]/\H l=some (.lst xs)/\Q .non (upd H l (.lst xs.reverse))
theorem uV:MtM X "list.reverse" yI:=by intro ad s σ H x vs v us Q I rx rv h;obtain⟨l,xs,rfl,rfl,hH,q⟩:=h;cases rx;have hus:=rv.zero;subst hus;obtain⟨z,bi,n,r,hl,e⟩:=I.A4 hH;refine Pb F.slot_list_reverse ⟨_,e,rfl⟩ F.entry_list_reverse (F.args_list_reverse_1 _) (Qw l bi.toArray n (by rw[j_];lia)) ⟨e,?_⟩;refine⟨.non,_,I.Af (its':=bi.reverse) hH e (by simp) r.reverse ?_,rfl,q⟩;rw[x_];omega
end
variable {o:Option V}{u:LM}
section
variable{κ:Type}[DecidableEq κ]
noncomputable def gy(ap:List (κ×V))(k:κ):Option V:=(ap.find? λkv=>decide (kv.1=k)).map (·.2)
noncomputable def putK(ap:List (κ×V))(k:κ)(v:V):List (κ×V):=
 if(ap.any λkv=>decide (kv.1=k))=true then ap.map (λkv=>if kv.1=k then(kv.1,v)else kv)else ap++[(k,v)]
theorem oF{p:κ×V}{r:List (κ×V)}{k:κ}(e:p.1=k):gy (p::r) k=some p.2:=by simp[gy,HH,e]
theorem nR{p:κ×V}{r:List (κ×V)}{k:κ}(e:¬p.1=k):gy (p::r) k=gy r k:=by simp[gy,HH,e]
theorem kh(k:κ):∀ap:List (κ×V),(ap.any λkv=>decide (kv.1=k))=(gy ap k).isSome
 | []=>rfl
 |p::r=>by
  rw[J0];by_cases e:p.1=k
  ·simp only[oF e,decide_eq_true e,Bool.true_or,Option.isSome_some]
  rw[nR e,decide_eq_false e,KO];exact kh k r
theorem iS(ap:List (κ×V))(k:κ)(v:V):(putK ap k v).length<=ap.length+1:=by
 unfold putK;split
 ·rw[a_];lia
 rw[b_,f_,HG];lia
theorem tL{ap:List (κ×V)}{k:κ}(v:V)(h:gy ap k=none):putK ap k v=ap++[(k,v)]:=by unfold putK;rw[kh,h];exact if_neg (by decide)
theorem p9.xb {u:Option LM}(r:p9 o u):o.isSome=u.isSome:=by
 cases o with
 |none=>cases u with
  |none=>rfl
  |some _=>exact(show False from r).elim
 |some _=>cases u with
  |none=>exact(show False from r).elim
  |some _=>rfl
theorem KV.val {ap:List (κ×V)}{vs:List (κ×LM)}(r:KV ap vs)(k:κ):p9 (gy ap k) (OD vs k):=by
 unfold KV at r;induction r with
 |nil=>exact M6
 | @cons p q ps qs h t ih=>
  obtain⟨h1,h2⟩:=h;by_cases e:p.1=k
  ·have e':q.1=k:=h1.symm.trans e;have b:OD (q::qs) k=some q.2:=by simp[OD,HH,e']
   rw[oF e,b];exact h2
  have e':¬q.1=k:=λz=>e (h1.trans z);have b:OD (q::qs) k=OD qs k:=by simp[OD,HH,e']
  rw[nR e,b];exact ih
theorem KV.any {ap:List (κ×V)}{vs:List (κ×LM)}(r:KV ap vs)(k:κ):(ap.any λkv=>decide (kv.1=k))=vs.any λkv=>decide (kv.1=k):=by
 unfold KV at r;induction r with
 |nil=>rfl
 |cons h t ih=>rw[J0,J0,ih,h.1]
theorem KV.D7 {ap:List (κ×V)}{vs:List (κ×LM)}(r:KV ap vs)(k:κ){y:V}(ry:RelV y u) :
  KV (ap.map λkv=>if kv.1=k then(kv.1,y)else kv) (vs.map λkv=>if kv.1=k then(kv.1,u)else kv):=by
 unfold KV at r ⊢;induction r with
 |nil=>exact .nil
 | @cons p q ps qs h t ih=>
  rw[h_,h_];refine .cons ?_ ih;obtain⟨h1,h2⟩:=h;by_cases e:p.1=k
  ·rw[if_pos e,if_pos (h1.symm.trans e)];exact⟨h1,ry⟩
  rw[if_neg e,if_neg (λz=>e (h1.trans z))];exact⟨h1,h2⟩
theorem KV.put {ap:List (κ×V)}{vs:List (κ×LM)}(r:KV ap vs)(k:κ){y:V}{u:LM}(ry:RelV y u):KV (putK ap k y) (stored vs k u):=by
 unfold putK stored;rw[r.any k];by_cases e:(vs.any λkv=>decide (kv.1=k))=true
 ·rw[if_pos e,if_pos e];exact r.D7 k ry
 rw[if_neg e,if_neg e];exact Ro r ⟨rfl,ry⟩
theorem KV.length {ap:List (κ×V)}{vs:List (κ×LM)}(r:KV ap vs):ap.length=vs.length:=NX r
end
variable {P:LV}{w:L0}
theorem vi{k:Key}(r:RelV (kV k) u):(bS P w).is k u=true:=by
 rcases k with i | _|x
 ·obtain⟨t,e⟩:=(show ∃t,u=MB i t from r);subst e;exact su P w i t
 ·cases r;rfl
 obtain⟨t,e⟩:=(show ∃t,u=Pl x t from r);subst e;exact sr P w x t
theorem hG{P:LV}{w:L0}:∀{ks:List Key}{us:List LM},Vals (ks.map kV) us->ItemsAre (bS P w) ks us
 | [],_,r=>by rw[Il]at r;cases r;exact .nil
 |k::ks,_,r=>by
  rw[h_]at r;cases r with
  |cons h t=>exact .cons (vi h) (hG t)
abbrev KT(H:Hp):List (List Key×V)->List (List Key×LO×LM)->Prop:=OF λp q=>p.1=q.1/\H q.2.1=some (.tup (p.1.map kV))/\RelV p.2 q.2.2
variable {ap:List (List Key×V)}{xs:List (List Key×LO×LM)}
theorem KT.val (r:KT H ap xs)(k:List Key):p9 (gy ap k) ((OS xs k).map (·.2)):=by
 induction r with
 |nil=>exact M6
 | @cons p q ps qs h t ih=>
  obtain⟨h1,_,h2⟩:=h;by_cases e:p.1=k
  ·have e':q.1=k:=h1.symm.trans e;have b:OS (q::qs) k=some q.2:=by simp[OS,HH,e']
   rw[oF e,b];exact h2
  have e':¬q.1=k:=λz=>e (h1.trans z);have b:OS (q::qs) k=OS qs k:=by simp[OS,HH,e']
  rw[nR e,b];exact ih
theorem KT.D7 (r:KT H ap xs)(k:List Key){y:V}(ry:RelV y u) :
  KT H (ap.map λkv=>if kv.1=k then(kv.1,y)else kv) (xs.map (putAt k u)):=by
 induction r with
 |nil=>exact .nil
 | @cons p q ps qs h t ih=>
  rw[h_,h_];refine .cons ?_ ih;obtain⟨h1,h2,h3⟩:=h;unfold putAt;by_cases e:p.1=k
  ·rw[if_pos e,if_pos (h1.symm.trans e)];exact⟨h1,h2,ry⟩
  rw[if_neg e,if_neg (λz=>e (h1.trans z))];exact⟨h1,h2,h3⟩
theorem KT.put {H:Hp}{ap:List (List Key×V)}{xs:List (List Key×LO×LM)}(r:KT H ap xs)(k:List Key){b:LO}{y:V}{u:LM}(hb:H b=some (.tup (k.map kV)))(ry:RelV y u) :
  KT H (putK ap k y) (storedH xs k b u):=by
 have e:(ap.any λkv=>decide (kv.1=k))=(OS xs k).isSome:=by rw[kh,(r.val k).xb,J4]
 unfold putK storedH;rw[e];by_cases q:(OS xs k).isSome=true
 ·rw[if_pos q,if_pos q];exact r.D7 k ry
 rw[if_neg q,if_neg q];exact Ro r ⟨rfl,hb,ry⟩
variable {H':Hp}
theorem KT.keeps (r:KT H ap xs)(ht:∀b ys,H b=some (.tup ys)->H' b=some (.tup ys)):KT H' ap xs:=
 Paired.FY r λ_ _ z=>⟨z.1,ht _ _ z.2.1,z.2.2⟩
section
variable{P:LV}{w:L0}{H:Hp}{h:LZ}{a:LO}
theorem C3{u:HO}(ok:HOk P w H h)(e:Rd H a u):bZ P w H h a u:=e.ok ok
theorem vj{ap:List (Key×V)}(ok:HOk P w H h)(e:Rd H a (.dK ap)):ap.length<=sizeLine/\(a == MO)=false/\∃vs,KV ap vs/\h.DictOf (bS P w) a vs:=
 show bZ P w H h a (.dK ap)from C3 ok e
theorem Ci{ap:List (Key×V)}(ok:HOk P w H h)(e:H a=some (.dK ap)):ap.length<=sizeLine/\(a == MO)=false/\∃vs,KV ap vs/\h.DictOf (bS P w) a vs:=vj ok (.inl e)
theorem uq{ks:List Key}(ok:HOk P w H h)(e:H a=some (.tup (ks.map kV))):(OQ (bS P w)).is h ks a:=by obtain⟨_,bi,r,o,h1,h2,n,h3⟩:=(show bZ P w H h a (.tup (ks.map kV))from ok a _ e);exact⟨o,bi.toArray,n,h1,h2,h3,by simpa using hG r⟩
theorem vm(ok:HOk P w H h)(e:Rd H a (.dT ap)):ap.length<=sizeLine/\(a == MO)=false/\
  ∃xs,KT H ap xs/\h.DictOfH (OQ (bS P w)) a xs:=by
 obtain⟨z,y,xs,r,o,es,ep,h1,h2,h3,h4,h5⟩:=(show bZ P w H h a (.dT ap)from C3 ok e);refine⟨z,y,xs,r,o,es,ep,h1,h2,h3,h4,λx hx=>?_,h5⟩;have all:∀{l:List (List Key×V)}{m:List (List Key×LO×LM)},KT H l m->∀x∈m,(OQ (bS P w)).is h x.1 x.2.1:=by
  intro l m q;induction q with
  |nil=>intro x hx;exact nomatch hx
  | @cons p q ps qs hq t ih=>
   intro x hx;rcases m_.mp hx with e|hx
   ·subst e;exact uq ok (by rw[<-hq.1];exact hq.2.1)
   exact ih x hx
 exact all r x hx
theorem EB(ok:HOk P w H h)(e:H a=some (.dT ap)):ap.length<=sizeLine/\(a == MO)=false/\
  ∃xs,KT H ap xs/\h.DictOfH (OQ (bS P w)) a xs:=vm ok (.inl e)
end
def mK(H:Hp)(a:LO)(y:V)(r:Option V):Prop:=
 (∃ap k,Rd H a (.dK ap)/\y=kV k/\r=gy ap k)\/∃ap k b,Rd H a (.dT ap)/\y=.ref b/\H b=some (.tup (k.map kV))/\r=gy ap k
def wW(H:Hp)(a:LO)(y v:V)(H':Hp):Prop:=
 (∃ap k,H a=some (.dK ap)/\y=kV k/\ap.length<sizeLine/\H'=upd H a (.dK (putK ap k v)))\/
 ∃ap k b,H a=some (.dT ap)/\y=.ref b/\H b=some (.tup (k.map kV))/\ap.length<sizeLine/\H'=upd H a (.dT (putK ap k v))
theorem mK.k {H:Hp}{a:LO}{ap:List (Key×V)}{k:Key}(e:H a=some (.dK ap)):mK H a (kV k) (gy ap k):=.inl ⟨ap,k,.inl e,rfl,rfl⟩
theorem wW.k {H:Hp}{a:LO}{ap:List (Key×V)}{k:Key}{v:V}(e:H a=some (.dK ap))(hl:ap.length<sizeLine):wW H a (kV k) v (upd H a (.dK (putK ap k v))):=.inl ⟨ap,k,e,rfl,hl,rfl⟩
variable {Q:LM->LP->Prop}
section
variable{X:Cx}{ad:List (LO×Obj)}{σ:St}{H:Hp}{s:LP}{a:LO}{y v:V}{u r:LM}{o:Option V}{A:L_}{E:LM->LP->Prop}
theorem Inv.big (I:Inv X ad σ H s):MO<s.heap.objs.size:=by have h:Mx<s.heap.objs.size:=(I.mod.glob.keeps I.bk).lt;exact Jd (by decide) h
theorem pC(hu:A.units+1<cLine)(I:Inv X ad σ H s)(g:mK H a y (some v))(ry:RelV y u)(h:∀w' s',Inv X ad σ H s'->RelV v w'->Q w' s') :
  LS (LW X.prog X.w) A (Od (.ref a) u) Q E s:=by
 rcases g with⟨ap,k,e,ey,l⟩|⟨ap,k,b,e,ey,eb,l⟩
 ·subst ey;obtain⟨z,hd,vs,rel,dd⟩:=vj I.hok e;obtain⟨w',hw,rw'⟩:=p9.some_of (v:=v) (o:=OD vs k) (by rw[l];exact rel.val k);exact wpAny_getItem_of (vi ry) dd.mapOf hw (h w' _ (I.tok _) rw')
 subst ey;cases (show u=L5 b from ry);obtain⟨z,hd,xs,rel,dd⟩:=vm I.hok e;obtain⟨w',hw,rw'⟩:=p9.some_of (v:=v) (o:=(OS xs k).map (·.2)) (by rw[l];exact rel.val k);obtain⟨p,hp,hp2⟩:=HV.mp hw;refine wpAny_getItem_heap (Pu hu) (uq I.hok eb) dd hp ?_;rw[hp2];exact h w' _ (I.tok _) rw'
theorem qy{h':LZ}{ob:HO}(I:Inv X ad σ H s)(mu:Mut (H a))(hs:Mk a s.heap h')(he:∃q,h'.get? a=some q)(new:bZ X.prog X.w (upd H a ob) h' a ob) :
  Inv X ad σ (upd H a ob) {s with heap:=h',toks:=t'}:=
 I.write (x:=a) (e:=a) mu (.inl rfl) (λb q hb z=>(hs.2 b hb).trans z) he new
theorem yk{h':LZ}{ap:List (Key×V)}{vs:List (Key×LM)}(z:ap.length<=sizeLine)(hd:(a == MO)=false)(rel:KV ap vs)(dd:h'.DictOf (bS P w) a vs) :
  bZ P w H' h' a (.dK ap):=⟨z,hd,vs,rel,dd⟩
theorem lO{Q:Unit->LP->Prop}(hu:A.units+1<cLine)(I:Inv X ad σ H s)(g:wW H a y v H')(ry:RelV y u)(rv:RelV v r)(h:∀s',Inv X ad σ H' s'->Q () s') :
  LS (LW X.prog X.w) A (Qq (.ref a) u r) Q E s:=by
 rcases g with⟨ap,k,e,ey,l,eH⟩|⟨ap,k,b,e,ey,eb,l,eH⟩
 ·subst ey eH;obtain⟨z,hd,vs,rel,dd⟩:=Ci I.hok e;have hz:vs.length<=sizeLine:=by rw[<-rel.length];exact z
  have hl:(putK ap k v).length<=sizeLine:=by have:=iS ap k v;lia
  refine wpAny_setItem_pairs (hsz:=hz) (vi ry) dd λh' dd' hs=>h _ ?_;have he:∃q,h'.get? a=some q:=let ⟨q,_,_,hq,_⟩:=dd';⟨q,hq⟩
  exact qy I (by rw[e];exact M6) hs he (yk hl hd (rel.put k rv) dd')
 subst ey eH;cases (show u=L5 b from ry);obtain⟨z,hd,xs,rel,dd⟩:=EB I.hok e;have hz:xs.length<=sizeLine:=by rw[<-NX rel];exact z
 have hl:(putK ap k v).length<=sizeLine:=by have:=iS ap k v;lia
 refine wpAny_setItem_heap (hsz:=hz) (Pu hu) (uq I.hok eb) dd λh' dd' hs=>h _ ?_;obtain⟨q,es,ep,hq,h2,h3,h4,_,h5⟩:=dd';refine qy I (by rw[e];exact M6) hs ⟨q,hq⟩ ⟨hl,hd,_,(rel.put k eb rv).keeps λc ys ec=>?_,q,es,ep,hq,h2,h3,h4,h5⟩;rw[aO (Cm ec e (λz=>nomatch z))];exact ec
end
section
variable{X:Cx}{ad:List (LO×Obj)}{σ:St}{H:Hp}{s:LP}{a:LO}{ap:List (Key×V)}{k:Key}{u:LM}{A:L_}{E:LM->LP->Prop}
theorem ED(I:Inv X ad σ H s)(e:Rd H a (.dK ap))(h:∀t s',Inv X ad σ H s'->Q (.int ap.length t) s'):LS (LW X.prog X.w) A (call (.builtin "len") [.ref a]) Q E s:=by obtain⟨z,hd,vs,rel,dd⟩:=vj I.hok e;refine call_len_dict hd dd (by rw[<-rel.length];rw[Mt]at z;lia) ?_;rw[<-rel.length];exact h _ _ (I.tok _)
end
noncomputable def Ew(i:LY):Prop:=∀ov iv,Of i false ov iv=Ru [ov,iv] (Od ov iv)
variable {pos:Pos}
theorem B7{prog:LV}{A:L_}{E:LM->LP->Prop}{env:Env}{value slice:LY}{T id:String}
  (hl:Pa (.type T) "__getitem__"=pure (some (.builtin id))) (hs:Ew slice)
  (h:LS (LW prog w) A (Mi value env) (λo s₁=>LS (LW prog w) A (Mi slice env) (λi s₂=>s₂.TypeIs o T/\LS (LW prog w) A (Od o i) Q E s₂) E s₁) E s) :
  LS (LW prog w) A (Mi (.Subscript value slice pos) env) Q E s:=by
 refine Qd (Ml h (λo s₁ h₁=>Ml h₁ (λi s₂ h₂=>?_) λ_ _ x=>x) λ_ _ x=>x);obtain⟨hT,h₂⟩:=h₂;unfold NY;refine LL ?_;rw[O3 hT.not_modules];refine LL (MX hT hl ?_);have fin:LS (LW prog w) A (Of slice false o i) (λr s₃=>LS (LW prog w) A (Qx value o r >>= λ_=>pure r) Q E s₃) E s₂:=by rw[hs o i];exact Qf (Ml h₂ (λr s₃ h₃=>LL (Pc (LR h₃))) λ_ _ x=>x)
 first
  |exact LR (LL fin)
  |exact LL (LR (LL fin))
  |exact LL fin
variable {X:Cx}
theorem md{a:LO}{y:V}(I:Inv X ad σ H s)(g:mK H a y o):s.TypeIs (.ref a) "dict":=by
 rcases g with⟨ap,k,e,_,_⟩|⟨ap,k,b,e,_,_,_⟩
 ·obtain⟨_,_,vs,_,dd⟩:=vj I.hok e;exact dd.typeIs
 obtain⟨_,_,xs,_,dd⟩:=vm I.hok e;exact dd.typeIs
def EO(td ty:TE):TE:=λσ H Q=>td σ H λx H1=>ty σ H1 λy H2=>∃a v,x=.ref a/\mK H2 a y (some v)/\Q v H2
def FZ(td ty tv:TE):TS:=λD σ H=>tv σ H λv H1=>td σ H1 λx H2=>ty σ H2 λy H3=>∃a H4,x=.ref a/\wW H3 a y v H4/\D.nx σ H4
section
variable{X:Cx}{o i e value:LY}{pos pos' tpos:Pos}{td ty tv:TE}
theorem mS(hu:X.A.units+1<cLine)(ho:PE X o td)(hi:PE X i ty)(hs:Ew i):PE X (.Subscript o i pos) (EO td ty):=by intro ad s σ H Q I h;refine B7 OA.lookup hs (thn (ho ad s σ H _ I h) λu s1 ⟨x,H1,I1,rx,q1⟩=>thn (hi ad s1 σ H1 _ I1 q1) ?_);rintro iv s2 ⟨y,H2,I2,ry,a,v,ex,g,q2⟩;subst ex;obtain rfl:u=L5 a:=rx;exact⟨md I2 g,pC hu I2 g ry λw' s3 I3 rw'=>⟨v,H2,I3,rw',q2⟩⟩
theorem B4(hu:X.A.units+1<cLine)(ho:PE X o td)(hi:PE X i ty)(hv:PE X value tv)(hs:NG value (some (.Subscript o i pos')) pos.line X.env=pure false) :
  PS X (.Assign [.Subscript o i pos'] value pos) (FZ td ty tv):=by
 intro ad s σ H D I h;refine wpAny_Assign_Subscript (thn (hv ad s σ H _ I h) ?_) hs;rintro r s1 ⟨v,H1,I1,rv,q1⟩;refine thn (ho ad s1 σ H1 _ I1 q1) ?_;rintro u s2 ⟨x,H2,I2,rx,q2⟩;refine thn (hi ad s2 σ H2 _ I2 q2) ?_;rintro iv s3 ⟨y,H3,I3,ry,a,H4,ex,g,q3⟩;subst ex;obtain rfl:u=L5 a:=rx;exact lO hu I3 g ry rv λs4 I4=>⟨σ,H4,I4,q3⟩
end
theorem yx(h:LZ)(hb:MO<h.objs.size):bZ P w H (h.push { cls:=.type "dict",data:=.dict #[] }) h.objs.size (.dK []):=
 ⟨Hq _,beq_eq_false_iff_ne.mpr (Nl (k_ hb)),[],.nil,RZ h⟩
noncomputable def ur:List (TE×TE)->St->Hp->(List (V×V)->Hp->Prop)->Prop
 | [],_,H,Q=>Q [] H
 | (tk,tv)::r,σ,H,Q=>tk σ H λx H1=>tv σ H1 λy H2=>ur r σ H2 λps H3=>Q ((x,y)::ps) H3
abbrev VV:List (V×V)->List (LM×LM)->Prop:=OF λp q=>RelV p.1 q.1/\RelV p.2 q.2
def PPs(X:Cx)(pos:Pos)(keys:List (Option LY))(values:List LY)(trs:List (TE×TE)):Prop:=
 ∀(ad:List (LO×Obj)) (s:LP) (σ:St) (H:Hp) (Q:List (V×V)->Hp->Prop),Inv X ad σ H s->ur trs σ H Q->
  LS (LW X.prog X.w) X.A (evalPairs (pairTrees keys values X.env pos)) (λvs s'=>∃ps H',Inv X ad σ H' s'/\VV ps vs/\Q ps H') X.xe s
theorem Aw:PPs X pos [] [] []:=λad s σ H Q I h=>pairTrees_nil_walk ⟨[],H,I,.nil,h⟩
variable {trs:List (TE×TE)}
theorem tJ{k v:LY}{ks:List (Option LY)}{vs:List LY}{tk tv:TE}(hk:PE X k tk)(hv:PE X v tv)(hr:PPs X pos ks vs trs) :
  PPs X pos (some k::ks) (v::vs) ((tk,tv)::trs):=λad s σ H Q I h=>
 pairTrees_cons_walk (thn (hk ad s σ H _ I h) λu s1 ⟨x,H1,I1,rx,q1⟩=>thn (hv ad s1 σ H1 _ I1 q1) λw2 s2 ⟨y,H2,I2,ry,q2⟩=>
  thn (hr ad s2 σ H2 _ I2 q2) λws s3 ⟨ps,H3,I3,rel,q3⟩=>⟨(x,y)::ps,H3,I3,.cons ⟨rx,ry⟩ rel,q3⟩)
def iY(ap more:List (Key×V)):List (Key×V):=more.foldl (λacc kv=>putK acc kv.1 kv.2) ap
theorem KV.merge:∀{more:List (Key×V)}{rs:List (Key×LM)}{ap:List (Key×V)}{vs:List (Key×LM)},KV more rs->KV ap vs->KV (iY ap more) (merged vs rs):=by
 intro more rs ap vs r;unfold KV at r;induction r generalizing ap vs with
 |nil=>intro q;exact q
 | @cons p q ps qs h t ih=>
  intro r0;have e:KV (putK ap p.1 p.2) (stored vs q.1 q.2):=by have:=r0.put p.1 h.2;rw[<-h.1];exact this
  exact ih e
theorem jC:∀(more ap:List (Key×V)),(iY ap more).length<=ap.length+more.length
 | [],ap=>by show ap.length<=ap.length+0;lia
 |p::r,ap=>by have h1:=jC r (putK ap p.1 p.2);have h2:=iS ap p.1 p.2;show(iY (putK ap p.1 p.2) r).length<=_;rw[f_];lia
theorem ow{P:LV}{w:L0}:∀{ap:List (Key×V)}{ws:List (LM×LM)},VV (ap.map λkv=>(kV kv.1,kv.2)) ws->∃rs,Carries (bS P w) ws rs/\KV ap rs
 | [],_,r=>by rw[Il]at r;cases r;exact⟨[],M6,.nil⟩
 |p::ap,_,r=>by
  rw[h_]at r;cases r with
  | @cons a b as bs h t=>
   obtain⟨rs,c,q⟩:=ow (P:=P) (w:=w) t;obtain⟨b1,b2⟩:=b;exact⟨(p.1,b2)::rs,⟨vi h.1,rfl,c⟩,.cons ⟨rfl,h.2⟩ q⟩
def F5(trs:List (TE×TE)):TE:=λσ H Q=>∀p,H p=none->ur trs σ (upd H p (.dK [])) λps H2=>H2 p=some (.dK [])/\∃ap:List (Key×V),ps=ap.map (λkv=>(kV kv.1,kv.2))/\ap.length<=15/\Q (.ref p) (upd H2 p (.dK (iY [] ap)))
theorem B6{keys:List (Option LY)}{values:List LY}(h:PPs X pos keys values trs)(hall:keys.all (·.isSome)=true)(hl:keys.length=values.length)(h0:keys≠[])
  (h15:keys.length<=15):PE X (.Dict keys values pos) (F5 trs):=by
 intro ad s σ H Q I q;have hn:=I.hok.fresh (e_ s.heap.objs.size);have I1:=I.laid (a:=s.heap.objs.size) (o:=.dK []) (h':=s.heap.push { cls:=.type "dict",data:=.dict #[] }) (t':=s.toks) (λ_ _ q=>LQ _ q) (e_ _) (yx s.heap I.big);refine wpAny_Dict_walk (knd:=bS X.prog X.w) hall hl h0 h15 (thn (h ad _ σ _ _ I1 (q _ hn)) ?_);rintro ws s2 ⟨ps,H2,I2,rel,e,ap,ep,lk,q2⟩;subst ep;obtain⟨rs,c,rk⟩:=ow (P:=X.prog) (w:=X.w) rel;obtain⟨z,hd,vs0,r0,dd⟩:=Ci I2.hok e;cases r0;refine⟨rs,c,dd,λh' dd' hs=>⟨.ref s.heap.objs.size,_,?_,rfl,q2⟩⟩;have hz:(iY [] ap).length<=sizeLine:=by have h1:=jC ap [];rw[HG]at h1;rw[Mt];lia
 have he:∃q,h'.get? s.heap.objs.size=some q:=let ⟨q,_,_,hq,_⟩:=dd';⟨q,hq⟩
 exact qy I2 (by rw[e];exact M6) hs he (yk hz hd (rk.merge .nil) dd')
end L2
namespace Att
open PySem PySem.W PySem.Calls PyProof.Rows
theorem mJ{P:OJ}{h:LZ}:∀(ns:List Int) (vs:List LM),WellAll P h vs (ns.map WData.int)->PC vs ns:=by
 intro ns;induction ns with
 |nil=>
  intro vs w;rw[Il]at w;cases w;exact .nil
 |cons n ns ih=>
  intro vs w;rw[h_]at w;cases w with
  |cons a b=>
   cases a;exact .cons _ _ (ih _ b)
theorem xu{l:OpenLaw}{n:Nat}(hn:l.most=some n){P:OJ}{h:LZ}{args:List WData}{vals:List LM}
  (hpre:l.row.toRowW.claim.pre args=true) (hwl:WellAll P h vals args) :
  ∃a vs ns,vals=[L5 a]/\args=[WData.list (ns.map WData.int)]/\h.get? a=some { cls:=.type "list",data:=.seq vs.toArray}/\PC vs ns/\ns.length<=n:=by
 have hsh:WShape.hasAll [] args [.list .int]=true:=(pre_splitW hpre).1;have hc:l.pre.holds [] { args:=args}=true:=(pre_splitW hpre).2;obtain⟨d,r,rfl,h1,h2⟩:=hasAllW_cons hsh;obtain rfl:=hasAllW_nil h2;obtain⟨xs,rfl,h3⟩:=hasW_list h1;obtain⟨ns,rfl⟩:=items_int h3;have hlen:ns.length<=n:=by
  unfold OpenLaw.pre at hc;have h4:(WTm.not (.lt (.lit (.int (n:Int))) (.len (.arg 0)))).holds [] { args:=[.list (ns.map .int)] }=true:=by have h4:=(holds_andW hc).1;rw[hn]at h4;exact h4
  have h5:=condW_of h4 (w_not (w_lt w_lit (w_len_list (w_arg rfl))));rw[a_]at h5;refine K9 λq=>?_;have q':(n:Int)<((ns.length:Nat):Int):=by lia
  first
   | (rw[decide_eq_true q']at h5;exact absurd h5 (by decide))
   | (simp at h5;omega)
 cases hwl with
 |cons w1 w2=>
  cases w2;cases w1 with
  |list ho hall=>exact⟨_,_,ns,rfl,rfl,ho,mJ ns _ hall,hlen⟩
theorem xG(l:OpenLaw)(args:List WData):l.row.toRowW.claim.post args (.bool true) args=true:=
 postW_of (r:=l.row.toRowW) (X:=(true == true))
  (show WShape.has [] (.bool true) .bool=true by first|rfl|decide|simp[WShape.has,WShape.arms,WShape.armsAll])
  (show(WTm.eq .res (.lit (.bool true))).value [] { args:=args,res:=some (.bool true),after:=args}=some (.bool (true == true))from w_eq_bool (w_res rfl) w_lit) rfl
theorem sx{l:OpenLaw}{n:Nat}{q:LV}{loose:List Str}{XP:(Str->Option LM)->LZ->Prop}{YP:L0->LZ->Prop}{d:DefRec}
  (hn:l.most=some n) (hdf:d.params.defaults=[])
  (call:∀(w:L0) (s₀ s₁:LP) (mg mb:Str->Option LM) (fa:LO) (o:Obj) (pm cd doc:LM) (a:LO) (vs:List LM) (ns:List Int),
   Ground q loose [] XP w s₀ mg mb s₁.heap->YP w s₁.heap->
   s₁.heap.get? fa=some o->o.data=.func (docDef d.name d.params d.body d.scope pm cd doc)->s₁.heap.CodeRec cd d.name->mg d.name=some (.ref fa)->
   s₁.heap.get? a=some { cls:=.type "list",data:=.seq vs.toArray}->PC vs ns->ns.length<=n->s₁.gens=#[]->
   Nn (LW l.prog w) OE (.call (.ref fa) ⟨[.ref a],[]⟩) (λr s'=>r=.ok (.ret (.bool true))/\OldK s₁.heap s'.heap/\s'.os=s₁.os/\N4 s'.gens) s₁) :
  WalkO q loose XP YP l.row.toRowW d [] (λf vs=>Qg f vs):=by
 intro w s₀ s₁ mg mb G Y fa o pm cd doc dV kV ho hd hcd hD hmg hg args vals as hpre hlay hrd hwl hlo;obtain rfl:dV=.none:=Dflts.none hD hdf;obtain rfl:kV=.none:=Dflts.noKw hD;obtain⟨a,vs,ns,rfl,rfl,hobj,hints,hlen⟩:=xu hn hpre hwl;refine enter_call (Np (call w s₀ s₁ mg mb fa o pm cd doc a vs ns G Y ho (fd_plain hd) hcd hmg hobj hints hlen hg) λr s' hq=>?_);obtain⟨rfl,h2,h3,h4⟩:=hq;exact⟨.inl ⟨.bool true,.bool true,[],rfl,λ_=>rfl,.bool true,xG l _,λ_=>⟨Ig,λ_ hm=>(nomatch hm)⟩⟩,h2,h3,h4⟩
section
variable{prog:LV}{w:L0}{A:L_}{E:LM->LP->Prop}{s:LP}{K:Frag}
noncomputable def ledger(h:LZ)(L d:LO):List (LO×Obj):=(r_ h.objs.size).filterMap λa=>if a=L\/a=d then none else(h.get? a).map λo=>(a,o)
end
end Att
namespace L2
open PySem PySem.Spec PyProof.Rows
theorem pW:∀{vs:List LM}{ns:List Int},PC vs ns->Vals (ns.map V.int) vs
 | _,_,.nil=>.nil
 | _,_,.cons n t h=>.cons ⟨t,rfl⟩ (pW h)
noncomputable def El(H:Hp):Prop:=∀b,H b=none\/∃o xs,H b=some (.frz o (.lst xs))
variable {fd:L6}{x:Str}
theorem yS{P:LV}{w:L0}{K:LN}{mg mb:Str->Option LM}{CX:CXT}{k:Nat}{fa a:LO}{sp:Sp}{s₁:LP}{vs:List LM}{ns:List Int}
  (KX:K.In s₁.heap) (hns:s₁.heap.Ns Mx mg) (hb:s₁.heap.Ns O9 mb) (hbb:∀x:Str,x≠"__name__"->mb x=MQ x) (hlim:s₁.heap.NoLimit) (hg:s₁.gens=#[])
  (ha:s₁.heap.get? a=some { cls:=.type "list",data:=.seq vs.toArray}) (hi:PC vs ns) (hl:ns.length<=sizeLine) (hr:Room k OE)
  (F:∀base:LZ,K.In base->base.Ns Mx mg->FnOk P w K mg base CX k fa fd [x] sp) (hbind:∀(s:LP) (u:LM),O2 s fd ⟨[u],[]⟩ [(x,u)])
  (hsp:∀H:Hp,El H->SqL K H a (ns.map V.int)->sp [.ref a] H (λv _=>v=.bl true) λ_ _ _=>False)
  (hCX:∀H e s',CX [] H s₁ (λ_ _ _=>False) e s'->False) :
  Nn (LW P w) OE (.call (.ref fa) ⟨[.ref a],[]⟩) (λr s'=>r=.ok (.ret (.bool true))/\OldK s₁.heap s'.heap/\s'.os=s₁.os/\N4 s'.gens) s₁:=by
 have rv:=pW hi;have lenV:=hi.length;have core:∀H:Hp,El H->SqL K H a (ns.map V.int)->HOk P w H s₁.heap->(∀b,H b≠none->b=a)->(H a≠none->K.lookup a=none)->
   Nn (LW P w) OE (.call (.ref fa) ⟨[.ref a],[]⟩) (λr s'=>r=.ok (.ret (.bool true))/\OldK s₁.heap s'.heap/\s'.os=s₁.os/\N4 s'.gens) s₁:=by
  intro H hO hS hok hA hK;have base_of:∀{b:LO}{o:Obj},s₁.heap.get? b=some o->H b=none->(qz s₁.heap H).get? b=some o:=λe n=>ya e n;have noA:∀{b:LO}{o:Obj}{es:Array QI}{ep:Nat},s₁.heap.get? b=some o->o.data=.dict es ep->H b=none:=λ{b o es ep} e d=>by
   cases q:H b with
   |none=>rfl
   |some u=>
    have e':b=a:=hA b (by rw[q];simp);subst e';rw[ha]at e;cases e;have d':Data.seq vs.toArray _=Data.dict es ep:=d;cases d'
  have nsK:∀{b:LO}{m:Str->Option LM},s₁.heap.Ns b m->(qz s₁.heap H).Ns b m:=λ{b m} ⟨o,es,ep,e,d,r⟩=>⟨o,es,ep,base_of e (noA e d),d,r⟩;have hKb:K.In (qz s₁.heap H):=λb o e=>base_of (KX b o e) (by
   cases q:H b with
   |none=>rfl
   |some u=>
    have e':b=a:=hA b (by rw[q];simp);subst e';rw[hK (by rw[q];simp)]at e;cases e)
  have hM:Mod K mg (qz s₁.heap H):=⟨hKb,nsK hns,⟨mb,nsK hb,hbb⟩,let ⟨mc,h1,h2⟩:=hlim;⟨mc,nsK h1,h2⟩⟩;have e0:Env0 P w K mg (qz s₁.heap H) OE [] s₁ H:=⟨rfl,hM,λb o e=>Bh e,Nat.le_of_eq (xC _ _),trivial,λb hb=>absurd (show b∈([]:List LO)from hb) (by simp),hok,.of_eq hg⟩;refine Np ((F _ hKb (nsK hns)).run OE [] s₁ H ⟨[.ref a],[]⟩ [.ref a] [.ref a] _ _ hr e0 (hbind s₁ (.ref a)) (.cons rfl .nil) (hsp H hO hS)) λr s' h=>?_;cases r with
  |error e=>exact(hCX H e s' h).elim
  |ok fl=>
   cases fl with
   |next=>exact L4 h
   |brk=>exact L4 h
   |cont=>exact L4 h
   |ret u=>
    obtain⟨v,H',os,bare,un,hok',r',q⟩:=h;have q':v=.bl true:=q;subst q';obtain rfl:u=P' true:=r';refine⟨rfl,OldK.of_keep λb o e=>?_,os,bare⟩;cases q:H b with
    |none=>exact un.keep b o e q (by intro z;exact absurd (show b∈([]:List LO)from z) (by simp)) (by simp)
    |some u=>
     rcases hO b with z|⟨ob,xs,z⟩
     ·rw[q]at z;cases z
     have z2:=un.frzs b ob _ z;obtain⟨e1,_⟩:=hok b _ z;obtain⟨e2,_⟩:=hok' b _ z2;rw[e]at e1;cases e1;exact e2
 cases hk:K.lookup a with
 |some o=>
  have e:=KX a o hk;rw[ha]at e;cases e;refine core (λ_=>none) (λ_=>.inl rfl) (.inr ⟨_,vs.toArray,_,hk,rfl,rfl,rfl,by rw[j_,lenV];exact hl,by simpa using rv⟩) (λb u z=>by have z':(none:Option HO)=some u:=z;cases z') (λb z=>absurd rfl z) λz=>absurd rfl z
 |none=>
  refine core (λb=>if b=a then some (.frz { cls:=.type "list",data:=.seq vs.toArray} (.lst (ns.map V.int)))else none) (λb=>?_) (.inl (.inr ⟨{ cls:=.type "list",data:=.seq vs.toArray},if_pos rfl⟩)) (λb u z=>?_) (λb z=>?_) λ_=>hk
  ·by_cases hb:b=a
   ·exact .inr ⟨_,_,if_pos hb⟩
   exact .inl (if_neg hb)
  ·by_cases hb:b=a
   ·have z':=(if_pos hb).symm.trans z;cases z';subst hb;exact⟨ha,by rw[a_];exact hl,vs,_,rv,ha⟩
   have z':=(if_neg hb).symm.trans z;cases z'
  by_cases hb:b=a
  ·exact hb
  exact absurd (if_neg hb) z
theorem AM{l:OT}{n k:Nat}{q:LV}{loose:List Str}{XP:(Str->Option LM)->LZ->Prop}{YP:L0->LZ->Prop}{d:DefRec}{K:OJ->LN}{CX:L0->CXT}{sp:L0->Sp}
  (hn:l.most=some n) (hn2:n<=sizeLine) (hdf:d.params.defaults=[]) (hr:Room k OE)
  (hY:∀(w:L0) (h:LZ),YP w h->(K w.params).In h)
  (F:∀(w:L0) (mg:Str->Option LM) (fa:LO) (h:LZ),(K w.params).In h->h.Ns Mx mg->mg d.name=some (.ref fa)->
   ∃fd:L6,(∀(s:LP) (u:LM),O2 s fd ⟨[u],[]⟩ [(x,u)])/\
    ∀base:LZ,(K w.params).In base->base.Ns Mx mg->FnOk l.prog w (K w.params) mg base (CX w) k fa fd [x] (sp w))
  (hsp:∀(w:L0) (H:Hp) (a:LO) (ns:List Int),ns.length<=n->El H->SqL (K w.params) H a (ns.map V.int)->sp w [.ref a] H (λv _=>v=.bl true) λ_ _ _=>False)
  (hCX:∀(w:L0) (H:Hp) (s:LP) (e:LM) (s':LP),CX w [] H s (λ_ _ _=>False) e s'->False) :
  QP q loose XP YP l.row.toRowW d [] (λf vs=>Qg f vs):=by
 refine Att.sx hn hdf λw s₀ s₁ mg mb fa o pm cd doc a vs ns G Y ho hd hcd hmg hobj hints hlen hg=>?_;have KX:=hY w _ Y;obtain⟨fd,hb,hF⟩:=F w mg fa _ KX G.T.g hmg;exact yS KX G.T.g G.T.b G.T.builtins G.T.nolimit hg hobj hints (GZ hlen hn2) hr hF hb (λH hO hS=>hsp w H a ns hlen hO hS) λH e s'=>hCX w H s₁ e s'
noncomputable def gL(s:Md):Arguments:=match s with
 | .FunctionDef _ a _ _ _ _ _ _ _ _=>a
 | _=>{ posonlyargs:=[],args:=[],vararg:=none,kwonlyargs:=[],kw_defaults:=[],kwarg:=none,defaults:=[] }
noncomputable def f6(s:Md):List Md:=match s with
 | .FunctionDef _ _ b _ _ _ _ _ _ _=>b
 | _=>[]
noncomputable def av(s:Md):MD:=match s with
 | .FunctionDef _ _ _ _ _ _ sc _ _ _=>sc
 | _=>{ kind:=.function,names:=[],isGenerator:=false,isCoroutine:=false}
abbrev CX0:CXT:=λ_ _ _ _ _ _=>False
abbrev E0:XK:=λ_ _ _=>False
theorem G1{X:Cx}:Passes CX0 X E0:=λ_ _ _ _ _ _ _ h=>h.elim
structure Fun (K:LN) (x qual:Str) (st:Md) (f:LO) (fd:L6):Prop where
 ex:∃(oc:LM) (od:Option LO) (kV doc pm:LM) (an:Option LO) (cdv ct:LM) (osl:Array (Option LM)),
  fd=MS x qual (gL st) (f6 st) (av st) .none kV doc pm an cdv ct/\K.lookup f=some ⟨oc,od,.func fd,osl⟩/\Oc K cdv qual=true
 kp:NO K (.ref f)=true
variable {f:LO}{ps:List Str}{qual:Str}{st:Md}
section
variable{P:LV}{w:L0}{K:LN}{mg:Str->Option LM}{base:LZ}
theorem Fun.ok {N:List Str}{k:Nat}{sp:Sp}(F:Fun K x qual st f fd)(S:FnScope N ps (av st))(len:∀vs H Q E,sp vs H Q E->vs.length=ps.length)
  (hbody:∀(cdv:LM) (A:L_) (outer:List Env) (s:LP) (H:Hp) (vs:List V) (Q:VK) (E:XK),Room k (A.deeper (N9 qual (av st) s.heap.objs.size f cdv))->sp vs H Q E->
   ∃t,PSs (uE CX0 P w K mg base N qual (av st) f cdv A outer s H E).nox (f6 st) t/\t { nx:=λ_ H'=>Q .non H',rt:=Q} (start N vs) H):FnOk P w K mg base CX0 (k+1) f fd ps sp:=by
 obtain⟨oc,od,kV,doc,pm,an,cdv,ct,osl,rfl,lk,hcd⟩:=F.ex;refine F0 lk hcd S len λA outer s H vs Q E hr hsp=>?_;obtain⟨t,h,q⟩:=hbody cdv A outer s H vs Q E hr hsp;exact⟨t,h.nox,q⟩
theorem Fun.binds (F:Fun K x qual st f fd)
  (h:∀(kV doc pm:LM) (an:Option LO) (cdv ct:LM) (us:List LM),us.length=ps.length->Q6 (MS x qual (gL st) (f6 st) (av st) .none kV doc pm an cdv ct) ⟨us,[]⟩=pure (ps.zip us)):Binds K fd ps []:=by
 obtain⟨oc,od,kV,doc,pm,an,cdv,ct,osl,rfl,lk,hcd⟩:=F.ex;exact .all (h kV doc pm an cdv ct)
theorem tU{oc:LM}{od an:Option LO}{osl:Array (Option LM)}{kV doc pm cdv ct:LM}(l:K.lookup f=some ⟨oc,od,.func (MS x qual (gL st) (f6 st) (av st) .none kV doc pm an cdv ct),osl⟩)
  (c:Oc K cdv qual=true) (k:NO K (.ref f)=true):Fun K x qual st f (MS x qual (gL st) (f6 st) (av st) .none kV doc pm an cdv ct):=⟨⟨oc,od,kV,doc,pm,an,cdv,ct,osl,rfl,l,c⟩,k⟩
end
theorem pH{A:L_}{k:Nat}(hr:Room k A):A.units+1<cLine:=H_ (Nat.add_le_add_left (by decide:1<=64) _) hr.units
section
variable{X:Cx}
theorem pv(i:Nat){pos:Pos}(hN:X.N[i]?=some x:=by rfl)(hv:Vis X.env.scope x:=by first|exact gV rfl|exact t_ (gV rfl)|exact t_ (t_ rfl))(hd:(x ==("__debug__":Str))=false:=by decide)
  (hcd:(x ==("__classdict__":Str))=false:=by decide):PE X (.Name x pos) (Eo i):=iQ hN hv hd hcd
end
theorem Gh{A B:Prop}(h:B):if false=true then A else B:=by rw[if_neg B_];exact h
theorem Gv{A B:Prop}(h:A):if true=true then A else B:=by rw[if_pos rfl];exact h
noncomputable def bg(H H':Hp):Prop:=∀b o,H b=some o->H' b=some o
theorem bg.seq {K:LN}{H H':Hp}{a:LO}{xs:List V}(e:bg H H')(h:SqL K H a xs):SqL K H' a xs:=by
 rcases h with (h|⟨o,h⟩)|h
 ·exact .inl (.inl (e _ _ h))
 ·exact .inl (.inr ⟨o,e _ _ h⟩)
 exact .inr h
end L2
namespace ZG
open PySem
noncomputable def Sq(b:Bool)(h:LZ)(l:LO)(xs:Array LM):Prop:=match b with
 |true=>h.IsTuple l xs
 |false=>h.IsList l xs
noncomputable def Dr(b:Bool)(h:LZ)(i l:LO)(k:Nat):Prop:=match b with
 |true=>h.IsTupleIter i l k
 |false=>h.IsListIter i l k
variable {b:Bool}{h h':LZ}{xs:Array LM}
theorem Sq.ext {l c:LO}(x:Sq b h l xs)(k:Og c h h')(n:l≠c):Sq b h' l xs:=by
 cases b with
 |true=>exact RC (show h.IsTuple l xs from x) k n
 |false=>exact RL (show h.IsList l xs from x) k n
variable {i:LO}
theorem Dr.ext {l c:LO}{k:Nat}(x:Dr b h i l k)(e:Og c h h')(n:i≠c):Dr b h' i l k:=by
 cases b with
 |true=>exact Rg (show h.IsTupleIter i l k from x) e n
 |false=>exact Rq (show h.IsListIter i l k from x) e n
theorem Dr.some {b:Bool}{h:LZ}{i l:LO}{k:Nat}(x:Dr b h i l k):∃o,h.get? i=some o/\∀v,o.data≠.cell v:=by
 cases b with
 |true=>obtain⟨o,e,_,d⟩:=(show h.IsTupleIter i l k from x);exact⟨o,e,λv z=>by rw[d]at z;cases z⟩
 |false=>obtain⟨o,e,_,d⟩:=(show h.IsListIter i l k from x);exact⟨o,e,λv z=>by rw[d]at z;cases z⟩
theorem Dr.at {l:LO}{k:Nat}(x:Dr b h i l k)(e:∀o,h.get? i=Ks o->h'.get? i=Ks o):Dr b h' i l k:=by
 cases b with
 |true=>obtain⟨o,q,r⟩:=(show h.IsTupleIter i l k from x);exact⟨o,e o q,r⟩
 |false=>obtain⟨o,q,r⟩:=(show h.IsListIter i l k from x);exact⟨o,e o q,r⟩
theorem Sq.at {l:LO}(x:Sq b h l xs)(e:∀o,h.get? l=Ks o->h'.get? l=Ks o):Sq b h' l xs:=by
 cases b with
 |true=>obtain⟨o,q,r⟩:=(show h.IsTuple l xs from x);exact⟨o,e o q,r⟩
 |false=>obtain⟨o,q,r⟩:=(show h.IsList l xs from x);exact⟨o,e o q,r⟩
variable {Q:LM->LP->Prop}{a:LM}{b1 b2:Bool}{i1 i2 l1 l2 z:LO}{ys:Array LM}
section
variable{prog:LV}{w:L0}{A:L_}{E:LM->LP->Prop}{s:LP}
theorem Br{l:LO}{k:Nat}{v:LM}(d:s.heap.IsTupleIter i l k)(q:s.heap.IsTuple l xs)(hv:xs[k]?=some v)
  (r:∀g,g.IsTupleIter i l (k+1)->Mk i s.heap g->Q v {s with heap:=g}):LS (LW prog w) A (L8 (.ref i)) Q E s:=by
 obtain⟨oi,hoi,ci,di⟩:=id d;obtain⟨ol,hol,_,nl,dl⟩:=q;unfold L8;refine LL (Mu (name:=MT "__next__") d.typeIs MZ (MK MZ d.typeIs Oj ?_ (Oe _)));show LS _ _ (N_ (.ref i) 0 >>= _) _ _ s;refine LL (Mh hoi di (x:=.ref l) rfl ?_);show LS _ _ (if(L5 l == ME)=true then _ else _) _ _ s;rw[if_neg (show ¬((L5 l == ME)=true)from B_)];show LS _ _ (N_ (.ref i) 1 >>= _) _ _ s;refine LL (Mh hoi di (x:=.int k 0) rfl ?_);show LS _ _ (seqItems? (.ref l) >>= _) _ _ s;refine LL (Mn hol dl ?_);simp only[HR,hv];refine LL (Qy hoi di (by simp) (LR ⟨v,rfl,LR (r _ ?_ (NB ..))⟩));exact⟨_,MA _ hoi (Obj.isFreed_of_fields (Pw di _)),(Obj.cls_mapFields ..).trans ci,by rw[Pw di];simp[Oi]⟩
theorem DV{l:LO}{k:Nat}(hh:A.handled=none)(d:s.heap.IsTupleIter i l k)(q:s.heap.IsTuple l xs)(hv:xs[k]?=none)
  (r:∀g e,Og i s.heap g->(∃o,g.get? e=some o/\o.cls=.type "StopIteration")->E (.ref e) {s with heap:=g}):LS (LW prog w) A (L8 (.ref i)) Q E s:=by
 obtain⟨oi,hoi,ci,di⟩:=id d;obtain⟨ol,hol,_,nl,dl⟩:=q;unfold L8;refine LL (Mu (name:=MT "__next__") d.typeIs MZ (MK MZ d.typeIs Oj ?_ (Oe _)));show LS _ _ (N_ (.ref i) 0 >>= _) _ _ s;refine LL (Mh hoi di (x:=.ref l) rfl ?_);show LS _ _ (if(L5 l == ME)=true then _ else _) _ _ s;rw[if_neg (show ¬((L5 l == ME)=true)from B_)];show LS _ _ (N_ (.ref i) 1 >>= _) _ _ s;refine LL (Mh hoi di (x:=.int k 0) rfl ?_);show LS _ _ (seqItems? (.ref l) >>= _) _ _ s;refine LL (Mn hol dl ?_);simp only[HR,hv];refine LL (N7 (LL (Qy hoi di (by simp) ?_)));show LS _ _ (newExc (.type "StopIteration") [] >>= _) _ _ _;refine LL ?_;simp only[newExc,newTuple];refine LL (MP ?_ (by size_fits));refine LL (m:=Qz _ _) (OY (a:=ME) (by first|rfl|(simp only[Qz];rfl)) ?_);refine MP ?_ (by size_fits);simp only[raiseNew];refine LL (wpAny_handled ?_)
 first|rw[show A.in1.handled=none from hh]|rw[hh]
 refine LL (LR (wpAny_throw ?_));exact r _ _ (((NB ..).extBut.push _).push _) ⟨_,LX _ rfl,rfl⟩
theorem lR{l:LO}{k:Nat}{v:LM}(d:Dr b s.heap i l k)(q:Sq b s.heap l xs)(hv:xs[k]?=some v)
  (r:∀g,Dr b g i l (k+1)->Mk i s.heap g->Q v {s with heap:=g}):LS (LW prog w) A (L8 (.ref i)) Q E s:=by
 cases b with
 |true=>exact Br d q hv r
 |false=>exact wpAny_nextOf_list_item d q hv r
theorem va{l:LO}{k:Nat}(hh:A.handled=none)(d:Dr b s.heap i l k)(q:Sq b s.heap l xs)(hv:xs[k]?=none)
  (r:∀g e,Og i s.heap g->(∃o,g.get? e=some o/\o.cls=.type "StopIteration")->E (.ref e) {s with heap:=g}):LS (LW prog w) A (L8 (.ref i)) Q E s:=by
 cases b with
 |true=>exact DV hh d q hv r
 |false=>exact wpAny_nextOf_list_end hh d q hv r
structure Off (z TI TO i1 i2 l1 l2:LO):Prop where
 a1:TI≠z
 a2:TO≠z
 a3:i1≠z
 a4:i2≠z
 a5:TI≠TO
 a6:TI≠i1
 a7:TI≠i2
 a8:TO≠i1
 a9:TO≠i2
 b1:i1≠i2
 c1:l1≠z
 c2:l1≠TO
 c3:l1≠i1
 c4:l1≠i2
 e1:l2≠z
 e2:l2≠TO
 e3:l2≠i1
 e4:l2≠i2
theorem FN{TI TO:LO}{k:Nat}{x y b:LM}(D:Off z TI TO i1 i2 l1 l2)
  (hz:Nu s.heap z TI TO .none) (hi:My s.heap TI (.ref i1) (.ref i2)) (ho:My s.heap TO a b)
  (d1:Dr b1 s.heap i1 l1 k) (d2:Dr b2 s.heap i2 l2 k) (q1:Sq b1 s.heap l1 xs) (q2:Sq b2 s.heap l2 ys) (hx:xs[k]?=some x) (hy:ys[k]?=some y)
  (r:∀g,Nu g z TI TO (Oi s.heap.objs.size)->My g TO x y->Dr b1 g i1 l1 (k+1)->Dr b2 g i2 l2 (k+1)->My g s.heap.objs.size x y->g.objs.size=s.heap.objs.size+1->
   (∀c o,c≠z->c≠TO->c≠i1->c≠i2->s.heap.get? c=some o->g.get? c=some o)->Q (.ref s.heap.objs.size) {s with heap:=g}) :
  LS (LW prog w) A (Nq.«zip.__next__» ⟨[.ref z],[]⟩) (λfin s'=>∃v,fin=.done (.ret v)/\Q v s') E s:=by
 show LS _ _ (N_ (.ref z) 2 >>= _) _ _ _;refine LL (Mh hz rfl (x:=.bool false) rfl ?_);show LS _ _ (N_ (.ref z) 3 >>= _) _ _ _;refine LL (Mh hz rfl (x:=.ref TI) rfl (LL (Mn hi rfl ?_)));show LS _ _ (Mc (.ref z) >>= _) _ _ _;refine LL ?_;unfold Mc;refine LL (Mh hz rfl (x:=.none) rfl (LR ?_));simp only[if_true];refine LL (N7 (LL (Mh hz rfl (x:=.ref TO) rfl (LL (MM hz (by simp) λg1 z1 s1=>?_)))));have z1:Nu g1 z TI TO .ellipsis:=z1;refine LL ?_;simp only[K_,Lg,I0,Jn];refine LL (LL (Ov ?_));show LS _ _ (L8 (.ref i1) >>= _) _ _ _;refine LL (lR (d1.ext s1.extBut D.a3) (q1.ext s1.extBut D.c1) hx λg2 w2 s2=>LR ?_);have o2:My g2 TO a b:=s2.extBut _ _ D.a8 (s1.extBut _ _ D.a2 ho);refine LL (Mn o2 rfl (LL (Oa o2 λg3 o3 s3=>?_)));have o3:My g3 TO x b:=o3;refine LL (NV (LR (LL (LL (Ov ?_)))));show LS _ _ (L8 (.ref i2) >>= _) _ _ _;refine LL (lR (((d2.ext s1.extBut D.a4).ext s2.extBut D.b1.symm).ext s3.extBut D.a9.symm) (((q2.ext s1.extBut D.e1).ext s2.extBut D.e3).ext s3.extBut D.e2) hy λg4 w4 s4=>LR ?_);have o4:My g4 TO x b:=s4.extBut _ _ D.a9 o3;refine LL (Mn o4 rfl (LL (Oa o4 λg5 o5 s5=>?_)));have o5:My g5 TO x y:=o5;refine LL (NV (LR (LR (LL (Mn o5 rfl (LL (QA ?_)))))));have sz:g5.objs.size=s.heap.objs.size:=by rw[s5.1,s4.1,s3.1,s2.1,s1.1]
 have z5:Nu g5 z TI TO .ellipsis:=s5.extBut _ _ D.a2.symm (s4.extBut _ _ D.a4.symm (s3.extBut _ _ D.a2.symm (s2.extBut _ _ D.a3.symm z1)));have k5:∀c o,c≠z->c≠TO->c≠i1->c≠i2->s.heap.get? c=some o->g5.get? c=some o:=λc o n1 n2 n3 n4 e=>
  s5.extBut _ _ n2 (s4.extBut _ _ n4 (s3.extBut _ _ n2 (s2.extBut _ _ n3 (s1.extBut _ _ n1 e))))
 have w15:Dr b1 g5 i1 l1 (k+1):=((w2.ext s3.extBut D.a8.symm).ext s4.extBut D.b1).ext s5.extBut D.a8.symm;have w25:Dr b2 g5 i2 l2 (k+1):=w4.ext s5.extBut D.a9.symm;have zlt:z<g5.objs.size:=LU z5;show LS _ _ (NJ (.ref z) (.ref g5.objs.size) >>= _) _ _ _;refine LL ?_;unfold NJ;have z6:Nu (g5.push { cls:=.type "tuple",data:=.seq #[x,y] }) z TI TO .ellipsis:=LQ _ z5;refine LL (MM z6 (by simp) λg7 z7 s7=>?_);have z7:Nu g7 z TI TO (Oi g5.objs.size):=z7;refine MM z7 (by simp) λg8 z8 s8=>?_
 have z8:Nu g8 z TI TO (Oi g5.objs.size):=z8;have up:∀c o,c≠z->g5.get? c=some o->g8.get? c=some o:=λc o n e=>s8.extBut _ _ n (s7.extBut _ _ n (LQ _ e));have t8:My g8 g5.objs.size x y:=s8.extBut _ _ (Jc zlt) (s7.extBut _ _ (Jc zlt) (LX _ rfl));have e8:g8.objs.size=g5.objs.size+1:=by rw[s8.1,s7.1,Mo]
 rw[sz]at z8 t8 e8;refine LR ⟨_,rfl,?_⟩;show Q (.ref g5.objs.size) _;rw[sz];exact r g8 z8 (up _ _ D.a2 o5) (w15.at λo e=>up _ o D.a3 e) (w25.at λo e=>up _ o D.a4 e) t8 e8 λc o n1 n2 n3 n4 e=>up c o n1 (k5 c o n1 n2 n3 n4 e)
theorem zEnd{TI TO:LO}{k:Nat}{b:LM}{Q:Fin->LP->Prop}(hh:A.handled=none)(D:Off z TI TO i1 i2 l1 l2)
  (hz:Nu s.heap z TI TO .none) (hi:My s.heap TI (.ref i1) (.ref i2)) (ho:My s.heap TO a b)
  (d1:Dr b1 s.heap i1 l1 k) (d2:Dr b2 s.heap i2 l2 k) (q1:Sq b1 s.heap l1 xs) (q2:Sq b2 s.heap l2 ys) (hn:xs[k]?=none\/ys[k]?=none)
  (r:∀g e,(∀c o,c≠z->c≠TO->c≠i1->c≠i2->s.heap.get? c=some o->g.get? c=some o)->(∃o,g.get? e=some o/\o.cls=.type "StopIteration")->E (.ref e) {s with heap:=g}) :
  LS (LW prog w) A (Nq.«zip.__next__» ⟨[.ref z],[]⟩) Q E s:=by
 show LS _ _ (N_ (.ref z) 2 >>= _) _ _ _;refine LL (Mh hz rfl (x:=.bool false) rfl ?_);show LS _ _ (N_ (.ref z) 3 >>= _) _ _ _;refine LL (Mh hz rfl (x:=.ref TI) rfl (LL (Mn hi rfl ?_)));show LS _ _ (Mc (.ref z) >>= _) _ _ _;refine LL ?_;unfold Mc;refine LL (Mh hz rfl (x:=.none) rfl (LR ?_));simp only[if_true];refine LL (N7 (LL (Mh hz rfl (x:=.ref TO) rfl (LL (MM hz (by simp) λg1 z1 s1=>?_)))));have z1:Nu g1 z TI TO .ellipsis:=z1;refine LL ?_;simp only[K_,Lg,I0,Jn];refine LL (LL (Ov ?_));show LS _ _ (L8 (.ref i1) >>= _) _ _ _;cases hx:xs[k]? with
 |none=>
  refine LL (va hh (d1.ext s1.extBut D.a3) (q1.ext s1.extBut D.c1) hx λg2 e s2 he=>?_);obtain⟨oe,hoe,ce⟩:=he;have z2:Nu g2 z TI TO .ellipsis:=s2 _ _ D.a3.symm z1;have ne:e≠z:=λq=>by subst q;rw[z2]at hoe;cases hoe;simp at ce
  exact MM z2 (by simp) λg3 _ s3=>r g3 e (λc o n1 _ n3 _ q=>s3.extBut _ _ n1 (s2 _ _ n3 (s1.extBut _ _ n1 q))) ⟨oe,s3.extBut _ _ ne hoe,ce⟩
 |some x=>
  have hy:ys[k]?=none:=by
   rcases hn with h|h
   ·rw[hx]at h;cases h
   exact h
  refine LL (lR (d1.ext s1.extBut D.a3) (q1.ext s1.extBut D.c1) hx λg2 w2 s2=>LR ?_);have o2:My g2 TO a b:=s2.extBut _ _ D.a8 (s1.extBut _ _ D.a2 ho);refine LL (Mn o2 rfl (LL (Oa o2 λg3 o3 s3=>?_)));refine LL (NV (LR (LL (LL (Ov ?_)))));show LS _ _ (L8 (.ref i2) >>= _) _ _ _;refine LL (va hh (((d2.ext s1.extBut D.a4).ext s2.extBut D.b1.symm).ext s3.extBut D.a9.symm) (((q2.ext s1.extBut D.e1).ext s2.extBut D.e3).ext s3.extBut D.e2) hy λg4 e s4 he=>?_);obtain⟨oe,hoe,ce⟩:=he;have z4:Nu g4 z TI TO .ellipsis:=s4 _ _ D.a4.symm (s3.extBut _ _ D.a2.symm (s2.extBut _ _ D.a3.symm z1));have ne:e≠z:=λq=>by subst q;rw[z4]at hoe;cases hoe;simp at ce
  exact MM z4 (by simp) λg5 _ s5=>r g5 e (λc o n1 n2 n3 n4 q=>s5.extBut _ _ n1 (s4 _ _ n4 (s3.extBut _ _ n2 (s2.extBut _ _ n3 (s1.extBut _ _ n1 q))))) ⟨oe,s5.extBut _ _ ne hoe,ce⟩
theorem sU{TI TO:LO}{k:Nat}{x y b:LM}{Q:Option LM->LP->Prop}(D:Off z TI TO i1 i2 l1 l2)
  (hz:Nu s.heap z TI TO .none) (hi:My s.heap TI (.ref i1) (.ref i2)) (ho:My s.heap TO a b)
  (d1:Dr b1 s.heap i1 l1 k) (d2:Dr b2 s.heap i2 l2 k) (q1:Sq b1 s.heap l1 xs) (q2:Sq b2 s.heap l2 ys) (hx:xs[k]?=some x) (hy:ys[k]?=some y)
  (r:∀g,Nu g z TI TO (Oi s.heap.objs.size)->My g TO x y->Dr b1 g i1 l1 (k+1)->Dr b2 g i2 l2 (k+1)->My g s.heap.objs.size x y->g.objs.size=s.heap.objs.size+1->
   (∀c o,c≠z->c≠TO->c≠i1->c≠i2->s.heap.get? c=some o->g.get? c=some o)->Q (some (.ref s.heap.objs.size)) {s with heap:=g}) :
  LS (LW prog w) A (Ng (.ref z)) Q E s:=by
 have hT:s.TypeIs (.ref z) "zip":=⟨_,hz,rfl⟩;unfold Ng;refine LL (Nx (Mu (name:=MT "__next__") hT MH (MK MH hT N2 ?_ (NR _))));exact FN D hz hi ho d1 d2 q1 q2 hx hy λg p1 p2 p3 p4 p5 p6 p7=>LR (r g p1 p2 p3 p4 p5 p6 p7)
theorem tV{TI TO:LO}{k:Nat}{b:LM}{Q:Option LM->LP->Prop}(hh:A.handled=none)(D:Off z TI TO i1 i2 l1 l2)
  (hz:Nu s.heap z TI TO .none) (hi:My s.heap TI (.ref i1) (.ref i2)) (ho:My s.heap TO a b)
  (d1:Dr b1 s.heap i1 l1 k) (d2:Dr b2 s.heap i2 l2 k) (q1:Sq b1 s.heap l1 xs) (q2:Sq b2 s.heap l2 ys) (hn:xs[k]?=none\/ys[k]?=none)
  (r:∀g,(∀c o,c≠z->c≠TO->c≠i1->c≠i2->s.heap.get? c=some o->g.get? c=some o)->Q none {s with heap:=g}):LS (LW prog w) A (Ng (.ref z)) Q E s:=by
 have hT:s.TypeIs (.ref z) "zip":=⟨_,hz,rfl⟩;unfold Ng;refine LL (Nx (Mu (name:=MT "__next__") hT MH (MK MH hT N2 (zEnd hh D hz hi ho d1 d2 q1 q2 hn λg e k he=>?_) (NR _))));obtain⟨o,he,hc⟩:=he;exact LL (OK (T:="StopIteration") (b:=true) ⟨o,he,hc⟩ QB (LR (r _ k)))
end
noncomputable def nm(b:Bool):String:=if b=true then "tuple_iterator" else "list_iterator"
abbrev Z1(h:LZ)(b1:Bool)(l1:LO):LZ:=h.push { cls:=.type (nm b1),data:=.fields #[.ref l1,.int 0 0] }
abbrev Z2(h:LZ)(b1 b2:Bool)(l1 l2:LO):LZ:=(Z1 h b1 l1).push { cls:=.type (nm b2),data:=.fields #[.ref l2,.int 0 0] }
abbrev Z3(h:LZ)(b1 b2:Bool)(l1 l2:LO):LZ:=(Z2 h b1 b2 l1 l2).push { cls:=.type "tuple",data:=.seq #[.ref h.objs.size,.ref (Z1 h b1 l1).objs.size] }
abbrev Z4(h:LZ)(b1 b2:Bool)(l1 l2:LO):LZ:=(Z3 h b1 b2 l1 l2).push { cls:=.type "tuple",data:=.seq #[.none,.none] }
abbrev Z5(h:LZ)(b1 b2:Bool)(l1 l2:LO):LZ:=(Z4 h b1 b2 l1 l2).push { cls:=.type "zip",data:=.fields #[.none,.bool false,.bool false,.ref (Z2 h b1 b2 l1 l2).objs.size,.ref (Z3 h b1 b2 l1 l2).objs.size] }
theorem Bc(b1 b2:Bool)(l1 l2:LO)(xs ys:Array LM) :
  Meets (Nq.«zip.__new__» ⟨[.type "zip",.ref l1,.ref l2],[]⟩) (λ_ R s=>Sq b1 s.heap l1 xs/\Sq b2 s.heap l2 ys/\R (.ok (.ret (.ref (Z4 s.heap b1 b2 l1 l2).objs.size))) {s with heap:=Z5 s.heap b1 b2 l1 l2}):=
 .of_wp λprog w A R s h=>by
  obtain⟨hp,g,d,tk,os⟩:=s;obtain⟨q1,q2,h⟩:=h;have hsub:=sub_zip;cases b1 with
  |false=>
   have p1:P1 (NA ⟨hp,g,d,tk,os⟩) l1 xs:=q1;cases b2 with
   |false=>
    have p2:P1 (NA ⟨hp.push { cls:=.type "list_iterator",data:=.fields #[.ref l1,.int 0 0] },g,d,tk,os⟩) l2 ys:=P7 q2 _
    wp_walk using MG p1,MG p2
    exact⟨_,rfl,h⟩
   |true=>
    have p2:OL (NA ⟨hp.push { cls:=.type "list_iterator",data:=.fields #[.ref l1,.int 0 0] },g,d,tk,os⟩) l2 ys:=PN q2 _
    wp_walk using MG p1,Mw p2
    exact⟨_,rfl,h⟩
  |true=>
   have p1:OL (NA ⟨hp,g,d,tk,os⟩) l1 xs:=q1;cases b2 with
   |false=>
    have p2:P1 (NA ⟨hp.push { cls:=.type "tuple_iterator",data:=.fields #[.ref l1,.int 0 0] },g,d,tk,os⟩) l2 ys:=P7 q2 _
    wp_walk using Mw p1,MG p2
    exact⟨_,rfl,h⟩
   |true=>
    have p2:OL (NA ⟨hp.push { cls:=.type "tuple_iterator",data:=.fields #[.ref l1,.int 0 0] },g,d,tk,os⟩) l2 ys:=PN q2 _
    wp_walk using Mw p1,Mw p2
    exact⟨_,rfl,h⟩
section
variable{prog:LV}{w:L0}{A:L_}{E:LM->LP->Prop}{s:LP}
theorem zJ(q1:Sq b1 s.heap l1 xs)(q2:Sq b2 s.heap l2 ys)
  (r:∀g,Nu g (s.heap.objs.size+4) (s.heap.objs.size+2) (s.heap.objs.size+3) .none->My g (s.heap.objs.size+2) (.ref s.heap.objs.size) (.ref (s.heap.objs.size+1))->My g (s.heap.objs.size+3) .none .none->
    Dr b1 g s.heap.objs.size l1 0->Dr b2 g (s.heap.objs.size+1) l2 0->g.objs.size=s.heap.objs.size+5->(∀c o,s.heap.get? c=some o->g.get? c=some o)->Q (.ref (s.heap.objs.size+4)) {s with heap:=g}) :
  LS (LW prog w) A (call (.type "zip") [.ref l1,.ref l2]) Q E s:=by
 refine Q8 F.called_zip (by decide) (F.typeCall_zip_2 _ _) (F.newCall_zip_2 _ _) (λobj=>F.args_object_init_3 obj _ _) F.entry_zip_new (Bc b1 b2 l1 l2 xs ys) ⟨q1,q2,?_⟩;have z1:(Z1 s.heap b1 l1).objs.size=s.heap.objs.size+1:=Mo ..;have z2:(Z2 s.heap b1 b2 l1 l2).objs.size=s.heap.objs.size+2:=by rw[Mo,z1]
 have z3:(Z3 s.heap b1 b2 l1 l2).objs.size=s.heap.objs.size+3:=by rw[Mo,z2]
 have z4:(Z4 s.heap b1 b2 l1 l2).objs.size=s.heap.objs.size+4:=by rw[Mo,z3]
 have z5:(Z5 s.heap b1 b2 l1 l2).objs.size=s.heap.objs.size+5:=by rw[Mo,z4]
 have u5:∀c o,(Z4 s.heap b1 b2 l1 l2).get? c=some o->(Z5 s.heap b1 b2 l1 l2).get? c=some o:=λc o e=>LQ _ e;have u4:∀c o,(Z3 s.heap b1 b2 l1 l2).get? c=some o->(Z5 s.heap b1 b2 l1 l2).get? c=some o:=λc o e=>u5 c o (LQ _ e);have u3:∀c o,(Z2 s.heap b1 b2 l1 l2).get? c=some o->(Z5 s.heap b1 b2 l1 l2).get? c=some o:=λc o e=>u4 c o (LQ _ e);have u2:∀c o,(Z1 s.heap b1 l1).get? c=some o->(Z5 s.heap b1 b2 l1 l2).get? c=some o:=λc o e=>u3 c o (LQ _ e);have g5:(Z5 s.heap b1 b2 l1 l2).get? (Z4 s.heap b1 b2 l1 l2).objs.size=some _:=LX _ rfl;have g4:=u5 (Z3 s.heap b1 b2 l1 l2).objs.size _ (LX _ rfl);have g3:=u4 (Z2 s.heap b1 b2 l1 l2).objs.size _ (LX _ rfl);have g2:=u3 (Z1 s.heap b1 l1).objs.size _ (LX _ rfl);have g1:=u2 s.heap.objs.size _ (LX _ rfl);show _/\_;rw[z2,z3,z4]at g5;rw[z1,z2]at g3;rw[z3]at g4;rw[z1]at g2;rw[z4];refine⟨⟨_,g5,rfl⟩,r _ g5 g3 g4 ?_ ?_ z5 λc o e=>u2 c o (LQ _ e)⟩
 ·cases b1 with
  |true=>exact⟨_,g1,rfl,rfl⟩
  |false=>exact⟨_,g1,rfl,rfl⟩
 cases b2 with
 |true=>exact⟨_,g2,rfl,rfl⟩
 |false=>exact⟨_,g2,rfl,rfl⟩
end
end ZG
namespace L2
open PySem PySem.Spec PyProof.Rows
noncomputable def gB(env:Env):List (Str×M8)->List (Str×LO)->List (Str×LO)
 | [],cs=>cs
 |x::r,cs=>gB env r (if(x.2 == MJ)=true then(x.1,(env.cells.lookup x.1).getD 0)::cs else cs)
theorem nS{env:Env}(f:Str×M8->List (Str×LO)->Sem (ForInStep (List (Str×LO))))(hf:∀n k cs,f (n,k) cs=if(k == MJ)=true then(do let a <-cellOf env n;pure (Nh ((n,a)::cs)))else pure (Nh cs)) :
  ∀(names:List (Str×M8)) (cs:List (Str×LO)),(∀x∈names,x.2=.free->∃c,env.cells.lookup x.1=some c)->forIn names cs f=pure (gB env names cs)
 | [],cs,_=>by rw[Jn];rfl
 | (n,k)::r,cs,h=>by
  rw[I0,hf];have hr:∀x∈r,x.2=.free->∃c,env.cells.lookup x.1=some c:=λx hx=>h x (l_ _ hx);by_cases e:(k == MJ)=true
  ·obtain⟨c,hc⟩:=h (n,k) A_ (by simpa using e);have hc':env.cells.lookup n=some c:=hc;rw[if_pos e];have q:cellOf env n=pure c:=by unfold cellOf;rw[hc']
   rw[q,pure_bind,pure_bind];show forIn r ((n,c)::cs) f=pure (gB env ((n,k)::r) cs);rw[nS f hf r _ hr];unfold gB;rw[if_pos e,hc'];cases r <;> rfl
  rw[if_neg e,pure_bind];show forIn r cs f=pure (gB env ((n,k)::r) cs);rw[nS f hf r _ hr]
  conv=>rhs;unfold gB
  rw[if_neg e]
variable {sc:MD}
theorem nM{env:Env}(h:∀x∈sc.names,x.2=.free->∃c,env.cells.lookup x.1=some c):closureFor sc env=pure (gB env sc.names []):=by
 unfold closureFor;show(forIn sc.names [] _ >>= λcs=>pure cs)=_;rw[nS (env:=env) _ (λn k cs=>by cases e:k == MJ <;> simp[e]) sc.names [] h]
 rfl
theorem tB{env:Env}:∀{names:List (Str×M8)}{cs:List (Str×LO)}{x:Str}{c:LO},(∀y∈names,y.2=.free->∃c,env.cells.lookup y.1=some c)->(gB env names cs).lookup x=some c->
  (env.cells.lookup x=some c/\(x,MJ)∈names)\/cs.lookup x=some c
 | [],cs,x,c,_,h=>.inr h
 | (n,k)::r,cs,x,c,hn,h=>by
  unfold gB at h;have hr:∀y∈r,y.2=.free->∃c,env.cells.lookup y.1=some c:=λy hy=>hn y (l_ _ hy);have hh:=tB hr h;clear h;rcases hh with⟨h1,h2⟩|h
  ·exact .inl ⟨h1,l_ _ h2⟩
  by_cases e:(k == MJ)=true
  ·rw[if_pos e]at h;obtain⟨c',hc⟩:=hn (n,k) A_ (by simpa using e);have hc':env.cells.lookup n=some c':=hc;rw[hc',IQ]at h;by_cases ex:(x == n)=true
   ·rw[ex]at h;have ex':x=n:=by simpa using ex
    have ek:k=MJ:=by simpa using e
    subst ex' ek;have h':c'=c:=GY h;subst h';exact .inl ⟨hc',A_⟩
   have ex':(x == n)=false:=by simpa using ex
   rw[ex']at h;exact .inr h
  rw[if_neg e]at h;exact .inr h
theorem tK{env:Env}:∀{names:List (Str×M8)}{cs:List (Str×LO)}{x:Str}{c:LO},(∀y∈names,y.2=.free->∃c,env.cells.lookup y.1=some c)->env.cells.lookup x=some c->cs.lookup x=some c->(gB env names cs).lookup x=some c
 | [],cs,x,c,_,_,h=>h
 | (n,k)::r,cs,x,c,hn,he,h=>by
  unfold gB;refine tK (λy hy=>hn y (l_ _ hy)) he ?_;by_cases e:(k == MJ)=true
  ·rw[if_pos e,IQ];by_cases ex:(x == n)=true
   ·rw[ex];have ex':x=n:=by simpa using ex
    subst ex';show some ((env.cells.lookup x).getD 0)=some c;rw[he];rfl
   have ex':(x == n)=false:=by simpa using ex
   rw[ex'];exact h
  rw[if_neg e];exact h
theorem qI{env:Env}:∀{names:List (Str×M8)}{cs:List (Str×LO)}{x:Str}{c:LO},(∀y∈names,y.2=.free->∃c,env.cells.lookup y.1=some c)->env.cells.lookup x=some c->(x,MJ)∈names->(gB env names cs).lookup x=some c
 | (n,k)::r,cs,x,c,hn,he,hm=>by
  have hr:∀y∈r,y.2=.free->∃c,env.cells.lookup y.1=some c:=λy hy=>hn y (l_ _ hy);unfold gB;rcases m_.mp hm with e|hm
  ·obtain⟨rfl,rfl⟩:=Prod.mk.inj e;rw[if_pos (by rfl)];refine tK hr he ?_;rw[IQ,beq_self_eq_true];show some ((env.cells.lookup x).getD 0)=some c;rw[he];rfl
  exact qI hr he hm
noncomputable def nr(env:Env)(sc:MD):MD:={sc with names:=sc.names.map λx=>if(x.2 == .free&&env.scope.kind == .function&&env.kindOf x.1 == some .cell)=true then(x.1,.cell)else(x.1,x.2) }
theorem kB{f:Str×M8->Bool}(x:Str):∀names:List (Str×M8),(names.map λy=>if f y=true then(y.1,R3)else(y.1,y.2)).lookup x=(names.lookup x).map λk=>if f (x,k)=true then .cell else k
 | []=>rfl
 | (n,k)::r=>by
  rw[h_];by_cases ex:(x == n)=true
  ·have ex':x=n:=by simpa using ex
   subst ex';cases e:f (x,k) <;> simp[e,IQ]
  have ex':(x == n)=false:=by simpa using ex
  have ih:=kB (f:=f) x r;cases e:f (n,k) <;> simp only[e,if_true,if_false,IE,IQ,ex',ih]
theorem kZ(env:Env)(sc:MD)(x:Str):(nr env sc).names.lookup x=(sc.names.lookup x).map λk=>if(k == .free&&env.scope.kind == .function&&env.kindOf x == some .cell)=true then .cell else k:=
 kB (f:=λy=>(y.2 == .free&&env.scope.kind == .function&&env.kindOf y.1 == some .cell)) x sc.names
def compEnv(env:Env)(sc:MD)(L:LO):Env:={ newEnv sc L env.globals (gB env sc.names []) env.qual none .none (some env) O9 with scope:=nr env sc}
variable {Q:LM->LP->Prop}{e:LY}{first newAcc:Sem LM}{gs:List Ow}{pos:Pos}{scope:MD}
section
variable{M:Qa}{A:L_}{E:LM->LP->Prop}{s:LP}{env:Env}
theorem lI{g:Ow}
  (hcl:clausesOf e=g::gs) (hs:∀x,Mz g.iter env x=pure x)
  (hc:∀x∈scope.names,x.2≠.cell) (hfr:∀x∈scope.names,x.2=.free->∃c,env.cells.lookup x.1=some c) (hkind:scope.kind=.function) (hnames:∀x∈scope.names,x.2=.local->scope.names.lookup x.1=some .local)
  (h:LS M A first (λx s₁=>LS M A (O1 x) (λit s₂=>LS M A newAcc (λacc s₃=>
   ∀h4,h4.Ns s₃.heap.objs.size (λ_=>none)->(∀b o,s₃.heap.get? b=some o->h4.get? b=some o)->
    Nn M A (.compStart e 0 it acc (compEnv env scope s₃.heap.objs.size)) (λr s'=>∃m,s'.heap.Ns s₃.heap.objs.size m/\∀h',Mk s₃.heap.objs.size s'.heap h'->
     match r with | .ok _=>Q acc {s' with heap:=h'} | .error x=>False) { s₃ with heap:=h4}) E s₂) E s₁) E s) :
  LS M A (NZ e scope env pos newAcc false first) Q E s:=by
 unfold NZ;rw[nM hfr,hcl];refine LL (Ml h (λx s₁ h₁=>LL (Nf (LL (OY (hs x) (LL (Ma (Ml h₁ (λit s₂ h₂=>
  QQ (LL (Ml h₂ (λacc s₃ h₃=>LL (LR (LL ?_))) λ_ _ h'=>h')))
   λ_ _ h'=>h'))))))) λ_ _ h'=>h')
 refine Pd hc (λx hx=>nomatch hx) (λh4 hn4 hs4=>?_) hkind;have h₄:=h₃ h4 hn4 λb o e=>hs4.extBut b o (k_ (LU e)) (LQ _ e);dsimp only;have hv:∀x∈(scope.names.filter λx=>(x.2 == .local || x.2 == .cell)&&x.1 !=(".0":Str)).reverse,x.2=.local->
   Qh (compEnv env scope s₃.heap.objs.size) x.1=some .local:=λx hx hl=>by
  show(nr env scope).names.lookup x.1=some .local;rw[kZ,hnames x (IZ.mp (Jz.mp hx)).1 hl]
  rfl
 refine Ma (LL (Nx (Ma (wpAny_run (Np h₄ λr s' hr=>?_)))));obtain⟨m,hn,hr⟩:=hr;cases r with
 |ok f=>exact LL (Ma (P8 (cenv:=compEnv env scope s₃.heap.objs.size) hkind _ s' m hv hn λh' m' _ hs'=>LR (hr h' hs')))
 |error x=>exact(hr s'.heap (.refl ..)).elim
end
variable {elt iter target:LY}{ifs:List LY}
section
variable{prog:LV}{w:L0}{A:L_}{R:Q5->LP->Prop}{s:LP}
theorem mD{it acc:LM}{env:Env}(I:Nat->LP->Prop)
  (turn:∀n s,I n s->LS (LW prog w) A (Ng it) (λr s₁=>match r with
   |none=>R (.ok .next) s₁
   |some v=>LS (LW prog w) A (N8 target it v) (λ_ s₁'=>LS (LW prog w) A (NH target env v) (λ_ s₂=>
     LS (LW prog w) A (forIn ifs true λc r=>if r=true then do let ok <-Pm c env (Mi c env);pure (Nh ok)else pure (Nh r)) (λok s₃=>
      if ok=true then LS (LW prog w) A (Mi elt env) (λx s₄=>
       LS (LW prog w) A (call (.builtin "list.append") [acc,x]) (λ_ s₅=>∃m,m<n/\I m s₅) (λ_ _=>False) s₄) (λ_ _=>False) s₃
      else ∃m,m<n/\I m s₃) (λ_ _=>False) s₂) (λ_ _=>False) s₁') (λ_ _=>False) s₁) (λ_ _=>False) s)
  (n:Nat) (h:I n s) :
  Nn (LW prog w) A (.compLoop (.ListComp elt [⟨target,iter,ifs,0⟩] scope pos) 0 it acc env) R s:=by
 refine codeAny_loop rfl I (λn s hI=>?_) n h;show LS _ A ((compTurn (.ListComp elt [⟨target,iter,ifs,0⟩] scope pos) 0 it acc env).onRaise (λx=>do noteFrame x env;theTreesLotGoes x)) _ _ s;refine wpAny_noted ?_;rw[compTurn_list];refine LL (Nf (LL (Ml (turn n s hI) (λr s₁ h₁=>?_) λ_ _ h'=>h'.elim)));cases r with
 |none=>exact LR h₁
 |some v=>
  refine LL (Ml h₁ (λ_ s₁' h₁'=>?_) λ_ _ h'=>h'.elim);refine LL (Ml h₁' (λ_ s₂ h₂=>LL (Ml h₂ (λok s₃ h₃=>?_) λ_ _ h'=>h'.elim)) λ_ _ h'=>h'.elim);cases ok with
  |false=>exact LR ⟨rfl,h₃⟩
  |true=>
   exact LL (LL (Ml h₃ (λx s₄ h₄=>LL (Ml h₄ (λ_ s₅ h₅=>LR (LR ⟨rfl,h₅⟩)) λ_ _ h'=>h'.elim)) λ_ _ h'=>h'.elim))
end
def aS(X:Cx)(N':List Str)(sc:MD)(s3:LP)(H3:Hp)(fp:List LO):Cx where
 prog:=X.prog
 w:=X.w
 K:=X.K
 mg:=X.mg
 base:=X.base
 A:=X.A
 N:=N'
 s₀:=s3
 H₀:=H3
 env:=compEnv X.env sc s3.heap.objs.size
 outer:=X.stack
 stack:=X.stack
 ex:=fp
 calm:=true
 fn:=λ_=>false
 pn:=[]
 xe:=λ_ _=>False
noncomputable def iL(N:List Str)(esc sc:MD)(N':List Str)(fr:List (Option Nat)):Bool:=
 sc.kind == .function&&esc.kind == .function
 && sc.names.all (λy=>(y.2 != .cell)&&(y.2 != .free || esc.names.lookup y.1 == some .cell)&&(y.2 != .local || sc.names.lookup y.1 == some .local))
 && fr.length == N'.length
 && (r_ N'.length).all (λi=>match fr[i]? with
  |some (some j)=>match N'[i]? with
   |some x=>N[j]? == some x&&sc.names.lookup x == some .free
   |none=>false
  | _=>true)
structure CompOk (N:List Str) (esc sc:MD) (N':List Str) (fr:List (Option Nat)):Prop where
 kind:sc.kind=.function
 ekind:esc.kind=.function
 nocell:∀x∈sc.names,x.2≠.cell
 free:∀x∈sc.names,x.2=.free->esc.names.lookup x.1=some .cell
 names:∀x∈sc.names,x.2=.local->sc.names.lookup x.1=some .local
 len:fr.length=N'.length
 at_:∀(i j:Nat) (x:Str),fr[i]?=some (some j)->N'[i]?=some x->N[j]?=some x/\sc.names.lookup x=some .free
variable {N N':List Str}{esc:MD}
theorem qv{fr:List (Option Nat)}(h:iL N esc sc N' fr=true):CompOk N esc sc N' fr:=by
 unfold iL at h;simp only[E_,beq_iff_eq,Iz,z_]at h;obtain⟨⟨⟨⟨h1,h2⟩,h3⟩,h4⟩,h5⟩:=h;refine⟨h1,h2,λx hx=>?_,λx hx e=>?_,λx hx e=>?_,h4,λi j x e1 e2=>?_⟩
 ·have:=(h3 x hx).1.1;simpa using this
 ·have:=(h3 x hx).1.2;rw[e]at this;simpa using this
 ·have:=(h3 x hx).2;rw[e]at this;simpa using this
 have hi:i<N'.length:=(c_.mp e2).1;have q:=h5 i hi;rw[e1,e2]at q;simpa using q
noncomputable def eN(fr:List (Option Nat))(σ:St):St:=fr.map λo=>match o with
 |some j=>(σ[j]?).join
 |none=>none
variable {X:Cx}
theorem sD{ad:List (LO×Obj)}{σ:St}{H3:Hp}{s3:LP}{fr:List (Option Nat)}{fp:List LO}{h4:LZ}(I:Inv X ad σ H3 s3)(C:CompOk X.N X.env.scope sc N' fr)(hc:X.calm=true)
  (hfp:∀b∈fp,kX X ad H3 b) (hfo:∀b∈fp,∃o,s3.heap.get? b=some o) (hn:h4.Ns s3.heap.objs.size (λ_=>none)) (hk:∀b o,s3.heap.get? b=some o->h4.get? b=some o) :
  Inv (aS X N' sc s3 H3 fp) [] (eN fr σ) H3 {s3 with heap:=h4}:=by
 have hfr:∀x∈sc.names,x.2=.free->∃c,X.env.cells.lookup x.1=some c:=λx hx e=>I.ok.has x.1 (.inl (C.free x hx e));have clo:∀{x c},(gB X.env sc.names []).lookup x=some c->X.env.cells.lookup x=some c:=λ{x c} e=>by
  rcases tB hfr e with⟨h1,_⟩|h
  ·exact h1
  cases h
 have nfs:∀b∈fp,b ∉ frs X.stack:=λb hb z=>by
  obtain⟨_,h1,h2,_⟩:=hfp b hb;rcases m_.mp (I.tS b z)with e|e
  ·exact h1 e
  exact h2 e
 have hfresh:H3 s3.heap.objs.size=none:=I.hok.fresh (e_ _);refine⟨⟨I.ok.mod,C.kind,I.ok.glob,I.ok.blt,e_ _,λx y c e1 e2=>I.ok.inj x y c (clo e1) (clo e2),λx hx=>?_,λx c z=>(nomatch z),λ_=>I.ok.hd hc,I.ok.frames,.inl rfl,λb hb=>⟨?_,λx c e=>?_⟩,λb o e=>I.bs b o e,GZ I.ok.bsz I.sz,λb o e hb=>?_,nfs,I.stack,I.vk⟩,
  rfl,I.bare,Un.kept hk,⟨_,hn,λi x v e1 e2 e3=>?_⟩,λx c e=>?_,hfresh,λx c e=>I.freeC x c (clo e),λp hp=>(nomatch hp),I.hok.kept hk,?_⟩
 ·have hx:(nr X.env sc).names.lookup x=some .cell\/(nr X.env sc).names.lookup x=some .free:=hx;rw[kZ]at hx;cases e:sc.names.lookup x with
  |none=>rw[e]at hx;rcases hx with z|z <;> cases z
  |some k=>
   have hm:(x,k)∈sc.names:=MI e;have hk:k=.free:=by
    rw[e]at hx;cases k with
    |free=>rfl
    |cell=>exact absurd rfl (C.nocell _ hm)
    | _=>rcases hx with z|z <;>(simp at z)
   subst hk;obtain⟨c,hc'⟩:=hfr _ hm rfl;exact⟨c,qI hfr hc' hm⟩
 ·obtain⟨o,ho⟩:=hfo b hb;exact k_ (LU ho)
 ·exact(hfp b hb).2.2.2.2.1 x c (clo e)
 ·obtain⟨e1,_⟩:=I.ok.bs b o e;rcases(hfp b hb).2.2.2.1 with z|z
  ·exact I.ok.noex b o e z
  exact absurd (C' (LU e1) z) (HY _)
 ·have e2:(eN fr σ)[i]?=some (some v):=e2;unfold eN at e2;rw[y_]at e2;cases ef:fr[i]? with
  |none=>rw[ef]at e2;cases e2
  |some o=>
   rw[ef]at e2;cases o with
   |none=>cases e2
   |some j=>
    have e2':(σ[j]?).join=some v:=by simpa using e2
    have e2'':σ[j]?=some (some v):=by
     cases q:σ[j]? with
     |none=>rw[q]at e2';cases e2'
     |some z=>rw[q]at e2';exact congrArg some e2'
    obtain⟨hN,hfrx⟩:=C.at_ i j x ef e1;have hm:(x,MJ)∈sc.names:=MI hfrx;have hcell:=C.free _ hm rfl;obtain⟨m,_,hl⟩:=I.loc;obtain⟨u,r,l⟩:=hl j x v hN e2'' (.inr (.inl hcell));refine⟨u,r,.inr ⟨.inl ?_,?_⟩⟩
    ·show(nr X.env sc).names.lookup x=some .cell;rw[kZ,hfrx];have h1:X.env.kindOf x=some .cell:=hcell;have h2:X.env.scope.kind=.function:=C.ekind;simp[h1,h2]
    rcases l with⟨k,_⟩|⟨_,c,ec,ic⟩
    ·have h1:X.env.kindOf x=some .cell:=hcell;rw[h1]at k;cases k
    obtain⟨o,ho,hd⟩:=ic;exact⟨c,qI hfr ec hm,o,hk c o ho,hd⟩
 ·obtain⟨v,o,ho,hd⟩:=I.cell x c (clo e);exact⟨v,o,hk c o ho,hd⟩
 unfold eN;rw[a_];exact C.len
def PTs(X:Cx)(ifs:List LY)(t:TT):Prop:=
 ∀(ad:List (LO×Obj)) (s:LP) (σ:St) (H:Hp) (Q:Bool->Hp->Prop),Inv X ad σ H s->t σ H Q->
  LS (LW X.prog X.w) X.A (forIn ifs true λc r=>if r=true then do let ok <-Pm c X.env (Mi c X.env);pure (Nh ok)else pure (Nh r)) (TP X ad σ Q) X.xe s
noncomputable def GV:TT:=λ_ H Q=>Q true H
theorem Ax:PTs X [] GV:=λad s σ H Q I h=>wpAny_tests_nil ⟨H,I,h⟩
theorem Bo{c:LY}{t:TT}(h:PT X c t):PTs X [c] t:=λad s σ H Q I q=>wpAny_tests_one (h ad s σ H Q I q)
def FF(J:It)(fr:List (Option Nat))(g:LP->Hp->List LO->TG)(tt:LP->Hp->List LO->TT)(te:LP->Hp->List LO->TE)(σ:St)(H1:Hp)(Q:VK):Prop:=∀p,H1 p=none->∀s3 H3' fp,∃W:Nat->Nat->St->Hp->Prop,(∃m,W 0 m (eN fr σ) (upd H1 p (.lst [])))/\∀i m cr H',W i m cr H'->
 (J.stop i H'/\Q (.ref p) H')\/(J.go i H'/\∀x H2,J.yld i H' x H2->g s3 H3' fp x cr H2 λσ2 H3=>tt s3 H3' fp σ2 H3 λb H4=>
  if b=true then te s3 H3' fp σ2 H4 λv H5=>∃ys,H5 p=some (.lst ys)/\ys.length<sizeLine/\∃m',m'<m/\W (i+1) m' σ2 (upd H5 p (.lst (ys++[v])))else ∃m',m'<m/\W (i+1) m' σ2 H4)
def wC(wi:TI)(fr:List (Option Nat))(g:LP->Hp->List LO->TG)(tt:LP->Hp->List LO->TT)(te:LP->Hp->List LO->TE):TE:=λσ H Q=>wi σ H λJ H1=>FF J fr g tt te σ H1 Q
variable {g:LP->Hp->List LO->TG}{te:LP->Hp->List LO->TE}{tt:LP->Hp->List LO->TT}{wi:TI}
theorem BE(N':List Str)(fr:List (Option Nat))(hc:X.calm=true)(C:iL X.N X.env.scope sc N' fr=true)
  (hi:PI X target iter wi) (hg:∀s3 H3 fp,PG (aS X N' sc s3 H3 fp) target (g s3 H3 fp)) (ht:∀s3 H3 fp,PTs (aS X N' sc s3 H3 fp) ifs (tt s3 H3 fp)) (he:∀s3 H3 fp,PE (aS X N' sc s3 H3 fp) elt (te s3 H3 fp))
  (hs:∀x,Mz iter X.env x=pure x:=by intro _;rfl):PE X (.ListComp elt [⟨target,iter,ifs,0⟩] sc pos) (wC wi fr g tt te):=by
 have C:=qv C;intro ad s σ H Q I h;rw[eval_ListComp];have hfr:∀x∈sc.names,x.2=.free->∃c,X.env.cells.lookup x.1=some c:=λx hx e=>I.ok.has x.1 (.inl (C.free x hx e));refine lI (g:=⟨target,iter,ifs,0⟩) (gs:=[]) rfl hs C.nocell hfr C.kind C.names ?_;show LS _ _ (Mi iter X.env) _ _ s;refine thn (hi ad s σ H _ I h) λv s1 h1=>thn h1 λitv s2 h2=>?_;obtain⟨it,fp,tn,J,H2,e,I2,T,ga,f2,k2⟩:=h2;subst e;refine QR ?_ (by show 0<=sizeLine;decide);have hf:H2 s2.heap.objs.size=none:=I2.hok.fresh (e_ _);obtain⟨W,⟨m0,w0⟩,turn⟩:=k2 _ hf {s2 with heap:=s2.heap.push { cls:=.type "list",data:=.seq ([]:List LM).toArray} } (upd H2 s2.heap.objs.size (.lst [])) fp;have kp:∀b u,s2.heap.get? b=some u->(s2.heap.push { cls:=.type "list",data:=.seq ([]:List LM).toArray}).get? b=some u:=λb u e=>LQ _ e;have I3:Inv X ad σ (upd H2 s2.heap.objs.size (.lst [])) {s2 with heap:=s2.heap.push { cls:=.type "list",data:=.seq ([]:List LM).toArray} }:=
  I2.laid (t':=s2.toks) kp (e_ _) ⟨Hq _,[],0,.nil,LX _ rfl⟩
 have obj2:=T.obj 0 s2.heap ga;have fpne:∀b∈fp,b≠s2.heap.objs.size:=λb hb=>by obtain⟨o,ho,_⟩:=obj2 b hb;exact k_ (LU ho)
 have f3:∀b∈fp,kX X ad (upd H2 s2.heap.objs.size (.lst [])) b:=λb hb=>⟨by rw[aO (fpne b hb)];exact(f2 b hb).1,(f2 b hb).2⟩
 have gl:=T.keep 0 s2.heap _ ga λb hb o e=>kp b o e;have obj3:=T.obj 0 _ gl;intro h4 hn4 hk4;have st4:=T.keep 0 _ h4 gl λb hb o e=>hk4 b o e;have I4:=sD (N':=N') (fr:=fr) (fp:=fp) I3 C hc f3 (λb hb=>let ⟨o,ho,_⟩:=obj3 b hb;⟨o,ho⟩) hn4 hk4;have stat:∀{H':Hp},(∀b∈fp,H' b=none)->∀b∈fp,kX (aS X N' sc {s2 with heap:=s2.heap.push { cls:=.type "list",data:=.seq ([]:List LM).toArray} } (upd H2 s2.heap.objs.size (.lst [])) fp) [] H' b:=λhn b hb=>
  ⟨hn b hb,(I4.ok.exf b hb).1,I4.ok.exfs b hb,.inl hb,(I4.ok.exf b hb).2,λp hp=>(nomatch hp)⟩
 have loop:Nn (LW X.prog X.w) X.A (.compLoop (.ListComp elt [⟨target,iter,ifs,0⟩] sc pos) 0 (.ref it) (.ref s2.heap.objs.size) (compEnv X.env sc (s2.heap.push { cls:=.type "list",data:=.seq ([]:List LM).toArray}).objs.size))
   (λr s'=>∃m,s'.heap.Ns (s2.heap.push { cls:=.type "list",data:=.seq ([]:List LM).toArray}).objs.size m/\∀h',Mk (s2.heap.push { cls:=.type "list",data:=.seq ([]:List LM).toArray}).objs.size s'.heap h'->
    match r with | .ok _=>EP X ad σ Q (.ref s2.heap.objs.size) {s' with heap:=h'} | .error x=>False) {s2 with heap:=h4}:=by
  refine mD (λn s'=>∃i cr H',Inv (aS X N' sc {s2 with heap:=s2.heap.push { cls:=.type "list",data:=.seq ([]:List LM).toArray} } (upd H2 s2.heap.objs.size (.lst [])) fp) [] cr H' s'/\tn i s'.heap/\(∀b∈fp,H' b=none)/\W i n cr H') ?_ m0
   ⟨0,_,_,I4,st4,λb hb=>(f3 b hb).1,w0⟩
  rintro n s5 ⟨i,σ5,H5,I5,st5,fr5,w5⟩;rcases turn i n σ5 H5 w5 with⟨stop,q⟩|⟨go,step⟩
  ·refine thn (T.done (aS X N' sc _ _ fp) rfl rfl rfl rfl i [] s5 σ5 H5 (λ_ _=>False) I5 (stat fr5) st5 stop) ?_;rintro r s6 ⟨hr,I6⟩;subst hr;obtain⟨m6,hn6,_⟩:=id I6.loc;refine⟨m6,hn6,λh' hs'=>?_⟩;have hL:H5 (s2.heap.push { cls:=.type "list",data:=.seq ([]:List LM).toArray}).objs.size=none:=I6.free;have hok':HOk X.prog X.w H5 h':=λb u e=>by
    refine(I6.hok b u e).oU (λc v hc q=>(hs'.2 c ?_).trans q) (λ_ q=>q) λ_ _ q=>q;rintro rfl;rcases hc with rfl|hc
    ·rw[hL]at e;cases e
    rw[hL]at hc;cases hc
   have ub:=I6.base;have lt:∀b o,(s2.heap.push { cls:=.type "list",data:=.seq ([]:List LM).toArray}).get? b=some o->b≠(s2.heap.push { cls:=.type "list",data:=.seq ([]:List LM).toArray}).objs.size:=λb o e=>k_ (LU e);have un:Un (frs X.stack) fp (upd H2 s2.heap.objs.size (.lst [])) H5 (s2.heap.push { cls:=.type "list",data:=.seq ([]:List LM).toArray}) h':=
    ⟨λb o e n hb hx=>(hs'.2 b (lt b o e)).trans (ub.keep b o e n hb hx),λb o e n hb hx=>let ⟨sl,z⟩:=ub.slot b o e n hb hx;⟨sl,(hs'.2 b (lt b o e)).trans z⟩,ub.free,
     λb o e hx=>let ⟨o',z⟩:=ub.there b o e hx;⟨o',(hs'.2 b (lt b o e)).trans z⟩,ub.tups,ub.frzs,ub.tbls⟩
   refine⟨.ref s2.heap.objs.size,H5,I3.C7 (s':={s6 with heap:=h'}) (ch:=fp) I6.os un hok' I6.bare (λb hb=>?_),rfl,q⟩;obtain⟨_,g1,g2,g3,g4,g5⟩:=f3 b hb;exact⟨g3,g1,g4,g5⟩
  refine thn (T.item (aS X N' sc _ _ fp) rfl rfl rfl rfl i [] s5 σ5 H5 (λ_ _=>False) I5 (stat fr5) st5 go) ?_;rintro r s6 ⟨u,hr,h6⟩;subst hr;refine thn h6 ?_;rintro _ s7 ⟨x,H7,I7,r7,y7,st7,fr7⟩;have I7':=I7.pinned (stat fr7) (T.obj _ _ st7);have Oz:∀{σ8:St}{H8:Hp}{s8:LP},Inv (aS X N' sc {s2 with heap:=s2.heap.push { cls:=.type "list",data:=.seq ([]:List LM).toArray} } (upd H2 s2.heap.objs.size (.lst [])) fp) ([]++lB fp s7.heap) σ8 H8 s8->(∃m',m'<n/\W (i+1) m' σ8 H8)->
    ∃m,m<n/\∃i cr H',Inv (aS X N' sc {s2 with heap:=s2.heap.push { cls:=.type "list",data:=.seq ([]:List LM).toArray} } (upd H2 s2.heap.objs.size (.lst [])) fp) [] cr H' s8/\tn i s8.heap/\(∀b∈fp,H' b=none)/\W i m cr H':=λ{σ8 H8 s8} I8 ⟨m',hm,w8⟩=>by
   refine⟨m',hm,i+1,σ8,H8,I8.j5,T.keep _ _ _ st7 λb hb o e=>(I8.pin (b,o) (n_ _ (n_ _ (eV hb e)))).1,λb hb=>?_,w8⟩;obtain⟨o,e,d⟩:=T.obj _ _ st7 b hb;exact(I8.pin (b,o) (n_ _ (n_ _ (eV hb e)))).2.1
  refine thn (hg _ _ fp _ s7 σ5 H7 x u _ I7' r7 (step x H7 y7)) ?_;rintro _ s8 ⟨σ8,H8,I8,q8⟩;refine thn (ht _ _ fp _ s8 σ8 H8 _ I8 q8) ?_;rintro ok s9 ⟨H9,I9,q9⟩;cases ok with
  |false=>exact Oz I9 q9
  |true=>
   refine thn (he _ _ fp _ s9 σ8 H9 _ I9 q9) ?_;rintro y s10 ⟨v,H10,I10,r10,ys,hys,hl,q10⟩;refine thn (lN _ s10 σ8 H10 (.ref s2.heap.objs.size) [v] (.ref s2.heap.objs.size) [y] (λ_ H'=>∃m',m'<n/\W (i+1) m' σ8 H') I10 rfl (.cons r10 .nil) ⟨_,ys,v,rfl,rfl,hys,hl,q10⟩) ?_;rintro z s11 ⟨_,H11,I11,_,q11⟩;exact Oz I11 q11
 refine OZ loop ?_;exact T.self X.A 0 _ _ _ st4 loop
def SqG(b:Bool)(K:LN)(H:Hp)(a:LO)(xs:List V):Prop:=match b with
 |true=>SqT K H a xs
 |false=>SqL K H a xs
variable {a:LO}{b:Bool}{xs ys:List V}
section
variable{X:Cx}{ad:List (LO×Obj)}{σ:St}{H:Hp}{s:LP}
theorem Inv.sq (I:Inv X ad σ H s)(h:SqG b X.K H a xs):∃bi:List LM,Vals xs bi/\ZG.Sq b s.heap a bi.toArray/\xs.length<=sizeLine:=by
 cases b with
 |true=>exact I.tuple h
 |false=>
  obtain⟨bi,r,p,z⟩:=I.list h;exact⟨bi,r,p.isList,z⟩
theorem Inv.CI (I:Inv X ad σ H s)(h:SqG b X.K H a xs)(h':SqG b X.K H a ys):xs=ys:=by
 cases b with
 |true=>exact I.lY h h'
 |false=>exact I.oK h h'
theorem Inv.BZ (I:Inv X ad σ H s){b:LO}{u:HO}(h:Rd H a u)(f:kX X ad H b):a≠b:=by
 rintro rfl;rcases h with h|⟨o,h⟩
 ·rw[f.1]at h;cases h
 rw[f.1]at h;cases h
theorem Inv.FJ (I:Inv X ad σ H s){b:LO}{o:Obj}(h:X.K.lookup a=some o)(f:kX X ad H b):a≠b:=by
 rintro rfl;have e:X.base.get? a=some o:=I.ok.mod.kin a o h;rcases f.2.2.2.1 with z|z
 ·exact I.ok.noex a o e z
 exact absurd (C' (LU (I.ok.bs a o e).1) z) (HY _)
theorem Inv.yn (I:Inv X ad σ H s){c:LO}(h:SqG b X.K H a xs)(f:kX X ad H c):a≠c:=by
 cases b with
 |true=>
  rcases h with h|⟨o,bi,n,hk,_⟩
  ·exact I.BZ h f
  ·exact I.FJ hk f
 |false=>
  rcases h with h|⟨o,bi,n,hk,_⟩
  ·exact I.BZ h f
  exact I.FJ hk f
end
noncomputable def bools(bs:List Bool):List V:=bs.map V.bl
variable {i:Nat}{u:LM}
theorem pP{bs:List Bool}{us:List LM}(r:Vals (bools bs) us)(h:us[i]?=some u):∃b,bs[i]?=some b/\u=.bool b:=by
 have hl:=r.length;have hi:i<us.length:=(c_.mp h).1;have hb:i<bs.length:=by rw[<-hl]at hi;simpa[bools]using hi
 have e:(bools bs)[i]?=some (.bl bs[i]):=by unfold bools;rw[y_,f' hb];rfl
 obtain⟨u',h',ru⟩:=r.get e;rw[h]at h';cases h';exact⟨bs[i],f' hb,ru⟩
theorem uo(bs:List Bool):((r_ bs.length).all λi=>(bs[i]?).getD true)=bs.all id:=by
 have e:bs=(r_ bs.length).map λi=>(bs[i]?).getD true:=by
  apply K'
  ·simp
  intro i h1 h2;simp[h1]
 conv=>rhs;rw[e,IL]
 rfl
theorem uM(bs:List Bool):((r_ bs.length).any λi=>(bs[i]?).getD true)=bs.any id:=by
 have e:bs=(r_ bs.length).map λi=>(bs[i]?).getD true:=by
  apply K'
  ·simp
  intro i h1 h2;simp[h1]
 conv=>rhs;rw[e,JF]
 rfl
section
variable{X:Cx}
theorem zb(hc:X.calm=true):bX X (.builtin "all") (λxs H Q=>∃a bs,xs=[.ref a]/\SqL X.K H a (bools bs)/\Q (.bl (bs.all id)) H):=by
 intro ad s σ H xs us Q I r h;obtain⟨a,bs,rfl,hq,q⟩:=h;obtain⟨u,rfl,ru⟩:=vals1 r;cases ru;obtain⟨bi,rv,p,z⟩:=I.list hq;have hl:=p.isList;have hlt:a<s.heap.objs.size:=by obtain⟨_,e,_⟩:=hl;exact LU e
 have hlen:bi.toArray.size=bs.length:=by rw[j_,<-rv.length];simp[bools]
 refine call_all_walk (MG hl ⟨s.heap.objs.size,[s.heap.objs.size,a],[s.heap.objs.size],bi.toArray.size,_,_,λi=>(bs[i]?).getD true,rfl,Qi (A:=X.A.in1) (I.ok.hd hc) _ a (k_ hlt) bi.toArray,⟨⟨_,LX _ rfl,rfl,rfl⟩,hl.push _⟩,λi v s' Q' E' hP hQ=>?_,λh' tk hk=>?_⟩)
 ·obtain⟨b,e,rfl⟩:=pP rv (i:=i) (u:=v) (by simpa using hP);simp only[e,La]at hQ;exact M3 hQ
 rw[hlen,uo];exact⟨.bl (bs.all id),H,I.kept (t':=tk) (QS hk),rfl,q⟩
theorem yv(hc:X.calm=true):bX X (.builtin "any") (λxs H Q=>∃a bs,xs=[.ref a]/\SqL X.K H a (bools bs)/\Q (.bl (bs.any id)) H):=by
 intro ad s σ H xs us Q I r h;obtain⟨a,bs,rfl,hq,q⟩:=h;obtain⟨u,rfl,ru⟩:=vals1 r;cases ru;obtain⟨bi,rv,p,z⟩:=I.list hq;have hl:=p.isList;have hlt:a<s.heap.objs.size:=by obtain⟨_,e,_⟩:=hl;exact LU e
 have hlen:bi.toArray.size=bs.length:=by rw[j_,<-rv.length];simp[bools]
 refine call_any_walk (MG hl ⟨s.heap.objs.size,[s.heap.objs.size,a],[s.heap.objs.size],bi.toArray.size,_,_,λi=>(bs[i]?).getD true,rfl,Qi (A:=X.A.in1) (I.ok.hd hc) _ a (k_ hlt) bi.toArray,⟨⟨_,LX _ rfl,rfl,rfl⟩,hl.push _⟩,λi v s' Q' E' hP hQ=>?_,λh' tk hk=>?_⟩)
 ·obtain⟨b,e,rfl⟩:=pP rv (i:=i) (u:=v) (by simpa using hP);simp only[e,La]at hQ;exact M3 hQ
 rw[hlen,uM];exact⟨.bl (bs.any id),H,I.kept (t':=tk) (QS hk),rfl,q⟩
end
inductive Ty where
 |non|bl|int|str|lst|tup|dct
 deriving DecidableEq
noncomputable def Ty.nm:Ty->String
 | .non=>"NoneType"
 | .bl=>"bool"
 | .int=>"int"
 | .str=>"str"
 | .lst=>"list"
 | .tup=>"tuple"
 | .dct=>"dict"
noncomputable def isA(t c:Ty):Bool:=decide (t=c) || (decide (t=.bl)&&decide (c=.int))
inductive TyG (K:LN) (H:Hp):V->Ty->Prop where
 |non:TyG K H .non .non
 |bl (b:Bool):TyG K H (.bl b) .bl
 |int (i:Int):TyG K H (.int i) .int
 |str (x:Str):TyG K H (.str x) .str
 |lst {a:LO}{xs:List V} (h:SqL K H a xs):TyG K H (.ref a) .lst
 |tup {a:LO}{xs:List V} (h:SqT K H a xs):TyG K H (.ref a) .tup
 |dct {a:LO}{ap:List (Key×V)} (h:Rd H a (.dK ap)):TyG K H (.ref a) .dct
theorem wm(K:LN)(t c:Ty):PySem.W.kitOne K (.type t.nm) (.type c.nm)=some (isA t c):=by cases t <;> cases c <;> kernel_rfl
theorem vJ(K:LN)(t:Ty):∀cs:List Ty,QC K (.type t.nm) (cs.map λc=>Nt c.nm)=some (cs.any (isA t))
 | []=>rfl
 |c::r=>by
  rw[h_,J0];unfold QC;rw[wm];cases isA t c with
  |true=>rfl
  |false=>exact vJ K t r
section
variable{X:Cx}{ad:List (LO×Obj)}{σ:St}{H:Hp}{s:LP}{A:L_}{E:LM->LP->Prop}{Q:LM->LP->Prop}
theorem Vals.tys:∀{cs:List Ty}{us:List LM},Vals (cs.map λc=>V.ty c.nm) us->us=cs.map λc=>Nt c.nm
 | [],_,.nil=>rfl
 |c::r,_,.cons h t=>by have e:_=Nt c.nm:=h;rw[h_,<-Vals.tys t,e]
def vR(K:LN)(H:Hp)(y:V)(cs:List Ty):Prop:=(∃c,y=.ty c.nm/\cs=[c])\/∃p,y=.ref p/\H p=some (.tup (cs.map λc=>V.ty c.nm))
theorem yf{x y:V}{v:LM}{t:Ty}{cs:List Ty}(I:Inv X ad σ H s)(rx:RelV x u)(ry:RelV y v)(ty:TyG X.K H x t)(ka:vR X.K H y cs)(h:∀tk,Q (.bool (cs.any (isA t))) {s with toks:=tk}) :
  LS (LW X.prog X.w) A (call (.builtin "isinstance") [u,v]) Q E s:=by
 have go:∀{P:LZ->Prop},PySem.W.KitX X.K u (.type t.nm) P->P s.heap->u≠.builtin "__main__.__loader__#opaque"->LS (LW X.prog X.w) A (call (.builtin "isinstance") [u,v]) Q E s:=λ{P} Z p hx=>by
  rcases ka with⟨c,rfl,rfl⟩|⟨q,rfl,hq⟩
  ·cases (show v=Nt c.nm from ry);have e:([c].any (isA t))=isA t c:=by simp
   exact PySem.W.kia_one Z I.kIn p (wm X.K t c) hx (λtk=>by rw[<-e];exact h tk)
  cases (show v=L5 q from ry);obtain⟨_,bi,rv,o,ho,hc,n,hd⟩:=(show bZ X.prog X.w H s.heap q (.tup _)from I.hok q _ hq);have e:=rv.tys;subst e;obtain⟨c,dd,dt,sl⟩:=o;cases (show c=_ from hc);cases (show dt=_ from hd);exact PySem.W.kia_tup Z I.kIn p ho (vJ X.K t cs) hx h
 cases ty with
 |non=>cases (show u=ME from rx);exact go PySem.W.kitx_none M6 (λz=>nomatch z)
 |bl y=>cases (show u=P' y from rx);exact go PySem.W.kitx_bool M6 (λz=>nomatch z)
 |int i=>obtain⟨t,q⟩:=(show ∃t,u=MB i t from rx);cases q;exact go PySem.W.kitx_int M6 (λz=>nomatch z)
 |str y=>obtain⟨t,q⟩:=(show ∃t,u=Pl y t from rx);cases q;exact go PySem.W.kitx_str M6 (λz=>nomatch z)
 | @lst a xs hq=>
  cases (show u=L5 a from rx);obtain⟨_,_,p,_⟩:=I.list hq;obtain⟨o,h1,h2,_⟩:=p.isList;exact go PySem.W.kitx_list ⟨o,h1,h2⟩ (λz=>nomatch z)
 | @tup a xs hq=>
  cases (show u=L5 a from rx);obtain⟨_,_,p,_⟩:=I.tuple hq;obtain⟨o,h1,h2,_⟩:=p;exact go PySem.W.kitx_tuple ⟨o,h1,h2⟩ (λz=>nomatch z)
 | @dct a ap hq=>
  cases (show u=L5 a from rx);obtain⟨_,_,vs,_,p⟩:=(show bZ X.prog X.w H s.heap a (.dK ap)from hq.ok I.hok);obtain⟨o,es,ep,h1,h2,_⟩:=p;exact go PySem.W.kitx_dict ⟨o,h1,h2.1⟩ (λz=>nomatch z)
theorem mC:bX X (.builtin "isinstance") (λxs H Q=>∃x y t cs,xs=[x,y]/\TyG X.K H x t/\vR X.K H y cs/\Q (.bl (cs.any (isA t))) H):=by
 intro ad s σ H xs us Q I r h;obtain⟨x,y,t,cs,rfl,ty,ka,q⟩:=h;cases r with
 |cons r rr=>
  cases rr with
  |cons r' rr=>
   cases rr;exact yf I r r' ty ka λtk=>⟨.bl (cs.any (isA t)),H,I.tok tk,rfl,q⟩
end
inductive Dt where
 |int (i:Int)|bl (b:Bool)|str (x:Str)|non|lst (ds:List Dt)|tup (ds:List Dt)
mutual
noncomputable def Has(K:LN)(H:Hp):Dt->V->Prop
 | .int i,v=>v=.int i
 | .bl b,v=>v=.bl b
 | .str x,v=>v=.str x
 | .non,v=>v=.non
 | .lst ds,v=>∃a xs,v=.ref a/\SqL K H a xs/\cX K H ds xs
 | .tup ds,v=>∃a xs,v=.ref a/\SqT K H a xs/\cX K H ds xs
noncomputable def cX(K:LN)(H:Hp):List Dt->List V->Prop
 | [],xs=>xs=[]
 |d::r,xs=>∃x t,xs=x::t/\Has K H d x/\cX K H r t
end
mutual
noncomputable def dpt:Dt->Nat
 | .lst ds=>i8 ds+1
 | .tup ds=>i8 ds+1
 | _=>0
noncomputable def i8:List Dt->Nat
 | []=>0
 |d::r=>max (dpt d) (i8 r)
end
mutual
noncomputable def eqD:Dt->Dt->Bool
 | .int a,.int b=>a == b
 | .int a,.bl b=>a ==(if b then 1 else 0)
 | .bl a,.int b=>(if a then 1 else 0) == b
 | .bl a,.bl b=>a == b
 | .str a,.str b=>a == b
 | .non,.non=>true
 | .lst xs,.lst ys=>eqL xs ys
 | .tup xs,.tup ys=>eqL xs ys
 | _,_=>false
noncomputable def eqL:List Dt->List Dt->Bool
 | [],[]=>true
 |x::xs,y::ys=>eqD x y&&eqL xs ys
 | _,_=>false
end
mutual
theorem iZ:∀d:Dt,eqD d d=true
 | .int a=>by simp[eqD]
 | .bl a=>by simp[eqD]
 | .str a=>by simp[eqD]
 | .non=>by simp[eqD]
 | .lst xs=>by rw[eqD];exact o7 xs
 | .tup xs=>by rw[eqD];exact o7 xs
theorem o7:∀ds:List Dt,eqL ds ds=true
 | []=>by simp[eqL]
 |d::r=>by rw[eqL,iZ d,o7 r];rfl
end
variable {H:Hp}{K:LN}
theorem cX.len :∀{ds:List Dt}{xs:List V},cX K H ds xs->ds.length=xs.length
 | [],xs,h=>by rw[cX]at h;rw[h];rfl
 |d::r,xs,h=>by rw[cX]at h;obtain⟨x,t,rfl,_,ht⟩:=h;rw[f_,f_,cX.len ht]
theorem cX.get :∀{ds:List Dt}{xs:List V}{i:Nat}{d:Dt}{x:V},cX K H ds xs->ds[i]?=some d->xs[i]?=some x->Has K H d x
 | [],xs,i,d,x,h,e,_=>by simp at e
 |c::r,xs,0,d,x,h,e,f=>by rw[cX]at h;obtain⟨y,t,rfl,hy,ht⟩:=h;simp at e f;subst e f;exact hy
 |c::r,xs,i+1,d,x,h,e,f=>by rw[cX]at h;obtain⟨y,t,rfl,hy,ht⟩:=h;exact cX.get ht (i:=i) (by simpa using e) (by simpa using f)
variable {H':Hp}
theorem SqL.same (e:bg H H')(h:SqL K H a xs):SqL K H' a xs:=e.seq h
theorem SqT.same (e:bg H H')(h:SqT K H a xs):SqT K H' a xs:=by
 rcases h with (h|⟨o,h⟩)|h
 ·exact .inl (.inl (e _ _ h))
 ·exact .inl (.inr ⟨o,e _ _ h⟩)
 exact .inr h
theorem SqG.same (e:bg H H')(h:SqG b K H a xs):SqG b K H' a xs:=by
 cases b with
 |true=>exact SqT.same e h
 |false=>exact SqL.same e h
theorem sV:cX K H [] []:=by rw[cX]
variable {d:Dt}
theorem qi{r:List Dt}{x:V}{t:List V}(h:Has K H d x)(g:cX K H r t):cX K H (d::r) (x::t):=by rw[cX];exact⟨x,t,rfl,h,g⟩
noncomputable def di(ns:List Int):List Dt:=ns.map Dt.int
theorem pO{K:LN}{H:Hp}:∀ns:List Int,cX K H (di ns) (ns.map V.int)
 | []=>sV
 |n::r=>qi (by rw[Has]) (pO r)
variable {ns:List Int}{p:LO}
theorem tP(h:SqL K H p (ns.map V.int)):Has K H (.lst (di ns)) (.ref p):=by rw[Has];exact⟨p,_,rfl,h,pO ns⟩
theorem qm:∀ns:List Int,i8 (di ns)=0
 | []=>by simp[di,i8]
 |n::r=>by have ih:=qm r;show i8 (Dt.int n::di r)=0;simp[i8,dpt,ih]
theorem rX:∀{ds:List Dt}{i:Nat}{d:Dt},ds[i]?=some d->dpt d<=i8 ds
 | [],i,d,e=>by simp at e
 |c::r,0,d,e=>by simp at e;subst e;rw[i8];exact Nat.le_max_left _ _
 |c::r,i+1,d,e=>by have q:dpt d<=i8 r:=rX (i:=i) (by simpa using e);rw[i8];exact GZ q (Nat.le_max_right _ _)
theorem lX:∀(ds es:List Dt),ds.length=es.length->((r_ ds.length).all λj=>eqD (ds.getD j .non) (es.getD j .non))=eqL ds es
 | [],[],_=>by simp[eqL]
 | [],e::r,h=>by simp at h
 |d::r,[],h=>by simp at h
 |d::r,e::t,h=>by
  have h':r.length=t.length:=by simpa using h
  rw[eqL,<-lX r t h',f_,List.range_succ_eq_map,J1,IL]
  rfl
theorem qC:∀{ds es:List Dt},eqL ds es=true->ds.length=es.length
 | [],[],_=>rfl
 | [],e::r,h=>by simp[eqL]at h
 |d::r,[],h=>by simp[eqL]at h
 |d::r,e::t,h=>by rw[eqL,E_]at h;rw[f_,f_,qC h.2]
theorem tI:∀(ds es:List Dt),(((r_ (min ds.length es.length)).all λj=>eqD (ds.getD j .non) (es.getD j .non))&&ds.length == es.length)=eqL ds es:=by
 intro ds es;by_cases h:ds.length=es.length
 ·rw[<-lX ds es h,h,Kb];simp
 have:eqL ds es=false:=Ih.mpr λz=>h (qC z);rw[this];have:(ds.length == es.length)=false:=by simpa using h
 rw[this,Ln]
variable {A:L_}{ds:List Dt}
section
variable{X:Cx}{ad:List (LO×Obj)}{σ:St}{H:Hp}{s:LP}
theorem sW(n:Nat)(hA:A.units+1+n<cLine+1)(I:Inv X ad σ H s){es:List Dt}{bi jts:List LM}(h1:cX X.K H ds xs)(h2:cX X.K H es ys)(r1:Vals xs bi)(r2:Vals ys jts)
  (rec:∀d e x y u v,d∈ds->e∈es->Has X.K H d x->Has X.K H e y->RelV x u->RelV y v->OB A.in1 s u v (eqD d e)) :
  ∀j (g1:j<bi.toArray.size) (g2:j<jts.toArray.size),OB A.in1 s bi.toArray[j] jts.toArray[j] (eqD (ds.getD j .non) (es.getD j .non)):=by
 intro j g1 g2;have l1:=r1.length;have l2:=r2.length;have m1:=h1.len;have m2:=h2.len;have g1':j<bi.length:=by simpa using g1
 have g2':j<jts.length:=by simpa using g2
 have a1:j<xs.length:=by lia
 have a2:j<ys.length:=by lia
 have b1:j<ds.length:=by lia
 have b2:j<es.length:=by lia
 obtain⟨u,hu,ru⟩:=r1.get (f' a1);obtain⟨v,hv,rv⟩:=r2.get (f' a2);rw[f' g1']at hu;rw[f' g2']at hv;cases hu;cases hv;have e1:ds.getD j .non=ds[j]:=by simp[i_,b1]
 have e2:es.getD j .non=es[j]:=by simp[i_,b2]
 rw[e1,e2];have:=rec ds[j] es[j] xs[j] ys[j] bi[j] jts[j] (HB b1) (HB b2) (h1.get (f' b1) (f' a1)) (h2.get (f' b2) (f' a2)) ru rv;simpa using this
theorem vA(h:d∈ds):dpt d<=i8 ds:=by obtain⟨i,hi⟩:=List.getElem?_of_mem h;exact rX hi
mutual
theorem Has.inj (I:Inv X ad σ H s):∀{d e:Dt}{x:V},Has X.K H d x->Has X.K H e x->d=e
 | .int a,.int b,x,h1,h2=>by
  rw[Has]at h1;rw[Has]at h2;rw[h1]at h2;cases h2
  rfl
 | .int a,.bl b,x,h1,h2=>by rw[Has]at h1;rw[Has]at h2;rw[h1]at h2;cases h2
 | .int a,.str b,x,h1,h2=>by rw[Has]at h1;rw[Has]at h2;rw[h1]at h2;cases h2
 | .int a,.non,x,h1,h2=>by rw[Has]at h1;rw[Has]at h2;rw[h1]at h2;cases h2
 | .int a,.lst b,x,h1,h2=>by rw[Has]at h1;rw[Has]at h2;obtain⟨p,xs,e,s1,l1⟩:=h2;rw[h1]at e;cases e
 | .int a,.tup b,x,h1,h2=>by rw[Has]at h1;rw[Has]at h2;obtain⟨p,xs,e,s1,l1⟩:=h2;rw[h1]at e;cases e
 | .bl a,.int b,x,h1,h2=>by rw[Has]at h1;rw[Has]at h2;rw[h1]at h2;cases h2
 | .bl a,.bl b,x,h1,h2=>by
  rw[Has]at h1;rw[Has]at h2;rw[h1]at h2;cases h2
  rfl
 | .bl a,.str b,x,h1,h2=>by rw[Has]at h1;rw[Has]at h2;rw[h1]at h2;cases h2
 | .bl a,.non,x,h1,h2=>by rw[Has]at h1;rw[Has]at h2;rw[h1]at h2;cases h2
 | .bl a,.lst b,x,h1,h2=>by rw[Has]at h1;rw[Has]at h2;obtain⟨p,xs,e,s1,l1⟩:=h2;rw[h1]at e;cases e
 | .bl a,.tup b,x,h1,h2=>by rw[Has]at h1;rw[Has]at h2;obtain⟨p,xs,e,s1,l1⟩:=h2;rw[h1]at e;cases e
 | .str a,.int b,x,h1,h2=>by rw[Has]at h1;rw[Has]at h2;rw[h1]at h2;cases h2
 | .str a,.bl b,x,h1,h2=>by rw[Has]at h1;rw[Has]at h2;rw[h1]at h2;cases h2
 | .str a,.str b,x,h1,h2=>by
  rw[Has]at h1;rw[Has]at h2;rw[h1]at h2;cases h2
  rfl
 | .str a,.non,x,h1,h2=>by rw[Has]at h1;rw[Has]at h2;rw[h1]at h2;cases h2
 | .str a,.lst b,x,h1,h2=>by rw[Has]at h1;rw[Has]at h2;obtain⟨p,xs,e,s1,l1⟩:=h2;rw[h1]at e;cases e
 | .str a,.tup b,x,h1,h2=>by rw[Has]at h1;rw[Has]at h2;obtain⟨p,xs,e,s1,l1⟩:=h2;rw[h1]at e;cases e
 | .non,.int b,x,h1,h2=>by rw[Has]at h1;rw[Has]at h2;rw[h1]at h2;cases h2
 | .non,.bl b,x,h1,h2=>by rw[Has]at h1;rw[Has]at h2;rw[h1]at h2;cases h2
 | .non,.str b,x,h1,h2=>by rw[Has]at h1;rw[Has]at h2;rw[h1]at h2;cases h2
 | .non,.non,x,h1,h2=>rfl
 | .non,.lst b,x,h1,h2=>by rw[Has]at h1;rw[Has]at h2;obtain⟨p,xs,e,s1,l1⟩:=h2;rw[h1]at e;cases e
 | .non,.tup b,x,h1,h2=>by rw[Has]at h1;rw[Has]at h2;obtain⟨p,xs,e,s1,l1⟩:=h2;rw[h1]at e;cases e
 | .lst a,.int b,x,h1,h2=>by rw[Has]at h1;rw[Has]at h2;obtain⟨p,xs,rfl,s1,l1⟩:=h1;cases h2
 | .lst a,.bl b,x,h1,h2=>by rw[Has]at h1;rw[Has]at h2;obtain⟨p,xs,rfl,s1,l1⟩:=h1;cases h2
 | .lst a,.str b,x,h1,h2=>by rw[Has]at h1;rw[Has]at h2;obtain⟨p,xs,rfl,s1,l1⟩:=h1;cases h2
 | .lst a,.non,x,h1,h2=>by rw[Has]at h1;rw[Has]at h2;obtain⟨p,xs,rfl,s1,l1⟩:=h1;cases h2
 | .lst a,.lst b,x,h1,h2=>by rw[Has]at h1;rw[Has]at h2;obtain⟨p,xs,rfl,s1,l1⟩:=h1;obtain⟨q,ys,e,s2,l2⟩:=h2;cases e;have e:=I.oK s1 s2;subst e;rw[cX.inj I l1 l2]
 | .lst a,.tup b,x,h1,h2=>by rw[Has]at h1;rw[Has]at h2;obtain⟨p,xs,rfl,s1,l1⟩:=h1;obtain⟨q,ys,e,s2,l2⟩:=h2;cases e;obtain⟨_,_,pl,_⟩:=I.list s1;obtain⟨_,_,pt,_⟩:=I.tuple s2;obtain⟨o1,g1,c1,_⟩:=pl.isList;obtain⟨o2,g2,c2,_⟩:=pt;rw[g1]at g2;cases g2;rw[c1]at c2;exact absurd c2 (by decide)
 | .tup a,.int b,x,h1,h2=>by rw[Has]at h1;rw[Has]at h2;obtain⟨p,xs,rfl,s1,l1⟩:=h1;cases h2
 | .tup a,.bl b,x,h1,h2=>by rw[Has]at h1;rw[Has]at h2;obtain⟨p,xs,rfl,s1,l1⟩:=h1;cases h2
 | .tup a,.str b,x,h1,h2=>by rw[Has]at h1;rw[Has]at h2;obtain⟨p,xs,rfl,s1,l1⟩:=h1;cases h2
 | .tup a,.non,x,h1,h2=>by rw[Has]at h1;rw[Has]at h2;obtain⟨p,xs,rfl,s1,l1⟩:=h1;cases h2
 | .tup a,.lst b,x,h1,h2=>by rw[Has]at h1;rw[Has]at h2;obtain⟨p,xs,rfl,s1,l1⟩:=h1;obtain⟨q,ys,e,s2,l2⟩:=h2;cases e;obtain⟨_,_,pl,_⟩:=I.list s2;obtain⟨_,_,pt,_⟩:=I.tuple s1;obtain⟨o1,g1,c1,_⟩:=pl.isList;obtain⟨o2,g2,c2,_⟩:=pt;rw[g1]at g2;cases g2;rw[c1]at c2;exact absurd c2 (by decide)
 | .tup a,.tup b,x,h1,h2=>by rw[Has]at h1;rw[Has]at h2;obtain⟨p,xs,rfl,s1,l1⟩:=h1;obtain⟨q,ys,e,s2,l2⟩:=h2;cases e;have e:=I.lY s1 s2;subst e;rw[cX.inj I l1 l2]
theorem cX.inj (I:Inv X ad σ H s):∀{ds es:List Dt}{xs:List V},cX X.K H ds xs->cX X.K H es xs->ds=es
 | [],[],xs,h1,h2=>rfl
 | [],e::r,xs,h1,h2=>by rw[cX]at h1;rw[cX]at h2;obtain⟨y,t,e,_,_⟩:=h2;rw[h1]at e;cases e
 |d::r,[],xs,h1,h2=>by rw[cX]at h1;rw[cX]at h2;obtain⟨y,t,e,_,_⟩:=h1;rw[h2]at e;cases e
 |d::r,e::q,xs,h1,h2=>by rw[cX]at h1;rw[cX]at h2;obtain⟨x,t,rfl,g1,g2⟩:=h1;obtain⟨y,w,z,k1,k2⟩:=h2;cases z;rw[Has.inj I g1 k1,cX.inj I g2 k2]
end
theorem nO{b:LO}{k:Bool}(h:Qj A s (.ref a) (.ref b) k)(hk:a=b->k=true):OB A s (.ref a) (.ref b) k:=by
 by_cases e:a=b
 ·rw[hk e,e];exact P_ _
 exact RM e h
noncomputable def Rz(s:LP):Dt->LM->Prop
 | .int a,u=>∃t,u=.int a t
 | .bl a,u=>u=.bool a
 | .str a,u=>∃t,u=.str a t
 | .non,u=>u=.none
 | .lst _,u=>∃p bi,u=.ref p/\s.heap.IsList p bi
 | .tup _,u=>∃p bi,u=.ref p/\s.heap.IsTuple p bi
noncomputable def knd:Dt->Nat
 | .lst _=>4
 | .tup _=>5
 | _=>0
theorem vw(I:Inv X ad σ H s){x:V}(h:Has X.K H d x)(r:RelV x u):Rz s d u:=by
  cases d <;> rw[Has]at h <;> first
    | (obtain⟨p,xs,rfl,s1,_⟩:=h
       cases r
       first
         | (obtain⟨_,_,pl,_⟩:=I.list s1;exact⟨_,_,rfl,pl.isList⟩)
         | (obtain⟨_,_,pl,_⟩:=I.tuple s1;exact⟨_,_,rfl,pl⟩))
    | (subst h;exact r)
theorem vv{e:Dt}{v:LM}(hu:A.units<cLine)(h1:Rz s d u)(h2:Rz s e v)(n:knd d≠knd e\/knd d=0):Qj A s u v (eqD d e)/\Q9 A s u v (!eqD d e)/\OB A s u v (eqD d e):=by
 cases d with
 |int a=>
  obtain⟨_,rfl⟩:=h1;cases e with
  |int b=>obtain⟨_,rfl⟩:=h2;simp only[eqD];exact⟨.int_int _ _ _ _,.int_int _ _ _ _,.int_int _ _ _ _⟩
  |bl b=>cases h2;simp only[eqD];exact⟨.int_bool _ _ _,.int_bool _ _ _,.int_bool _ _ _⟩
  |str b=>obtain⟨_,rfl⟩:=h2;simp only[eqD];exact⟨.int_str _ _ _ _,.int_str _ _ _ _,.int_str _ _ _ _⟩
  |non=>cases h2;simp only[eqD];exact⟨.int_none _ _,.int_none _ _,.int_none _ _⟩
  |lst b=>obtain⟨_,_,rfl,hb⟩:=h2;simp only[eqD];exact⟨.int_list _ _ hb hu,.int_list _ _ hb hu,.int_list _ _ hb hu⟩
  |tup b=>obtain⟨_,_,rfl,hb⟩:=h2;simp only[eqD];exact⟨.int_tuple _ _ hb hu,.int_tuple _ _ hb hu,.int_tuple _ _ hb hu⟩
 |bl a=>
  cases h1;cases e with
  |int b=>obtain⟨_,rfl⟩:=h2;simp only[eqD];exact⟨.bool_int _ _ _,.bool_int _ _ _,.bool_int _ _ _⟩
  |bl b=>cases h2;simp only[eqD];exact⟨.bool_bool _ _,.bool_bool _ _,.bool_bool _ _⟩
  |str b=>obtain⟨_,rfl⟩:=h2;simp only[eqD];exact⟨.bool_str _ _ _,.bool_str _ _ _,.bool_str _ _ _⟩
  |non=>cases h2;simp only[eqD];exact⟨.bool_none _,.bool_none _,.bool_none _⟩
  |lst b=>obtain⟨_,_,rfl,hb⟩:=h2;simp only[eqD];exact⟨.bool_list _ hb hu,.bool_list _ hb hu,.bool_list _ hb hu⟩
  |tup b=>obtain⟨_,_,rfl,hb⟩:=h2;simp only[eqD];exact⟨.bool_tuple _ hb hu,.bool_tuple _ hb hu,.bool_tuple _ hb hu⟩
 |str a=>
  obtain⟨_,rfl⟩:=h1;cases e with
  |int b=>obtain⟨_,rfl⟩:=h2;simp only[eqD];exact⟨.str_int _ _ _ _,.str_int _ _ _ _,.str_int _ _ _ _⟩
  |bl b=>cases h2;simp only[eqD];exact⟨.str_bool _ _ _,.str_bool _ _ _,.str_bool _ _ _⟩
  |str b=>obtain⟨_,rfl⟩:=h2;simp only[eqD];exact⟨.str_str _ _ _ _,.str_str _ _ _ _,.str_str _ _ _ _⟩
  |non=>cases h2;simp only[eqD];exact⟨.str_none _ _,.str_none _ _,.str_none _ _⟩
  |lst b=>obtain⟨_,_,rfl,hb⟩:=h2;simp only[eqD];exact⟨.str_list _ _ hb hu,.str_list _ _ hb hu,.str_list _ _ hb hu⟩
  |tup b=>obtain⟨_,_,rfl,hb⟩:=h2;simp only[eqD];exact⟨.str_tuple _ _ hb hu,.str_tuple _ _ hb hu,.str_tuple _ _ hb hu⟩
 |non=>
  cases h1;cases e with
  |int b=>obtain⟨_,rfl⟩:=h2;simp only[eqD];exact⟨.none_int _ _,.none_int _ _,.none_int _ _⟩
  |bl b=>cases h2;simp only[eqD];exact⟨.none_bool _,.none_bool _,.none_bool _⟩
  |str b=>obtain⟨_,rfl⟩:=h2;simp only[eqD];exact⟨.none_str _ _,.none_str _ _,.none_str _ _⟩
  |non=>cases h2;simp only[eqD];exact⟨.none_none,.none_none,.same _⟩
  |lst b=>obtain⟨_,_,rfl,hb⟩:=h2;simp only[eqD];exact⟨.none_list hb hu,.none_list hb hu,.none_list hb hu⟩
  |tup b=>obtain⟨_,_,rfl,hb⟩:=h2;simp only[eqD];exact⟨.none_tuple hb hu,.none_tuple hb hu,.none_tuple hb hu⟩
 |lst a=>
  obtain⟨_,_,rfl,hl⟩:=h1;cases e with
  |int b=>obtain⟨_,rfl⟩:=h2;simp only[eqD];exact⟨.list_int _ _ hl hu,.list_int _ _ hl hu,.list_int _ _ hl hu⟩
  |bl b=>cases h2;simp only[eqD];exact⟨.list_bool _ hl hu,.list_bool _ hl hu,.list_bool _ hl hu⟩
  |str b=>obtain⟨_,rfl⟩:=h2;simp only[eqD];exact⟨.list_str _ _ hl hu,.list_str _ _ hl hu,.list_str _ _ hl hu⟩
  |non=>cases h2;simp only[eqD];exact⟨.list_none hl hu,.list_none hl hu,.list_none hl hu⟩
  |lst b=>simp[knd]at n
  |tup b=>obtain⟨_,_,rfl,hb⟩:=h2;simp only[eqD];exact⟨.list_tuple hl hb hu,.list_tuple hl hb hu,.list_tuple hl hb hu⟩
 |tup a=>
  obtain⟨_,_,rfl,hl⟩:=h1;cases e with
  |int b=>obtain⟨_,rfl⟩:=h2;simp only[eqD];exact⟨.tuple_int _ _ hl hu,.tuple_int _ _ hl hu,.tuple_int _ _ hl hu⟩
  |bl b=>cases h2;simp only[eqD];exact⟨.tuple_bool _ hl hu,.tuple_bool _ hl hu,.tuple_bool _ hl hu⟩
  |str b=>obtain⟨_,rfl⟩:=h2;simp only[eqD];exact⟨.tuple_str _ _ hl hu,.tuple_str _ _ hl hu,.tuple_str _ _ hl hu⟩
  |non=>cases h2;simp only[eqD];exact⟨.tuple_none hl hu,.tuple_none hl hu,.tuple_none hl hu⟩
  |lst b=>obtain⟨_,_,rfl,hb⟩:=h2;simp only[eqD];exact⟨.tuple_list hl hb hu,.tuple_list hl hb hu,.tuple_list hl hb hu⟩
  |tup b=>simp[knd]at n
theorem wd(I:Inv X ad σ H s):∀(n:Nat) (A:L_) (d e:Dt) (x y:V) (u v:LM),dpt d<=n->A.units+n<cLine->Has X.K H d x->Has X.K H e y->RelV x u->RelV y v->
  Qj A s u v (eqD d e)/\Q9 A s u v (!eqD d e)/\OB A s u v (eqD d e):=by
 intro n;induction n with
 |zero=>
  intro A d e x y u v hd hA h1 h2 r1 r2;exact vv (by lia) (vw I h1 r1) (vw I h2 r2) (.inr (by cases d <;> first|rfl|(rw[dpt]at hd;lia)))
 |succ n ih=>
  intro A d e x y u v hd hA h1 h2 r1 r2;have hu:A.units<cLine:=by lia
  by_cases k:knd d≠knd e\/knd d=0
  ·exact vv hu (vw I h1 r1) (vw I h2 r2) k
  cases d <;> cases e <;> try (exfalso;simp[knd]at k;done)
  ·rename_i a b;have h1k:=h1;rw[Has]at h1;obtain⟨p,xs,rfl,s1,l1⟩:=h1;cases (show u=L5 p from r1);obtain⟨bi,rv1,pl1,z1⟩:=I.list s1;have hl:=pl1.isList;have hd':i8 a<=n:=by rw[dpt]at hd;lia
   have h2k:=h2;rw[Has]at h2;obtain⟨q,ys,rfl,s2,l2⟩:=h2;cases (show v=L5 q from r2);obtain⟨jts,rv2,pl2,z2⟩:=I.list s2;have hb:=pl2.isList;have recc:=sW n (A:=A) (by lia) I l1 l2 rv1 rv2 λd e x y u v hm hm' g1 g2 k1 k2=>(ih A.in1 d e x y u v (GZ (vA hm) hd') (by show A.units+1+n<cLine;lia) g1 g2 k1 k2).2.2
   have m1:=l1.len;have m2:=l2.len;have v1:=rv1.length;have v2:=rv2.length;have self:p=q->eqD (.lst a) (.lst b)=true:=λz=>by subst z;rw[Has.inj I h1k h2k];exact iZ _
   have ee:eqD (.lst a) (.lst b)=eqL a b:=by rw[eqD]
   by_cases hs:bi.toArray.size=jts.toArray.size
   ·have hs':a.length=b.length:=by simp at hs;lia
    have hn:bi.toArray.size=a.length:=by simp;lia
    have k1:=RU hl hb hs hu recc;have k2:=RN hl hb hs hu recc;rw[hn,lX a b hs',<-ee]at k1 k2;exact⟨k1,k2,nO k1 self⟩
   have hs':¬a.length=b.length:=by simp at hs;lia
   have hz:(bi.toArray.size != jts.toArray.size)=true:=by simpa using hs
   have ef:eqD (.lst a) (.lst b)=false:=by rw[ee];exact Ih.mpr λz=>hs' (qC z)
   have k1:=Q_ hl hb hz hu;have k2:=QT hl hb hz hu;rw[<-ef]at k1;refine⟨k1,?_,nO k1 self⟩;rw[ef];exact k2
  rename_i a b;have h1k:=h1;rw[Has]at h1;obtain⟨p,xs,rfl,s1,l1⟩:=h1;cases (show u=L5 p from r1);obtain⟨bi,rv1,pl1,z1⟩:=I.tuple s1;have hl:s.heap.IsTuple p bi.toArray:=pl1;have hd':i8 a<=n:=by rw[dpt]at hd;lia
  have h2k:=h2;rw[Has]at h2;obtain⟨q,ys,rfl,s2,l2⟩:=h2;cases (show v=L5 q from r2);obtain⟨jts,rv2,pl2,z2⟩:=I.tuple s2;have hb:s.heap.IsTuple q jts.toArray:=pl2;have recc:=sW n (A:=A) (by lia) I l1 l2 rv1 rv2 λd e x y u v hm hm' g1 g2 k1 k2=>(ih A.in1 d e x y u v (GZ (vA hm) hd') (by show A.units+1+n<cLine;lia) g1 g2 k1 k2).2.2
  have m1:=l1.len;have m2:=l2.len;have v1:=rv1.length;have v2:=rv2.length;have self:p=q->eqD (.tup a) (.tup b)=true:=λz=>by subst z;rw[Has.inj I h1k h2k];exact iZ _
  have ee:eqD (.tup a) (.tup b)=eqL a b:=by rw[eqD]
  have hn:bi.toArray.size=a.length:=by simp;lia
  have hn':jts.toArray.size=b.length:=by simp;lia
  have k1:=RQ hl hb hu recc;have k2:=RD hl hb hu recc;rw[hn,hn',tI a b,<-ee]at k1 k2;exact⟨k1,k2,nO k1 self⟩
end
section
variable{X:Cx}
def G7(K:LN)(A:L_)(neg:Bool):R2:=λx y H Q=>∃d e,Has K H d x/\Has K H e y/\A.units+dpt d<cLine/\Q (.bl (if neg then !eqD d e else eqD d e)) H
theorem yD:OpR X (Ms .Eq) (G7 X.K X.A false):=by intro ad s σ H x y v u Q I rx ry h;obtain⟨d,e,h1,h2,hA,q⟩:=h;exact(wd I (dpt d) X.A d e x y v u (e_ _) hA h1 h2 rx ry).1 _ _ _ _ ⟨.bl (eqD d e),H,I,rfl,q⟩
theorem Dv:OpR X (Ms .NotEq) (G7 X.K X.A true):=by intro ad s σ H x y v u Q I rx ry h;obtain⟨d,e,h1,h2,hA,q⟩:=h;exact(wd I (dpt d) X.A d e x y v u (e_ _) hA h1 h2 rx ry).2.1 _ _ _ _ ⟨.bl (!eqD d e),H,I,rfl,q⟩
end
structure Cal (P:LV) (w:L0) (K:LN) (mg:Str->Option LM) (base:LZ) (k:Nat) (x:Str) (ps:List Str) (sp:Sp):Prop where
 ex:∃(f:LO) (fd:L6),FnOk P w K mg base CX0 k f fd ps sp/\mg x=some (.ref f)/\NO K (.ref f)=true/\Binds K fd ps []
variable {ps:List Str}{sp:Sp}{x:Str}
theorem CZ{j k:Nat}{es:List LY}{t:TA}{p:Pos}(D:Cal X.prog X.w X.K X.mg X.base j x ps sp)(hr:Room k X.A)(hg:Gl X x)(ha:PA X (e::es) t)(hjk:j<=k:=by omega)(hdb:(x ==("__debug__":Str))=false:=by decide)
  (he:L3 (e::es) X.env=(false,Mi e X.env)::L3 es X.env:=by rfl) (hpl:(Nm pos (L3 es X.env)).any (·.1)=false:=by rfl):PE X (.Call (.Name x p) (e::es) [] pos) (zu sp [] E0 t):=by
 obtain⟨f,fd,F,hm,hk,hb⟩:=D.ex;exact AZ F (hr.mono hjk) hg hm hk hb .nil G1 ha hdb he hpl
variable {mg:Str->Option LM}
theorem Cal.imp {P:LV}{w:L0}{base:LZ}{k:Nat}{sp':Sp}(D:Cal P w K mg base k x ps sp)(h:∀vs H Q E,sp' vs H Q E->sp vs H Q E):Cal P w K mg base k x ps sp':=by obtain⟨f,fd,F,r⟩:=D.ex;exact⟨f,fd,F.imp h,r⟩
structure Dfn (K:LN) (mg:Str->Option LM) (x:Str) (st:Md) (ps:List Str):Prop where
 ex:∃(f:LO) (fd:L6),Fun K x x st f fd/\mg x=some (.ref f)/\Binds K fd ps []
theorem Dfn.cal {P:LV}{w:L0}{base:LZ}{k:Nat}{st:Md}(D:Dfn K mg x st ps)(h:∀f fd,Fun K x x st f fd->FnOk P w K mg base CX0 k f fd ps sp):Cal P w K mg base k x ps sp:=by obtain⟨f,fd,F,hm,hb⟩:=D.ex;exact⟨f,fd,h f fd F,hm,F.kp,hb⟩
theorem bg.ja :bg H H:=λ_ _ e=>e
variable {H1:Hp}
theorem bg.trans' {H2:Hp}(a:bg H H1)(b:bg H1 H2):bg H H2:=λc o e=>b c o (a c o e)
theorem cM(h:H p=none)(o:HO):bg H (upd H p o):=λb u q=>by rw[aO (cg q h)];exact q
theorem bg.none {H H':Hp}(a:bg H H'){p:LO}(h:H' p=none):H p=none:=by
 cases e:H p with
 |none=>rfl
 |some o=>rw[a p o e]at h;cases h
noncomputable def Kp(a c:LO)(H H':Hp):Prop:=∀b o,H b=some o->b≠a->b≠c->H' b=some o
variable {n:Nat}
theorem qR(h:i<n):ixN n (i:Int)=some i:=by
 unfold ixN;rw[if_pos (Int.natCast_nonneg i),if_pos (by exact_mod_cast h)]
 rfl
theorem vd{i:Int}(h0:0<=i)(h1:i<(n:Int)):ixN n i=some i.toNat:=by unfold ixN;rw[if_pos h0,if_pos h1]
theorem Aa{α:Type}{xs:List α}{i:Int}{v:α}(h0:0<=i)(hv:xs[i.toNat]?=some v):atI xs i=some v:=by have h1:i.toNat<xs.length:=(c_.mp hv).1;unfold atI;rw[vd h0 (by omega)];exact hv
theorem yN{i:Int}(h0:0<=i)(h1:i<(ns.length:Int)):atI (ns.map V.int) i=some (.int (ns.getD i.toNat 0)):=by
 have h2:i.toNat<ns.length:=by omega
 refine Aa h0 ?_;rw[y_,f' h2,i_,f' h2]
 rfl
theorem D9{i:Int}{v:V}{Q:VK}(h:SqG b K H p xs)(hv:atI xs i=some v)(q:Q v H):rIx K (.ref p) (.int i) H Q:=by
 cases b with
 |true=>exact .inr (.inl ⟨p,xs,i,v,rfl,rfl,h,hv,q⟩)
 |false=>exact .inl ⟨p,xs,i,v,rfl,rfl,h,hv,q⟩
theorem FE{A B:Prop}(h1:b=true->A)(h2:b=false->B):if b=true then A else B:=by
 cases b with
 |true=>exact Gv (h1 rfl)
 |false=>exact Gh (h2 rfl)
theorem xR(S:FnScope N ps esc)(N':List Str)(fr:List (Option Nat))(nd:N'.Nodup)(C:iL N esc sc N' fr=true)
  (hi:PI X target iter wi) (hg:∀s3 H3 fp,PG (aS X N' sc s3 H3 fp) target (g s3 H3 fp)) (ht:∀s3 H3 fp,PTs (aS X N' sc s3 H3 fp) ifs (tt s3 H3 fp)) (he:∀s3 H3 fp,PE (aS X N' sc s3 H3 fp) elt (te s3 H3 fp))
  (hc:X.calm=true:=by rfl) (hN:X.N=N:=by rfl) (hS:X.env.scope=esc:=by rfl) (hs:∀x,Mz iter X.env x=pure x:=by intro _;rfl):PE X (.ListComp elt [⟨target,iter,ifs,0⟩] sc pos) (wC wi fr g tt te):=
 BE N' fr hc (by rw[hN,hS];exact C) hi hg ht he hs
def Its(K:LN)(b:Bool)(a:LO):It:=match b with
 |true=>Itt K a
 |false=>Itl K a
def iSq(K:LN)(tl:TE):TI:=λσ H R=>tl σ H λx H1=>∃b a xs,x=.ref a/\SqG b K H1 a xs/\R (Its K b a) H1
theorem Dn{tg l:LY}{tl:TE}(hl:PE X l tl):PI X tg l (iSq X.K tl):=by
 intro ad s σ H R I h;refine thn (hl ad s σ H _ I h) ?_;rintro v s1 ⟨x,H1,I1,r1,q1⟩;obtain⟨b,a,xs,rfl,hq,q⟩:=q1;cases r1;cases b with
 |true=>
  obtain⟨bi,rv,p,hz⟩:=I1.tuple hq;refine Mw (show s1.heap.IsTuple a bi.toArray from p) ⟨s1.heap.objs.size,[s1.heap.objs.size],_,_,H1,rfl,I1.kept (t':=s1.toks) λb o e=>LQ _ e,u9 a _,⟨_,LX _ rfl,rfl,rfl⟩,λb hb=>?_,q⟩;have e:b=s1.heap.objs.size:=by simpa using hb
  subst e;exact I1.uW (e_ _) (I1.hok.fresh (e_ _))
 |false=>
  obtain⟨bi,rv,p,hz⟩:=I1.list hq;refine MG p.isList ⟨s1.heap.objs.size,[s1.heap.objs.size],_,_,H1,rfl,I1.kept (t':=s1.toks) λb o e=>LQ _ e,wZ a _,⟨_,LX _ rfl,rfl,rfl⟩,λb hb=>?_,q⟩;have e:b=s1.heap.objs.size:=by simpa using hb
  subst e;exact I1.uW (e_ _) (I1.hok.fresh (e_ _))
theorem AW{H2:Hp}{v:V}(h1:SqG b K H1 a xs)(s:bg H1 H')(h:(Its K b a).yld i H' v H2):H2=H'/\xs[i]?=some v:=by
 cases b with
 |true=>exact⟨h.1,h.2 xs (SqG.same s h1)⟩
 |false=>exact⟨h.1,h.2 xs (SqG.same s h1)⟩
theorem Df(h1:SqG b K H1 a xs)(hx:xs.length=n):∀i H',bg H1 H'->i<n->(Its K b a).go i H':=λi H' s hi=>by
 cases b with
 |true=>exact⟨xs,xs[i]'(by lia),SqT.same s h1,f' _⟩
 |false=>exact⟨xs,xs[i]'(by lia),SqL.same s h1,f' _⟩
theorem zg(h1:SqG b K H1 a xs)(hx:xs.length=n):∀H',bg H1 H'->(Its K b a).stop n H':=λH' s=>by
 cases b with
 |true=>exact⟨xs,SqT.same s h1,by lia⟩
 |false=>exact⟨xs,SqL.same s h1,by lia⟩
def New(o:HO)(H:Hp)(Q:VK):Prop:=∀p H',H p=none->bg H H'->H' p=some o->Q (.ref p) H'
theorem New.at {o:HO}{Q:VK}(h:New o H Q)(hp:H p=none):Q (.ref p) (upd H p o):=h p _ hp (cM hp o) aV
section
variable{X:Cx}{es:List LY}{t:TA}{pos:Pos}
def EZ(t:TA):TE:=λσ H Q=>t σ H λxs H1=>xs.length<=sizeLine/\New (.tup xs) H1 Q
def F4(t:TA):TE:=λσ H Q=>t σ H λxs H1=>xs.length<=sizeLine/\New (.lst xs) H1 Q
theorem Bi{x1}(h:PA X es t):PE X (.Tuple es x1 pos) (EZ t):=by intro ad s σ H Q I hq;refine wpAny_Tuple_spliced (thn (h pos ad s σ H _ I hq) λus s1 ⟨xs,H1,I1,r,z,q⟩=>⟨by rw[<-r.length];exact z,?_⟩);refine⟨.ref s1.heap.objs.size,upd H1 s1.heap.objs.size (.tup xs),I1.laid (t':=s1.toks) (λb u e=>LQ _ e) (e_ _) ⟨z,us,r,⟨_,LX _ rfl,rfl,_,rfl⟩⟩,rfl,q.at (I1.hok.fresh (e_ _))⟩
theorem Ad(h:PA X es t):PE X (.List es pos) (F4 t):=by intro ad s σ H Q I hq;refine Po (thn (h pos ad s σ H _ I hq) λus s1 ⟨xs,H1,I1,r,z,q⟩=>⟨by rw[<-r.length];exact z,?_⟩);refine⟨.ref s1.heap.objs.size,upd H1 s1.heap.objs.size (.lst xs),I1.laid (t':=s1.toks) (λb u e=>LQ _ e) (e_ _) ⟨z,us,0,r,LX _ rfl⟩,rfl,q.at (I1.hok.fresh (e_ _))⟩
theorem bX.imp {f:LM}{r r':List V->Hp->VK->Prop}(h:bX X f r)(k:∀vs H Q,r' vs H Q->r vs H Q):bX X f r':=λad s σ H xs us Q I rv q=>h ad s σ H xs us Q I rv (k _ _ _ q)
theorem OpR.imp {f:LM->LM->Sem LM}{r r':R2}(h:OpR X f r)(k:∀x y H Q,r' x y H Q->r x y H Q):OpR X f r':=λad s σ H x y v u Q I rx ry q=>h ad s σ H x y v u Q I rx ry (k _ _ _ _ q)
theorem tZ:bX X (.type "list") (λxs H Q=>∃b p ys,xs=[.ref p]/\SqG b X.K H p ys/\New (.lst ys) H Q):=kL.imp λvs H Q ⟨b,p,ys,e,h,q⟩=>by
 refine⟨p,ys,e,?_,λl hl=>q.at hl⟩;cases b with
 |true=>exact .inr h
 |false=>exact .inl h
theorem tq:bX X (.type "tuple") (λxs H Q=>∃p ys,xs=[.ref p]/\SqL X.K H p ys/\New (.tup ys) H Q):=oZ.imp (by rintro vs H Q ⟨p,ys,e,h,q⟩;exact⟨p,ys,e,.inl ⟨h,λl hl=>q.at hl⟩⟩)
theorem wX:bX X (.builtin "len") (λxs H Q=>∃b p ys,xs=[.ref p]/\SqG b X.K H p ys/\Q (.int ys.length) H):=kQ.imp λvs H Q ⟨b,p,ys,e,h,q⟩=>by
 refine⟨p,ys,e,?_,q⟩;cases b with
 |true=>exact .inr h
 |false=>exact .inl h
def GF(K:LN):R2:=λx y H Q=>∃b p xs i v,x=.ref p/\y=.int i/\SqG b K H p xs/\atI xs i=some v/\Q v H
theorem Gw:IxR X (GF X.K):=by rintro value slice ad s σ H x y v u Q I rx ry ⟨b,p,xs,i,z,e1,e2,hq,ha,q⟩ hs;subst e1 e2;exact DI value slice ad s σ H (.ref p) (.int i) v u Q I rx ry (D9 hq ha q) hs
end
noncomputable def y9(ns:List Int)(r:Int):Prop:=r∈ns/\∀x∈ns,r<=x
noncomputable def yd(ns:List Int)(r:Int):Prop:=r∈ns/\∀x∈ns,x<=r
theorem gp:∀{ns:List Int}{us:List LM},Vals (ns.map V.int) us->∃ps:List (Int×Tok),us=ps.map (λp=>MB p.1 p.2)/\ps.map (·.1)=ns
 | [],_,.nil=>⟨[],rfl,rfl⟩
 |n::r,_,.cons h t=>by obtain⟨ps,e1,e2⟩:=gp t;obtain⟨tk,e⟩:=h;exact⟨(n,tk)::ps,by rw[e,e1];rfl,by rw[<-e2];rfl⟩
theorem f9{ps:List (Int×Tok)}(e:ps.map (·.1)=ns)(hi:i<ns.length):Nv ps.toArray i=ns[i]:=by
 subst e;have h2:i<ps.length:=by simpa using hi
 simp[Nv,h2]
section
variable{X:Cx}
theorem xx(hc:X.calm=true):bX X (.builtin "min") (λxs H Q=>∃a ns,xs=[.ref a]/\SqL X.K H a (ns.map V.int)/\ns≠[]/\∀r,y9 ns r->Q (.int r) H):=by
 intro ad s σ H xs us Q I r h;obtain⟨a,ns,rfl,hq,ii,q⟩:=h;obtain⟨u,rfl,ru⟩:=vals1 r;cases ru;obtain⟨bi,rv,p,z⟩:=I.list hq;obtain⟨ps,e1,e2⟩:=gp rv;subst e1;have hl:s.heap.IsList a (Mr ps.toArray):=by
  have e:Mr ps.toArray=(ps.map λp=>MB p.1 p.2).toArray:=by simp[Mr]
  rw[e];exact p.isList
 have hlen:ps.length=ns.length:=by rw[<-e2];simp
 have hpos:0<ns.length:=IF λz=>ii (Hs z);refine min_intList (I.ok.hd hc) hl (by simp;lia) λv h' tk hv hk=>?_
 obtain⟨tv,rfl⟩:=NW hv;obtain⟨b1,b2⟩:=argBest_lt (Nv ps.toArray) (ps.toArray.size-1);have hi:QD (λi j=>decide (Nv ps.toArray i<Nv ps.toArray j)) (ps.toArray.size-1)<ns.length:=by simp at b1 ⊢;lia
 refine⟨.int _,H,I.kept (t':=tk) hk,⟨tv,rfl⟩,q _ ⟨?_,λx hx=>?_⟩⟩
 ·rw[f9 e2 hi];exact HB hi
 obtain⟨j,hj,rfl⟩:=HP.mp hx;have:=b2 j (by simp;lia);rw[f9 e2 hj]at this;exact this
theorem xE(hc:X.calm=true):bX X (.builtin "max") (λxs H Q=>∃a ns,xs=[.ref a]/\SqL X.K H a (ns.map V.int)/\ns≠[]/\∀r,yd ns r->Q (.int r) H):=by
 intro ad s σ H xs us Q I r h;obtain⟨a,ns,rfl,hq,ii,q⟩:=h;obtain⟨u,rfl,ru⟩:=vals1 r;cases ru;obtain⟨bi,rv,p,z⟩:=I.list hq;obtain⟨ps,e1,e2⟩:=gp rv;subst e1;have hl:s.heap.IsList a (Mr ps.toArray):=by
  have e:Mr ps.toArray=(ps.map λp=>MB p.1 p.2).toArray:=by simp[Mr]
  rw[e];exact p.isList
 have hlen:ps.length=ns.length:=by rw[<-e2];simp
 have hpos:0<ns.length:=IF λz=>ii (Hs z);refine max_intList (I.ok.hd hc) hl (by simp;lia) λv h' tk hv hk=>?_
 obtain⟨tv,rfl⟩:=NW hv;obtain⟨b1,b2⟩:=argBest_gt (Nv ps.toArray) (ps.toArray.size-1);have hi:QD (λi j=>decide (Nv ps.toArray i > Nv ps.toArray j)) (ps.toArray.size-1)<ns.length:=by simp at b1 ⊢;lia
 refine⟨.int _,H,I.kept (t':=tk) hk,⟨tv,rfl⟩,q _ ⟨?_,λx hx=>?_⟩⟩
 ·rw[f9 e2 hi];exact HB hi
 obtain⟨j,hj,rfl⟩:=HP.mp hx;have:=b2 j (by simp;lia);rw[f9 e2 hj]at this;exact this
theorem xM(hc:X.calm=true):bX X (.builtin "max") (λxs H Q=>∃i j k,xs=[.int i,.int j,.int k]/\∀r,i<=r->j<=r->k<=r->(r=i\/r=j\/r=k)->Q (.int r) H):=by
 intro ad s σ H xs us Q I r h;obtain⟨i,j,k,rfl,q⟩:=h;cases r with
 |cons r1 rr=>
  cases rr with
  |cons r2 rr=>
   cases rr with
   |cons r3 rr=>
    cases rr;obtain⟨t1,rfl⟩:=r1;obtain⟨t2,rfl⟩:=r2;obtain⟨t3,rfl⟩:=r3;refine max_three_ints (I.ok.hd hc) λh' tk hk=>?_;have fin:∀(r:Int) (t:Tok),i<=r->j<=r->k<=r->(r=i\/r=j\/r=k)->EP X ad σ Q (.int r t) {s with heap:=h',toks:=tk}:=λr t a b c d=>⟨.int r,H,I.kept (t':=tk) hk,⟨t,rfl⟩,q r a b c d⟩;split
    ·split
     ·exact fin _ _ (by lia) (by lia) (by lia) (by lia)
     exact fin _ _ (by lia) (by lia) (by lia) (by lia)
    split
    ·exact fin _ _ (by lia) (by lia) (by lia) (by lia)
    exact fin _ _ (by lia) (by lia) (by lia) (by lia)
theorem x8(hc:X.calm=true):bX X (.builtin "min") (λxs H Q=>∃i j k,xs=[.int i,.int j,.int k]/\∀r,r<=i->r<=j->r<=k->(r=i\/r=j\/r=k)->Q (.int r) H):=by
 intro ad s σ H xs us Q I r h;obtain⟨i,j,k,rfl,q⟩:=h;cases r with
 |cons r1 rr=>
  cases rr with
  |cons r2 rr=>
   cases rr with
   |cons r3 rr=>
    cases rr;obtain⟨t1,rfl⟩:=r1;obtain⟨t2,rfl⟩:=r2;obtain⟨t3,rfl⟩:=r3;refine min_three_ints (I.ok.hd hc) λh' tk hk=>?_;have fin:∀(r:Int) (t:Tok),r<=i->r<=j->r<=k->(r=i\/r=j\/r=k)->EP X ad σ Q (.int r t) {s with heap:=h',toks:=tk}:=λr t a b c d=>⟨.int r,H,I.kept (t':=tk) hk,⟨t,rfl⟩,q r a b c d⟩;split
    ·split
     ·exact fin _ _ (by lia) (by lia) (by lia) (by lia)
     exact fin _ _ (by lia) (by lia) (by lia) (by lia)
    split
    ·exact fin _ _ (by lia) (by lia) (by lia) (by lia)
    exact fin _ _ (by lia) (by lia) (by lia) (by lia)
end
section
variable{X:Cx}{a b c d:LY}{ta tb tc td:TE}{pos:Pos}
theorem zM:SlR X (λx lo hi H Q=>∃a xs,x=.ref a/\SqL X.K H a xs/\New (.lst (iX xs lo hi)) H Q):=by rintro ad s σ H x v vl vu lo hi sl Q I rx hs pl pu ⟨a,xs,e,h,q⟩;exact vC ad s σ H x v vl vu lo hi sl Q I rx hs pl pu ⟨a,xs,e,h,λp hp=>q.at hp⟩
theorem vI:SlR X (λx lo hi H Q=>∃a xs,x=.ref a/\SqT X.K H a xs/\¬(HT.sIx xs.length 0 lo=0/\HT.sIx xs.length xs.length hi=xs.length)/\New (.tup (iX xs lo hi)) H Q):=by rintro ad s σ H x v vl vu lo hi sl Q I rx hs pl pu ⟨a,xs,e,h,hw,q⟩;exact CY ad s σ H x v vl vu lo hi sl Q I rx hs pl pu ⟨a,xs,e,h,hw,λp hp=>q.at hp⟩
end
structure Put (H:Hp) (p:LO) (o:HO) (H':Hp):Prop where
 at_:H' p=some o
 else_:∀b,b≠p->H' b=H b
theorem Put.up {o:HO}:Put H p o (upd H p o):=⟨aV,λb h=>aO h⟩
section
variable{X:Cx}
theorem uN.imp {t t':Az}(h:uN X t)(k:∀o i v H Q,t' o i v H Q->t o i v H Q):uN X t':=λad s σ H o i v ov iv u Q I r1 r2 r3 q=>h ad s σ H o i v ov iv u Q I r1 r2 r3 (k _ _ _ _ _ q)
theorem xK:uN X (λo i v H Q=>∃p xs k j,o=.ref p/\i=.int k/\H p=some (.lst xs)/\ixN xs.length k=some j/\∀H',Put H p (.lst (xs.set j v)) H'->Q H'):=set_list.imp (by rintro o i v H Q ⟨p,xs,k,j,e1,e2,h,hj,q⟩;exact⟨p,xs,k,j,e1,e2,h,hj,q _ Put.up⟩)
end
section
variable{M:Qa}{A:L_}{E:LM->LP->Prop}{s:LP}{env:Env}
theorem lg{g:Ow}{u:LM->Sem Unit}
  (hcl:clausesOf e=g::gs) (hs:∀x,Mz g.iter env x=pure x)
  (hc:∀x∈scope.names,x.2≠.cell) (hfr:∀x∈scope.names,x.2=.free->∃c,env.cells.lookup x.1=some c) (hkind:scope.kind=.function) (hnames:∀x∈scope.names,x.2=.local->scope.names.lookup x.1=some .local)
  (h:LS M A first (λx s₁=>LS M A (O1 x) (λit s₂=>LS M A newAcc (λacc s₃=>
   ∀h4,h4.Ns s₃.heap.objs.size (λ_=>none)->(∀b o,s₃.heap.get? b=some o->h4.get? b=some o)->
    Nn M A (.compStart e 0 it acc (L2.compEnv env scope s₃.heap.objs.size)) (λr s'=>match r with
     | .ok _=>LS M A (u acc) (λ_ s''=>∃m,s''.heap.Ns s₃.heap.objs.size m/\∀h',Mk s₃.heap.objs.size s''.heap h'->Q .none {s'' with heap:=h'}) E s'
     | .error x=>False) { s₃ with heap:=h4}) E s₂) E s₁) E s) :
  LS M A (NZ e scope env pos newAcc false first (some u)) Q E s:=by
 unfold NZ;rw[nM hfr,hcl];refine LL (Ml h (λx s₁ h₁=>LL (Nf (LL (OY (hs x) (LL (Ma (Ml h₁ (λit s₂ h₂=>
  QQ (LL (Ml h₂ (λacc s₃ h₃=>LL (LR (LL ?_))) λ_ _ h'=>h'))) λ_ _ h'=>h'))))))) λ_ _ h'=>h')
 refine Pd hc (λx hx=>nomatch hx) (λh4 hn4 hs4=>?_) hkind;have h₄:=h₃ h4 hn4 λb o e=>hs4.extBut b o (k_ (LU e)) (LQ _ e);dsimp only;have hv:∀x∈(scope.names.filter λx=>(x.2 == .local || x.2 == .cell)&&x.1 !=(".0":Str)).reverse,x.2=.local->
   Qh (L2.compEnv env scope s₃.heap.objs.size) x.1=some .local:=λx hx hl=>by
  show(nr env scope).names.lookup x.1=some .local;rw[kZ,hnames x (IZ.mp (Jz.mp hx)).1 hl]
  rfl
 have hv':∀x∈(scope.names.filter λx=>(x.2 == .local || x.2 == .cell)&&x.1 !=(".0":Str)).reverse.drop 1++(scope.names.filter λx=>(x.2 == .local || x.2 == .cell)&&x.1 !=(".0":Str)).reverse.take 1,
   x.2=.local->Qh (L2.compEnv env scope s₃.heap.objs.size) x.1=some .local:=λx hx hl=>
  (C_.mp hx).elim (λz=>hv x (HC z) hl) λz=>hv x (HQ z) hl
 refine Ma (LL (Nx (Ma (wpAny_run (Np h₄ λr s' hr=>?_)))));cases r with
 |ok f=>
  refine LL (N7 (LL (Ma (Ml hr (λ_ s'' hr'=>?_) λ_ _ h'=>h'))));obtain⟨m,hn,hr'⟩:=hr';exact LL (P8 (cenv:=L2.compEnv env scope s₃.heap.objs.size) hkind _ s'' m hv' hn λh' m' _ hs'=>LR (hr' h' hs'))
 |error x=>exact hr.elim
end
theorem vH(S:FnScope N ps esc){pos':Pos}(N':List Str)(fr:List (Option Nat))(nd:N'.Nodup){jp:Pos}(C:iL N esc sc N' fr=true)
  (hi:X.N[i]?=some x) (hx:Loc X.env.scope x) (hit:PI X target iter wi) (hg:∀s3 H3 fp,PG (aS X N' sc s3 H3 fp) target (g s3 H3 fp)) (ht:∀s3 H3 fp,PTs (aS X N' sc s3 H3 fp) ifs (tt s3 H3 fp)) (he:∀s3 H3 fp,PE (aS X N' sc s3 H3 fp) elt (te s3 H3 fp))
  (hsw:NG (.ListComp elt [⟨target,iter,ifs,0⟩] sc jp) (some (.Name x pos')) pos.line X.env=pure true) (hf:X.fn x=true:=by rfl)
  (hc:X.calm=true:=by rfl) (hN:X.N=N:=by rfl) (hS:X.env.scope=esc:=by rfl) (hs:∀x,Mz iter X.env x=pure x:=by intro _;rfl):PS X (.Assign [.Name x pos'] (.ListComp elt [⟨target,iter,ifs,0⟩] sc jp) pos) (AL (wC wi fr g tt te) (wg i)):=by
 have C:CompOk X.N X.env.scope sc N' fr:=qv (by rw[hN,hS];exact C);have hNd:X.N.Nodup:=by rw[hN];exact S.nd
 intro ad s σ H D I h;rw[exec_Assign_Name_used _ _ _ _ hsw];refine LL (Nf (LL ?_));show LS _ X.A (do let _ <-NZ (.ListComp elt [⟨target,iter,ifs,0⟩] sc jp) sc X.env _ (newList []) false (Mi iter X.env) (some (NH (.Name x pos') X.env))) _ _ s;have hfr:∀x∈sc.names,x.2=.free->∃c,X.env.cells.lookup x.1=some c:=λx hx e=>I.ok.has x.1 (.inl (C.free x hx e));refine LL (Ml (lg (g:=⟨target,iter,ifs,0⟩) (gs:=[]) (Q:=λ_ s'=>SP X ad D .next s') rfl hs C.nocell hfr C.kind C.names ?_) (λ_ s' hq=>LR (LR hq)) λ_ _ e=>e);refine thn (hit ad s σ H _ I h) λv s1 h1=>thn h1 λitv s2 h2=>?_;obtain⟨it,fp,tn,J,H2,e,I2,T,ga,f2,k2⟩:=h2;subst e;refine QR ?_ (by show 0<=sizeLine;decide);have hfree:H2 s2.heap.objs.size=none:=I2.hok.fresh (e_ _);obtain⟨W,⟨m0,w0⟩,turn⟩:=k2 _ hfree {s2 with heap:=s2.heap.push { cls:=.type "list",data:=.seq ([]:List LM).toArray} } (upd H2 s2.heap.objs.size (.lst [])) fp;have kp:∀b u,s2.heap.get? b=some u->(s2.heap.push { cls:=.type "list",data:=.seq ([]:List LM).toArray}).get? b=some u:=λb u e=>LQ _ e;have I3:Inv X ad σ (upd H2 s2.heap.objs.size (.lst [])) {s2 with heap:=s2.heap.push { cls:=.type "list",data:=.seq ([]:List LM).toArray} }:=
  I2.laid (t':=s2.toks) kp (e_ _) ⟨Hq _,[],0,.nil,LX _ rfl⟩
 have obj2:=T.obj 0 s2.heap ga;have fpne:∀b∈fp,b≠s2.heap.objs.size:=λb hb=>by obtain⟨o,ho,_⟩:=obj2 b hb;exact k_ (LU ho)
 have f3:∀b∈fp,kX X ad (upd H2 s2.heap.objs.size (.lst [])) b:=λb hb=>⟨by rw[aO (fpne b hb)];exact(f2 b hb).1,(f2 b hb).2⟩
 have gl:=T.keep 0 s2.heap _ ga λb hb o e=>kp b o e;have obj3:=T.obj 0 _ gl;intro h4 hn4 hk4;have st4:=T.keep 0 _ h4 gl λb hb o e=>hk4 b o e;have I4:=sD (N':=N') (fr:=fr) (fp:=fp) I3 C hc f3 (λb hb=>let ⟨o,ho,_⟩:=obj3 b hb;⟨o,ho⟩) hn4 hk4;have stat:∀{H':Hp},(∀b∈fp,H' b=none)->∀b∈fp,kX (aS X N' sc {s2 with heap:=s2.heap.push { cls:=.type "list",data:=.seq ([]:List LM).toArray} } (upd H2 s2.heap.objs.size (.lst [])) fp) [] H' b:=λhn b hb=>
  ⟨hn b hb,(I4.ok.exf b hb).1,I4.ok.exfs b hb,.inl hb,(I4.ok.exf b hb).2,λp hp=>(nomatch hp)⟩
 have loop:Nn (LW X.prog X.w) X.A (.compLoop (.ListComp elt [⟨target,iter,ifs,0⟩] sc jp) 0 (.ref it) (.ref s2.heap.objs.size) (L2.compEnv X.env sc (s2.heap.push { cls:=.type "list",data:=.seq ([]:List LM).toArray}).objs.size))
   (λr s'=>match r with
    | .ok _=>LS (LW X.prog X.w) X.A (NH (.Name x pos') X.env (.ref s2.heap.objs.size)) (λ_ s''=>∃m,s''.heap.Ns (s2.heap.push { cls:=.type "list",data:=.seq ([]:List LM).toArray}).objs.size m/\∀h',Mk (s2.heap.push { cls:=.type "list",data:=.seq ([]:List LM).toArray}).objs.size s''.heap h'->SP X ad D .next {s'' with heap:=h'}) X.xe s'
    | .error x=>False) {s2 with heap:=h4}:=by
  refine mD (λn s'=>∃i cr H',Inv (aS X N' sc {s2 with heap:=s2.heap.push { cls:=.type "list",data:=.seq ([]:List LM).toArray} } (upd H2 s2.heap.objs.size (.lst [])) fp) [] cr H' s'/\tn i s'.heap/\(∀b∈fp,H' b=none)/\W i n cr H') ?_ m0
   ⟨0,_,_,I4,st4,λb hb=>(f3 b hb).1,w0⟩
  rintro n s5 ⟨j,σ5,H5,I5,st5,fr5,w5⟩;rcases turn j n σ5 H5 w5 with⟨stop,q⟩|⟨go,step⟩
  ·refine thn (T.done (aS X N' sc _ _ fp) rfl rfl rfl rfl j [] s5 σ5 H5 (λ_ _=>False) I5 (stat fr5) st5 stop) ?_;rintro r s6 ⟨hr,I6⟩;subst hr;obtain⟨m6,hn6,_⟩:=id I6.loc;have hL:H5 (s2.heap.push { cls:=.type "list",data:=.seq ([]:List LM).toArray}).objs.size=none:=I6.free;have I7:Inv X ad σ H5 s6:=I3.C7 (s':=s6) (ch:=fp) I6.os I6.base I6.hok I6.bare (λb hb=>by obtain⟨_,g1,g2,g3,g4,g5⟩:=f3 b hb;exact⟨g3,g1,g4,g5⟩)
   have Lne:(s2.heap.push { cls:=.type "list",data:=.seq ([]:List LM).toArray}).objs.size≠X.env.locals:=Jc I3.lt;have cne:∀y c,X.env.cells.lookup y=some c->c≠(s2.heap.push { cls:=.type "list",data:=.seq ([]:List LM).toArray}).objs.size:=λy c e=>by obtain⟨v',z⟩:=I3.cell y c e;exact k_ z.lt
   refine PH (qt (v:=.ref s2.heap.objs.size) I7 hNd hi hx rfl (λs8 I8 ⟨a8,sb8,ha8⟩=>?_) (.inl hf));refine⟨m6,hn6.sameBut sb8 (λz=>ha8.elim (λw'=>Lne (z.trans w')) λw'=>cne _ _ w' z.symm),λh' hs'=>⟨_,H5,?_,q⟩⟩;refine I8.turned (it:=(s2.heap.push { cls:=.type "list",data:=.seq ([]:List LM).toArray}).objs.size) (t':=s8.toks) (λb o hb e=>(hs'.2 b hb).trans e) hL Lne (.inr I3.sz) cne λp hp z=>?_;have lt:=LU (I3.pin p hp).1;rw[z]at lt;exact HY _ lt
  refine thn (T.item (aS X N' sc _ _ fp) rfl rfl rfl rfl j [] s5 σ5 H5 (λ_ _=>False) I5 (stat fr5) st5 go) ?_;rintro r s6 ⟨u,hr,h6⟩;subst hr;refine thn h6 ?_;rintro _ s7 ⟨y,H7,I7,r7,y7,st7,fr7⟩;have I7':=I7.pinned (stat fr7) (T.obj _ _ st7);have Oz:∀{σ8:St}{H8:Hp}{s8:LP},Inv (aS X N' sc {s2 with heap:=s2.heap.push { cls:=.type "list",data:=.seq ([]:List LM).toArray} } (upd H2 s2.heap.objs.size (.lst [])) fp) ([]++lB fp s7.heap) σ8 H8 s8->(∃m',m'<n/\W (j+1) m' σ8 H8)->
    ∃m,m<n/\∃i cr H',Inv (aS X N' sc {s2 with heap:=s2.heap.push { cls:=.type "list",data:=.seq ([]:List LM).toArray} } (upd H2 s2.heap.objs.size (.lst [])) fp) [] cr H' s8/\tn i s8.heap/\(∀b∈fp,H' b=none)/\W i m cr H':=λ{σ8 H8 s8} I8 ⟨m',hm,w8⟩=>by
   refine⟨m',hm,j+1,σ8,H8,I8.j5,T.keep _ _ _ st7 λb hb o e=>(I8.pin (b,o) (n_ _ (n_ _ (eV hb e)))).1,λb hb=>?_,w8⟩;obtain⟨o,e,d⟩:=T.obj _ _ st7 b hb;exact(I8.pin (b,o) (n_ _ (n_ _ (eV hb e)))).2.1
  refine thn (hg _ _ fp _ s7 σ5 H7 y u _ I7' r7 (step y H7 y7)) ?_;rintro _ s8 ⟨σ8,H8,I8,q8⟩;refine thn (ht _ _ fp _ s8 σ8 H8 _ I8 q8) ?_;rintro ok s9 ⟨H9,I9,q9⟩;cases ok with
  |false=>exact Oz I9 q9
  |true=>
   refine thn (he _ _ fp _ s9 σ8 H9 _ I9 q9) ?_;rintro y s10 ⟨v,H10,I10,r10,ys,hys,hl,q10⟩;refine thn (lN _ s10 σ8 H10 (.ref s2.heap.objs.size) [v] (.ref s2.heap.objs.size) [y] (λ_ H'=>∃m',m'<n/\W (j+1) m' σ8 H') I10 rfl (.cons r10 .nil) ⟨_,ys,v,rfl,rfl,hys,hl,q10⟩) ?_;rintro z s11 ⟨_,H11,I11,_,q11⟩;exact Oz I11 q11
 refine OZ loop ?_;exact T.self X.A 0 _ _ _ st4 loop
section
variable{X:Cx}
theorem MtM.imp {id:String}{r r':V->List V->Hp->VK->Prop}(h:MtM X id r)(k:∀x xs H Q,r' x xs H Q->r x xs H Q):MtM X id r':=λad s σ H x xs v us Q I r1 r2 q=>h ad s σ H x xs v us Q I r1 r2 (k _ _ _ _ q)
theorem uA:MtM X "list.append" (λx vs H Q=>∃l xs y,x=.ref l/\vs=[y]/\H l=some (.lst xs)/\xs.length<sizeLine/\∀H',Put H l (.lst (xs++[y])) H'->Q .non H'):=lN.imp (by rintro x vs H Q ⟨l,xs,y,e1,e2,h1,hz,q⟩;exact⟨l,xs,y,e1,e2,h1,hz,q _ Put.up⟩)
end
end L2
namespace ZG
open PySem
theorem yL{prog:LV}{w:L0}{A:L_}(hh:A.handled=none)(b:Bool)(it l:LO)(ii:l≠it)(items:Array LM) :
  Draws prog w A it [it,l] items.size (λi v=>items[i]?=some v) (λi h=>Dr b h it l i/\Sq b h l items) where
 live:=λ_ _ st=>let ⟨o,ho,_⟩:=st.1.some;⟨o,ho⟩
 frame:=λ_ _ _ st hk=>⟨st.1.at λo e=>hk it (by simp) o e,st.2.at λo e=>hk l (by simp) o e⟩
 item:=λi s Q E hi st hQ=>by
  refine lR st.1 st.2 (v:=items[i]) (by simp[hi]) λh' hit' hs'=>?_
  exact hQ _ h' s.toks (by simp[hi]) ⟨hit',st.2.ext hs'.extBut ii⟩ hs'
 done:=λs Q E st hE=>va hh st.1 st.2 (by simp) hE
set_option maxHeartbeats 1000000 in
theorem x9(l:LO)(items:Array LM)(n:Nat)(dct:Option LO)(sl:Array (Option LM)) :
  Meets (Nq.«enumerate.__new__» ⟨[.type "enumerate",.ref l],[]⟩) (λ_ R s=>s.heap.get? l=some { cls:=.type "tuple",dict:=dct,data:=.seq items n,slots:=sl}/\
   R (.ok (.ret (.ref (s.heap.push { cls:=.type "tuple_iterator",data:=.fields #[.ref l,.int 0 0] }).objs.size)))
    {s with heap:=(s.heap.push { cls:=.type "tuple_iterator",data:=.fields #[.ref l,.int 0 0] }).push { cls:=.type "enumerate",data:=.fields #[.none,.bool false,.ref s.heap.objs.size,Oi 0,.none,.none] } }):=
 .of_wp λprog w A R s h=>by
  obtain⟨hp,g,d,tk,os⟩:=s;obtain⟨hl,h⟩:=h;have hsub:=sub_enumerate;have hL:OL (NA ⟨hp,g,d,tk,os⟩) l items:=⟨_,hl,rfl,n,rfl⟩
  wp_walk using M_ hl
  refine wpAny_stack_any λst=>LR ?_;split
  ·rename_i c _ _ _ _ _;cases (c == Nt "enumerate")
   ·wp_walk using M_ hl,Mw hL
    exact⟨_,rfl,h⟩
   wp_walk using M_ hl,Mw hL
   exact⟨_,rfl,h⟩
  wp_walk using M_ hl,Mw hL
  exact⟨_,rfl,h⟩
variable {Q:LM->LP->Prop}
section
variable{prog:LV}{w:L0}{A:L_}{E:LM->LP->Prop}{s:LP}
theorem tX{l:LO}{items:Array LM}(hL:s.heap.IsTuple l items)
  (h:∀h',Ra h' (s.heap.objs.size+1) s.heap.objs.size 0 .none->h'.IsTupleIter s.heap.objs.size l 0->h'.objs.size=s.heap.objs.size+2->
   (∀b o,s.heap.get? b=some o->h'.get? b=some o)->Q (.ref (s.heap.objs.size+1)) {s with heap:=h'}) :
  LS (LW prog w) A (call (.type "enumerate") [.ref l]) Q E s:=by
 obtain⟨⟨c,dct,dt,sl⟩,hl,hc,n,hd⟩:=hL;replace hc:c=.type "tuple":=hc;replace hd:dt=.seq items n:=hd;subst hc hd;refine Q8 F.called_enumerate (by decide) (F.typeCall_enumerate_1 _) (F.newCall_enumerate_1 _) (λobj=>F.args_object_init_2 obj _) F.entry_enumerate_new
  (x9 l items n dct sl) ⟨hl,?_⟩
 have hz:(s.heap.push { cls:=.type "tuple_iterator",data:=.fields #[.ref l,.int 0 0] }).objs.size=s.heap.objs.size+1:=Mo ..;show _/\_;rw[hz];have he:Ra ((s.heap.push { cls:=.type "tuple_iterator",data:=.fields #[.ref l,.int 0 0] }).push
   { cls:=.type "enumerate",data:=.fields #[.none,.bool false,.ref s.heap.objs.size,Oi 0,.none,.none] }) (s.heap.objs.size+1) s.heap.objs.size 0 .none:=by
  have:=LX (s.heap.push { cls:=.type "tuple_iterator",data:=.fields #[.ref l,.int 0 0] })
   (o:={ cls:=.type "enumerate",data:=.fields #[.none,.bool false,.ref s.heap.objs.size,Oi 0,.none,.none] }) rfl
  rw[hz]at this;exact this
 refine⟨⟨_,he,rfl⟩,h _ he ⟨_,LQ _ (LX _ rfl),rfl,rfl⟩ (by rw[Mo,hz]) λb o x=>LQ _ (LQ _ x)⟩
theorem uJ{b:Bool}{l:LO}{items:Array LM}(hL:Sq b s.heap l items)
  (h:∀h',Ra h' (s.heap.objs.size+1) s.heap.objs.size 0 .none->Dr b h' s.heap.objs.size l 0->h'.objs.size=s.heap.objs.size+2->
   (∀b o,s.heap.get? b=some o->h'.get? b=some o)->Q (.ref (s.heap.objs.size+1)) {s with heap:=h'}) :
  LS (LW prog w) A (call (.type "enumerate") [.ref l]) Q E s:=by
 cases b with
 |true=>exact tX hL h
 |false=>exact call_enumerate_list hL h
end
end ZG
namespace L2
open PySem PySem.Spec PyProof.Rows
def Ite(K:LN)(b:Bool)(a:LO):It:=
  ⟨λi H=>∃xs x,SqG b K H a xs/\xs[i]?=some x,
   λi H v H'=>∃p x,H p=none/\v=.ref p/\H'=upd H p (.tup [.int i,x])/\∀xs,SqG b K H a xs->xs[i]?=some x,
   λi H=>∃xs,SqG b K H a xs/\xs.length=i⟩
variable {es:List LY}
theorem wH{P:LV}{w:L0}{K:LN}{x1:Nat}{tp:Pos}(b:Bool)(a e it:LO)(D:e≠it) :
  Turn P w K (.Tuple es x1 tp) (Ite K b a) [e,it] e (λi h=>(∃old,Ra h e it i old)/\ZG.Dr b h it a i) where
 mem:=by simp
 obj:=λi h st c hb=>by
  obtain⟨⟨old,he⟩,d⟩:=st;have hb:c=e\/c=it:=by simpa using hb
  rcases hb with rfl|rfl
  ·exact⟨_,he,λv z=>by cases (show Rm _=RJ v from z)⟩
  exact d.some
 keep:=λi h h' st k=>by obtain⟨⟨old,he⟩,d⟩:=st;exact⟨⟨old,k e (by simp) _ he⟩,d.at λo z=>k it (by simp) o z⟩
 item:=by
  intro X hP hw hK hc i ad s σ H E I hf st hg;subst hP hw hK;obtain⟨xs,x,q1,hx⟩:=hg;obtain⟨bi,rv,p1,z1⟩:=I.sq q1;obtain⟨u,hu,ru⟩:=rv.get hx;obtain⟨⟨old,he⟩,d⟩:=st;have fe:=hf e (by simp);have fi:=hf it (by simp);have nai:=I.yn q1 fi;have nae:=I.yn q1 fe;have hlt:i<bi.toArray.size:=by have:=(c_.mp hu).1;simpa using this
  refine wpAny_pyNext_enum_itemD (ZG.yL (A:=X.A.in1) (I.ok.hd hc) b it a nai bi.toArray) he ⟨d,p1⟩ hlt D (by simp[D,nae.symm]) λy h1 tk hP hO hst hT hsz hk=>⟨_,rfl,?_⟩
  have ey:y=u:=by
   have e1:bi.toArray[i]?=some u:=by simpa using hu
   rw[e1]at hP;exact(GY hP).symm
  subst ey;refine wpAny_letOwnedTupleGo_enum (s:={s with heap:=h1,toks:=tk+1}) hO λh' he' hs'=>?_;have hfresh:H s.heap.objs.size=none:=I.hok.fresh (e_ _);have eT:s.heap.objs.size≠e:=Jc (LU he);have kp:∀c o,c ∉ [e,it]->s.heap.get? c=some o->h'.get? c=some o:=λc o hb z=>by
   have n:c≠e/\c≠it:=by simpa using hb
   exact hs'.extBut _ _ n.1 (hk c o n.1 n.2 z)
  have hT':h'.get? s.heap.objs.size=some { cls:=.type "tuple",data:=.seq #[.int i tk,y] }:=hs'.extBut _ _ eT hT;have notfp:∀c o,H c=some o->c ∉ [e,it]:=λc o z hb=>by have:=(hf c hb).1;rw[z]at this;cases this
  have ne:∀c o,s.heap.get? c=some o->c≠s.heap.objs.size:=λc o z=>k_ (LU z);have nt:∀c o,H c=some o->c≠s.heap.objs.size:=λc o z=>cg z hfresh;have I1:Inv X ad σ (upd H s.heap.objs.size (.tup [.int i,x])) {s with heap:=h',toks:=tk+1}:=by
   refine I.step (g':=s.gens) (d':=s.drawn) (t':=tk+1) (ch:=[e,it]) (λc hb=>?_) (λc o _ _ hc z _=>kp c o hc z) (λc o _ _ hc z _=>⟨o.slots,kp c o hc z⟩)
    (λc o _ z n=>by rw[aO (ne c o z)];exact n) (λc o hc z=>⟨o,kp c o hc z⟩) (λc zs z=>by rw[aO (nt c _ z)];exact z) (λc o u z=>by rw[aO (nt c _ z)];exact z)
    (λc ps z=>⟨#[],by rw[aO (nt c _ z),z];simp⟩) (λm hm=>?_) (λc o z=>?_) I.bare
   ·obtain⟨g0,g1,g2,g3,g4,g5⟩:=hf c hb;exact⟨g3,g1,g4,g5⟩
   ·obtain⟨o,es,ep,ho',r⟩:=hm;exact⟨o,es,ep,kp _ o (λhb=>(hf _ hb).2.1 rfl) ho',r⟩
   by_cases hb:c=s.heap.objs.size
   ·subst hb;rw[aV]at z;cases z;exact⟨by show 2<=sizeLine;decide,[.int i tk,y],.cons ⟨tk,rfl⟩ (.cons ru .nil),_,hT',rfl,_,rfl⟩
   rw[aO hb]at z;refine(I.hok c o z).oU (λc' w' hc' q=>kp c' w' ?_ q) (λc' q=>by rw[aO (nt c' _ q)];exact q) λc' zs q=>by rw[aO (nt c' _ q)];exact q
   rcases hc' with rfl|hc'
   ·exact notfp _ _ z
   exact notfp _ _ hc'
  refine⟨.ref s.heap.objs.size,_,I1,rfl,⟨s.heap.objs.size,x,hfresh,rfl,rfl,λzs hq=>by rw[I.CI hq q1];exact hx⟩,?_,λc hb=>?_⟩
  ·exact⟨⟨_,he'⟩,hst.1.ext hs'.extBut D.symm⟩
  have hb0:=(hf c hb).1;have hb':c=e\/c=it:=by simpa using hb
  have hlt:∃o,s.heap.get? c=some o:=by
   rcases hb' with rfl|rfl
   ·exact⟨_,he⟩
   obtain⟨o,z,_⟩:=d.some;exact⟨o,z⟩
  obtain⟨o,z⟩:=hlt;rw[aO (ne c o z)];exact hb0
 done:=by
  intro X hP hw hK hc i ad s σ H E I hf st hg;subst hP hw hK;obtain⟨xs,q1,hn⟩:=hg;obtain⟨bi,rv,p1,z1⟩:=I.sq q1;obtain⟨⟨old,he⟩,d⟩:=st;have fe:=hf e (by simp);have fi:=hf it (by simp);have nai:=I.yn q1 fi;have l1:=rv.length;have en:bi.toArray.size=i:=by simp;omega
  refine wpAny_pyNext_enum_endD (ZG.yL (A:=X.A.in1) (I.ok.hd hc) b it a nai bi.toArray) he (by rw[en];exact⟨d,p1⟩) λg gk=>⟨rfl,?_⟩
  have kp:∀c o,c ∉ [e,it]->s.heap.get? c=some o->g.get? c=some o:=λc o hb z=>by
   have n:c≠e/\c≠it:=by simpa using hb
   exact gk c o n.2 z
  have notfp:∀c o,H c=some o->c ∉ [e,it]:=λc o z hb=>by have:=(hf c hb).1;rw[z]at this;cases this
  refine I.step (g':=s.gens) (d':=s.drawn) (t':=s.toks) (ch:=[e,it]) (λc hb=>?_) (λc o _ _ hc z _=>kp c o hc z) (λc o _ _ hc z _=>⟨o.slots,kp c o hc z⟩)
   (λc o _ z n=>n) (λc o hc z=>⟨o,kp c o hc z⟩) (λc zs z=>z) (λc o u z=>z) (λc ps z=>⟨#[],by rw[z];simp⟩) (λm hm=>?_) (λc o z=>?_) I.bare
  ·obtain⟨g0,g1,g2,g3,g4,g5⟩:=hf c hb;exact⟨g3,g1,g4,g5⟩
  ·obtain⟨o,es,ep,ho',r⟩:=hm;exact⟨o,es,ep,kp _ o (λhb=>(hf _ hb).2.1 rfl) ho',r⟩
  refine(I.hok c o z).oU (λc' w' hc' q=>kp c' w' ?_ q) (λc' q=>q) λc' zs q=>q;rcases hc' with rfl|hc'
  ·exact notfp _ _ z
  exact notfp _ _ hc'
 self:=λ_ _ _ _ _ st h=>by obtain⟨⟨old,he⟩,_⟩:=st;exact PR he h
def EG(K:LN)(ta:TA):TI:=λσ H R=>ta σ H λvs H1=>∃b a,vs=[.ref a]/\(∃xs,SqG b K H1 a xs)/\R (Ite K b a) H1
theorem AI{X:Cx}{x1:Nat}{tp:Pos}{a:LY}{ta:TA}{p pos:Pos}(hg:Gl X "enumerate")(hm:X.mg "enumerate"=none)(ha:PA X [a] ta)(hs:L3 [a] X.env=[(false,Mi a X.env)]:=by rfl) :
  PI X (.Tuple es x1 tp) (.Call (.Name "enumerate" p) [a] [] pos) (EG X.K ta):=by
 intro ad s σ H R I h;refine Call_ (gA I hg hm boot_enumerate (Nr (thn (ha pos ad s σ H _ I h) λus s1 ⟨vs,H1,I1,r1,q1⟩=>?_) hs rfl));obtain⟨b,a,e,⟨xs,q1⟩,q⟩:=q1;subst e;cases r1 with
 |cons r rr=>
  cases rr;cases r;obtain⟨bi,rv,p1,z1⟩:=I1.sq q1;refine ZG.uJ p1 λg gz g1 gs gk=>PR (s:={s1 with heap:=g}) gz ?_;have I2:Inv X ad σ H1 {s1 with heap:=g}:=I1.kept (t':=s1.toks) gk;refine⟨_,_,_,_,H1,rfl,I2,wH b a _ s1.heap.objs.size (show(_:Nat)≠_ by omega),⟨⟨_,gz⟩,g1⟩,λc hb=>?_,q⟩;have hb':s1.heap.objs.size<=c:=by
   have z:c=s1.heap.objs.size+1\/c=s1.heap.objs.size:=by simpa using hb
   rcases z with z|z <;> rw[z] <;>(show(_:Nat)<=_) <;> omega
  exact I1.uW hb' (I1.hok.fresh hb')
end L2
namespace ZR
open PySem
variable {E:LM->LP->Prop}
theorem zC{prog:LV}{w:L0}{A:L_}{s:LP}{it l:LO}{i:Int}{Q:Bool->LP->Prop}(h:s.heap.IsRevIter it l i)(q:Q false s):LS (LW prog w) A (MU (L5 it)) Q E s:=by have ty:s.TypeIs (L5 it) "list_reverseiterator":=h.typeIs;unfold MU;refine LL (MX ty (r:=none) rfl ?_);refine L' (λc=>absurd c (by decide)) (λ_=>?_);refine L' (λc=>absurd c (by decide)) (λ_=>?_);refine LL (MX ty (r:=some (Value.builtin "list_reverseiterator.__length_hint__")) rfl ?_);refine LL (OK ty (b:=true) (by rw[isSubtype_type];rfl) ?_);refine L' (λc=>absurd c (by decide)) (λ_=>?_);refine L' (λ_=>?_) (λc=>absurd rfl c);refine L' (λc=>absurd c (by decide)) (λ_=>?_);exact LR q
theorem oP{prog:LV}{w:L0}{A:L_}{s:LP}{I l:LO}{items:Array LM}{Q:LM->LP->Prop}(hh:A.handled=none)(ii:l≠I)
  (h1:s.heap.IsRevIter I l ((items.size:Int)-1)) (h2:s.heap.IsList l items) (hn:items.size<=sizeLine)
  (q:∀(h':LZ) (tk:Nat) (acc':Array LM) (c':Nat),(∀b o,b≠I->s.heap.get? b=some o->h'.get? b=some o)->
   h'.get? s.heap.objs.size=some { cls:=.type "list",data:=.seq acc' c'}->ItemsOf (λi v=>items[items.size-1-i]?=some v) acc' items.size->Q (.ref s.heap.objs.size) {s with heap:=h',toks:=tk}) :
  LS (LW prog w) A (call (.type "list") [.ref I]) Q E s:=by
 have hI:I<s.heap.objs.size:=by obtain⟨o,e,_⟩:=h1;exact LU e
 have hl:l<s.heap.objs.size:=by obtain⟨o,e,_⟩:=h2;exact LU e
 refine QE QU (PU _) PV (QV _ (Q₁:=λv s1=>v=.ref s.heap.objs.size/\s1={s with heap:=s.heap.push { cls:=.type "list",data:=.seq #[] } }) ⟨rfl,rfl⟩) ?_;rintro _ _ ⟨rfl,rfl⟩;have hS:(s.heap.push ({ cls:=.type "list",data:=.seq #[] }:Obj)).get? s.heap.objs.size=some { cls:=.type "list",data:=.seq #[] }:=LX _ rfl;refine⟨⟨_,hS,rfl⟩,Py _ _,?_⟩;have k1:(s.heap.push { cls:=.type "list",data:=.seq #[] }).IsRevIter I l ((items.size:Int)-1):=h1.at λo e=>LQ _ e;have k2:(s.heap.push { cls:=.type "list",data:=.seq #[] }).IsList l items:=by obtain⟨o,e,r⟩:=h2;exact⟨o,LQ _ e,r⟩
 unfold Nq.«list.__init__»;refine LL (LL (Mn hS rfl (LR ?_)));refine LL (NF hS rfl ?_ (by simp) (by simp));refine LL (NV ?_);have hS2:((s.heap.push ({ cls:=.type "list",data:=.seq #[] }:Obj)).update s.heap.objs.size (Mg λ_=>#[])).get? s.heap.objs.size=some (Mg (λ_=>#[]) { cls:=.type "list",data:=.seq #[] }):=by exact MA _ hS rfl
 have kp:∀b o,b≠s.heap.objs.size->(s.heap.push ({ cls:=.type "list",data:=.seq #[] }:Obj)).get? b=some o->((s.heap.push ({ cls:=.type "list",data:=.seq #[] }:Obj)).update s.heap.objs.size (Mg λ_=>#[])).get? b=some o:=λb o hb e=>by rw[Ob _ _ _ _ hb];exact e
 have k1':=k1.at λo e=>kp I o (k_ hI) e;have k2':((s.heap.push ({ cls:=.type "list",data:=.seq #[] }:Obj)).update s.heap.objs.size (Mg λ_=>#[])).IsList l items:=by obtain⟨o,e,r⟩:=k2;exact⟨o,kp l o (k_ hl) e,r⟩
 generalize (s.heap.push ({ cls:=.type "list",data:=.seq #[] }:Obj)).update s.heap.objs.size (Mg λ_=>#[])=h2' at *;show LS (LW prog w) A.in1.in1 (MV (.ref s.heap.objs.size) (.ref I) .none) _ _ {s with heap:=h2'};unfold MV;refine LL (OI (T:="list_reverseiterator") (Rv (s:={s with heap:=h2'}) k1') ?_);refine L' (λc=>absurd c ?_) (λ_=>?_)
 ·have e:M' (.ref s.heap.objs.size) (.ref I)=false:=by unfold M';exact beq_eq_false_iff_ne.mpr (λz=>k_ hI z.symm)
  rw[e]
  decide
 refine LL (wpAny_pyIter_revIter k1' ?_);refine LL (Ma (zC k1' ?_));refine L' (λc=>absurd c (by decide)) (λ_=>?_);refine LR ⟨N0 Nc _,?_⟩;have W:=(Walks.listRev (prog:=prog) (w:=w) (A:=A.in1.in1) hh I l ii items).toS;refine codeAny_extend_loopS W hn s.heap.objs.size (λz=>by rcases m_.mp z with z|z;exact k_ hI z.symm;exact k_ hl (Hc.mp z).symm) .none items.size 0 {s with heap:=h2'} #[] _ rfl (Hq _) ⟨Hq _,by simpa using k1',k2'⟩ hS2 ⟨rfl,λj v e=>by simp at e⟩ λs' acc' c' m e it=>⟨rfl,?_⟩
 obtain⟨h',g',d',tk',os'⟩:=s';have e1:=m.gens;have e2:=m.drawn;have e3:=m.os;dsimp only at e1 e2 e3;subst e1 e2 e3;exact q h' tk' acc' c' (λb o hb eb=>m.heap b o (λz=>by rcases m_.mp z with z|z;exact k_ (LU eb) z;exact hb (Hc.mp z)) (kp b o (k_ (LU eb)) (LQ _ eb))) e it
end ZR
namespace L2
open PySem PySem.Spec PyProof.Rows
section
variable{X:Cx}
theorem zy{xs:List V}{us:List LM}(h:Vals xs us):Vals xs.reverse us.reverse:=by
 have app:∀{a:List V}{b:List LM}{c:List V}{d:List LM},Vals a b->Vals c d->Vals (a++c) (b++d):=λ{a b c d} p q=>by
  induction p with
  |nil=>exact q
  |cons r _ ih=>exact .cons r ih
 induction h with
 |nil=>exact .nil
 |cons r _ ih=>
  rw[Ht,Ht];exact app ih (.cons r .nil)
theorem uh{e:LY}{te:TE}{p1 p2 pos1 jp:Pos}(hc:X.calm=true)(hg1:Gl X "list")(hm1:X.mg "list"=none)(hg2:Gl X "reversed")(hm2:X.mg "reversed"=none)(he:PE X e te)
  (hs1:L3 [e] X.env=[(false,Mi e X.env)]:=by rfl) (hs2:L3 [.Call (.Name "reversed" p2) [e] [] jp] X.env=[(false,Mi (.Call (.Name "reversed" p2) [e] [] jp) X.env)]:=by rfl) :
  PE X (.Call (.Name "list" p1) [.Call (.Name "reversed" p2) [e] [] jp] [] pos1) (λσ H Q=>te σ H λx H1=>∃l xs,x=.ref l/\SqL X.K H1 l xs/\New (.lst xs.reverse) H1 Q):=by
 intro ad s σ H Q I h;refine MC (gA I hg1 hm1 boot_list (callWith_type1 ?_ (by rw[hs2];rfl) rfl));rw[hs2];refine MR ?_;refine MC (gA I hg2 hm2 boot_reversed (callWith_type1 ?_ (by rw[hs1];rfl) rfl));rw[hs1];refine MR (thn (he ad s σ H _ I h) ?_);rintro u s1 ⟨x,H1,I1,r1,l,xs,ex,hl,q⟩;subst ex;cases r1;obtain⟨bi,rv,pl,hz⟩:=I1.list hl;refine LR ?_;refine call_reversed_list pl.isList ?_;have hlen:=rv.length;have hlt:l<s1.heap.objs.size:=by obtain⟨o,n,e,_⟩:=pl;exact LU e
 refine LR ?_;have I2:Inv X ad σ H1 {s1 with heap:=s1.heap.push (revObj l ((bi.toArray.size:Int)-1)) }:=I1.kept (t':=s1.toks) λb o e=>LQ _ e;obtain⟨f0,f1,f2,f3,f4,f5⟩:=I1.uW (b:=s1.heap.objs.size) (e_ _) (I1.hok.fresh (e_ _));refine ZR.oP (items:=bi.toArray) (l:=l) (I2.ok.hd hc) (k_ hlt) ⟨_,LX _ rfl,rfl,rfl⟩ ?_ (by simp only[j_];lia) λh' tk acc c kp ea it=>?_
 ·obtain⟨o,e,r⟩:=pl.isList;exact⟨o,LQ _ e,r⟩
 have hacc:acc.toList=bi.reverse:=by
  refine Jq λj=>?_;rw[u_];by_cases hj:j<bi.length
  ·have hja:j<acc.size:=by rw[it.1,j_];exact hj
   have ha:acc[j]?=some acc[j]:=w_ hja;have:=it.2 j _ ha;rw[ha,IM hj,<-this];simp
  rw[HW (by rw[it.1,j_];lia),HJ (by rw[x_];lia)]
 have ea2:acc=bi.reverse.toArray:=by rw[<-hacc]
 have hfr:H1 (s1.heap.objs.size+1)=none:=I1.hok.fresh (Kr _);have esz:(s1.heap.push (revObj l ((bi.toArray.size:Int)-1))).objs.size=s1.heap.objs.size+1:=by simp[N6]
 dsimp only at ea ⊢;rw[esz]at ea ⊢;rw[ea2]at ea;refine⟨.ref (s1.heap.objs.size+1),_,I1.laid (t':=tk) (h':=h') (λb o e=>kp b o (k_ (LU e)) (LQ _ e)) (Kr _) (show bZ X.prog X.w _ h' _ (.lst xs.reverse)from⟨by rw[x_];exact hz,bi.reverse,c,zy rv,ea⟩),rfl,q _ _ hfr (cM hfr _) aV⟩
theorem xB(hc:X.calm=true):bX X (.builtin "min") (λxs H Q=>∃a ns,xs=[.ref a]/\SqT X.K H a (ns.map V.int)/\ns≠[]/\∀r,y9 ns r->Q (.int r) H):=by
 intro ad s σ H xs us Q I r h;obtain⟨a,ns,rfl,hq,ii,q⟩:=h;obtain⟨u,rfl,ru⟩:=vals1 r;cases ru;obtain⟨bi,rv,p,z⟩:=I.tuple hq;obtain⟨ps,e1,e2⟩:=gp rv;have ei:Mr ps.toArray=bi.toArray:=by simp[Mr,e1]
 have hT:s.heap.IsTuple a (Mr ps.toArray):=by rw[ei];exact p
 have hlen:ps.length=ns.length:=by rw[<-e2];simp
 have hpos:0<ns.length:=IF λz=>ii (Hs z);have hlt:a<s.heap.objs.size:=by obtain⟨o,e,_⟩:=p;exact LU e
 have hh:X.A.in1.handled=none:=I.ok.hd hc;have W1:=Rr (prog:=X.prog) (w:=X.w) hh s.heap.objs.size a (k_ hlt) (Mr ps.toArray);refine call_min_walk (Mw hT ⟨s.heap.objs.size,_,_,_,_,_,_,rfl,W1,?_,λb hb=>?_,?_,CmpOf.ints_lt (Nv ps.toArray) (λi v hv=>NW hv),λv h' tk hv hk=>?_⟩)
 ·refine⟨⟨_,LX _ rfl,rfl,rfl⟩,?_⟩;obtain⟨o,e,r⟩:=hT;exact⟨o,LQ _ e,r⟩
 ·show b<(s.heap.push _).objs.size;have e:(s.heap.push { cls:=.type "tuple_iterator",data:=.fields #[.ref a,.int 0 0] }).objs.size=s.heap.objs.size+1:=by simp[N6]
  rcases m_.mp hb with hb|hb
  ·rw[hb];simp[N6]
  rw[Hc.mp hb];exact C' hlt (by simp[N6])
 ·simp[Mr];lia
 obtain⟨tv,rfl⟩:=NW hv;obtain⟨b1,b2⟩:=argBest_lt (Nv ps.toArray) ((Mr ps.toArray).size-1);have es:(Mr ps.toArray).size=ns.length:=by simp[Mr,hlen]
 have hi:QD (λi j=>decide (Nv ps.toArray i<Nv ps.toArray j)) ((Mr ps.toArray).size-1)<ns.length:=by rw[es]at b1 ⊢;lia
 obtain⟨f0,f1,f2,f3,f4,f5⟩:=I.uW (b:=s.heap.objs.size) (e_ _) (I.hok.fresh (e_ _));have kk:∀b o,s.heap.get? b=some o->h'.get? b=some o:=λb o e=>hk b o (λz=>k_ (LU e) (Hc.mp z)) (LQ _ e);refine⟨.int _,H,I.kept (t':=tk) kk,⟨tv,rfl⟩,q _ ⟨?_,λx hx=>?_⟩⟩
 ·rw[f9 e2 hi];exact HB hi
 obtain⟨j,hj,rfl⟩:=HP.mp hx;have:=b2 j (by rw[es];lia);rw[f9 e2 hj]at this;exact this
theorem x3(hc:X.calm=true):bX X (.builtin "max") (λxs H Q=>∃a ns,xs=[.ref a]/\SqT X.K H a (ns.map V.int)/\ns≠[]/\∀r,yd ns r->Q (.int r) H):=by
 intro ad s σ H xs us Q I r h;obtain⟨a,ns,rfl,hq,ii,q⟩:=h;obtain⟨u,rfl,ru⟩:=vals1 r;cases ru;obtain⟨bi,rv,p,z⟩:=I.tuple hq;obtain⟨ps,e1,e2⟩:=gp rv;have ei:Mr ps.toArray=bi.toArray:=by simp[Mr,e1]
 have hT:s.heap.IsTuple a (Mr ps.toArray):=by rw[ei];exact p
 have hlen:ps.length=ns.length:=by rw[<-e2];simp
 have hpos:0<ns.length:=IF λz=>ii (Hs z);have hlt:a<s.heap.objs.size:=by obtain⟨o,e,_⟩:=p;exact LU e
 have hh:X.A.in1.handled=none:=I.ok.hd hc;have W1:=Rr (prog:=X.prog) (w:=X.w) hh s.heap.objs.size a (k_ hlt) (Mr ps.toArray);refine call_max_walk (Mw hT ⟨s.heap.objs.size,_,_,_,_,_,_,rfl,W1,?_,λb hb=>?_,?_,CmpOf.ints_gt (Nv ps.toArray) (λi v hv=>NW hv),λv h' tk hv hk=>?_⟩)
 ·refine⟨⟨_,LX _ rfl,rfl,rfl⟩,?_⟩;obtain⟨o,e,r⟩:=hT;exact⟨o,LQ _ e,r⟩
 ·show b<(s.heap.push _).objs.size;have e:(s.heap.push { cls:=.type "tuple_iterator",data:=.fields #[.ref a,.int 0 0] }).objs.size=s.heap.objs.size+1:=by simp[N6]
  rcases m_.mp hb with hb|hb
  ·rw[hb];simp[N6]
  rw[Hc.mp hb];exact C' hlt (by simp[N6])
 ·simp[Mr];lia
 obtain⟨tv,rfl⟩:=NW hv;obtain⟨b1,b2⟩:=argBest_gt (Nv ps.toArray) ((Mr ps.toArray).size-1);have es:(Mr ps.toArray).size=ns.length:=by simp[Mr,hlen]
 have hi:QD (λi j=>decide (Nv ps.toArray i > Nv ps.toArray j)) ((Mr ps.toArray).size-1)<ns.length:=by rw[es]at b1 ⊢;lia
 obtain⟨f0,f1,f2,f3,f4,f5⟩:=I.uW (b:=s.heap.objs.size) (e_ _) (I.hok.fresh (e_ _));have kk:∀b o,s.heap.get? b=some o->h'.get? b=some o:=λb o e=>hk b o (λz=>k_ (LU e) (Hc.mp z)) (LQ _ e);refine⟨.int _,H,I.kept (t':=tk) kk,⟨tv,rfl⟩,q _ ⟨?_,λx hx=>?_⟩⟩
 ·rw[f9 e2 hi];exact HB hi
 obtain⟨j,hj,rfl⟩:=HP.mp hx;have:=b2 j (by rw[es];lia);rw[f9 e2 hj]at this;exact this
end
end L2
namespace ZG
open PySem
abbrev IsZ(h:LZ)(z TI TO:LO)(f0:LM)(f1:Bool):Prop:=h.get? z=some { cls:=.type "zip",dict:=none,data:=.fields #[f0,.bool f1,.bool false,.ref TI,.ref TO],slots:=#[] }
variable {Q:Option LM->LP->Prop}{a:Int}{b1 b2 f1:Bool}{i1 i2 l1 l2 z:LO}{o:Obj}{t:Tok}{xs ys:Array LM}
section
variable{prog:LV}{w:L0}{A:L_}{E:LM->LP->Prop}{s:LP}
theorem BU{TI TO:LO}{Q:Bool->LP->Prop}(hz:IsZ s.heap z TI TO (.int a t) f1)(ha:s.heap.get? a.toNat=some o)
  (r:∀g,IsZ g z TI TO (.int a t) true->Mk z s.heap g->Q false {s with heap:=g}):LS (LW prog w) A (Mc (.ref z)) Q E s:=by
 unfold Mc;refine LL (Mh hz rfl (x:=.int a t) rfl ?_);refine LL (PySem.W.kdx_alive ha ?_);refine L' (λc=>absurd c (by simp)) (λ_=>?_);refine LL (Mh hz rfl (x:=.bool f1) rfl ?_);cases f1 with
 |true=>
  refine L' (λc=>absurd c (by decide)) (λ_=>?_);exact LR (r _ hz ⟨rfl,λ_ _=>rfl⟩)
 |false=>
  refine L' (λ_=>?_) (λc=>absurd (by decide) c);refine LL (MM hz (by simp) λg z1 s1=>?_);exact LR (r g z1 s1)
theorem Er{TI TO:LO}{k:Nat}{x y:LM}{Q:LM->LP->Prop}(D:Off z TI TO i1 i2 l1 l2)
  (hz:IsZ s.heap z TI TO (.int a t) f1) (ha:s.heap.get? a.toNat=some o) (hi:My s.heap TI (.ref i1) (.ref i2))
  (d1:Dr b1 s.heap i1 l1 k) (d2:Dr b2 s.heap i2 l2 k) (q1:Sq b1 s.heap l1 xs) (q2:Sq b2 s.heap l2 ys) (hx:xs[k]?=some x) (hy:ys[k]?=some y)
  (r:∀g,IsZ g z TI TO (.int a t) true->Dr b1 g i1 l1 (k+1)->Dr b2 g i2 l2 (k+1)->My g s.heap.objs.size x y->g.objs.size=s.heap.objs.size+1->
   (∀c o,c≠z->c≠i1->c≠i2->s.heap.get? c=some o->g.get? c=some o)->Q (.ref s.heap.objs.size) {s with heap:=g}) :
  LS (LW prog w) A (Nq.«zip.__next__» ⟨[.ref z],[]⟩) (λfin s'=>∃v,fin=.done (.ret v)/\Q v s') E s:=by
 show LS _ _ (N_ (.ref z) 2 >>= _) _ _ _;refine LL (Mh hz rfl (x:=.bool false) rfl ?_);show LS _ _ (N_ (.ref z) 3 >>= _) _ _ _;refine LL (Mh hz rfl (x:=.ref TI) rfl (LL (Mn hi rfl ?_)));show LS _ _ (Mc (.ref z) >>= _) _ _ _;refine LL (BU hz ha λg1 z1 s1=>?_);refine L' (λc=>absurd c (by decide)) (λ_=>?_);refine LL ?_;simp only[KU,I0,Jn];refine LL (LL (Ma ?_));show LS _ _ (L8 (.ref i1) >>= _) _ _ _;refine LL (lR (d1.ext s1.extBut D.a3) (q1.ext s1.extBut D.c1) hx λg2 w2 s2=>LR ?_);refine LR ?_;refine LL (LL (Ma ?_));show LS _ _ (L8 (.ref i2) >>= _) _ _ _;refine LL (lR ((d2.ext s1.extBut D.a4).ext s2.extBut D.b1.symm) ((q2.ext s1.extBut D.e1).ext s2.extBut D.e3) hy λg3 w3 s3=>LR ?_);refine LR ?_;refine LR ?_;refine LL (QA ?_ (by show 2<=sizeLine;decide));refine LR ⟨_,rfl,?_⟩;have sz:g3.objs.size=s.heap.objs.size:=by rw[s3.1,s2.1,s1.1]
 have zz:IsZ g3 z TI TO (.int a t) true:=s3.extBut _ _ D.a4.symm (s2.extBut _ _ D.a3.symm z1);show Q (.ref g3.objs.size) _;rw[sz];refine r _ (LQ _ zz) ((w2.ext s3.extBut D.b1).at λo e=>LQ _ e) (w3.at λo e=>LQ _ e) ?_ ?_ ?_
 ·have e:(g3.push ({ cls:=.type "tuple",data:=.seq #[x,y] }:Obj)).get? g3.objs.size=_:=LX _ rfl;rw[sz]at e;exact e
 ·rw[Mo,sz]
 exact λc o n1 n2 n3 e=>LQ _ (s3.extBut _ _ n3 (s2.extBut _ _ n2 (s1.extBut _ _ n1 e)))
theorem Fe{TI TO:LO}{k:Nat}{Q:Fin->LP->Prop}(hh:A.handled=none)(D:Off z TI TO i1 i2 l1 l2)
  (hz:IsZ s.heap z TI TO (.int a t) f1) (ha:s.heap.get? a.toNat=some o) (hi:My s.heap TI (.ref i1) (.ref i2))
  (d1:Dr b1 s.heap i1 l1 k) (q1:Sq b1 s.heap l1 xs) (hx:xs[k]?=none)
  (r:∀g e,(∀c o,c≠z->c≠i1->s.heap.get? c=some o->g.get? c=some o)->(∃o,g.get? e=some o/\o.cls=.type "StopIteration")->E (.ref e) {s with heap:=g}) :
  LS (LW prog w) A (Nq.«zip.__next__» ⟨[.ref z],[]⟩) Q E s:=by
 show LS _ _ (N_ (.ref z) 2 >>= _) _ _ _;refine LL (Mh hz rfl (x:=.bool false) rfl ?_);show LS _ _ (N_ (.ref z) 3 >>= _) _ _ _;refine LL (Mh hz rfl (x:=.ref TI) rfl (LL (Mn hi rfl ?_)));show LS _ _ (Mc (.ref z) >>= _) _ _ _;refine LL (BU hz ha λg1 z1 s1=>?_);refine L' (λc=>absurd c (by decide)) (λ_=>?_);refine LL ?_;simp only[KU,I0,Jn];refine LL (LL (Ma ?_));show LS _ _ (L8 (.ref i1) >>= _) _ _ _;refine LL (va hh (d1.ext s1.extBut D.a3) (q1.ext s1.extBut D.c1) hx λg2 e s2 he=>?_);exact r g2 e (λc o n1 n2 q=>s2 _ _ n2 (s1.extBut _ _ n1 q)) he
structure ZSt (b1 b2:Bool) (z TI TO i1 i2 l1 l2:LO) (xs ys:Array LM) (i:Nat) (h:LZ):Prop where
 st:Nu h z TI TO .none\/∃f1 a t o,IsZ h z TI TO (.int a t) f1/\h.get? a.toNat=some o
 pi:My h TI (.ref i1) (.ref i2)
 po:∃a b,My h TO a b
 d1:Dr b1 h i1 l1 i
 d2:Dr b2 h i2 l2 i
 q1:Sq b1 h l1 xs
 q2:Sq b2 h l2 ys
theorem Bs{TI TO:LO}{i:Nat}{x y:LM}(D:Off z TI TO i1 i2 l1 l2)(S:ZSt b1 b2 z TI TO i1 i2 l1 l2 xs ys i s.heap)(hx:xs[i]?=some x)(hy:ys[i]?=some y)
  (r:∀g,ZSt b1 b2 z TI TO i1 i2 l1 l2 xs ys (i+1) g->My g s.heap.objs.size x y->g.objs.size=s.heap.objs.size+1->(∀c o,c≠z->c≠TO->c≠i1->c≠i2->s.heap.get? c=some o->g.get? c=some o)->Q (some (.ref s.heap.objs.size)) {s with heap:=g}) :
  LS (LW prog w) A (Ng (.ref z)) Q E s:=by
 obtain⟨a0,b0,ho⟩:=S.po;rcases S.st with hz|⟨f1,a,t,o,hz,ha⟩
 ·refine sU D hz S.pi ho S.d1 S.d2 S.q1 S.q2 hx hy λg p1 p2 p3 p4 p5 p6 p7=>r g ⟨.inr ⟨false,(s.heap.objs.size:Int),0,_,p1,by rw[HR];exact p5⟩,p7 _ _ D.a1 D.a5 D.a6 D.a7 S.pi,⟨_,_,p2⟩,p3,p4,S.q1.at λo e=>p7 _ o D.c1 D.c2 D.c3 D.c4 e,S.q2.at λo e=>p7 _ o D.e1 D.e2 D.e3 D.e4 e⟩ p5 p6 p7
 have hT:s.TypeIs (.ref z) "zip":=⟨_,hz,rfl⟩;unfold Ng;refine LL (Nx (Mu (name:=MT "__next__") hT MH (MK MH hT N2 ?_ (NR _))));refine Er D hz ha S.pi S.d1 S.d2 S.q1 S.q2 hx hy λg p1 p3 p4 p5 p6 p7=>LR (r g ⟨.inr ⟨true,a,t,?_⟩,p7 _ _ D.a1 D.a6 D.a7 S.pi,⟨_,_,p7 _ _ D.a2 D.a8 D.a9 ho⟩,p3,p4,S.q1.at λo e=>p7 _ o D.c1 D.c3 D.c4 e,S.q2.at λo e=>p7 _ o D.e1 D.e3 D.e4 e⟩ p5 p6 λc o n1 _ n3 n4 e=>p7 c o n1 n3 n4 e);by_cases e1:a.toNat=z
 ·exact⟨_,p1,by rw[e1];exact p1⟩
 by_cases e2:a.toNat=i1
 ·obtain⟨u,hu,_⟩:=p3.some;exact⟨u,p1,by rw[e2];exact hu⟩
 by_cases e3:a.toNat=i2
 ·obtain⟨u,hu,_⟩:=p4.some;exact⟨u,p1,by rw[e3];exact hu⟩
 exact⟨o,p1,p7 _ _ e1 e2 e3 ha⟩
theorem Ep{TI TO:LO}{i:Nat}(hh:A.handled=none)(D:Off z TI TO i1 i2 l1 l2)(S:ZSt b1 b2 z TI TO i1 i2 l1 l2 xs ys i s.heap)(hx:xs[i]?=none)
  (r:∀g,(∀c o,c≠z->c≠TO->c≠i1->c≠i2->s.heap.get? c=some o->g.get? c=some o)->Q none {s with heap:=g}):LS (LW prog w) A (Ng (.ref z)) Q E s:=by
 obtain⟨a0,b0,ho⟩:=S.po;rcases S.st with hz|⟨f1,a,t,o,hz,ha⟩
 ·exact tV hh D hz S.pi ho S.d1 S.d2 S.q1 S.q2 (.inl hx) r
 have hT:s.TypeIs (.ref z) "zip":=⟨_,hz,rfl⟩;unfold Ng;refine LL (Nx (Mu (name:=MT "__next__") hT MH (MK MH hT N2 (Fe hh D hz ha S.pi S.d1 S.q1 hx λg e k he=>?_) (NR _))));obtain⟨o,he,hc⟩:=he;exact LL (OK (T:="StopIteration") (b:=true) ⟨o,he,hc⟩ QB (LR (r _ λc o n1 _ n3 _ e=>k c o n1 n3 e)))
theorem ZSt.keep {b1 b2:Bool}{z TI TO i1 i2 l1 l2 S:LO}{xs ys:Array LM}{i:Nat}{h h':LZ}(Z:ZSt b1 b2 z TI TO i1 i2 l1 l2 xs ys i h)(k:∀b o,b≠S->h.get? b=some o->h'.get? b=some o)(e:∃o,h'.get? S=some o)
  (n:z≠S/\TI≠S/\TO≠S/\i1≠S/\i2≠S/\l1≠S/\l2≠S):ZSt b1 b2 z TI TO i1 i2 l1 l2 xs ys i h':=by
 obtain⟨n1,n2,n3,n4,n5,n6,n7⟩:=n;obtain⟨a0,b0,ho⟩:=Z.po;refine⟨?_,k _ _ n2 Z.pi,⟨_,_,k _ _ n3 ho⟩,Z.d1.at λo q=>k _ o n4 q,Z.d2.at λo q=>k _ o n5 q,Z.q1.at λo q=>k _ o n6 q,Z.q2.at λo q=>k _ o n7 q⟩;rcases Z.st with hz|⟨f1,a,t,o,hz,ha⟩
 ·exact .inl (k _ _ n1 hz)
 by_cases e1:a.toNat=S
 ·obtain⟨u,hu⟩:=e;exact .inr ⟨f1,a,t,u,k _ _ n1 hz,by rw[e1];exact hu⟩
 exact .inr ⟨f1,a,t,o,k _ _ n1 hz,k _ _ e1 ha⟩
theorem Bx{TI TO S n0:LO}{n:Nat}{R:Q5->LP->Prop}(hh:A.in1.handled=none)(D:Off z TI TO i1 i2 l1 l2)(n7:z≠S/\TI≠S/\TO≠S/\i1≠S/\i2≠S/\l1≠S/\l2≠S)
  (off:∀j,n0+j≠S/\n0+j≠z/\n0+j≠TO/\n0+j≠i1/\n0+j≠i2) (ex:xs.size=n) (ey:ys.size=n) (hn:n<=sizeLine) (res:LM) :
  ∀(k i:Nat) (s:LP) (acc:Array LM) (c:Nat),n-i=k->i<=n->ZSt b1 b2 z TI TO i1 i2 l1 l2 xs ys i s.heap->s.heap.get? S=some { cls:=.type "list",dict:=none,data:=.seq acc c,slots:=#[] }->
   s.heap.objs.size=n0+i->acc=((IW n0 i).map L5).toArray->(∀j x y,j<i->xs[j]?=some x->ys[j]?=some y->My s.heap (n0+j) x y)->
   (∀h' c',(∀b o,b≠S->b≠z->b≠TO->b≠i1->b≠i2->s.heap.get? b=some o->h'.get? b=some o)->h'.get? S=some { cls:=.type "list",dict:=none,data:=.seq ((IW n0 n).map L5).toArray c',slots:=#[] }->
    (∀j x y,j<n->xs[j]?=some x->ys[j]?=some y->My h' (n0+j) x y)->R (.ok (.ret res)) {s with heap:=h'})->
   Nn (LW prog w) A (.builtin "list.extend.loop" ⟨[.ref S,.ref z,res],[]⟩) R s:=by
 intro k;induction k with
 |zero=>
  intro i s acc c hk hi st hS hs ea hp r;have:i=n:=by omega
  subst this;refine Ni Pj ?_;rw[M7 Nc _];show LS _ A.in1 (Ng (.ref z) >>= _) _ _ s;refine LL (Ep hh D st (by rw[HW];omega) λg kp=>?_);refine LR (r g c (λb o m1 m2 m3 m4 m5 e=>kp b o m2 m3 m4 m5 e) (by rw[<-ea];exact kp _ _ n7.1.symm n7.2.2.1.symm n7.2.2.2.1.symm n7.2.2.2.2.1.symm hS) λj x y hj hx hy=>?_);obtain⟨o0,o1,o2,o3,o4⟩:=off j;exact kp _ _ o1 o2 o3 o4 (hp j x y hj hx hy)
 |succ k ih=>
  intro i s acc c hk hi st hS hs ea hp r;have hlt:i<n:=by omega
  refine Ni Pj ?_;rw[M7 Nc _];show LS _ A.in1 (Ng (.ref z) >>= _) _ _ s;obtain⟨x,hx⟩:∃x,xs[i]?=some x:=⟨_,w_ (by omega)⟩;obtain⟨y,hy⟩:∃y,ys[i]?=some y:=⟨_,w_ (by omega)⟩;refine LL (Bs D st hx hy λg be pr sz kp=>?_);rw[hs]at pr sz ⊢;have hS':=kp _ _ n7.1.symm n7.2.2.1.symm n7.2.2.2.1.symm n7.2.2.2.2.1.symm hS;show LS _ A.in1 (QJ S (·.push (.ref (n0+i))) >>= _) _ _ _;have hacc:acc.size=i:=by rw[ea];simp
  refine LL ?_;have up:∀b o,b≠S->g.get? b=some o->(g.update S (Mg (·.push (.ref (n0+i))))).get? b=some o:=λb o hb e=>by rw[Ob _ _ _ _ hb];exact e
  have hS2:(g.update S (Mg (·.push (.ref (n0+i))))).get? S=some _:=MA _ hS' rfl;refine NF hS' rfl (LR ⟨N0 Nc _,ih (i+1) _ (acc.push (.ref (n0+i))) _ (by omega) hlt (be.keep up ⟨_,hS2⟩ n7) hS2 ?_ ?_ ?_ ?_⟩) (by rw[hacc];omega) (by show(acc.push _).size<=sizeLine+1;rw[Array.size_push,hacc];omega)
  ·show(g.update S _).objs.size=_;rw[N3,sz,Nat.add_assoc]
  ·rw[ea,List.range'_1_concat,p_,List.push_toArray];rfl
  ·intro j x' y' hj hx' hy';refine up _ _ (off j).1 ?_;rcases Je.mp hj with hj|rfl
   ·obtain⟨o0,o1,o2,o3,o4⟩:=off j;exact kp _ _ o1 o2 o3 o4 (hp j x' y' hj hx' hy')
   rw[hx]at hx';rw[hy]at hy';cases hx';cases hy';exact pr
  intro h' c' k1 k2 k3;exact r h' c' (λb o m1 m2 m3 m4 m5 e=>k1 b o m1 m2 m3 m4 m5 (up b o m1 (kp b o m2 m3 m4 m5 e))) k2 k3
theorem uK:Pa (.type "zip") "__len__"=pure none:=by rw[Qk,O4];kernel_rfl
theorem tH:Pa (.type "zip") "__length_hint__"=pure none:=by rw[Qk,O4];kernel_rfl
theorem zX{Q:Bool->LP->Prop}(ty:s.TypeIs (.ref z) "zip")(q:Q true s):LS (LW prog w) A (MU (L5 z)) Q E s:=by unfold MU;refine LL (MX ty (r:=none) uK ?_);refine L' (λc=>absurd c (by decide)) (λ_=>?_);refine L' (λc=>absurd c (by decide)) (λ_=>?_);refine LL (MX ty (r:=none) tH ?_);exact LR q
theorem p8{TI TO:LO}{n:Nat}{Q:LM->LP->Prop}(hh:A.handled=none)(D:Off z TI TO i1 i2 l1 l2)(S:ZSt b1 b2 z TI TO i1 i2 l1 l2 xs ys 0 s.heap)(ex:xs.size=n)(ey:ys.size=n)(hn:n<=sizeLine)
  (q:∀(h':LZ) (c':Nat),(∀b o,b≠z->b≠TO->b≠i1->b≠i2->s.heap.get? b=some o->h'.get? b=some o)->
   h'.get? s.heap.objs.size=some { cls:=.type "list",data:=.seq ((IW (s.heap.objs.size+1) n).map L5).toArray c'}->(∀j x y,j<n->xs[j]?=some x->ys[j]?=some y->My h' (s.heap.objs.size+1+j) x y)->Q (.ref s.heap.objs.size) {s with heap:=h'}) :
  LS (LW prog w) A (call (.type "list") [.ref z]) Q E s:=by
 have lz:z<s.heap.objs.size/\TI<s.heap.objs.size/\TO<s.heap.objs.size/\i1<s.heap.objs.size/\i2<s.heap.objs.size/\l1<s.heap.objs.size/\l2<s.heap.objs.size:=by
  obtain⟨a0,b0,ho⟩:=S.po;refine⟨?_,LU S.pi,LU ho,?_,?_,?_,?_⟩
  ·rcases S.st with hz|⟨f1,a,t,o,hz,ha⟩
   ·exact LU hz
   exact LU hz
  ·obtain⟨u,hu,_⟩:=S.d1.some;exact LU hu
  ·obtain⟨u,hu,_⟩:=S.d2.some;exact LU hu
  ·have:=S.q1;cases b1 with
   |true=>obtain⟨o,e,_⟩:=(show s.heap.IsTuple l1 xs from this);exact LU e
   |false=>obtain⟨o,e,_⟩:=(show s.heap.IsList l1 xs from this);exact LU e
  have:=S.q2;cases b2 with
  |true=>obtain⟨o,e,_⟩:=(show s.heap.IsTuple l2 ys from this);exact LU e
  |false=>obtain⟨o,e,_⟩:=(show s.heap.IsList l2 ys from this);exact LU e
 obtain⟨z1,z2,z3,z4,z5,z6,z7⟩:=lz;refine QE QU (PU _) PV (QV _ (Q₁:=λv s1=>v=.ref s.heap.objs.size/\s1={s with heap:=s.heap.push { cls:=.type "list",data:=.seq #[] } }) ⟨rfl,rfl⟩) ?_;rintro _ _ ⟨rfl,rfl⟩;have hS:(s.heap.push ({ cls:=.type "list",data:=.seq #[] }:Obj)).get? s.heap.objs.size=some { cls:=.type "list",data:=.seq #[] }:=LX _ rfl;refine⟨⟨_,hS,rfl⟩,Py _ _,?_⟩;unfold Nq.«list.__init__»;refine LL (LL (Mn hS rfl (LR ?_)));refine LL (NF hS rfl ?_ (by simp) (by simp));refine LL (NV ?_);have hS2:((s.heap.push ({ cls:=.type "list",data:=.seq #[] }:Obj)).update s.heap.objs.size (Mg λ_=>#[])).get? s.heap.objs.size=some (Mg (λ_=>#[]) { cls:=.type "list",data:=.seq #[] }):=by exact MA _ hS rfl
 have kp:∀b o,b≠s.heap.objs.size->s.heap.get? b=some o->((s.heap.push ({ cls:=.type "list",data:=.seq #[] }:Obj)).update s.heap.objs.size (Mg λ_=>#[])).get? b=some o:=λb o hb e=>by rw[Ob _ _ _ _ hb];exact LQ _ e
 have esz:((s.heap.push ({ cls:=.type "list",data:=.seq #[] }:Obj)).update s.heap.objs.size (Mg λ_=>#[])).objs.size=s.heap.objs.size+1:=by rw[N3,Mo]
 generalize (s.heap.push ({ cls:=.type "list",data:=.seq #[] }:Obj)).update s.heap.objs.size (Mg λ_=>#[])=h2' at *;have n7:z≠s.heap.objs.size/\TI≠s.heap.objs.size/\TO≠s.heap.objs.size/\i1≠s.heap.objs.size/\i2≠s.heap.objs.size/\l1≠s.heap.objs.size/\l2≠s.heap.objs.size:=⟨k_ z1,k_ z2,k_ z3,k_ z4,k_ z5,k_ z6,k_ z7⟩;have S2:=S.keep kp ⟨_,hS2⟩ n7;have ty:QW {s with heap:=h2'} (.ref z) "zip":=by
  rcases S2.st with hz|⟨f1,a,t,o,hz,ha⟩
  ·exact⟨_,hz,rfl⟩
  exact⟨_,hz,rfl⟩
 show LS (LW prog w) A.in1.in1 (MV (.ref s.heap.objs.size) (.ref z) .none) _ _ {s with heap:=h2'};unfold MV;refine LL (OI (T:="zip") ty ?_);refine L' (λc=>absurd c ?_) (λ_=>?_)
 ·have e:M' (.ref s.heap.objs.size) (.ref z)=false:=by unfold M';exact beq_eq_false_iff_ne.mpr (λh=>n7.1 h.symm)
  rw[e]
  decide
 have itz:∀{Q:LM->LP->Prop}{E:LM->LP->Prop}{A:L_},Q (.ref z) {s with heap:=h2'}->LS (LW prog w) A (O1 (.ref z)) Q E {s with heap:=h2'}:=λh=>by refine wpAny_pyIter_slot ty Ql (MK Ql ty F.entry_zip_iter ?_ (F.args_zip_iter_1 _));show LS _ _ (ret (.ref z)) _ _ _;exact LR ⟨_,rfl,"zip",_,ty,MH.lookup,h⟩
 refine LL (itz ?_);refine LL (Ma (zX ty ?_));refine L' (λ_=>?_) (λc=>absurd rfl c);refine LL (N7 ?_);refine LL ?_;show LS _ _ (QJ s.heap.objs.size (·.push .none) >>= λ_=>QJ s.heap.objs.size (·.pop)) _ _ _;have hT1:=MA (Mg (·.push ME)) hS2 rfl;have hT2:=MA (Mg (·.pop)) hT1 rfl;have oth:∀b o,b≠s.heap.objs.size->h2'.get? b=some o->((h2'.update s.heap.objs.size (Mg (·.push ME))).update s.heap.objs.size (Mg (·.pop))).get? b=some o:=
  λb o hb e=>(Nj _ _ (Nl hb)).trans ((Nj _ _ (Nl hb)).trans e)
 refine LL (NF hS2 rfl ?_);refine NF hT1 rfl ?_;have S3:=S2.keep oth ⟨_,hT2⟩ n7;have esz3:((h2'.update s.heap.objs.size (Mg (·.push ME))).update s.heap.objs.size (Mg (·.pop))).objs.size=s.heap.objs.size+1:=by rw[N3,N3,esz]
 generalize (h2'.update s.heap.objs.size (Mg (·.push ME))).update s.heap.objs.size (Mg (·.pop))=h3 at *;refine LR ⟨N0 Nc _,?_⟩;refine Bx (A:=A.in1) (n0:=s.heap.objs.size+1) hh D n7 (λj=>?_) ex ey hn .none n 0 {s with heap:=h3} #[] _ rfl (Hq _) S3 hT2 esz3 rfl (λj x y hj=>absurd hj (HI _)) λh' c' k1 k2 k3=>⟨rfl,?_⟩
 ·have ge:∀x:Nat,x<=s.heap.objs.size->s.heap.objs.size+1+j≠x:=λx h=>by omega
  exact⟨ge _ (e_ _),ge _ (IK z1),ge _ (IK z3),ge _ (IK z4),ge _ (IK z5)⟩
 exact q h' c' (λb o m2 m3 m4 m5 e=>k1 b o (k_ (LU e)) m2 m3 m4 m5 (oth b o (k_ (LU e)) (kp b o (k_ (LU e)) e))) k2 k3
end
end ZG
namespace L2
open PySem PySem.Spec PyProof.Rows
variable {H:Hp}
theorem Un.more {fs ex:List LO}{H':Hp}{h h':LZ}(k:∀b u,h.get? b=some u->h'.get? b=some u)(e:bg H H')(low:∀b,b<h.objs.size->H' b=H b):Un fs ex H H' h h' where
 keep:=λb u q _ _ _=>k b u q
 slot:=λb u q _ _ _=>⟨u.slots,k b u q⟩
 free:=λb u q n _=>by rw[low b (LU q)];exact n
 there:=λb u q _=>⟨u,k b u q⟩
 tups:=λb xs q=>e _ _ q
 frzs:=λb u xs q=>e _ _ q
 tbls:=λb ps q=>⟨#[],by rw[e _ _ q];simp⟩
theorem HOk.more {P:LV}{w:L0}{H':Hp}{h h':LZ}(x:HOk P w H h)(k:∀b u,h.get? b=some u->h'.get? b=some u)(e:bg H H')(new:∀b o,H b=none->H' b=some o->bZ P w H' h' b o):HOk P w H' h':=λb o q=>by
 cases hb:H b with
 |none=>exact new b o hb q
 |some u=>
  rw[e _ _ hb]at q;cases q;exact(x b o hb).oU (λc v _ q=>k c v q) (λc q=>e _ _ q) λc xs q=>e _ _ q
noncomputable def lzH(H:Hp)(S n0:LO)(xs ys:List V):Hp:=λb=>if b=S then some (.lst ((IW n0 xs.length).map V.ref))else
 if n0<=b then(match xs[b-n0]?,ys[b-n0]? with
  |some x,some y=>some (.tup [x,y])
  | _,_=>H b)else H b
variable {us:List LM}{xs:List V}
section
variable{X:Cx}
theorem qu:∀(ns:List Nat),Vals (ns.map V.ref) (ns.map L5)
 | []=>.nil
 | _::r=>.cons rfl (qu r)
theorem oN{ad:List (LO×Obj)}{σ:St}{s:LP}{b1 b2:Bool}{l1 l2:LO}{ys:List V}{Q:VK}(I:Inv X ad σ H s)(hc:X.calm=true)(q1:SqG b1 X.K H l1 xs)(q2:SqG b2 X.K H l2 ys)(el:xs.length=ys.length)
  (q:∀(S n0:LO) (H':Hp),H S=none->(∀j,n0+j≠S)->bg H H'->H' S=some (.lst ((IW n0 xs.length).map V.ref))->(∀j x y,xs[j]?=some x->ys[j]?=some y->H' (n0+j)=some (.tup [x,y]))->Q (.ref S) H') :
  LS (LW X.prog X.w) X.A (call (.type "zip") [.ref l1,.ref l2]) (λv s1=>LS (LW X.prog X.w) X.A (call (.type "list") [v]) (EP X ad σ Q) X.xe s1) X.xe s:=by
 obtain⟨bi,rv,p1,z1⟩:=I.sq q1;obtain⟨jts,sv,p2,z2⟩:=I.sq q2;have lv:=rv.length;have lw:=sv.length;refine ZG.zJ p1 p2 λg gz gi go g1 g2 gs gk=>?_;have lt1:l1<s.heap.objs.size:=by
  cases b1 with
  |true=>obtain⟨o,e,_⟩:=(show s.heap.IsTuple l1 _ from p1);exact LU e
  |false=>obtain⟨o,e,_⟩:=(show s.heap.IsList l1 _ from p1);exact LU e
 have lt2:l2<s.heap.objs.size:=by
  cases b2 with
  |true=>obtain⟨o,e,_⟩:=(show s.heap.IsTuple l2 _ from p2);exact LU e
  |false=>obtain⟨o,e,_⟩:=(show s.heap.IsList l2 _ from p2);exact LU e
 refine ZG.p8 (s:={s with heap:=g}) (n:=xs.length) (I.ok.hd hc) (z:=s.heap.objs.size+4) (TI:=s.heap.objs.size+2) (TO:=s.heap.objs.size+3) (i1:=s.heap.objs.size) (i2:=s.heap.objs.size+1) (l1:=l1) (l2:=l2) ?_ ⟨.inl gz,gi,⟨_,_,go⟩,g1,g2,p1.at λo e=>gk _ o e,p2.at λo e=>gk _ o e⟩ (by simpa using lv.symm) (by rw[el];simpa using lw.symm) z1 λh' c' k1 k2 k3=>?_
 ·constructor <;>(show(_:Nat)≠_) <;>(have a1:@R0 Nat instLTNat l1 s.heap.objs.size:=lt1;have a2:@R0 Nat instLTNat l2 s.heap.objs.size:=lt2;omega)
 rw[show(g.objs.size:Nat)=s.heap.objs.size+5 from gs]at k2 k3 ⊢;have kp:∀b u,s.heap.get? b=some u->h'.get? b=some u:=λb u e=>by have hb:@R0 Nat instLTNat b s.heap.objs.size:=LU e;refine k1 b u ?_ ?_ ?_ ?_ (gk b u e) <;>(show(_:Nat)≠_) <;> omega
 have hi:∀b:Nat,s.heap.objs.size<=b->H b=none:=λb hb=>I.hok.fresh hb;have hS:lzH H (s.heap.objs.size+5) (s.heap.objs.size+5+1) xs ys (s.heap.objs.size+5)=some (.lst ((IW (s.heap.objs.size+5+1) xs.length).map V.ref)):=by unfold lzH;rw[if_pos rfl]
 have hT:∀j x y,xs[j]?=some x->ys[j]?=some y->lzH H (s.heap.objs.size+5) (s.heap.objs.size+5+1) xs ys (s.heap.objs.size+5+1+j)=some (.tup [x,y]):=λj x y hx hy=>by unfold lzH;rw[if_neg (by show ¬(_:Nat)=_;omega),if_pos (JA _ _),Ki,hx,hy]
 have low:∀b:Nat,b<s.heap.objs.size->lzH H (s.heap.objs.size+5) (s.heap.objs.size+5+1) xs ys b=H b:=λb hb=>by unfold lzH;rw[if_neg (by show ¬(_:Nat)=_;omega),if_neg (by show ¬(_:Nat)<=_;omega)]
 have sm:bg H (lzH H (s.heap.objs.size+5) (s.heap.objs.size+5+1) xs ys):=λb o e=>by rw[low b (by have:=I.hok.lt e;exact this)];exact e
 refine⟨.ref (s.heap.objs.size+5),_,I.un (t':=s.toks) (h':=h') (Un.more kp sm low) (HOk.more I.hok kp sm λb o hn e=>?_),rfl,q _ _ _ (hi _ (JA _ _)) (λj=>by show ¬(_:Nat)=_;omega) sm hS hT⟩;have new:=e;unfold lzH at e;by_cases h1:b=s.heap.objs.size+5
 ·rw[if_pos h1]at e;cases e;subst h1;exact⟨by rw[a_,KW];exact z1,_,c',qu _,k2⟩
 rw[if_neg h1]at e;by_cases h2:s.heap.objs.size+5+1<=b
 ·rw[if_pos h2]at e;obtain⟨j,rfl⟩:∃j,b=s.heap.objs.size+5+1+j:=⟨b-(s.heap.objs.size+5+1),(JN h2).symm⟩;rw[Ki]at e;cases hx:xs[j]? with
  |none=>rw[hx]at e;rw[show H _=none from hn]at e;cases e
  |some x=>
   cases hy:ys[j]? with
   |none=>rw[hx,hy]at e;rw[show H _=none from hn]at e;cases e
   |some y=>
    rw[hx,hy]at e;cases e;have hj:j<xs.length:=(c_.mp hx).1;obtain⟨u,hu,ru⟩:=Vals.get rv hx;obtain⟨v,hv,rw2⟩:=Vals.get sv hy;have pr:=k3 j u v hj (by simpa using hu) (by simpa using hv);exact⟨by show 2<=sizeLine;decide,[u,v],.cons ru (.cons rw2 .nil),⟨_,pr,rfl,0,rfl⟩⟩
 rw[if_neg h2]at e;rw[hn]at e;cases e
theorem x4(h:Vals xs us):∀n,Vals (xs.take n) (us.take n):=by
 induction h with
 |nil=>intro n;rw[KP,KP];exact .nil
 |cons r _ ih=>
  intro n;cases n with
  |zero=>exact .nil
  |succ n=>exact .cons r (ih n)
theorem x5(h:Vals xs us):∀n,Vals (xs.drop n) (us.drop n):=by
 induction h with
 |nil=>intro n;rw[Lu,Lu];exact .nil
 |cons r t ih=>
  intro n;cases n with
  |zero=>exact .cons r t
  |succ n=>exact ih n
theorem yX{a:List V}{b:List LM}{c:List V}{d:List LM}(p:Vals a b)(q:Vals c d):Vals (a++c) (b++d):=by
 induction p with
 |nil=>exact q
 |cons r _ ih=>exact .cons r ih
theorem uP:MtM X "list.insert" (λx vs H Q=>∃l xs i y,x=.ref l/\vs=[.int i,y]/\H l=some (.lst xs)/\0<=i/\i<=(xs.length:Int)/\xs.length<2 ^ 20/\∀H',Put H l (.lst (xs.take i.toNat++y::xs.drop i.toNat)) H'->Q .non H'):=by
 intro ad s σ H x vs v us Q I rx rv h;obtain⟨l,xs,i,y,rfl,rfl,hH,h0,h1,hz,q⟩:=h;cases rx;cases rv with
 |cons r1 rr=>
  cases rr with
  |cons r2 rr=>
   cases rr;obtain⟨t,rfl⟩:=r1;rename_i uy;obtain⟨z,bi,n,r,hl,e⟩:=I.A4 hH;have hlen:=r.length;refine Pb F.slot_list_insert ⟨_,e,rfl⟩ F.entry_list_insert (F.args_list_insert_3 _ _ _) (PD l bi.toArray n i t uy ?_ (by rw[j_];lia)) ⟨e,?_⟩
   ·unfold QX;simp;lia
   refine⟨.non,_,I.Af (its':=bi.take i.toNat++uy::bi.drop i.toNat) hH e ?_ (yX (x4 r _) (.cons r2 (x5 r _))) ?_,rfl,q _ Put.up⟩
   ·have ek:(if i<0 then(i+(bi.toArray.size:Int)).toNat else min i.toNat bi.toArray.size)=i.toNat:=by rw[if_neg (by lia),j_];lia
    show((bi.toArray.extract 0 (if i<0 then(i+(bi.toArray.size:Int)).toNat else min i.toNat bi.toArray.size)).push uy++bi.toArray.extract (if i<0 then(i+(bi.toArray.size:Int)).toNat else min i.toNat bi.toArray.size))=_;rw[ek];apply Array.ext';simp[List.extract_eq_drop_take,Jt]
   rw[b_,f_,q_,o_];show _<=2 ^ 24;lia
end
end L2
namespace PL
open PySem L2
inductive T where
 |any|hole (w:V)|bare|kp (G:Hp)
 |non|bl (b:Bool)|int (i:Int)|str (x:Str)|ty (n:String)
 |tup (ts:List T)|cst (ts:List T)
 |lst (o:Bool) (ts:List T)
 |dK (o:Bool) (ap:List (Key×T))
 |dT (o:Bool) (ap:List (List Key×T))
mutual
noncomputable def er:T->T
 | .tup ts=>.tup (erL ts)
 | .cst ts=>.cst (erL ts)
 | .lst _ ts=>.lst false (erL ts)
 | .dK _ ap=>.dK false (erK ap)
 | .dT _ ap=>.dT false (erT ap)
 | .bare=>.any
 |t=>t
noncomputable def erL:List T->List T
 | []=>[]
 |t::r=>er t::erL r
noncomputable def erK:List (Key×T)->List (Key×T)
 | []=>[]
 | (k,t)::r=>(k,er t)::erK r
noncomputable def erT:List (List Key×T)->List (List Key×T)
 | []=>[]
 | (k,t)::r=>(k,er t)::erT r
end
mutual
noncomputable def aX:T->Bool
 | .tup ts=>aY ts
 | .cst ts=>aY ts
 | .lst o ts=>!o&&aY ts
 | .dK o ap=>!o&&rh ap
 | .dT o ap=>!o&&qG ap
 | .bare=>false
 | _=>true
noncomputable def aY:List T->Bool
 | []=>true
 |t::r=>aX t&&aY r
noncomputable def rh:List (Key×T)->Bool
 | []=>true
 | (_,t)::r=>aX t&&rh r
noncomputable def qG:List (List Key×T)->Bool
 | []=>true
 | (_,t)::r=>aX t&&qG r
end
mutual
noncomputable def cq:T->Bool
 | .tup ts=>bY ts
 | .cst ts=>bY ts
 | .lst o ts=>o&&bY ts
 | .dK o ap=>o&&nE ap
 | .dT o ap=>o&&qc ap
 | .kp _=>false
 | _=>true
noncomputable def bY:List T->Bool
 | []=>true
 |t::r=>cq t&&bY r
noncomputable def nE:List (Key×T)->Bool
 | []=>true
 | (_,t)::r=>cq t&&nE r
noncomputable def qc:List (List Key×T)->Bool
 | []=>true
 | (_,t)::r=>cq t&&qc r
end
theorem bT{α:Type}(g:α->T):∀l:List α,erL (l.map g)=l.map λx=>er (g x)
 | []=>rfl
 |x::r=>by rw[h_,erL,bT g r,h_]
theorem jR:∀l:List T,erL l=l.map er
 | []=>rfl
 |x::r=>by rw[erL,jR r,h_]
theorem gn(l:List T):(erL l).length=l.length:=by rw[jR,a_]
theorem df(l m:List T):erL (l++m)=erL l++erL m:=by rw[jR,jR,jR,p_]
theorem gD:∀l:List T,aY l=l.all aX
 | []=>rfl
 |x::r=>by rw[aY,gD r,J1]
theorem hC:∀l:List T,bY l=l.all cq
 | []=>rfl
 |x::r=>by rw[bY,hC r,J1]
mutual
theorem aT:∀t:T,aX (er t)=true
 | .tup ts=>by rw[er,aX,jj ts]
 | .cst ts=>by rw[er,aX,jj ts]
 | .lst _ ts=>by rw[er,aX,jj ts];rfl
 | .dK _ ts=>by rw[er,aX,pD ts];rfl
 | .dT _ ts=>by rw[er,aX,pL ts];rfl
 | .bare=>rfl
 | .any=>rfl
 | .hole _=>rfl
 | .kp _=>rfl
 | .non=>rfl
 | .bl _=>rfl
 | .int _=>rfl
 | .str _=>rfl
 | .ty _=>rfl
theorem jj:∀t:List T,aY (erL t)=true
 | []=>rfl
 |t::r=>by rw[erL,aY,aT t,jj r];rfl
theorem pD:∀t:List (Key×T),rh (erK t)=true
 | []=>rfl
 | (_,t)::r=>by rw[erK,rh,aT t,pD r];rfl
theorem pL:∀t:List (List Key×T),qG (erT t)=true
 | []=>rfl
 | (_,t)::r=>by rw[erT,qG,aT t,pL r];rfl
end
def Gr(G H:Hp):Prop:=∀b u,Rd G b u->Rd H b u
variable {H:Hp}
theorem Gr.ja :Gr H H:=λ_ _ h=>h
variable {G:Hp}
theorem Gr.trans {J:Hp}(a:Gr G H)(b:Gr H J):Gr G J:=λc u h=>b c u (a c u h)
theorem Gr.of (h:bg G H):Gr G H:=λb u r=>by
 rcases r with r|⟨o,r⟩
 ·exact .inl (h _ _ r)
 exact .inr ⟨o,h _ _ r⟩
theorem Rd.some {H:Hp}{a:LO}{u:HO}(h:Rd H a u):∃w,H a=some w:=by
 rcases h with h|⟨o,h⟩
 ·exact⟨_,h⟩
 exact⟨_,h⟩
theorem Gr.none {G H:Hp}(h:Gr G H){a:LO}(e:H a=none):G a=none:=by
 cases q:G a with
 |none=>rfl
 |some u=>
  obtain⟨w,z⟩:=Rd.some (h a u (.inl q));rw[e]at z;cases z
noncomputable def TK(H H':Hp):Prop:=∀b xs,H b=some (.tup xs)->H' b=some (.tup xs)
theorem bg.tk (h:bg G H):TK G H:=λb xs r=>h _ _ r
variable {H':Hp}{a:LO}
theorem Put.tk {o:HO}(p:Put H a o H')(ht:∀xs,H a≠some (.tup xs)):TK H H':=λb xs r=>by have hb:b≠a:=λz=>ht xs (z▸r);rw[p.else_ b hb];exact r
section
variable(K:LN)(Hz H:Hp)
mutual
inductive RepT:T->V->List LO->Prop
 |any {v:V}:RepT .any v []
 |hole {w:V}:RepT (.hole w) w []
 |bare {a:LO}{u:HO} (h:H a=some u) (ht:∀xs,H a≠some (.tup xs)):RepT .bare (.ref a) [a]
 |kp {G:Hp}{v:V} (h:Gr G Hz):RepT (.kp G) v []
 |non:RepT .non .non []
 |bl {b:Bool}:RepT (.bl b) (.bl b) []
 |int {i:Int}:RepT (.int i) (.int i) []
 |str {x:Str}:RepT (.str x) (.str x) []
 |ty {n:String}:RepT (.ty n) (.ty n) []
 |tup {a:LO}{ts:List T}{vs:List V}{L:List LO} (h:H a=some (.tup vs)) (c:RepTs ts vs L):RepT (.tup ts) (.ref a) L
 |cst {a:LO}{ts:List T}{vs:List V} (h:SqT K (λ_=>none) a vs) (c:RepTs ts vs []):RepT (.cst ts) (.ref a) []
 |lstO {a:LO}{ts:List T}{vs:List V}{L:List LO} (h:H a=some (.lst vs)) (c:RepTs ts vs L):RepT (.lst true ts) (.ref a) (a::L)
 |lstZ {a:LO}{ts:List T}{vs:List V} (h:Rd Hz a (.lst vs)) (c:RepTs ts vs []):RepT (.lst false ts) (.ref a) []
 |dKO {a:LO}{ts:List (Key×T)}{vs:List (Key×V)}{L:List LO} (h:H a=some (.dK vs)) (c:RepKs ts vs L):RepT (.dK true ts) (.ref a) (a::L)
 |dKZ {a:LO}{ts:List (Key×T)}{vs:List (Key×V)} (h:Rd Hz a (.dK vs)) (c:RepKs ts vs []):RepT (.dK false ts) (.ref a) []
 |dTO {a:LO}{ts:List (List Key×T)}{vs:List (List Key×V)}{L:List LO} (h:H a=some (.dT vs)) (c:RepXs ts vs L):RepT (.dT true ts) (.ref a) (a::L)
 |dTZ {a:LO}{ts:List (List Key×T)}{vs:List (List Key×V)} (h:Rd Hz a (.dT vs)) (c:RepXs ts vs []):RepT (.dT false ts) (.ref a) []
inductive RepTs:List T->List V->List LO->Prop
 |nil:RepTs [] [] []
 |cons {t:T}{v:V}{L M N:List LO}{ts:List T}{vs:List V} (e:N=L++M) (h:RepT t v L) (c:RepTs ts vs M):RepTs (t::ts) (v::vs) N
inductive RepKs:List (Key×T)->List (Key×V)->List LO->Prop
 |nil:RepKs [] [] []
 |cons {k:Key}{t:T}{v:V}{L M N:List LO}{ts:List (Key×T)}{vs:List (Key×V)} (e:N=L++M) (h:RepT t v L) (c:RepKs ts vs M):RepKs ((k,t)::ts) ((k,v)::vs) N
inductive RepXs:List (List Key×T)->List (List Key×V)->List LO->Prop
 |nil:RepXs [] [] []
 |cons {k:List Key}{t:T}{v:V}{L M N:List LO}{ts:List (List Key×T)}{vs:List (List Key×V)} (e:N=L++M) (h:RepT t v L) (c:RepXs ts vs M):RepXs ((k,t)::ts) ((k,v)::vs) N
end
end
variable {Hz Hz' Z:Hp}{L M:List LO}{p:LO}{t:T}{ts:List T}{u:HO}{v:V}{vs xs:List V}{x:Option V}{α:Type}
section
variable{K:LN}
theorem jh{P:T->V->List LO->Prop}{Ps:List T->List V->List LO->Prop}{Pk:List (Key×T)->List (Key×V)->List LO->Prop}{Px:List (List Key×T)->List (List Key×V)->List LO->Prop}
  (c1:∀{v},P .any v []) (c2:∀{w},P (.hole w) w []) (c3:∀{a u},H a=some u->(∀xs,H a≠some (.tup xs))->P .bare (.ref a) [a]) (c4:∀{G v},Gr G Hz->P (.kp G) v [])
  (c5:P .non .non []) (c6:∀{b},P (.bl b) (.bl b) []) (c7:∀{i},P (.int i) (.int i) []) (c8:∀{x},P (.str x) (.str x) []) (c9:∀{n},P (.ty n) (.ty n) [])
  (c10:∀{a ts vs L},H a=some (.tup vs)->Ps ts vs L->P (.tup ts) (.ref a) L) (c11:∀{a ts vs},SqT K (λ_=>none) a vs->Ps ts vs []->P (.cst ts) (.ref a) [])
  (c12:∀{a ts vs L},H a=some (.lst vs)->Ps ts vs L->P (.lst true ts) (.ref a) (a::L)) (c13:∀{a ts vs},Rd Hz a (.lst vs)->Ps ts vs []->P (.lst false ts) (.ref a) [])
  (c14:∀{a ts vs L},H a=some (.dK vs)->Pk ts vs L->P (.dK true ts) (.ref a) (a::L)) (c15:∀{a ts vs},Rd Hz a (.dK vs)->Pk ts vs []->P (.dK false ts) (.ref a) [])
  (c16:∀{a ts vs L},H a=some (.dT vs)->Px ts vs L->P (.dT true ts) (.ref a) (a::L)) (c17:∀{a ts vs},Rd Hz a (.dT vs)->Px ts vs []->P (.dT false ts) (.ref a) [])
  (s0:Ps [] [] []) (s1:∀{t v L M ts vs},P t v L->Ps ts vs M->Ps (t::ts) (v::vs) (L++M))
  (k0:Pk [] [] []) (k1:∀{k t v L M ts vs},P t v L->Pk ts vs M->Pk ((k,t)::ts) ((k,v)::vs) (L++M))
  (x0:Px [] [] []) (x1:∀{k t v L M ts vs},P t v L->Px ts vs M->Px ((k,t)::ts) ((k,v)::vs) (L++M)) :
  (∀{t v L},RepT K Hz H t v L->P t v L)/\(∀{t v L},RepTs K Hz H t v L->Ps t v L)/\(∀{t v L},RepKs K Hz H t v L->Pk t v L)/\(∀{t v L},RepXs K Hz H t v L->Px t v L):=by
 have m1:∀{t v L},RepT K Hz H t v L->P t v L:=λh=>RepT.rec (motive_1:=λt v L _=>P t v L) (motive_2:=λt v L _=>Ps t v L) (motive_3:=λt v L _=>Pk t v L) (motive_4:=λt v L _=>Px t v L)
  c1 c2 c3 c4 c5 c6 c7 c8 c9 (λh _ i=>c10 h i) (λh _ i=>c11 h i) (λh _ i=>c12 h i) (λh _ i=>c13 h i) (λh _ i=>c14 h i) (λh _ i=>c15 h i) (λh _ i=>c16 h i) (λh _ i=>c17 h i)
  s0 (λe _ _ i j=>e▸s1 i j) k0 (λe _ _ i j=>e▸k1 i j) x0 (λe _ _ i j=>e▸x1 i j) h
 refine⟨m1,λh=>?_,λh=>?_,λh=>?_⟩
 ·exact RepTs.rec (motive_1:=λt v L _=>True) (motive_2:=λt v L _=>Ps t v L) (motive_3:=λt v L _=>True) (motive_4:=λt v L _=>True)
   trivial trivial (λ_ _=>trivial) (λ_=>trivial) trivial trivial trivial trivial trivial (λ_ _ _=>trivial) (λ_ _ _=>trivial) (λ_ _ _=>trivial) (λ_ _ _=>trivial) (λ_ _ _=>trivial) (λ_ _ _=>trivial) (λ_ _ _=>trivial) (λ_ _ _=>trivial)
   s0 (λe h _ _ j=>e▸s1 (m1 h) j) trivial (λ_ _ _ _ _=>trivial) trivial (λ_ _ _ _ _=>trivial) h
 ·exact RepKs.rec (motive_1:=λt v L _=>True) (motive_2:=λt v L _=>True) (motive_3:=λt v L _=>Pk t v L) (motive_4:=λt v L _=>True)
   trivial trivial (λ_ _=>trivial) (λ_=>trivial) trivial trivial trivial trivial trivial (λ_ _ _=>trivial) (λ_ _ _=>trivial) (λ_ _ _=>trivial) (λ_ _ _=>trivial) (λ_ _ _=>trivial) (λ_ _ _=>trivial) (λ_ _ _=>trivial) (λ_ _ _=>trivial)
   trivial (λ_ _ _ _ _=>trivial) k0 (λe h _ _ j=>e▸k1 (m1 h) j) trivial (λ_ _ _ _ _=>trivial) h
 exact RepXs.rec (motive_1:=λt v L _=>True) (motive_2:=λt v L _=>True) (motive_3:=λt v L _=>True) (motive_4:=λt v L _=>Px t v L)
  trivial trivial (λ_ _=>trivial) (λ_=>trivial) trivial trivial trivial trivial trivial (λ_ _ _=>trivial) (λ_ _ _=>trivial) (λ_ _ _=>trivial) (λ_ _ _=>trivial) (λ_ _ _=>trivial) (λ_ _ _=>trivial) (λ_ _ _=>trivial) (λ_ _ _=>trivial)
  trivial (λ_ _ _ _ _=>trivial) trivial (λ_ _ _ _ _=>trivial) x0 (λe h _ _ j=>e▸x1 (m1 h) j) h
noncomputable def Kps(H H':Hp)(L:List LO):Prop:=∀a∈L,∀u,H a=some u->H' a=some u/\((∀xs,H a≠some (.tup xs))->∀xs,H' a≠some (.tup xs))
theorem Kps.hd (h:Kps H H' (a::L))(e:H a=some u):H' a=some u/\((∀xs,H a≠some (.tup xs))->∀xs,H' a≠some (.tup xs)):=h _ A_ _ e
theorem Kps.tl (h:Kps H H' (a::L)):Kps H H' L:=λa m=>h a (l_ _ m)
theorem Kps.l (h:Kps H H' (L++M)):Kps H H' L:=λa m=>h a (Hf _ m)
theorem Kps.r (h:Kps H H' (L++M)):Kps H H' M:=λa m=>h a (n_ _ m)
theorem yU(ht:TK H H')(hz:Gr Hz Hz'):(∀{t v L},RepT K Hz H t v L->Kps H H' L->RepT K Hz' H' t v L)/\(∀{t v L},RepTs K Hz H t v L->Kps H H' L->RepTs K Hz' H' t v L)/\(∀{t v L},RepKs K Hz H t v L->Kps H H' L->RepKs K Hz' H' t v L)/\(∀{t v L},RepXs K Hz H t v L->Kps H H' L->RepXs K Hz' H' t v L):=
 jh (P:=λt v L=>Kps H H' L->RepT K Hz' H' t v L) (Ps:=λt v L=>Kps H H' L->RepTs K Hz' H' t v L) (Pk:=λt v L=>Kps H H' L->RepKs K Hz' H' t v L) (Px:=λt v L=>Kps H H' L->RepXs K Hz' H' t v L)
  (λ_=>.any) (λ_=>.hole) (λh t o=>.bare (o.hd h).1 ((o.hd h).2 t)) (λh _=>.kp (h.trans hz)) (λ_=>.non) (λ_=>.bl) (λ_=>.int) (λ_=>.str) (λ_=>.ty)
  (λh c o=>.tup (ht _ _ h) (c o)) (λh c o=>.cst h (c o)) (λh c o=>.lstO (o.hd h).1 (c o.tl)) (λh c o=>.lstZ (hz _ _ h) (c o)) (λh c o=>.dKO (o.hd h).1 (c o.tl)) (λh c o=>.dKZ (hz _ _ h) (c o)) (λh c o=>.dTO (o.hd h).1 (c o.tl)) (λh c o=>.dTZ (hz _ _ h) (c o))
  (λ_=>.nil) (λi j o=>.cons rfl (i o.l) (j o.r)) (λ_=>.nil) (λi j o=>.cons rfl (i o.l) (j o.r)) (λ_=>.nil) (λi j o=>.cons rfl (i o.l) (j o.r))
theorem RepT.move (ht:TK H H')(hz:Gr Hz Hz')(o:Kps H H' L)(h:RepT K Hz H t v L):RepT K Hz' H' t v L:=(yU ht hz).1 h o
noncomputable def Thr(H:Hp)(L:List LO):Prop:=∀a∈L,(∃u,H a=some u)/\∀xs,H a≠some (.tup xs)
theorem Thr.nil :Thr H []:=λa m=>nomatch m
theorem Thr.cons {H:Hp}{a:LO}{u:HO}{L:List LO}(h:H a=some u)(t:∀xs,H a≠some (.tup xs))(c:Thr H L):Thr H (a::L):=λb m=>by
 rcases m_.mp m with rfl|m
 ·exact⟨⟨_,h⟩,t⟩
 exact c b m
theorem Thr.app (c:Thr H L)(d:Thr H M):Thr H (L++M):=λb m=>(C_.mp m).elim (c b) (d b)
theorem wK:(∀{t v L},RepT K Hz H t v L->Thr H L)/\(∀{t v L},RepTs K Hz H t v L->Thr H L)/\(∀{t v L},RepKs K Hz H t v L->Thr H L)/\(∀{t v L},RepXs K Hz H t v L->Thr H L):=
 jh (P:=λt v L=>Thr H L) (Ps:=λt v L=>Thr H L) (Pk:=λt v L=>Thr H L) (Px:=λt v L=>Thr H L)
  .nil .nil (λh t=>.cons h t .nil) (λ_=>.nil) .nil .nil .nil .nil .nil (λ_ c=>c) (λ_ c=>c) (λh c=>.cons h (λxs r=>by rw[h]at r;cases r) c) (λ_ c=>c) (λh c=>.cons h (λxs r=>by rw[h]at r;cases r) c) (λ_ c=>c) (λh c=>.cons h (λxs r=>by rw[h]at r;cases r) c) (λ_ c=>c)
  .nil (λc d=>c.app d) .nil (λc d=>c.app d) .nil (λc d=>c.app d)
theorem RepT.there (h:RepT K Hz H t v L):Thr H L:=wK.1 h
noncomputable def Fzn(H Z:Hp)(L:List LO):Prop:=∀a∈L,Z a=H a
theorem Fzn.hd (h:Fzn H Z (a::L))(e:H a=some u):Rd Z a u:=.inl (by rw[h _ A_];exact e)
theorem Fzn.tl (h:Fzn H Z (a::L)):Fzn H Z L:=λa m=>h a (l_ _ m)
theorem Fzn.l (h:Fzn H Z (L++M)):Fzn H Z L:=λa m=>h a (Hf _ m)
theorem Fzn.r (h:Fzn H Z (L++M)):Fzn H Z M:=λa m=>h a (n_ _ m)
theorem AE(hz:Gr Hz Z):(∀{t v L},RepT K Hz H t v L->Fzn H Z L->RepT K Z H (er t) v [])/\(∀{t v L},RepTs K Hz H t v L->Fzn H Z L->RepTs K Z H (erL t) v [])/\(∀{t v L},RepKs K Hz H t v L->Fzn H Z L->RepKs K Z H (erK t) v [])/\(∀{t v L},RepXs K Hz H t v L->Fzn H Z L->RepXs K Z H (erT t) v []):=
 jh (P:=λt v L=>Fzn H Z L->RepT K Z H (er t) v []) (Ps:=λt v L=>Fzn H Z L->RepTs K Z H (erL t) v []) (Pk:=λt v L=>Fzn H Z L->RepKs K Z H (erK t) v []) (Px:=λt v L=>Fzn H Z L->RepXs K Z H (erT t) v [])
  (λ_=>.any) (λ_=>.hole) (λ_ _ _=>.any) (λh _=>.kp (h.trans hz)) (λ_=>.non) (λ_=>.bl) (λ_=>.int) (λ_=>.str) (λ_=>.ty)
  (λh c o=>.tup h (c o)) (λh c o=>.cst h (c o)) (λh c o=>.lstZ (o.hd h) (c o.tl)) (λh c o=>.lstZ (hz _ _ h) (c o)) (λh c o=>.dKZ (o.hd h) (c o.tl)) (λh c o=>.dKZ (hz _ _ h) (c o)) (λh c o=>.dTZ (o.hd h) (c o.tl)) (λh c o=>.dTZ (hz _ _ h) (c o))
  (λ_=>.nil) (λi j o=>.cons rfl (i o.l) (j o.r)) (λ_=>.nil) (λi j o=>.cons rfl (i o.l) (j o.r)) (λ_=>.nil) (λi j o=>.cons rfl (i o.l) (j o.r))
theorem RepT.frz (hz:Gr Hz Z)(o:Fzn H Z L)(h:RepT K Hz H t v L):RepT K Z H (er t) v []:=(AE hz).1 h o
theorem AH:(∀{t v L},RepT K Hz H t v L->aX t=true->L=[])/\(∀{t v L},RepTs K Hz H t v L->aY t=true->L=[])/\(∀{t v L},RepKs K Hz H t v L->True)/\(∀{t v L},RepXs K Hz H t v L->True):=
 jh (P:=λt v L=>aX t=true->L=[]) (Ps:=λt v L=>aY t=true->L=[]) (Pk:=λt v L=>True) (Px:=λt v L=>True)
  (λ_=>rfl) (λ_=>rfl) (λ_ _ n=>nomatch n) (λ_ _=>rfl) (λ_=>rfl) (λ_=>rfl) (λ_=>rfl) (λ_=>rfl) (λ_=>rfl)
  (λ_ c n=>c (by rw[aX]at n;exact n)) (λ_ _ _=>rfl) (λ_ _ n=>nomatch n) (λ_ _ _=>rfl) (λ_ _ n=>nomatch n) (λ_ _ _=>rfl) (λ_ _ n=>nomatch n) (λ_ _ _=>rfl)
  (λ_=>rfl) (λi j n=>by
   rw[aY,E_]at n;rw[i n.1,j n.2]
   rfl) trivial (λ_ _=>trivial) trivial (λ_ _=>trivial)
theorem RepT.nil_of (n:aX t=true)(h:RepT K Hz H t v L):L=[]:=AH.1 h n
theorem xO(ht:TK H H'):(∀{t v L},RepT K Hz H t v L->cq t=true->Kps H H' L->RepT K Z H' t v L)/\(∀{t v L},RepTs K Hz H t v L->bY t=true->Kps H H' L->RepTs K Z H' t v L)/\(∀{t v L},RepKs K Hz H t v L->nE t=true->Kps H H' L->RepKs K Z H' t v L)/\(∀{t v L},RepXs K Hz H t v L->qc t=true->Kps H H' L->RepXs K Z H' t v L):=
 jh (P:=λt v L=>cq t=true->Kps H H' L->RepT K Z H' t v L) (Ps:=λt v L=>bY t=true->Kps H H' L->RepTs K Z H' t v L) (Pk:=λt v L=>nE t=true->Kps H H' L->RepKs K Z H' t v L) (Px:=λt v L=>qc t=true->Kps H H' L->RepXs K Z H' t v L)
  (λ_ _=>.any) (λ_ _=>.hole) (λh t _ o=>.bare (o.hd h).1 ((o.hd h).2 t)) (λ_ n=>nomatch n) (λ_ _=>.non) (λ_ _=>.bl) (λ_ _=>.int) (λ_ _=>.str) (λ_ _=>.ty)
  (λh c n o=>.tup (ht _ _ h) (c (by rw[cq]at n;exact n) o)) (λh c n o=>.cst h (c (by rw[cq]at n;exact n) o)) (λh c n o=>.lstO (o.hd h).1 (c (by rw[cq,Hb]at n;exact n) o.tl)) (λ_ _ n=>nomatch n) (λh c n o=>.dKO (o.hd h).1 (c (by rw[cq,Hb]at n;exact n) o.tl)) (λ_ _ n=>nomatch n) (λh c n o=>.dTO (o.hd h).1 (c (by rw[cq,Hb]at n;exact n) o.tl)) (λ_ _ n=>nomatch n)
  (λ_ _=>.nil) (λi j n o=>.cons rfl (i (by rw[bY,E_]at n;exact n.1) o.l) (j (by rw[bY,E_]at n;exact n.2) o.r)) (λ_ _=>.nil) (λi j n o=>.cons rfl (i (by rw[nE,E_]at n;exact n.1) o.l) (j (by rw[nE,E_]at n;exact n.2) o.r)) (λ_ _=>.nil) (λi j n o=>.cons rfl (i (by rw[qc,E_]at n;exact n.1) o.l) (j (by rw[qc,E_]at n;exact n.2) o.r))
theorem RepT.Gm (ht:TK H H')(n:cq t=true)(o:Kps H H' L)(h:RepT K Hz H t v L):RepT K Z H' t v L:=(xO ht).1 h n o
abbrev Ev:=List T
abbrev Fm:=List (T×Option V)
noncomputable def oX(K:LN)(Hz H:Hp)(t:T)(x:Option V)(L:List LO):Prop:=(t=.any/\L=[])\/∃v,x=some v/\RepT K Hz H t v L
inductive RepL (K:LN) (Hz H:Hp):Fm->List LO->Prop
 |nil:RepL K Hz H [] []
 |cons {t:T}{x:Option V}{L M N:List LO}{r:Fm} (e:N=L++M) (h:oX K Hz H t x L) (c:RepL K Hz H r M):RepL K Hz H ((t,x)::r) N
def Rp(K:LN)(H:Hp)(Γ:Fm):Prop:=∃Hz L,RepL K Hz H Γ L/\L.Nodup/\Gr Hz H/\∀b∈L,Hz b=none
theorem oX.move (ht:TK H H')(hz:Gr Hz Hz')(ho:∀a∈L,∀u,H a=some u->H' a=some u/\((∀xs,H a≠some (.tup xs))->∀xs,H' a≠some (.tup xs)))(h:oX K Hz H t x L):oX K Hz' H' t x L:=by
 rcases h with⟨rfl,rfl⟩|⟨v,rfl,h⟩
 ·exact .inl ⟨rfl,rfl⟩
 exact .inr ⟨v,rfl,h.move ht hz ho⟩
theorem oX.there (h:oX K Hz H t x L):∀a∈L,(∃u,H a=some u)/\∀xs,H a≠some (.tup xs):=by
 rcases h with⟨rfl,rfl⟩|⟨v,rfl,h⟩
 ·intro a m;cases m
 exact h.there
theorem RepL.move (ht:TK H H')(hz:Gr Hz Hz'):∀{Γ:Fm}{L:List LO},(∀a∈L,∀u,H a=some u->H' a=some u/\((∀xs,H a≠some (.tup xs))->∀xs,H' a≠some (.tup xs)))->RepL K Hz H Γ L->RepL K Hz' H' Γ L:=by
 intro Γ L ho x;induction x with
 |nil=>exact .nil
 |cons e h c ih=>exact .cons e (h.move ht hz λa m=>ho a (by rw[e];exact Hf _ m)) (ih λa m=>ho a (by rw[e];exact n_ _ m))
theorem RepL.there :∀{Γ:Fm}{L:List LO},RepL K Hz H Γ L->∀a∈L,(∃u,H a=some u)/\∀xs,H a≠some (.tup xs):=by
 intro Γ L x;induction x with
 |nil=>intro a m;cases m
 |cons e h c ih=>
  intro a m;rw[e]at m;rcases C_.mp m with m|m
  ·exact h.there a m
  exact ih a m
theorem RepL.app :∀{Γ Δ:Fm}{L M:List LO},RepL K Hz H Γ L->RepL K Hz H Δ M->RepL K Hz H (Γ++Δ) (L++M):=by
 intro Γ Δ L M x d;induction x with
 |nil=>exact d
 |cons e h c ih=>exact .cons (by rw[e,g_]) h ih
theorem RepL.split :∀{Γ Δ:Fm}{N:List LO},RepL K Hz H (Γ++Δ) N->∃L M,N=L++M/\RepL K Hz H Γ L/\RepL K Hz H Δ M
 | [],_,N,h=>⟨[],N,rfl,.nil,h⟩
 | (t,x)::r,_,N,.cons e h c=>by obtain⟨L,M,rfl,h1,h2⟩:=c.split;exact⟨_,M,by rw[e,g_],.cons rfl h h1,h2⟩
theorem RepL.perm {Γ Δ:Fm}(p:Γ.Perm Δ):∀{L:List LO},RepL K Hz H Γ L->∃M,L.Perm M/\RepL K Hz H Δ M:=by
 induction p with
 |nil=>intro L h;exact⟨L,.refl _,h⟩
 |cons x q ih=>
  intro L h;cases h with
  |cons e h c=>
   obtain⟨M,p1,h1⟩:=ih c;exact⟨_,by rw[e];exact p1.append_left _,.cons rfl h h1⟩
 |swap x y l=>
  intro L h;cases h with
  |cons e h c=>
   cases c with
   |cons e' h' c'=>
    refine⟨_,?_,.cons rfl h' (.cons rfl h c')⟩;rw[e,e',<-g_,<-g_];exact Hv.append_right _
 |trans p q ih1 ih2=>
  intro L h;obtain⟨M,p1,h1⟩:=ih1 h;obtain⟨N,p2,h2⟩:=ih2 h1;exact⟨N,p1.trans p2,h2⟩
theorem Rp.perm {Γ Δ:Fm}(h:Rp K H Γ)(p:Γ.Perm Δ):Rp K H Δ:=by obtain⟨Hz,L,h,nd,g,d⟩:=h;obtain⟨M,q,h'⟩:=h.perm p;exact⟨Hz,M,h',q.nodup_iff.mp nd,g,λb m=>d b (q.mem_iff.mpr m)⟩
theorem Rp.part {Γ Δ:Fm}(h:Rp K H (Γ++Δ)):Rp K H Δ:=by obtain⟨Hz,L,h,nd,g,d⟩:=h;obtain⟨L1,L2,rfl,_,h2⟩:=h.split;exact⟨Hz,L2,h2,(II.mp nd).2.1,g,λb m=>d b (n_ _ m)⟩
theorem Rp.tail {x:T×Option V}{Γ:Fm}(h:Rp K H (x::Γ)):Rp K H Γ:=Rp.part (Γ:=[x]) h
theorem jr(s:bg H H')(a:LO)(u:HO)(e:H a=some u):H' a=some u/\((∀xs,H a≠some (.tup xs))->∀xs,H' a≠some (.tup xs)):=
 ⟨s _ _ e,λn xs r=>n xs (by rw[s _ _ e]at r;exact e.trans r)⟩
theorem Rp.same {Γ:Fm}(h:Rp K H Γ)(s:bg H H'):Rp K H' Γ:=by obtain⟨Hz,L,h,nd,g,d⟩:=h;exact⟨Hz,L,h.move (bg.tk s) .ja (λa m u e=>jr s a u e),nd,g.trans (.of s),d⟩
theorem tf{o:HO}(s:Put H p o H')(a:LO)(n:a≠p)(u:HO)(e:H a=some u):H' a=some u/\((∀xs,H a≠some (.tup xs))->∀xs,H' a≠some (.tup xs)):=
 ⟨by rw[s.else_ a n];exact e,λm xs r=>m xs (by rw[s.else_ a n]at r;exact r)⟩
theorem RepTs.len :∀{ts:List T}{vs:List V}{L:List LO},RepTs K Hz H ts vs L->ts.length=vs.length:=λ{ts}=>by
 induction ts with
 |nil=>intro vs L h;cases h;rfl
 |cons t ts ih=>
  intro vs L h;cases h with
  |cons _ _ c=>rw[f_,f_,ih c]
abbrev zz(ts:List T)(vs:List V):Fm:=ts.zip (vs.map some)
theorem RepTs.toL :∀{ts:List T}{vs:List V}{L:List LO},RepTs K Hz H ts vs L->RepL K Hz H (zz ts vs) L:=λ{ts}=>by
 induction ts with
 |nil=>intro vs L h;cases h;exact .nil
 |cons t ts ih=>
  intro vs L h;cases h with
  |cons e h c=>exact .cons e (.inr ⟨_,rfl,h⟩) (ih c)
theorem RepL.wM :∀{ts:List T}{vs:List V}{L:List LO},ts.length=vs.length->RepL K Hz H (zz ts vs) L->RepTs K Hz H ts vs L
 | [],[],_,_,.nil=>.nil
 | [],v::vs,_,l,_=>by simp at l
 |t::ts,[],_,l,_=>by simp at l
 |t::ts,v::vs,L,l,h=>by
  have h:RepL K Hz H ((t,some v)::zz ts vs) L:=h;cases h with
  |cons e h c=>
   refine .cons e ?_ (c.wM (by simpa using l));rcases h with⟨rfl,rfl⟩|⟨w,e2,h⟩
   ·exact .any
   cases e2;exact h
theorem RepKs.toL :∀{ts:List (Key×T)}{vs:List (Key×V)}{L:List LO},RepKs K Hz H ts vs L->ts.map (·.1)=vs.map (·.1)/\RepTs K Hz H (ts.map (·.2)) (vs.map (·.2)) L:=λ{ts}=>by
 induction ts with
 |nil=>intro vs L h;cases h;exact⟨rfl,.nil⟩
 |cons t ts ih=>
  intro vs L h;cases h with
  |cons e h c=>exact⟨by rw[h_,h_,(ih c).1],.cons e h (ih c).2⟩
theorem RepKs.ofL :∀{ts:List (Key×T)}{vs:List (Key×V)}{L:List LO},ts.map (·.1)=vs.map (·.1)->RepTs K Hz H (ts.map (·.2)) (vs.map (·.2)) L->RepKs K Hz H ts vs L:=λ{ts}=>by
 induction ts with
 |nil=>
  intro vs L e h;cases vs with
  |nil=>cases h;exact .nil
  |cons v vs=>cases e
 |cons t ts ih=>
  intro vs L e h;cases vs with
  |nil=>cases e
  |cons v vs=>
   obtain⟨k,t⟩:=t;obtain⟨k',v⟩:=v;cases h with
   |cons e2 h c=>
    rw[h_,h_,HU]at e;have e0:k=k':=e.1;subst e0;exact .cons e2 h (ih e.2 c)
theorem RepXs.toL :∀{ts:List (List Key×T)}{vs:List (List Key×V)}{L:List LO},RepXs K Hz H ts vs L->ts.map (·.1)=vs.map (·.1)/\RepTs K Hz H (ts.map (·.2)) (vs.map (·.2)) L:=λ{ts}=>by
 induction ts with
 |nil=>intro vs L h;cases h;exact⟨rfl,.nil⟩
 |cons t ts ih=>
  intro vs L h;cases h with
  |cons e h c=>exact⟨by rw[h_,h_,(ih c).1],.cons e h (ih c).2⟩
theorem RepXs.ofL :∀{ts:List (List Key×T)}{vs:List (List Key×V)}{L:List LO},ts.map (·.1)=vs.map (·.1)->RepTs K Hz H (ts.map (·.2)) (vs.map (·.2)) L->RepXs K Hz H ts vs L:=λ{ts}=>by
 induction ts with
 |nil=>
  intro vs L e h;cases vs with
  |nil=>cases h;exact .nil
  |cons v vs=>cases e
 |cons t ts ih=>
  intro vs L e h;cases vs with
  |nil=>cases e
  |cons v vs=>
   obtain⟨k,t⟩:=t;obtain⟨k',v⟩:=v;cases h with
   |cons e2 h c=>
    rw[h_,h_,HU]at e;have e0:k=k':=e.1;subst e0;exact .cons e2 h (ih e.2 c)
theorem DZ{o:HO}{Γ Δ:Fm}(h:Rp K H (Γ++Δ))(hp:H p=none)(s:bg H H')(hn:H' p=some o)
  (mk:∀Hz L,RepL K Hz H' Γ L->RepT K Hz H' t (.ref p) (p::L)):Rp K H' ((t,some (.ref p))::Δ):=by
 obtain⟨Hz,N,h,nd,g,d⟩:=h;obtain⟨L,M,rfl,h1,h2⟩:=h.split;have mv:∀a∈L++M,∀u,H a=some u->H' a=some u/\((∀xs,H a≠some (.tup xs))->∀xs,H' a≠some (.tup xs)):=λa _ u e=>jr s a u e;have h1':=h1.move (bg.tk s) .ja λa m=>mv a (Hf _ m);have h2':=h2.move (bg.tk s) .ja λa m=>mv a (n_ _ m);refine⟨Hz,(p::L)++M,.cons rfl (.inr ⟨_,rfl,mk Hz L h1'⟩) h2',?_,g.trans (.of s),?_⟩
 ·rw[F_,kw];refine⟨λm=>?_,nd⟩;obtain⟨⟨u,e⟩,_⟩:=h.there p m;rw[hp]at e;cases e
 intro b m;rcases m_.mp m with rfl|m
 ·exact g.none hp
 exact d b m
theorem k7{Δ:Fm}(h:Rp K H (zz ts vs++Δ))(l:ts.length=vs.length)(hp:H p=none)(s:bg H H')(hn:H' p=some (.lst vs)):Rp K H' ((.lst true ts,some (.ref p))::Δ):=
 DZ h hp s hn λ_ _ q=>.lstO hn (q.wM l)
theorem iz{Δ:Fm}(h:Rp K H (zz ts vs++Δ))(l:ts.length=vs.length)(s:bg H H')(hn:H' p=some (.tup vs)):Rp K H' ((.tup ts,some (.ref p))::Δ):=by obtain⟨Hz,N,h,nd,g,d⟩:=h.same s;obtain⟨L,M,rfl,h1,h2⟩:=h.split;exact⟨Hz,L++M,.cons rfl (.inr ⟨_,rfl,.tup hn (h1.wM l)⟩) h2,nd,g,d⟩
theorem ir{Γ:Fm}(h:Rp K H ((.lst true ts,x)::Γ)):∃a vs,x=some (.ref a)/\H a=some (.lst vs)/\ts.length=vs.length/\Rp K H ((.bare,some (.ref a))::(zz ts vs++Γ)):=by
 obtain⟨Hz,N,h,nd,g,d⟩:=h;cases h with
 |cons e h c=>
  rcases h with⟨h,_⟩|⟨v,rfl,h⟩
  ·cases h
  cases h with
  |lstO h1 c1=>
   refine⟨_,_,rfl,h1,c1.len,Hz,N,.cons (L:=[_]) (M:=_++_) (by rw[e];rfl) (.inr ⟨_,rfl,.bare h1 λxs r=>?_⟩) (c1.toL.app c),nd,g,d⟩;rw[h1]at r;cases r
theorem qF{o:HO}{Γ Δ:Fm}(h:Rp K H ((.bare,some (.ref a))::(Γ++Δ)))(p:Put H a o H')
  (mk:∀Hz L,RepL K Hz H' Γ L->RepT K Hz H' t (.ref a) (a::L)):Rp K H' ((t,some (.ref a))::Δ):=by
 obtain⟨Hz,N,h,nd,g,d⟩:=h;cases h with
 |cons e h c=>
  rcases h with⟨h,_⟩|⟨v,ev,h⟩
  ·cases h
  cases ev;cases h with
  |bare h1 nt=>
   obtain⟨L,M,e2,h2,h3⟩:=c.split;subst e;subst e2;rw[Kx,kw]at nd;have tk:TK H H':=Put.tk p nt;have ne:∀b∈L++M,b≠a:=λb m z=>nd.1 (z▸m);have g':Gr Hz H':=λb u r=>by
    have hb:b≠a:=λz=>by obtain⟨w,q⟩:=Rd.some r;rw[z,d a (by rw[Kx];exact A_)]at q;cases q
    rcases g b u r with r|⟨o,r⟩
    ·exact .inl (by rw[p.else_ b hb];exact r)
    exact .inr ⟨o,by rw[p.else_ b hb];exact r⟩
   refine⟨Hz,(a::L)++M,.cons rfl (.inr ⟨_,rfl,mk Hz L ?_⟩) ?_,?_,g',?_⟩
   ·exact h2.move tk .ja λb m=>tf p b (ne b (Hf _ m))
   ·exact h3.move tk .ja λb m=>tf p b (ne b (n_ _ m))
   ·rw[F_,kw];exact nd
   exact d
theorem gC{Γ:Fm}(h:Rp K H ((.bare,some (.ref a))::(zz ts vs++Γ)))(l:ts.length=vs.length)(p:Put H a (.lst vs) H'):Rp K H' ((.lst true ts,some (.ref a))::Γ):=
 qF h p λ_ _ q=>.lstO p.at_ (q.wM l)
theorem nV{ts:List (Key×T)}{Γ:Fm}(h:Rp K H ((.dK true ts,x)::Γ)):∃a vs,x=some (.ref a)/\H a=some (.dK vs)/\ts.map (·.1)=vs.map (·.1)/\Rp K H ((.bare,some (.ref a))::(zz (ts.map (·.2)) (vs.map (·.2))++Γ)):=by
 obtain⟨Hz,N,h,nd,g,d⟩:=h;cases h with
 |cons e h c=>
  rcases h with⟨h,_⟩|⟨v,rfl,h⟩
  ·cases h
  cases h with
  |dKO h1 c1=>
   obtain⟨e1,c2⟩:=c1.toL;refine⟨_,_,rfl,h1,e1,Hz,N,.cons (L:=[_]) (M:=_++_) (by rw[e];rfl) (.inr ⟨_,rfl,.bare h1 λxs r=>?_⟩) (c2.toL.app c),nd,g,d⟩;rw[h1]at r;cases r
theorem yl{ts:List (List Key×T)}{Γ:Fm}(h:Rp K H ((.dT true ts,x)::Γ)):∃a vs,x=some (.ref a)/\H a=some (.dT vs)/\ts.map (·.1)=vs.map (·.1)/\Rp K H ((.bare,some (.ref a))::(zz (ts.map (·.2)) (vs.map (·.2))++Γ)):=by
 obtain⟨Hz,N,h,nd,g,d⟩:=h;cases h with
 |cons e h c=>
  rcases h with⟨h,_⟩|⟨v,rfl,h⟩
  ·cases h
  cases h with
  |dTO h1 c1=>
   obtain⟨e1,c2⟩:=c1.toL;refine⟨_,_,rfl,h1,e1,Hz,N,.cons (L:=[_]) (M:=_++_) (by rw[e];rfl) (.inr ⟨_,rfl,.bare h1 λxs r=>?_⟩) (c2.toL.app c),nd,g,d⟩;rw[h1]at r;cases r
theorem cW{κ β:Type}{ts:List (κ×α)}{vs:List (κ×β)}(e:ts.map (·.1)=vs.map (·.1)):ts.length=vs.length:=by have:=congrArg Kq e;rwa[a_,a_]at this
theorem pJ{ts:List (Key×T)}{vs:List (Key×V)}{Γ:Fm}(h:Rp K H ((.bare,some (.ref a))::(zz (ts.map (·.2)) (vs.map (·.2))++Γ)))(l:ts.map (·.1)=vs.map (·.1))(p:Put H a (.dK vs) H'):Rp K H' ((.dK true ts,some (.ref a))::Γ):=
 qF h p λ_ _ q=>.dKO p.at_ (RepKs.ofL l (q.wM (by rw[a_,a_];exact cW l)))
theorem wY{ts:List (List Key×T)}{vs:List (List Key×V)}{Γ:Fm}(h:Rp K H ((.bare,some (.ref a))::(zz (ts.map (·.2)) (vs.map (·.2))++Γ)))(l:ts.map (·.1)=vs.map (·.1))(p:Put H a (.dT vs) H'):Rp K H' ((.dT true ts,some (.ref a))::Γ):=
 qF h p λ_ _ q=>.dTO p.at_ (RepXs.ofL l (q.wM (by rw[a_,a_];exact cW l)))
theorem oj{Γ:Fm}(h:Rp K H ((t,x)::Γ)):Rp K H ((er t,x)::Γ):=by
 obtain⟨Hz,N,h,nd,g,d⟩:=h;cases h with
 | @cons _ _ L M _ _ e h c=>
  rcases h with⟨rfl,rfl⟩|⟨v,rfl,h⟩
  ·exact⟨Hz,N,.cons e (.inl ⟨rfl,rfl⟩) c,nd,g,d⟩
  subst e;have dz:∀b∈L,Hz b=none:=λb m=>d b (Hf _ m)
  let Z:Hp:=λb=>if b∈L then H b else Hz b
  have hz:Gr Hz Z:=λb u r=>by
   have nb:b ∉ L:=λm=>by obtain⟨w,q⟩:=Rd.some r;rw[dz b m]at q;cases q
   rcases r with r|⟨o,r⟩
   ·exact .inl (by show(if b∈L then H b else Hz b)=_;rw[if_neg nb];exact r)
   exact .inr ⟨o,by show(if b∈L then H b else Hz b)=_;rw[if_neg nb];exact r⟩
  have zh:Gr Z H:=λb u r=>by
   by_cases nb:b∈L
   ·rcases r with r|⟨o,r⟩
    ·exact .inl (by have r:(if b∈L then H b else Hz b)=_:=r;rw[if_pos nb]at r;exact r)
    exact .inr ⟨o,by have r:(if b∈L then H b else Hz b)=_:=r;rw[if_pos nb]at r;exact r⟩
   refine g b u ?_;rcases r with r|⟨o,r⟩
   ·exact .inl (by have r:(if b∈L then H b else Hz b)=_:=r;rw[if_neg nb]at r;exact r)
   exact .inr ⟨o,by have r:(if b∈L then H b else Hz b)=_:=r;rw[if_neg nb]at r;exact r⟩
  have nd2:=II.mp nd;refine⟨Z,[]++M,.cons rfl (.inr ⟨v,rfl,h.frz hz λb m=>?_⟩) (c.move (λ_ _ r=>r) hz λb m u e=>⟨e,λn=>n⟩),nd2.2.1,zh,λb m=>?_⟩
  ·show(if b∈L then H b else Hz b)=_;rw[if_pos m]
  show(if b∈L then H b else Hz b)=_;rw[if_neg (λz=>nd2.2.2 b z b m rfl)];exact d b (n_ _ m)
theorem qA{Γ:Fm}(h:Rp K H ((t,x)::Γ))(n:aX t=true):Rp K H ((t,x)::(t,x)::Γ):=by
 obtain⟨Hz,N,h,nd,g,d⟩:=h;cases h with
 | @cons _ _ L M _ _ e h c=>
  have hL:L=[]:=by
   rcases h with⟨_,rfl⟩|⟨v,_,h⟩
   ·rfl
   exact h.nil_of n
  subst hL;exact⟨Hz,N,.cons (L:=[]) (M:=N) rfl h (.cons e h c),nd,g,d⟩
theorem oX.view (g:Gr Hz H)(h:oX K Hz H t x L):oX K H H (er t) x []:=by
 rcases h with⟨rfl,rfl⟩|⟨v,rfl,h⟩
 ·exact .inl ⟨rfl,rfl⟩
 exact .inr ⟨v,rfl,h.frz g λ_ _=>rfl⟩
theorem RepL.view (g:Gr Hz H):∀{Γ:Fm}{L:List LO},RepL K Hz H Γ L->RepL K H H (Γ.map λp=>(er p.1,p.2)) []:=by
 intro Γ L x;induction x with
 |nil=>exact .nil
 |cons e h c ih=>exact .cons rfl (h.view g) ih
theorem rN{Γ:Fm}(h:Rp K H Γ):Rp K H ((Γ.map λp=>(er p.1,p.2))++[(.kp H,some .non)]):=by obtain⟨Hz,N,h,nd,g,d⟩:=h;refine⟨H,[]++[],(h.view g).app (.cons rfl (.inr ⟨_,rfl,.kp .ja⟩) .nil),JQ,.ja,λb m=>by cases m⟩
noncomputable def over(H H':Hp):Hp:=λb=>match H b with
 |some u=>some u
 |none=>H' b
theorem hV{b:LO}(e:H b=some u):over H H' b=some u:=by unfold over;rw[e]
theorem lF{b:LO}(e:H b=none):over H H' b=H' b:=by unfold over;rw[e]
theorem xi(H H':Hp):bg H (over H H'):=λb u e=>hV e
theorem qB(g:Gr H H'){b:LO}:over H H' b=H' b\/∃o u,H' b=some (.frz o u)/\over H H' b=some u:=by
 cases q:H b with
 |none=>exact .inl (lF q)
 |some u=>
  rw[hV q];rcases g b u (.inl q)with r|⟨o,r⟩
  ·exact .inl r.symm
  exact .inr ⟨o,u,r,rfl⟩
theorem sj(g:Gr H H'){b:LO}(r:H' b=some (.tup xs)):over H H' b=some (.tup xs):=by
 rcases qB g (b:=b)with e|⟨o,u,e,_⟩
 ·rw[e];exact r
 rw[r]at e;cases e
theorem rq{Γ Δ:Fm}(h:Rp K H Γ)(q:Rp K H' ((t,x)::(Δ++[(.kp H,some .non)])))(n:cq t=true):Gr H H'/\Rp K (over H H') ((t,x)::Γ):=by
 obtain⟨Hy,N',q,nd',g',d'⟩:=q;cases q with
 | @cons _ _ L M _ _ e h1 c=>
  have hkp:Gr H Hy:=by
   obtain⟨_,_,_,_,c2⟩:=c.split;cases c2 with
   |cons _ h2 _=>
    rcases h2 with⟨z,_⟩|⟨_,_,h2⟩
    ·cases z
    cases h2 with
    |kp z=>exact z
  have gr:=hkp.trans g';refine⟨gr,?_⟩;subst e;have nd2:=II.mp nd';have hL:∀b∈L,H b=none:=λb m=>hkp.none (d' b (Hf _ m));obtain⟨Hz,N,h,nd,g,d⟩:=h;have so:=xi H H';have tk:TK H' (over H H'):=λb xs r=>sj gr r;have h1':oX K Hz (over H H') t x L:=by
   rcases h1 with⟨rfl,rfl⟩|⟨v,rfl,h1⟩
   ·exact .inl ⟨rfl,rfl⟩
   refine .inr ⟨v,rfl,h1.Gm tk n λb m u e=>?_⟩;have eo:=lF (H':=H') (hL b m);exact⟨eo.trans e,λnt xs r=>nt xs (by rw[<-eo];exact r)⟩
  refine⟨Hz,L++N,.cons rfl h1' (h.move (bg.tk so) .ja λb m u e=>jr so b u e),?_,g.trans (.of so),?_⟩
  ·rw[II];refine⟨nd2.1,nd,λb m b' m' z=>?_⟩;subst z;obtain⟨⟨u,e⟩,_⟩:=h.there b m';rw[hL b m]at e;cases e
  intro b m;rcases C_.mp m with m|m
  ·exact g.none (hL b m)
  exact d b m
theorem ra:∀{ts:List T}{vs:List V}{i:Nat}{t:T},ts.length=vs.length->ts[i]?=some t->∃w,vs[i]?=some w
 |ts,vs,i,t,l,e=>by have h:i<ts.length:=(c_.mp e).1;exact⟨vs[i]'(by omega),f' (by omega)⟩
theorem nF{α:Type}:∀{l:List α}{i:Nat}{x y:α},l[i]?=some y->(l.set i x).set i y=l
 | [],i,x,y,e=>by simp at e
 |a::l,0,x,y,e=>by simp at e;subst e;rfl
 |a::l,i+1,x,y,e=>by simp only[Ii]at e;rw[JV,JV,nF e]
end
theorem mT{α β:Type}:∀{l:List α}{m:List β}{i:Nat}{a:α}{b:β} (t:α) (y:β),l[i]?=some a->m[i]?=some b->((a,b)::(l.set i t).zip (m.set i y)).Perm ((t,y)::l.zip m)
 | [],m,i,a,b,t,y,h,_=>by simp at h
 |x::l,[],i,a,b,t,y,_,h=>by simp at h
 |x::l,z::m,0,a,b,t,y,h,g=>by simp only[Jo,J5]at h g;subst h;subst g;exact .swap _ _ _
 |x::l,z::m,i+1,a,b,t,y,h,g=>by simp only[Ii]at h g;have p:=mT t y h g;show Kj ((a,b)::(x,z)::(l.set i t).zip (m.set i y)) ((t,y)::(x,z)::l.zip m);exact(Ky _ _ _).trans ((p.cons _).trans (.swap _ _ _))
variable {i:Nat}
theorem set_same{l:List α}{x:α}(h:l[i]?=some x):l.set i x=l:=by have:=nF (x:=x) h;rw[Kc]at this;exact this
variable {Fr Γ:Fm}{env:Ev}{σ:St}
section
variable{K:LN}
def Rs(K:LN)(H:Hp)(env:Ev)(σ:St)(Fr:Fm):Prop:=env.length=σ.length/\Rp K H (env.zip σ++Fr)
theorem iU(h:Rp K H Γ):Rp K H ((.any,x)::Γ):=by obtain⟨Hz,N,h,nd,g,d⟩:=h;exact⟨Hz,N,.cons (L:=[]) rfl (.inl ⟨rfl,rfl⟩) h,nd,g,d⟩
theorem Rs.perm {Gr:Fm}(h:Rs K H env σ Fr)(p:Fr.Perm Gr):Rs K H env σ Gr:=⟨h.1,h.2.perm (p.append_left _)⟩
theorem Rs.drop {x:T×Option V}(h:Rs K H env σ (x::Fr)):Rs K H env σ Fr:=⟨h.1,(h.2.perm d_).tail⟩
theorem Rs.head {x:T×Option V}(h:Rs K H env σ (x::Fr)):Rp K H (x::(env.zip σ++Fr)):=h.2.perm d_
theorem Rs.of {x:T×Option V}(l:env.length=σ.length)(h:Rp K H (x::(env.zip σ++Fr))):Rs K H env σ (x::Fr):=⟨l,h.perm d_.symm⟩
theorem Rs.chg {Δ Δ':Fm}(h:Rs K H env σ (Δ++Fr))(f:∀ Γ,Rp K H (Δ++Γ)->Rp K H' (Δ'++Γ)):Rs K H' env σ (Δ'++Fr):=by
 refine⟨h.1,?_⟩;have p:∀A:Fm,(A++(env.zip σ++Fr)).Perm (env.zip σ++(A++Fr)):=λA=>by rw[<-g_,<-g_];exact Hv.append_right _
 exact(f _ (h.2.perm (p Δ).symm)).perm (p Δ')
theorem Rs.slot (h:Rs K H env σ Fr)(e:env[i]?=some t):∃x,σ[i]?=some x/\Rs K H (env.set i .any) σ ((t,x)::Fr):=by
 have hi:i<env.length:=(c_.mp e).1;have hs:i<σ.length:=by rw[<-h.1];exact hi
 have ex:σ[i]?=some σ[i]:=f' hs;refine⟨σ[i],ex,by rw[F'];exact h.1,?_⟩;have p:=mT (T.any) σ[i] e ex;rw[set_same ex]at p;refine(iU (x:=σ[i]) h.2).perm ?_;refine GX ?_ d_.symm;exact(p.symm.append_right Fr)
theorem Rs.nP (h:Rs K H env σ ((t,x)::Fr))(hi:i<env.length)(ex:σ[i]?=some x):Rs K H (env.set i t) σ Fr:=by have e:env[i]?=some env[i]:=f' hi;refine⟨by rw[F'];exact h.1,?_⟩;have p:=mT t x e ex;rw[set_same ex]at p;refine Rp.tail (x:=(env[i],x)) (h.2.perm ?_);refine d_.trans ?_;exact(p.symm.append_right Fr)
theorem Rs.store (h:Rs K H env σ ((t,some v)::Fr))(hi:i<env.length):Rs K H (env.set i t) (σ.set i (some v)) Fr:=by
 have e:env[i]?=some env[i]:=f' hi;have hs:i<σ.length:=by rw[<-h.1];exact hi
 have ex:σ[i]?=some σ[i]:=f' hs;refine⟨by rw[F',F'];exact h.1,?_⟩;have p:=mT t (some v) e ex;refine Rp.tail (x:=(env[i],σ[i])) (h.2.perm ?_);refine d_.trans ?_;exact(p.symm.append_right Fr)
end
variable {X:Cx}{ad:List (LO×Obj)}{s:LP}
theorem o6{cr:St}{s':LP}(I:Inv X ad σ H s)(J:Inv X ad cr H' s')(g:Gr H H'):Inv X ad cr (over H H') s':=by
 have nn:∀b,H' b=none->over H H' b=none:=λb e=>by rw[lF (g.none e)];exact e
 refine⟨J.ok,J.os,J.bare,⟨J.base.keep,J.base.slot,?_,J.base.there,?_,?_,?_⟩,J.loc,J.cell,nn _ J.free,λx c e=>nn _ (J.freeC x c e),λp hp=>?_,?_,J.len⟩
 ·exact λb o e1 e2 e3=>nn _ (J.base.free b o e1 e2 e3)
 ·exact λb xs e=>hV (I.base.tups b xs e)
 ·exact λb o u e=>hV (I.base.frzs b o u e)
 ·exact λb ps e=>by obtain⟨m,em⟩:=I.base.tbls b ps e;exact⟨m,hV em⟩
 ·obtain⟨h1,h2,h3⟩:=J.pin p hp;exact⟨h1,nn _ h2,h3⟩
 intro b u e;have ho:∀c y,H' c=some (.own y)->over H H' c=some (.own y):=λc y q=>by
  rcases qB g (b:=c)with z|⟨o,w,z,_⟩
  ·rw[z];exact q
  rw[q]at z;cases z
 have ht:∀c xs,H' c=some (.tup xs)->over H H' c=some (.tup xs):=λc xs q=>sj g q;have key:bZ X.prog X.w H' s'.heap b u:=by
  rcases qB g (b:=b)with z|⟨o,w,z,zw⟩
  ·rw[z]at e;exact J.hok b u e
  rw[zw]at e;cases e;exact(J.hok b _ z).2
 exact key.oU (λc v _ q=>q) (λc=>ho c b) ht
variable {e:LY}
theorem B2{t:TE}(h:PE X e t):PE X e (λσ H Q=>t σ H λv H'=>Gr H H'/\Q v (over H H')):=λad s σ H Q I q=>
 thn (h ad s σ H _ I q) λu s' ⟨v,H',I',r,g,q'⟩=>⟨v,over H H',o6 I I' g,r,q'⟩
theorem Av{t:TT}(h:PT X e t):PT X e (λσ H Q=>t σ H λb H'=>Gr H H'/\Q b (over H H')):=λad s σ H Q I q=>
 thn (h ad s σ H _ I q) λb s' ⟨H',I',g,q'⟩=>⟨over H H',o6 I I' g,q'⟩
abbrev PF:=Ev->(T->Ev->Prop)->Prop
abbrev PB:=Ev->(Bool->Ev->Prop)->Prop
abbrev PFs:=Ev->(List T->Ev->Prop)->Prop
def wE(K:LN)(f:PF):TE:=λσ H Q=>∃env Fr k,Rs K H env σ Fr/\f env k/\∀t bn v H',k t bn->Rs K H' bn σ ((t,some v)::Fr)->Q v H'
def wB(K:LN)(f:PB):TT:=λσ H Q=>∃env Fr k,Rs K H env σ Fr/\f env k/\∀b bn H',k b bn->Rs K H' bn σ Fr->Q b H'
def wA(K:LN)(f:PFs):TA:=λσ H Q=>∃env Fr k,Rs K H env σ Fr/\f env k/\∀ts bn vs H',k ts bn->ts.length=vs.length->Rs K H' bn σ (zz ts vs++Fr)->Q vs H'
def GE(X:Cx)(e:LY)(f:PF):Prop:=PE X e (wE X.K f)
def GT(X:Cx)(e:LY)(f:PB):Prop:=PT X e (wB X.K f)
def GW(X:Cx)(e:LY)(f:PB):Prop:=PW X e (wB X.K f)
def GA(X:Cx)(es:List LY)(f:PFs):Prop:=PA X es (wA X.K f)
theorem PE.imp {t t':TE}(h:PE X e t)(k:∀ σ H Q,t' σ H Q->t σ H Q):PE X e t':=λad s σ H Q I q=>h ad s σ H Q I (k _ _ _ q)
theorem PT.imp {t t':TT}(h:PT X e t)(k:∀ σ H Q,t' σ H Q->t σ H Q):PT X e t':=λad s σ H Q I q=>h ad s σ H Q I (k _ _ _ q)
theorem PW.imp {t t':TT}(h:PW X e t)(k:∀ σ H Q,t' σ H Q->t σ H Q):PW X e t':=λwh ad s σ H Q I q=>h wh ad s σ H Q I (k _ _ _ q)
variable {es:List LY}
theorem PA.imp {t t':TA}(h:PA X es t)(k:∀ σ H Q,t' σ H Q->t σ H Q):PA X es t':=λpos ad s σ H Q I q=>h pos ad s σ H Q I (k _ _ _ q)
def fQ(f:PF):PF:=λenv k=>f (erL env) λt _=>cq t=true/\k t env
def fQT(f:PB):PB:=λenv k=>f (erL env) λb _=>k b env
theorem n8:∀(env:Ev) (σ:St),(env.zip σ).map (λp=>(er p.1,p.2))=(erL env).zip σ
 | [],σ=>by simp[erL]
 |t::env,[]=>by simp
 |t::env,x::σ=>by rw[erL,HL,h_,HL,n8 env σ]
theorem aE{X:Cx}{e:LY}{f:PF}(h:GE X e f):GE X e (fQ f):=by
 refine PE.imp (B2 h) ?_;rintro σ H Q ⟨env,Fr,k,rs,q,c⟩;have rv:Rs X.K H (erL env) σ ((Fr.map λp=>(er p.1,p.2))++[(.kp H,some .non)]):=by refine⟨by rw[gn];exact rs.1,?_⟩;have:=rN rs.2;rw[p_,n8,g_]at this;exact this
 refine⟨erL env,_,_,rv,q,?_⟩;rintro t bn v H' ⟨n,kt⟩ rs';obtain⟨g,r2⟩:=rq rs.2 (Δ:=bn.zip σ++(Fr.map λp=>(er p.1,p.2))) (by rw[g_];exact rs'.head) n;exact⟨g,c t env v _ kt (.of rs.1 r2)⟩
variable {K:LN}
theorem zk{Δ:Fm}(h:Rp K H Γ)(q:Rp K H' (Δ++[(.kp H,some .non)])):Gr H H'/\Rp K (over H H') Γ:=by obtain⟨g,r⟩:=rq (t:=.any) (x:=none) h (iU q) rfl;exact⟨g,r.tail⟩
theorem g6{X:Cx}{e:LY}{f:PB}(h:GT X e f):GT X e (fQT f):=by
 refine PT.imp (Av h) ?_;rintro σ H Q ⟨env,Fr,k,rs,q,c⟩;have rv:Rs X.K H (erL env) σ ((Fr.map λp=>(er p.1,p.2))++[(.kp H,some .non)]):=by refine⟨by rw[gn];exact rs.1,?_⟩;have:=rN rs.2;rw[p_,n8,g_]at this;exact this
 refine⟨erL env,_,_,rv,q,?_⟩;rintro b bn H' kt rs';obtain⟨g,r2⟩:=zk rs.2 (Δ:=bn.zip σ++(Fr.map λp=>(er p.1,p.2))) (by rw[g_];exact rs'.2);exact⟨g,c b env _ kt ⟨rs.1,r2⟩⟩
noncomputable def fK(t:T):PF:=λenv k=>k t env
variable {j:Nat}
section
variable{X:Cx}{pos:Pos}
theorem j6(h:Rs K H env σ Fr)(r:∀Hz,RepT K Hz H t v []):Rs K H env σ ((t,some v)::Fr):=by refine .of h.1 ?_;obtain⟨Hz,N,q,nd,g,d⟩:=h.2;exact⟨Hz,N,.cons (L:=[]) rfl (.inr ⟨v,rfl,r Hz⟩) q,nd,g,d⟩
theorem ge_int{i:Int}{j:Nat}:GE X (.Constant (.int i) j pos) (fK (.int i)):=PE.imp cV (by rintro σ H Q ⟨env,Fr,k,rs,q,c⟩;exact c _ _ _ _ q (j6 rs λ_=>.int))
theorem gI{b:Bool}{j:Nat}:GE X (.Constant (.bool b) j pos) (fK (.bl b)):=PE.imp EX (by rintro σ H Q ⟨env,Fr,k,rs,q,c⟩;exact c _ _ _ _ q (j6 rs λ_=>.bl))
theorem nQ:GE X (.Constant .none j pos) (fK .non):=PE.imp CS (by rintro σ H Q ⟨env,Fr,k,rs,q,c⟩;exact c _ _ _ _ q (j6 rs λ_=>.non))
theorem BI{x:Str}{u:LM}(hg:Gl X x)(hm:X.mg x=some u)(r:RelV v u)(ht:∀Hz H,RepT X.K Hz H t v [])(hd:(x ==("__debug__":Str))=false:=by decide):GE X (.Name x pos) (fK t):=
 PE.imp (BN hg hm r hd) λσ H Q ⟨env,Fr,k,rs,q,c⟩=>c _ _ _ _ q (j6 rs λHz=>ht Hz H)
noncomputable def isAny:T->Bool
 | .any=>true
 | _=>false
def Al(i:Nat):PF:=λenv k=>match env[i]? with
 |some t=>isAny t=false/\aX t=true/\k t env
 |none=>False
def fFz(i:Nat):PF:=λenv k=>match env[i]? with
 |some t=>isAny t=false/\k (er t) (env.set i (er t))
 |none=>False
def fMv(i:Nat):PF:=λenv k=>match env[i]? with
 |some t=>isAny t=false/\k t (env.set i .any)
 |none=>False
theorem i3(h:Rs K H env σ ((t,x)::Fr))(n:isAny t=false):∃v,x=some v:=by
 obtain⟨Hz,N,q,_⟩:=h.head;cases q with
 |cons e h c=>
  rcases h with⟨rfl,_⟩|⟨v,e,_⟩
  ·cases n
  exact⟨v,e⟩
theorem ab(i:Nat){x:Str}(hN:X.N[i]?=some x:=by rfl)(hv:Vis X.env.scope x:=by first|exact gV rfl|exact t_ (gV rfl)|exact t_ (t_ rfl))(hd:(x ==("__debug__":Str))=false:=by decide)(hcd:(x ==("__classdict__":Str))=false:=by decide):GE X (.Name x pos) (Al i):=by
 refine PE.imp (iQ hN hv hd hcd) ?_;rintro σ H Q ⟨env,Fr,k,rs,q,c⟩;unfold Al at q;split at q
 ·rename_i t e;obtain⟨na,no,q⟩:=q;obtain⟨y,ey,rs2⟩:=rs.slot e;obtain⟨v,rfl⟩:=i3 rs2 na;refine⟨v,ey,c _ _ _ _ q ?_⟩;have hi:i<env.length:=(c_.mp e).1;have r3:Rs X.K H (env.set i .any) σ ((t,some v)::(t,some v)::Fr):=.of rs2.1 ((qA rs2.head no).perm (by refine Kz _ ?_;exact d_.symm))
  have r4:=Rs.nP (i:=i) r3 (by rw[F'];exact hi) ey;rw[nF e]at r4;exact r4
 exact q.elim
theorem bc(i:Nat){x:Str}(hN:X.N[i]?=some x:=by rfl)(hv:Vis X.env.scope x:=by first|exact gV rfl|exact t_ (gV rfl)|exact t_ (t_ rfl))(hd:(x ==("__debug__":Str))=false:=by decide)(hcd:(x ==("__classdict__":Str))=false:=by decide):GE X (.Name x pos) (fFz i):=by
 refine PE.imp (iQ hN hv hd hcd) ?_;rintro σ H Q ⟨env,Fr,k,rs,q,c⟩;unfold fFz at q;split at q
 ·rename_i t e;obtain⟨na,q⟩:=q;obtain⟨y,ey,rs2⟩:=rs.slot e;obtain⟨v,rfl⟩:=i3 rs2 na;refine⟨v,ey,c _ _ _ _ q ?_⟩;have hi:i<env.length:=(c_.mp e).1;have no:aX (er t)=true:=aT t;have r3:Rs X.K H (env.set i .any) σ ((er t,some v)::(er t,some v)::Fr):=.of rs2.1 ((qA (oj rs2.head) no).perm (by refine Kz _ ?_;exact d_.symm))
  have r4:=Rs.nP (i:=i) r3 (by rw[F'];exact hi) ey;rw[Kc]at r4;exact r4
 exact q.elim
theorem pX(i:Nat){x:Str}(hN:X.N[i]?=some x:=by rfl)(hv:Vis X.env.scope x:=by first|exact gV rfl|exact t_ (gV rfl)|exact t_ (t_ rfl))(hd:(x ==("__debug__":Str))=false:=by decide)(hcd:(x ==("__classdict__":Str))=false:=by decide):GE X (.Name x pos) (fMv i):=by
 refine PE.imp (iQ hN hv hd hcd) ?_;rintro σ H Q ⟨env,Fr,k,rs,q,c⟩;unfold fMv at q;split at q
 ·rename_i t e;obtain⟨na,q⟩:=q;obtain⟨y,ey,rs2⟩:=rs.slot e;obtain⟨v,rfl⟩:=i3 rs2 na;exact⟨v,ey,c _ _ _ _ q rs2⟩
 exact q.elim
end
variable {y:V}
section
variable{K:LN}{H:Hp}{Γ:Fm}
theorem gR(h:Rp K H ((t,some y)::Γ))(n:isAny t=false):∃Hz L,RepT K Hz H t y L/\Gr Hz H:=by
 obtain⟨Hz,N,h,nd,g,d⟩:=h;cases h with
 |cons e h c=>
  rcases h with⟨rfl,_⟩|⟨v,e2,h⟩
  ·cases n
  cases e2;exact⟨Hz,_,h,g⟩
theorem aQ{i:Int}(h:Rp K H ((.int i,some y)::Γ)):y=.int i:=by obtain⟨_,_,r,_⟩:=gR h rfl;cases r;rfl
theorem iV{i:Bool}(h:Rp K H ((.bl i,some y)::Γ)):y=.bl i:=by obtain⟨_,_,r,_⟩:=gR h rfl;cases r;rfl
theorem jM{i:Str}(h:Rp K H ((.str i,some y)::Γ)):y=.str i:=by obtain⟨_,_,r,_⟩:=gR h rfl;cases r;rfl
theorem rV(h:Rp K H ((.non,some y)::Γ)):y=.non:=by obtain⟨_,_,r,_⟩:=gR h rfl;cases r;rfl
theorem cQ(h:Rp K H Γ)(r:∀Hz,RepT K Hz H t v []):Rp K H ((t,some v)::Γ):=by obtain⟨Hz,N,q,nd,g,d⟩:=h;exact⟨Hz,N,.cons (L:=[]) rfl (.inr ⟨v,rfl,r Hz⟩) q,nd,g,d⟩
noncomputable def items:T->Option (List T)
 | .tup ts=>some ts
 | .cst ts=>some ts
 | .lst _ ts=>some ts
 | _=>none
noncomputable def oS:T->Bool
 | .tup _=>true
 | .cst _=>true
 | _=>false
theorem wk(h:SqT K (λ_=>none) a vs)(H:Hp):SqT K H a vs:=by
 rcases h with (h|⟨_,h⟩)|h
 ·cases h
 ·cases h
 exact .inr h
theorem aC(e:items t=some ts)(h:Rp K H ((t,some y)::Γ)):∃a vs,y=.ref a/\SqG (oS t) K H a vs/\ts.length=vs.length/\Rp K H (zz ts vs++Γ):=by
 obtain⟨Hz,N,h,nd,g,d⟩:=h;cases h with
 |cons e1 h c=>
  rcases h with⟨rfl,_⟩|⟨v,e2,h⟩
  ·cases e
  cases e2;cases h <;> cases e
  ·rename_i a vs h c1;exact⟨a,vs,rfl,SqT.of h,c1.len,Hz,_,c1.toL.app c,by rw[<-e1];exact nd,g,λb m=>d b (by rw[e1];exact m)⟩
  ·rename_i a vs h c1;exact⟨a,vs,rfl,wk h H,c1.len,Hz,_,c1.toL.app c,by rw[<-e1];exact nd,g,λb m=>d b (by rw[e1];exact m)⟩
  ·rename_i a vs L h c1;rw[e1,F_,kw]at nd;exact⟨a,vs,rfl,SqL.of h,c1.len,Hz,_,c1.toL.app c,nd.2,g,λb m=>d b (by rw[e1,F_];exact l_ _ m)⟩
  rename_i a vs h c1;exact⟨a,vs,rfl,.inl (g _ _ h),c1.len,Hz,_,c1.toL.app c,by rw[<-e1];exact nd,g,λb m=>d b (by rw[e1];exact m)⟩
theorem vb:∀{ts:List T}{vs:List V}{i:Nat}{t:T}{w:V},ts[i]?=some t->vs[i]?=some w->∃r,(zz ts vs).Perm ((t,some w)::r)
 | [],vs,i,t,w,e,f=>by simp at e
 |t::ts,[],i,_,w,e,f=>by simp at f
 |t::ts,v::vs,0,u,w,e,f=>by simp only[Jo,J5]at e f;subst e;subst f;exact⟨_,.refl _⟩
 |t::ts,v::vs,i+1,u,w,e,f=>by simp only[Ii]at e f;obtain⟨r,h⟩:=vb (ts:=ts) (vs:=vs) e f;exact⟨(t,some v)::r,(h.cons _).trans (.swap _ _ _)⟩
theorem lh{w:V}(h:Rp K H (zz ts vs++Γ))(e:ts[i]?=some t)(f:vs[i]?=some w):Rp K H ((t,some w)::Γ):=by obtain⟨r,p⟩:=vb e f;refine Rp.part (Γ:=r) (h.perm ?_);refine(p.append_right Γ).trans ?_;exact d_.symm
theorem zY{i:Int}(l:ts.length=vs.length)(e:atI ts i=some t)(h:Rp K H (zz ts vs++Γ)):∃w,atI vs i=some w/\Rp K H ((t,some w)::Γ):=by
 unfold atI at e ⊢;rw[l]at e;cases q:ixN vs.length i with
 |none=>rw[q]at e;cases e
 |some j=>
  rw[q]at e;have e:ts[j]?=some t:=e;obtain⟨w,f⟩:=ra l e;exact⟨w,f,lh h e f⟩
end
noncomputable def got(o:Option α)(k:α->Prop):Prop:=match o with
 |some u=>k u
 |none=>False
theorem CH{o:Option α}{u:α}{k:α->Prop}(e:o=some u)(h:k u):got o k:=by rw[e];exact h
theorem aG{o:Option α}{k:α->Prop}(h:got o k):∃u,o=some u/\k u:=by
 cases o with
 |none=>exact h.elim
 |some u=>exact⟨u,rfl,h⟩
noncomputable def cnd(b:Bool)(A B:Prop):Prop:=(b=true->A)/\(b=false->B)
theorem BR{A B:Prop}(h:A):cnd true A B:=⟨λ_=>h,λe=>by cases e⟩
theorem Fz{A B:Prop}(h:B):cnd false A B:=⟨λe=>(by cases e),λ_=>h⟩
variable {b:Bool}
theorem jo{A B:Prop}(h:cnd b A B):if b=true then A else B:=by
 cases b with
 |true=>rw[if_pos rfl];exact h.1 rfl
 |false=>rw[if_neg (by decide)];exact h.2 rfl
abbrev P2:=T->T->(T->Prop)->Prop
def w2(K:LN)(g:P2):R2:=λx y H Q=>∃tx ty Γ k,Rp K H ((ty,some y)::(tx,some x)::Γ)/\g tx ty k/\∀t v H',k t->Rp K H' ((t,some v)::Γ)->Q v H'
def OpP(X:Cx)(f:LM->LM->Sem LM)(g:P2):Prop:=OpR X f (w2 X.K g)
variable {f:LM->LM->Sem LM}
theorem OpP.of {g:P2}{r:R2}(h:OpR X f r)(k:∀tx ty x y H Γ (k:T->Prop) (Q:VK),Rp X.K H ((ty,some y)::(tx,some x)::Γ)->g tx ty k->(∀t v H',k t->Rp X.K H' ((t,some v)::Γ)->Q v H')->r x y H Q):OpP X f g:=
 λad s σ H x y v u Q I rx ry ⟨tx,ty,Γ,kk,rp,g,c⟩=>h ad s σ H x y v u Q I rx ry (k tx ty x y H Γ kk Q rp g c)
noncomputable def wD(g:P2)(a b:PF):PF:=λenv k=>a env λx am=>b am λy ca=>g x y λt=>k t ca
variable {fa:PF}
theorem vB{g:P2}{fb:PF}:∀ σ H Q,wE X.K (wD g fa fb) σ H Q->tOp (w2 X.K g) (wE X.K fa) (wE X.K fb) σ H Q:=by rintro σ H Q ⟨env,Fr,k,rs,q,c⟩;refine⟨env,Fr,_,rs,q,λtx am x H1 q1 f8=>⟨am,_,_,f8,q1,λty ca y H2 q2 rs2=>?_⟩⟩;refine⟨tx,ty,ca.zip σ++Fr,_,?_,q2,λt v H' kt rp=>c _ _ _ _ kt (.of rs2.1 rp)⟩;exact rs2.head.perm (.cons _ d_)
section
variable{X:Cx}{a b c d:LY}{fa fb fc fd:PF}{pos:Pos}
theorem af{op:Operator}{g:P2}(ho:OpP X (MF op) g)(ha:GE X a fa)(hb:GE X b fb):GE X (.BinOp a op b pos) (wD g fa fb):=PE.imp (eQ ho ha hb) vB
theorem fA{op:Q2}{g:P2}(ho:OpP X (Ms op) g)(ha:GE X a fa)(hb:GE X b fb)(hm:Nw op b=false):GE X (.Compare a [op] [b] pos) (wD g fa fb):=PE.imp (AN ho ha hb hm) vB
noncomputable def Dq(f:PF):PB:=λenv k=>f env λt bn=>match t with
 | .bl b=>k b bn
 | _=>False
theorem E9{f:PF}:∀ σ H Q,wB K (Dq f) σ H Q->BY (wE K f) σ H Q:=by
 rintro σ H Q ⟨env,Fr,k,rs,q,c⟩;refine⟨env,Fr,_,rs,q,λt bn v H' q1 f8=>?_⟩;cases t <;> first|exact q1.elim|skip
 rename_i b;exact⟨b,iV f8.head,c _ _ _ q1 f8.drop⟩
theorem aP{op:Q2}{g:P2}(ho:OpP X (Ms op) g)(ha:GE X a fa)(hb:GE X b fb)(hm:Nw op b=false):GT X (.Compare a [op] [b] pos) (Dq (wD g fa fb)):=by refine PT.imp (qP ho ha hb hm) λσ H Q h=>?_;obtain⟨env,Fr,k,rs,q,c⟩:=E9 σ H Q h;exact vB σ H _ ⟨env,Fr,k,rs,q,c⟩
noncomputable def DW:T->(Bool->Prop)->Prop
 | .non,k=>k false
 | .bl b,k=>k b
 | .int i,k=>k (i != 0)
 | .str x,k=>x.length<=sizeLine/\k ((x.length:Int) != 0)
 | .tup ts,k=>k (!ts.isEmpty)
 | .cst ts,k=>k (!ts.isEmpty)
 | .lst _ ts,k=>k (!ts.isEmpty)
 | _,_=>False
def Fj(f:PF):PB:=λenv k=>f env λt bn=>DW t λb=>k b bn
theorem sL{β:Type}{l:List α}{m:List β}(h:l.length=m.length):l.isEmpty=m.isEmpty:=by cases l <;> cases m <;> first|rfl|simp at h
theorem lG(ha:GE X a fa)(he:∀whole,Pm a X.env whole=(do let v <-whole;Qr a.pos;N5 [v] (truthy v)):=by intro _;rfl):GT X a (Fj fa):=by
 refine PT.imp (zG ha he) ?_;rintro σ H Q ⟨env,Fr,k,rs,q,c⟩;refine⟨env,Fr,_,rs,q,λt bn v H' q1 f8=>?_⟩;have fin:∀b,k b bn->Q b H':=λb kb=>c _ _ _ kb f8.drop;have sq:∀ts b,items t=some ts->b=(!ts.isEmpty)->k b bn->∃b,DF X.K v H' b/\Q b H':=λts b e eb kb=>by
  obtain⟨a,vs,rfl,hq,l,_⟩:=aC e f8.head;refine⟨b,?_,fin b kb⟩;rw[sL l]at eb;revert hq;cases oS t with
  |true=>exact λhq=>.inr (.inl ⟨vs,hq,eb⟩)
  |false=>exact λhq=>.inl ⟨vs,hq,eb⟩
 cases t with
 |non=>rw[rV f8.head];exact⟨_,rfl,fin _ q1⟩
 |bl b=>rw[iV f8.head];exact⟨_,rfl,fin _ q1⟩
 |int i=>rw[aQ f8.head];exact⟨_,rfl,fin _ q1⟩
 |str x=>rw[jM f8.head];exact⟨_,⟨q1.1,rfl⟩,fin _ q1.2⟩
 |tup ts=>exact sq _ _ rfl rfl q1
 |cst ts=>exact sq _ _ rfl rfl q1
 |lst o ts=>exact sq _ _ rfl rfl q1
 | _=>exact q1.elim
def Ce(ta tb:PB):PB:=λenv k=>ta env λb am=>cnd b (tb am k) (k false am)
def G4(ta tb:PB):PB:=λenv k=>ta env λb am=>cnd b (k true am) (tb am k)
noncomputable def C8(ta:PB):PB:=λenv k=>ta env λb am=>k (!b) am
variable{ta tb:PB}{rest:List LY}
theorem vE(ha:GT X a ta):GW X (.BoolOp .And [a] pos) ta:=Bz ha
theorem nG(ha:GT X a ta):GW X (.BoolOp .Or [a] pos) ta:=E1 ha
theorem uU(ha:GT X a ta)(hb:GW X (.BoolOp .And (b::rest) pos) tb):GW X (.BoolOp .And (a::b::rest) pos) (Ce ta tb):=by
 refine PW.imp (CN ha hb) ?_;rintro σ H Q ⟨env,Fr,k,rs,q,c⟩;refine⟨env,Fr,_,rs,q,λb bn H' q1 f8=>jo ⟨λe=>?_,λe=>?_⟩⟩
 ·exact⟨bn,Fr,k,f8,q1.1 e,c⟩
 exact c _ _ _ (q1.2 e) f8
theorem pY(ha:GT X a ta)(hb:GW X (.BoolOp .Or (b::rest) pos) tb):GW X (.BoolOp .Or (a::b::rest) pos) (G4 ta tb):=by
 refine PW.imp (G0 ha hb) ?_;rintro σ H Q ⟨env,Fr,k,rs,q,c⟩;refine⟨env,Fr,_,rs,q,λb bn H' q1 f8=>jo ⟨λe=>?_,λe=>?_⟩⟩
 ·exact c _ _ _ (q1.1 e) f8
 exact⟨bn,Fr,k,f8,q1.2 e,c⟩
theorem u6{f:PB}(h:GW X a f):GT X a f:=PW.pt h
theorem oH(ha:GT X a ta):GT X (.UnaryOp .Not a pos) (C8 ta):=by refine PT.imp (Ee ha) ?_;rintro σ H Q ⟨env,Fr,k,rs,q,c⟩;exact⟨env,Fr,_,rs,q,λb bn H' q1 f8=>c _ _ _ q1 f8⟩
def Fv(fa fb:PF):PF:=λenv k=>fa env λt am=>match t with
 | .bl b=>cnd b (fb am k) (k (.bl false) am)
 | _=>False
noncomputable def Fu(fa:PF):PF:=λenv k=>fa env λt am=>match t with
 | .bl b=>k (.bl (!b)) am
 | _=>False
def fIf(tc:PB)(fa fb:PF):PF:=λenv k=>tc env λb am=>cnd b (fa am k) (fb am k)
theorem k6{op}(h:GE X a fa):GE X (.BoolOp op [a] pos) fa:=Eb h
theorem gj(ha:GE X a fa)(hb:GE X (.BoolOp .And (b::rest) pos) fb):GE X (.BoolOp .And (a::b::rest) pos) (Fv fa fb):=by
 refine PE.imp (E4 ha hb) ?_;rintro σ H Q ⟨env,Fr,k,rs,q,c⟩;refine⟨env,Fr,_,rs,q,λt bn v H' q1 f8=>?_⟩;cases t <;> first|exact q1.elim|skip
 rename_i bb;refine⟨bb,iV f8.head,jo ⟨λe=>?_,λe=>?_⟩⟩
 ·exact⟨bn,Fr,k,f8.drop,q1.1 e,c⟩
 exact c _ _ _ _ (q1.2 e) (j6 f8.drop λ_=>.bl)
theorem uf(ha:GE X a fa):GE X (.UnaryOp .Not a pos) (Fu fa):=by
 refine PE.imp (DP ha) ?_;rintro σ H Q ⟨env,Fr,k,rs,q,c⟩;refine⟨env,Fr,_,rs,q,λt bn v H' q1 f8=>?_⟩;cases t <;> first|exact q1.elim|skip
 rename_i bb;exact⟨bb,iV f8.head,c _ _ _ _ q1 (j6 f8.drop λ_=>.bl)⟩
theorem ge_if(hc:GT X c ta)(ha:GE X a fa)(hb:GE X b fb):GE X (.IfExp c a b pos) (fIf ta fa fb):=by
 refine PE.imp (zl hc ha hb) ?_;rintro σ H Q ⟨env,Fr,k,rs,q,c⟩;refine⟨env,Fr,_,rs,q,λb bn H' q1 f8=>jo ⟨λe=>?_,λe=>?_⟩⟩
 ·exact⟨bn,Fr,k,f8,q1.1 e,c⟩
 exact⟨bn,Fr,k,f8,q1.2 e,c⟩
noncomputable def CW:PFs:=λenv k=>k [] env
noncomputable def C5(f:PF)(r:PFs):PFs:=λenv k=>f env λt am=>r am λts ca=>k (t::ts) ca
variable{es:List LY}{fr:PFs}
theorem ae:GA X [] CW:=PA.imp jS (by rintro σ H Q ⟨env,Fr,k,rs,q,c⟩;exact c [] env [] H q rfl rs)
theorem aa(ha:GE X a fa)(hr:GA X es fr)(hs:L3 (a::es) X.env=(false,Mi a X.env)::L3 es X.env:=by rfl):GA X (a::es) (C5 fa fr):=by refine PA.imp (gK ha hr hs) ?_;rintro σ H Q ⟨env,Fr,k,rs,q,c⟩;refine⟨env,Fr,_,rs,q,λt am v H1 q1 f8=>⟨am,_,_,f8,q1,λts ca vs H2 q2 l rs2=>c _ _ _ _ q2 (by rw[f_,f_,l]) ?_⟩⟩;exact rs2.perm d_
noncomputable def EE(fr:PFs):PF:=λenv k=>fr env λts am=>ts.length<=sizeLine/\k (.tup ts) am
noncomputable def FR(fr:PFs):PF:=λenv k=>fr env λts am=>ts.length<=sizeLine/\k (.lst true ts) am
theorem aw{x1}(h:GA X es fr):GE X (.Tuple es x1 pos) (EE fr):=by refine PE.imp (Bi h) ?_;rintro σ H Q ⟨env,Fr,k,rs,q,c⟩;refine⟨env,Fr,_,rs,q,λts am vs H1 ⟨z,q1⟩ l f8=>⟨by rw[<-l];exact z,λp H2 hp g e=>c _ _ _ _ q1 ?_⟩⟩;exact Rs.chg (Δ:=zz ts vs) (Δ':=[(.tup ts,some (.ref p))]) f8 λΓ r=>iz r l g e
theorem bQ(h:GA X es fr):GE X (.List es pos) (FR fr):=by refine PE.imp (Ad h) ?_;rintro σ H Q ⟨env,Fr,k,rs,q,c⟩;refine⟨env,Fr,_,rs,q,λts am vs H1 ⟨z,q1⟩ l f8=>⟨by rw[<-l];exact z,λp H2 hp g e=>c _ _ _ _ q1 ?_⟩⟩;exact Rs.chg (Δ:=zz ts vs) (Δ':=[(.lst true ts,some (.ref p))]) f8 λΓ r=>k7 r l hp g e
end
open PySem PySem.Spec PyProof.Rows L2
mutual
noncomputable def dt:T->Dt
 | .int i=>.int i
 | .bl b=>.bl b
 | .str x=>.str x
 | .tup ts=>.tup (dtL ts)
 | .cst ts=>.tup (dtL ts)
 | .lst _ ts=>.lst (dtL ts)
 | _=>.non
noncomputable def dtL:List T->List Dt
 | []=>[]
 |t::r=>dt t::dtL r
end
mutual
noncomputable def isD:T->Bool
 | .tup ts=>qK ts
 | .cst ts=>qK ts
 | .lst _ ts=>qK ts
 | .int _=>true
 | .bl _=>true
 | .str _=>true
 | .non=>true
 | _=>false
noncomputable def qK:List T->Bool
 | []=>true
 |t::r=>isD t&&qK r
end
section
variable{K:LN}
theorem Ab(g:Gr Hz H):(∀{t v L},RepT K Hz H t v L->isD t=true->Has K H (dt t) v)/\(∀{t v L},RepTs K Hz H t v L->qK t=true->cX K H (dtL t) v)/\(∀{t v L},RepKs K Hz H t v L->True)/\(∀{t v L},RepXs K Hz H t v L->True):=
 jh (P:=λt v L=>isD t=true->Has K H (dt t) v) (Ps:=λt v L=>qK t=true->cX K H (dtL t) v) (Pk:=λt v L=>True) (Px:=λt v L=>True)
  (λn=>nomatch n) (λn=>nomatch n) (λ_ _ n=>nomatch n) (λ_ n=>nomatch n) (λ_=>by show Has K H .non .non;rw[Has]) (λ_=>by rw[dt,Has]) (λ_=>by rw[dt,Has]) (λ_=>by rw[dt,Has]) (λn=>nomatch n)
  (λh c n=>by rw[dt,Has];exact⟨_,_,rfl,SqT.of h,c (by rw[isD]at n;exact n)⟩) (λh c n=>by rw[dt,Has];exact⟨_,_,rfl,wk h H,c (by rw[isD]at n;exact n)⟩)
  (λh c n=>by rw[dt,Has];exact⟨_,_,rfl,SqL.of h,c (by rw[isD]at n;exact n)⟩) (λh c n=>by rw[dt,Has];exact⟨_,_,rfl,.inl (g _ _ h),c (by rw[isD]at n;exact n)⟩)
  (λ_ _ n=>nomatch n) (λ_ _ n=>nomatch n) (λ_ _ n=>nomatch n) (λ_ _ n=>nomatch n)
  (λ_=>by rw[dtL];exact sV) (λi j n=>by rw[qK,E_]at n;rw[dtL];exact qi (i n.1) (j n.2)) trivial (λ_ _=>trivial) trivial (λ_ _=>trivial)
theorem RepT.has (g:Gr Hz H)(n:isD t=true)(h:RepT K Hz H t v L):Has K H (dt t) v:=(Ab g).1 h n
theorem B3(h:isD t=true):isAny t=false:=by cases t <;> first|rfl|cases h
theorem rW(h:Rp K H ((t,some y)::Γ))(n:isD t=true):Has K H (dt t) y:=by obtain⟨Hz,L,r,g⟩:=gR h (B3 n);exact r.has g n
end
noncomputable def E8:P2
 | .int i,.int j,k=>k (.int (i+j))
 | .str x,.str y,k=>x.length+y.length<=sizeLine/\k (.str (x++y))
 | .lst _ ts,.lst _ us,k=>ts.length+us.length<=sizeLine/\k (.lst true (ts++us))
 | .tup ts,.tup us,k=>ts.length+us.length<=sizeLine/\k (.tup (ts++us))
 | _,_,_=>False
noncomputable def ET:P2
 | .int i,.int j,k=>k (.int (i-j))
 | _,_,_=>False
def Ft:P2
 | .int i,.int j,k=>x6 i j/\k (.int (i*j))
 | _,_,_=>False
def EW:P2
 | .int i,.int j,k=>A2 i j/\k (.int (i/j))
 | _,_,_=>False
noncomputable def FL:P2
 | .int i,.int j,k=>0<j/\k (.int (i%j))
 | _,_,_=>False
noncomputable def Cr(p:Int->Int->Bool):P2
 | .int i,.int j,k=>k (.bl (p i j))
 | _,_,_=>False
def ltT:P2:=Cr λi j=>decide (i<j)
def leT:P2:=Cr λi j=>decide (i<=j)
def gtT:P2:=Cr λi j=>decide (j<i)
noncomputable def isV:T->Bool
 | .any=>false
 | .hole _=>false
 | .bare=>false
 | .kp _=>false
 | _=>true
noncomputable def pU:T->Bool
 | .non=>true
 | _=>false
def Cc:P2
 |t,.non,k=>isV t=true/\k (.bl (!pU t))
 | _,_,_=>False
def eqT:P2:=λt u k=>isD t=true/\isD u=true/\dpt (dt t)<190/\k (.bl (eqD (dt t) (dt u)))
def neT:P2:=λt u k=>isD t=true/\isD u=true/\dpt (dt t)<190/\k (.bl (!eqD (dt t) (dt u)))
variable {o:Bool}{r':Int->Int->V}
section
variable{X:Cx}
theorem qS{C:Int->Int->Prop}{r:Int->Int->T}(h:OpR X f (rI C r'))(hr:∀i j K Hz H,RepT K Hz H (r i j) (r' i j) []):OpP X f (λt u k=>match t,u with | .int i,.int j=>C i j/\k (r i j) | _,_=>False):=by
 refine .of h ?_;intro tx ty x y H Γ k Q rp g c;cases tx <;> cases ty <;> first|exact g.elim|skip
 rename_i i j;rw[aQ rp,aQ rp.tail];exact⟨i,j,rfl,rfl,g.1,c _ _ _ g.2 (cQ rp.tail.tail λHz=>hr i j _ _ _)⟩
theorem kK{r:Int->Int->T}(h:OpR X f (rI0 r'))(hr:∀i j K Hz H,RepT K Hz H (r i j) (r' i j) []):OpP X f (λt u k=>match t,u with | .int i,.int j=>k (r i j) | _,_=>False):=by
 refine .of h ?_;intro tx ty x y H Γ k Q rp g c;cases tx <;> cases ty <;> first|exact g.elim|skip
 rename_i i j;rw[aQ rp,aQ rp.tail];exact⟨i,j,rfl,rfl,c _ _ _ g (cQ rp.tail.tail λHz=>hr i j _ _ _)⟩
theorem OpP.imp {g g':P2}(h:OpP X f g)(k:∀tx ty k,g' tx ty k->g tx ty k):OpP X f g':=OpR.imp h (by rintro x y H Q ⟨tx,ty,Γ,kk,rp,gg,c⟩;exact⟨tx,ty,Γ,kk,rp,k _ _ _ gg,c⟩)
theorem Inv.EY {σ:L2.St}{l:LO}(I:Inv X ad σ H s)(hH:Rd H l (.lst xs)):xs.length<=sizeLine/\∃(bi:List LM) (n:Nat),Vals xs bi/\xs.length=bi.length/\s.heap.get? l=some { cls:=.type "list",data:=.seq bi.toArray n}:=by obtain⟨z,bi,n,r,e⟩:=hH.ok I.hok;exact⟨z,bi,n,r,r.length,e⟩
theorem AV:OpR X (MF .Add) (λx y H Q=>∃l b xs zs,x=.ref l/\y=.ref b/\Rd H l (.lst xs)/\Rd H b (.lst zs)/\xs.length+zs.length<=sizeLine/\New (.lst (xs++zs)) H Q):=by
 intro ad s σ H x y v u Q I rx ry h;obtain⟨l,b,xs,zs,rfl,rfl,hH,hB,hz,q⟩:=h;cases rx;cases ry;obtain⟨z,bi,n,r,hl,e⟩:=Inv.EY I hH;obtain⟨z2,its2,n2,r2,hl2,e2⟩:=Inv.EY I hB;refine PySem.P.add_list e e2 ?_ (by rw[j_,j_];lia);have ea:bi.toArray++its2.toArray=(bi++its2).toArray:=by simp
 rw[ea];exact⟨.ref _,_,I.Gu (t':=s.toks) (r.append r2) (by rw[b_];omega),rfl,q.at I.fresh⟩
theorem mU(h:Rp K H ((.lst o ts,some y)::Γ)):∃a vs,y=.ref a/\Rd H a (.lst vs)/\ts.length=vs.length/\Rp K H (zz ts vs++Γ):=by
 obtain⟨Hz,N,h,nd,g,d⟩:=h;cases h with
 |cons e1 h c=>
  rcases h with⟨z,_⟩|⟨v,e2,h⟩
  ·cases z
  cases e2;cases h
  ·rename_i a vs L h c1;rw[e1,F_,kw]at nd;exact⟨a,vs,rfl,.inl h,c1.len,Hz,_,c1.toL.app c,nd.2,g,λb m=>d b (by rw[e1,F_];exact l_ _ m)⟩
  rename_i a vs h c1;exact⟨a,vs,rfl,g _ _ h,c1.len,Hz,_,c1.toL.app c,by rw[<-e1];exact nd,g,λb m=>d b (by rw[e1];exact m)⟩
theorem mR(h:Rp K H ((.tup ts,some y)::Γ)):∃a vs,y=.ref a/\H a=some (.tup vs)/\ts.length=vs.length/\Rp K H (zz ts vs++Γ):=by
 obtain⟨Hz,N,h,nd,g,d⟩:=h;cases h with
 |cons e1 h c=>
  rcases h with⟨z,_⟩|⟨v,e2,h⟩
  ·cases z
  cases e2;cases h with
  |tup h c1=>exact⟨_,_,rfl,h,c1.len,Hz,_,c1.toL.app c,by rw[<-e1];exact nd,g,λb m=>d b (by rw[e1];exact m)⟩
theorem jF{us:List T}{ws:List V}(l:ts.length=vs.length):zz (ts++us) (vs++ws)=zz ts vs++zz us ws:=by show(ts++us).zip ((vs++ws).map some)=_;rw[p_,Lh (by rw[a_];exact l)]
theorem A8:OpR X (MF .Add) (λx y H Q=>∃a b ys,x=.ref a/\y=.ref b/\SqT X.K H a []/\SqT X.K H b ys/\Q (.ref b) H):=by
 intro ad s σ H x y v u Q I rx ry h;obtain⟨a,b,ys,rfl,rfl,ha,hb,q⟩:=h;cases rx;cases ry;obtain⟨bi,r1,p1,_⟩:=I.tuple ha;obtain⟨its2,r2,p2,_⟩:=I.tuple hb;cases r1;obtain⟨⟨cls,dd,data,sl⟩,ho,hc,n,hd⟩:=id p1;obtain⟨⟨cls2,dd2,data2,sl2⟩,ho2,hc2,n2,hd2⟩:=id p2;simp only at hc hd hc2 hd2;subst hc hd hc2 hd2;exact Pp ⟨_,ho,rfl⟩ ⟨_,ho2,rfl⟩ OG Pf NU NP (NI _ _)
  (tuple_addW0 a b _ its2.toArray n n2 dd dd2 sl sl2 (by simp)) ⟨ho,ho2,⟨.ref b,H,I,rfl,q⟩⟩
theorem aq:OpP X (MF .Add) E8:=by
 rintro ad s σ H x y v u Q I rx ry ⟨tx,ty,Γ,k,rp,g,c⟩;cases tx <;> cases ty <;> first|exact L4 g|skip
 ·rename_i i j;rw[aQ rp]at ry;rw[aQ rp.tail]at rx;exact nA ad s σ H _ _ v u Q I rx ry ⟨i,j,rfl,rfl,c _ _ _ g (cQ rp.tail.tail λ_=>.int)⟩
 ·rename_i i j;rw[jM rp]at ry;rw[jM rp.tail]at rx;exact uH ad s σ H _ _ v u Q I rx ry ⟨i,j,rfl,rfl,g.1,c _ _ _ g.2 (cQ rp.tail.tail λ_=>.str)⟩
 ·rename_i ts us;obtain⟨b,ws,rfl,hb,lb,db⟩:=mR rp;obtain⟨a,vs,rfl,ha,la,dL⟩:=mR (db.perm d_);have lz:vs.length+ws.length<=sizeLine:=by rw[<-la,<-lb];exact g.1
  have rp4:Rp X.K H (zz (ts++us) (vs++ws)++Γ):=by rw[jF la,g_];exact dL
  by_cases hx:vs=[]
  ·subst hx;refine A8 ad s σ H _ _ v u Q I rx ry ⟨a,b,ws,rfl,rfl,SqT.of ha,SqT.of hb,?_⟩;refine c _ _ _ g.2 (iz rp4 (by rw[b_,b_,la,lb]) .ja ?_);rw[Hx];exact hb
  refine A9 ad s σ H _ _ v u Q I rx ry ⟨a,b,vs,ws,rfl,rfl,SqT.of ha,SqT.of hb,hx,lz,λe=>?_,λ_ p hp=>c _ _ _ g.2 (iz rp4 (by rw[b_,b_,la,lb]) (cM hp _) aV)⟩;refine c _ _ _ g.2 (iz rp4 (by rw[b_,b_,la,lb]) .ja ?_);rw[e,Hn];exact ha
 rename_i o ts o' us;obtain⟨b,ws,rfl,hb,lb,db⟩:=mU rp;obtain⟨a,vs,rfl,ha,la,dL⟩:=mU (db.perm d_);have lz:vs.length+ws.length<=sizeLine:=by rw[<-la,<-lb];exact g.1
 have rp4:Rp X.K H (zz (ts++us) (vs++ws)++Γ):=by rw[jF la,g_];exact dL
 exact AV ad s σ H _ _ v u Q I rx ry ⟨a,b,vs,ws,rfl,rfl,ha,hb,lz,λp H' hp g' e=>c _ _ _ g.2 (k7 rp4 (by rw[b_,b_,la,lb]) hp g' e)⟩
theorem aD:OpP X (MF .Sub) ET:=(kK (r:=λi j=>.int (i-j)) Eh λ_ _ _ _ _=>.int).imp λtx ty k g=>by cases tx <;> cases ty <;> exact g
theorem cY:OpP X (MF .Mult) Ft:=(qS (r:=λi j=>.int (i*j)) k9 λ_ _ _ _ _=>.int).imp λtx ty k g=>by cases tx <;> cases ty <;> exact g
theorem gm:OpP X (MF .FloorDiv) EW:=(qS (r:=λi j=>.int (i/j)) wa λ_ _ _ _ _=>.int).imp λtx ty k g=>by cases tx <;> cases ty <;> exact g
theorem rQ:OpP X (MF .Mod) FL:=(qS (r:=λi j=>.int (i%j)) jJ λ_ _ _ _ _=>.int).imp λtx ty k g=>by cases tx <;> cases ty <;> exact g
theorem o8:OpP X (Ms .Lt) ltT:=(kK (r:=λi j=>.bl (decide (i<j))) FA λ_ _ _ _ _=>.bl).imp λtx ty k g=>by cases tx <;> cases ty <;> exact g
theorem qT:OpP X (Ms .LtE) leT:=(kK (r:=λi j=>.bl (decide (i<=j))) G5 λ_ _ _ _ _=>.bl).imp λtx ty k g=>by cases tx <;> cases ty <;> exact g
theorem CF:OpP X (Ms .Gt) gtT:=(kK (r:=λi j=>.bl (decide (j<i))) FD λ_ _ _ _ _=>.bl).imp λtx ty k g=>by cases tx <;> cases ty <;> exact g
theorem BX{k:Nat}{A:L_}(r:Room k A){n:Nat}(h:n<190):A.units+n<cLine:=by have:=r.un;lia
theorem bo{k:Nat}(hr:Room k X.A):OpP X (Ms .Eq) eqT:=.of yD λtx ty x y H Γ k Q rp ⟨d1,d2,z,g⟩ c=>
 ⟨dt tx,dt ty,rW rp.tail d1,rW rp d2,BX hr z,c _ _ _ g (cQ rp.tail.tail λ_=>.bl)⟩
theorem qx{k:Nat}(hr:Room k X.A):OpP X (Ms .NotEq) neT:=.of Dv λtx ty x y H Γ k Q rp ⟨d1,d2,z,g⟩ c=>
 ⟨dt tx,dt ty,rW rp.tail d1,rW rp d2,BX hr z,c _ _ _ g (cQ rp.tail.tail λ_=>.bl)⟩
theorem AD{x:V}(rp:Rp K H ((t,some x)::Γ))(n:isV t=true):decide (x=.non)=pU t:=by obtain⟨Hz,L,r,g⟩:=gR rp (by cases t <;> first|rfl|cases n);cases r <;> first|rfl|cases n
theorem sJ:OpP X (Ms .IsNot) Cc:=.of Bg λtx ty x y H Γ k Q rp g c=>by
 cases ty <;> first|exact L4 g|skip
 refine⟨rV rp,?_⟩;rw[AD rp.tail g.1];exact c _ _ _ g.2 (cQ rp.tail.tail λ_=>.bl)
end
open PySem PySem.Spec PyProof.Rows L2
noncomputable def uF:T->Option Key
 | .int i=>some (.inl i)
 | .str x=>some (.inr x)
 | .non=>some (.inr none)
 | _=>none
def xc:List T->Option (List Key)
 | []=>some []
 |t::r=>match uF t,xc r with
  |some k,some ks=>some (k::ks)
  | _,_=>none
section
variable{κ:Type}[DecidableEq κ]
noncomputable def yT(ap:List (κ×T))(k:κ):Option T:=(ap.find? λkv=>decide (kv.1=k)).map (·.2)
noncomputable def oW(ap:List (κ×T))(k:κ)(v:T):List (κ×T):=
 if(ap.any λkv=>decide (kv.1=k))=true then ap.map (λkv=>if kv.1=k then(kv.1,v)else kv)else ap++[(k,v)]
theorem lx:∀{ts:List (κ×T)}{vs:List (κ×V)}{q:κ}{u:T},ts.map (·.1)=vs.map (·.1)->yT ts q=some u->∃(w:V) (i:Nat),gy vs q=some w/\(ts.map (·.2))[i]?=some u/\(vs.map (·.2))[i]?=some w
 | [],vs,q,u,e,h=>by cases h
 | (k,t)::ts,[],q,u,e,h=>by cases e
 | (k,t)::ts,(k',v)::vs,q,u,e,h=>by
  rw[h_,h_,HU]at e;have e0:k=k':=e.1;subst e0;unfold yT at h;rw[HH]at h;unfold gy;rw[HH];by_cases hk:k=q
  ·have hk':decide (k=q)=true:=decide_eq_true hk;rw[show decide ((k,t).1=q)=true from hk']at h;rw[show decide ((k,v).1=q)=true from hk'];cases h;exact⟨v,0,rfl,rfl,rfl⟩
  have hk':decide (k=q)=false:=decide_eq_false hk;rw[show decide ((k,t).1=q)=false from hk']at h;rw[show decide ((k,v).1=q)=false from hk'];obtain⟨w,i,h1,h2,h3⟩:=lx (ts:=ts) (vs:=vs) e.2 h;exact⟨w,i+1,h1,by simpa using h2,by simpa using h3⟩
end
section
variable{K:LN}{H:Hp}{Γ:Fm}
theorem zj{ts:List (Key×T)}(h:Rp K H ((.dK o ts,some y)::Γ)):∃a vs,y=.ref a/\Rd H a (.dK vs)/\ts.map (·.1)=vs.map (·.1)/\Rp K H (zz (ts.map (·.2)) (vs.map (·.2))++Γ):=by
 obtain⟨Hz,N,h,nd,g,d⟩:=h;cases h with
 |cons e1 h c=>
  rcases h with⟨z,_⟩|⟨v,e2,h⟩
  ·cases z
  cases e2;cases h
  ·rename_i a vs L h c1;obtain⟨ek,c2⟩:=c1.toL;rw[e1,F_,kw]at nd;exact⟨a,vs,rfl,.inl h,ek,Hz,_,c2.toL.app c,nd.2,g,λb m=>d b (by rw[e1,F_];exact l_ _ m)⟩
  rename_i a vs h c1;obtain⟨ek,c2⟩:=c1.toL;exact⟨a,vs,rfl,g _ _ h,ek,Hz,_,c2.toL.app c,by rw[<-e1];exact nd,g,λb m=>d b (by rw[e1];exact m)⟩
theorem xT{ts:List (List Key×T)}(h:Rp K H ((.dT o ts,some y)::Γ)):∃a vs,y=.ref a/\Rd H a (.dT vs)/\ts.map (·.1)=vs.map (·.1)/\Rp K H (zz (ts.map (·.2)) (vs.map (·.2))++Γ):=by
 obtain⟨Hz,N,h,nd,g,d⟩:=h;cases h with
 |cons e1 h c=>
  rcases h with⟨z,_⟩|⟨v,e2,h⟩
  ·cases z
  cases e2;cases h
  ·rename_i a vs L h c1;obtain⟨ek,c2⟩:=c1.toL;rw[e1,F_,kw]at nd;exact⟨a,vs,rfl,.inl h,ek,Hz,_,c2.toL.app c,nd.2,g,λb m=>d b (by rw[e1,F_];exact l_ _ m)⟩
  rename_i a vs h c1;obtain⟨ek,c2⟩:=c1.toL;exact⟨a,vs,rfl,g _ _ h,ek,Hz,_,c2.toL.app c,by rw[<-e1];exact nd,g,λb m=>d b (by rw[e1];exact m)⟩
theorem vh{k:Key}(e:uF t=some k)(h:Rp K H ((t,some y)::Γ)):y=kV k:=by
 cases t <;> cases e
 ·rw[rV h];rfl
 ·rw[aQ h];rfl
 rw[jM h];rfl
theorem yr{k:Key}(e:uF t=some k)(h:RepT K Hz H t v L):v=kV k:=by
 cases t <;> cases e
 ·cases h;rfl
 ·cases h;rfl
 cases h;rfl
theorem pf{Hz:Hp}:∀{ts:List T}{ks:List Key}{vs:List V}{L:List LO},xc ts=some ks->RepTs K Hz H ts vs L->vs=ks.map kV
 | [],ks,_,_,e,r=>by cases r;cases e;rfl
 |t::ts,ks,_,_,e,r=>by
  cases r with
  |cons _ h c=>
   rw[xc]at e;split at e
   ·rename_i k r e1 e2;cases e;rw[yr e1 h,pf e2 c]
    rfl
   cases e
theorem v8{ks:List Key}(e:xc ts=some ks)(h:Rp K H ((.tup ts,some y)::Γ)):∃b,y=.ref b/\H b=some (.tup (ks.map kV)):=by
 obtain⟨Hz,L,r,g⟩:=gR h rfl;cases r with
 |tup h1 c1=>exact⟨_,rfl,by rw[h1,pf e c1]⟩
end
def ixT:P2
 | .tup ts,.int i,k=>got (atI ts i) k
 | .cst ts,.int i,k=>got (atI ts i) k
 | .lst _ ts,.int i,k=>got (atI ts i) k
 | .str x,.int i,k=>x.length<=sizeLine/\got (atI x.cps.toList i) λc=>k (.str ⟨#[c]⟩)
 | .dK _ ap,y,k=>got (uF y) λq=>got (yT ap q) k
 | .dT _ ap,.tup ts,k=>got (xc ts) λq=>got (yT ap q) k
 | _,_,_=>False
variable {kr:Nat}{pos:Pos}
section
variable{X:Cx}
theorem vx(hu:X.A.units+1<cLine):IxR X (λx y H Q=>∃a v,x=.ref a/\mK H a y (some v)/\Q v H):=by
 intro value slice ad s σ H x y v u Q I rx ry h hs;obtain⟨a,z,rfl,g,q⟩:=h;cases rx;have hT:=md I g;unfold NY;refine LL ?_;rw[O3 hT.not_modules];refine LL (MX hT OA.lookup ?_);have fin:LS (LW X.prog X.w) X.A (Of slice false (.ref a) u) (λr s₃=>LS (LW X.prog X.w) X.A (Qx value (.ref a) r >>= λ_=>pure r) (EP X ad σ Q) X.xe s₃) X.xe s:=by rw[hs];refine Qf (pC hu I g ry λw' s' I' r'=>LL (Pc (LR ⟨z,H,I',r',q⟩)))
 first
  |exact LR (LL fin)
  |exact LL (LR (LL fin))
  |exact LL fin
theorem GC(hr:Room kr X.A):IxR X (w2 X.K ixT):=by
 rintro value slice ad s σ H x y v u Q I rx ry ⟨tx,ty,Γ,k,rp,g,c⟩ hs;have sq:∀ts i,items tx=some ts->ty=.int i->got (atI ts i) k->LS (LW X.prog X.w) X.A (NY value slice v u) (EP X ad σ Q) X.xe s:=λts i e1 e2 g=>by obtain⟨t,et,kt⟩:=aG g;subst e2;rw[aQ rp]at ry;obtain⟨a,vs,rfl,hq,l,db⟩:=aC e1 rp.tail;obtain⟨w,ew,dL⟩:=zY l et db;exact Gw value slice ad s σ H _ _ v u Q I rx ry ⟨_,a,vs,i,w,rfl,rfl,hq,ew,c _ _ _ kt dL⟩ hs
 cases tx with
 |tup ts=>cases ty <;> first|exact L4 g|exact sq _ _ rfl rfl g
 |cst ts=>cases ty <;> first|exact L4 g|exact sq _ _ rfl rfl g
 |lst o ts=>cases ty <;> first|exact L4 g|exact sq _ _ rfl rfl g
 |str z=>
  cases ty <;> first|exact L4 g|skip
  rename_i i;obtain⟨hz,g⟩:=g;obtain⟨t,et,kt⟩:=aG g;rw[aQ rp]at ry;rw[jM rp.tail]at rx;exact yg value slice ad s σ H _ _ v u Q I rx ry ⟨z,i,t,rfl,rfl,hz,et,c _ _ _ kt (cQ rp.tail.tail λ_=>.str)⟩ hs
 |dK o ap=>
  have g:got (uF ty) λq=>got (yT ap q) k:=by cases ty <;> exact g
  obtain⟨q,eq,g⟩:=aG g;obtain⟨t,et,kt⟩:=aG g;rw[vh eq rp]at ry;obtain⟨a,vs,rfl,hq,ek,db⟩:=zj rp.tail;obtain⟨w,i,ew,e1,e2⟩:=lx ek et;exact vx (pH hr) value slice ad s σ H _ _ v u Q I rx ry ⟨a,w,rfl,.inl ⟨vs,q,hq,rfl,ew.symm⟩,c _ _ _ kt (lh db e1 e2)⟩ hs
 |dT o ap=>
  cases ty <;> first|exact L4 g|skip
  rename_i ts;obtain⟨q,eq,g⟩:=aG g;obtain⟨t,et,kt⟩:=aG g;obtain⟨b,rfl,hb⟩:=v8 eq rp;obtain⟨a,vs,rfl,hq,ek,db⟩:=xT rp.tail;obtain⟨w,i,ew,e1,e2⟩:=lx ek et;exact vx (pH hr) value slice ad s σ H _ _ v u Q I rx ry ⟨a,w,rfl,.inr ⟨vs,q,b,hq,rfl,hb,ew.symm⟩,c _ _ _ kt (lh db e1 e2)⟩ hs
 | _=>cases ty <;> exact L4 g
theorem az{a b:LY}{fb:PF}(hr:Room kr X.A)(ha:GE X a fa)(hb:GE X b fb)(hs:vO b:=by intro _ _;rfl):GE X (.Subscript a b pos) (wD ixT fa fb):=PE.imp (Ca (GC hr) ha hb hs) vB
noncomputable def fUn(g:T->(T->Prop)->Prop)(fa:PF):PF:=λenv k=>fa env λt am=>g t λu=>k u am
noncomputable def ER:T->(T->Prop)->Prop
 | .int i,k=>k (.int (-i))
 | _,_=>False
theorem rT{a:LY}(ha:GE X a fa):GE X (.UnaryOp .USub a pos) (fUn ER fa):=by
 refine PE.imp (Fx Dh ha) ?_;rintro σ H Q ⟨env,Fr,k,rs,q,c⟩;refine⟨env,Fr,_,rs,q,λt am v H1 q1 f8=>?_⟩;cases t <;> first|exact L4 q1|skip
 rename_i i;exact⟨i,aQ f8.head,c _ _ _ _ q1 (j6 f8.drop λ_=>.int)⟩
end
open PySem PySem.Spec PyProof.Rows L2
abbrev P1s:=List T->(T->Prop)->Prop
def w1s(K:LN)(g:P1s):List V->Hp->VK->Prop:=λxs H Q=>∃ts Γ k,ts.length=xs.length/\Rp K H (zz ts xs++Γ)/\g ts k/\∀t v H',k t->Rp K H' ((t,some v)::Γ)->Q v H'
def jg(X:Cx)(f:LM)(g:P1s):Prop:=bX X f (w1s X.K g)
noncomputable def fCl(g:P1s)(fr:PFs):PF:=λenv k=>fr env λts am=>g ts λt=>k t am
section
variable{X:Cx}{e:LY}{es:List LY}{fr:PFs}{pos p:Pos}{x:Str}{g:P1s}
theorem Cg:∀ σ H Q,wE X.K (fCl g fr) σ H Q->tCB (w1s X.K g) (wA X.K fr) σ H Q:=by rintro σ H Q ⟨env,Fr,k,rs,q,c⟩;refine⟨env,Fr,_,rs,q,λts am vs H1 q1 l f8=>?_⟩;refine⟨ts,am.zip σ++Fr,_,l,?_,q1,λt v H' kt rp=>c _ _ _ _ kt (.of f8.1 rp)⟩;refine f8.2.perm ?_;rw[<-g_,<-g_];exact Hv.append_right _
theorem ax{id:String}(hc:jg X (.builtin id) g)(hg:Gl X x)(hm:X.mg x=none)(hv:MQ x=some (.builtin id))(ha:GA X (e::es) fr)(hn:x≠"__name__":=by decide)(hdb:(x ==("__debug__":Str))=false:=by decide)
  (he:L3 (e::es) X.env=(false,Mi e X.env)::L3 es X.env:=by rfl) (hpl:(Nm pos (L3 es X.env)).any (·.1)=false:=by rfl):GE X (.Call (.Name x p) (e::es) [] pos) (fCl g fr):=PE.imp (oa hc hg hm hv ha hn hdb he hpl) Cg
theorem eY{id:String}(hc:jg X (.type id) g)(hg:Gl X x)(hm:X.mg x=none)(hv:MQ x=some (.type id))(ha:GA X (e::es) fr)(hn:x≠"__name__":=by decide)(hdb:(x ==("__debug__":Str))=false:=by decide)
  (he:L3 (e::es) X.env=(false,Mi e X.env)::L3 es X.env:=by rfl) (hpl:(Nm pos (L3 es X.env)).any (·.1)=false:=by rfl):GE X (.Call (.Name x p) (e::es) [] pos) (fCl g fr):=PE.imp (pR hc hg hm hv ha hn hdb he hpl) Cg
end
variable {E Q:LM->LP->Prop}{ap:List (List Key×V)}{w:L0}
section
variable{X:Cx}
theorem zz1(l:ts.length=xs.length)(e:ts=[t]):∃x,xs=[x]:=by
 subst e;rcases xs with _|⟨x,_|⟨y,xs⟩⟩
 ·cases l
 ·exact⟨x,rfl⟩
 cases l
theorem zz2{u:T}(l:ts.length=xs.length)(e:ts=[t,u]):∃x y,xs=[x,y]:=by
 subst e;rcases xs with _|⟨x,xs⟩
 ·cases l
 obtain⟨y,rfl⟩:=zz1 (ts:=[u]) (HX l) rfl;exact⟨x,y,rfl⟩
theorem zz3{u w:T}(l:ts.length=xs.length)(e:ts=[t,u,w]):∃x y z,xs=[x,y,z]:=by
 subst e;rcases xs with _|⟨x,xs⟩
 ·cases l
 obtain⟨y,z,rfl⟩:=zz2 (ts:=[u,w]) (HX l) rfl;exact⟨x,y,z,rfl⟩
theorem uL{prog:LV}(d:LO)(nd:(d == MO)=false) :
  MeetsIn prog w (Nq.«dict.__len__» ⟨[.ref d],[]⟩) (λ_ R s=>∃o es ep,s.heap.get? d=some o/\o.data=.dict es ep/\R (.ok (.ret (.int es.size s.toks))) {s with toks:=s.toks+1}):=
 .of_wp λA R s ⟨o,es,ep,ho,hdat,q⟩=>by show LS _ _ (dictSize d >>= _) _ _ s;unfold dictSize;refine LL (LL (wpAny_dictEntries ho hdat (LR ?_)));show LS _ _ (Q4 d >>= _) _ _ s;exact LL (wpAny_pendingCount_other nd (wpAny_ret_mkInt (by rw[KY];exact q)))
theorem Am{prog:LV}{A:L_}{d:LO}{o:Obj}{es:Array QI}{ep:Nat}(nd:(d == MO)=false)(ho:s.heap.get? d=some o)(hc:o.ExactDict)(hdat:o.data=.dict es ep)
  (fit:(es.size:Int)<2 ^ 63) (q:∀t tk,Q (.int es.size t) {s with toks:=tk}):LS (LW prog w) A (call (.builtin "len") [.ref d]) Q E s:=by
 have ty:s.TypeIs (.ref d) "dict":=⟨_,ho,hc.1⟩;refine Calls.call_function_entry kind_len plain_len entry_len (args_len1 _) ?_;unfold Nq.«len»;refine LL (m:=oneArg "len" _) (LR ?_);refine LL (m:=callSpecial? (.ref d) (MT "__len__")) (Mu (name:=MT "__len__") ty O5
  (call_meetsIn O5 ty PySem.F.entry_dict_len (PySem.F.args_dict_len_1 _) (uL d nd) ⟨o,es,ep,ho,hdat,?_⟩))
 show LS _ _ _ _ _ {s with toks:=s.toks+1};refine LL (Ma (LR (LL (NV ?_))));show LS _ _ (if((es.size:Nat):Int)<0 then _ else _) _ _ _;rw[if_neg (by lia)];show LS _ _ (if((es.size:Nat):Int)>=2 ^ 63 then _ else _) _ _ _;rw[if_neg (by lia)];exact LL (Rj (LR ⟨_,rfl,q _ _⟩))
theorem DN{σ:L2.St}(I:Inv X ad σ H s)(e:Rd H a (.dT ap))(q:∀t s',Inv X ad σ H s'->Q (.int ap.length t) s'):LS (LW X.prog X.w) X.A (call (.builtin "len") [.ref a]) Q E s:=by
 obtain⟨z,hd,xs,rel,o,es,ep,h1,h2,h3,h4,_⟩:=vm I.hok e;have hs:es.size=ap.length:=by have:=congrArg Kq h4;rw[a_]at this;rw[<-G',this];exact(NX rel).symm
 refine Am hd h1 h2 h3 (by rw[Mt]at z;lia) λt tk=>?_
 rw[hs];exact q _ _ (I.tok _)
def AJ:P1s
 | [t],k=>match t with
  | .str x=>x.length<=sizeLine/\k (.int x.length)
  | .dK _ ap=>k (.int ap.length)
  | .dT _ ap=>k (.int ap.length)
  |t=>got (items t) λts=>k (.int ts.length)
 | _,_=>False
theorem ba:jg X (.builtin "len") AJ:=by
 rintro ad s σ H xs us Q I r ⟨ts,Γ,k,l,rp,g,c⟩
 match ts,l,g with
 | [t],l,g=>
  obtain⟨x,rfl⟩:=zz1 l rfl;have rp:Rp X.K H ((t,some x)::Γ):=rp;have sq:(got (items t) λts=>k (.int ts.length))->LS (LW X.prog X.w) X.A (call (.builtin "len") us) (EP X ad σ Q) X.xe s:=λg=>by obtain⟨us',e,kt⟩:=aG g;obtain⟨a,vs,rfl,hq,l2,db⟩:=aC e rp;rw[l2]at kt;exact wX ad s σ H _ us Q I r ⟨_,a,vs,rfl,hq,c _ _ _ kt (cQ rp.tail λ_=>.int)⟩
  cases t with
  |str z=>
   rw[jM rp]at r;exact rb ad s σ H _ us Q I r ⟨z,rfl,g.1,c _ _ _ g.2 (cQ rp.tail λ_=>.int)⟩
  |dK o ap=>
   obtain⟨a,vs,rfl,hq,ek,db⟩:=zj rp;obtain⟨u,rfl,ru⟩:=vals1 r;cases ru;have g:k (.int ap.length):=g;rw[cW ek]at g;exact ED I hq λt s' I'=>⟨.int vs.length,H,I',⟨t,rfl⟩,c _ _ _ g (cQ rp.tail λ_=>.int)⟩
  |dT o ap=>
   obtain⟨a,vs,rfl,hq,ek,db⟩:=xT rp;obtain⟨u,rfl,ru⟩:=vals1 r;cases ru;have g:k (.int ap.length):=g;rw[cW ek]at g;exact DN I hq λt s' I'=>⟨.int vs.length,H,I',⟨t,rfl⟩,c _ _ _ g (cQ rp.tail λ_=>.int)⟩
  | _=>exact sq g
 | [],_,g=>exact L4 g
 | _::_::_,_,g=>exact L4 g
noncomputable def FQ:P1s
 | [.int i],k=>k (.int i.natAbs)
 | _,_=>False
theorem eP:jg X (.builtin "abs") FQ:=by
 rintro ad s σ H xs us Q I r ⟨ts,Γ,k,l,rp,g,c⟩;rcases ts with _|⟨t,_|⟨u,ts⟩⟩
 ·exact g.elim
 rotate_left
 ·cases t <;> exact g.elim
 cases t <;> try exact g.elim
 rename_i i;obtain⟨x,rfl⟩:=zz1 l rfl;have rp:Rp X.K H ((.int i,some x)::Γ):=rp;rw[aQ rp]at r;refine yb ad s σ H _ us Q I r ⟨i,rfl,?_⟩;have e:(if i<0 then -i else i)=(i.natAbs:Int):=by split <;> lia
 rw[e];exact c _ _ _ g (cQ rp.tail λ_=>.int)
noncomputable def intsOf:List T->Option (List Int)
 | []=>some []
 | .int i::r=>match intsOf r with
  |some ns=>some (i::ns)
  |none=>none
 | _::_=>none
theorem jm:∀{ts:List T}{ns:List Int},intsOf ts=some ns->ts=ns.map T.int
 | [],ns,e=>by cases e;rfl
 |t::ts,ns,e=>by
  cases t <;> first|cases e|skip
  rename_i i;rw[intsOf]at e;split at e
  ·rename_i ms em;cases e;rw[h_,jm em]
  cases e
theorem jq{K:LN}{H:Hp}{Γ:Fm}:∀{ns:List Int}{vs:List V},(ns.map T.int).length=vs.length->Rp K H (zz (ns.map T.int) vs++Γ)->vs=ns.map V.int
 | [],[],_,_=>rfl
 | [],_::_,l,_=>by simp at l
 | _::_,[],l,_=>by simp at l
 |n::ns,v::vs,l,h=>by
  have h:Rp K H ((.int n,some v)::(zz (ns.map T.int) vs++Γ)):=h;rw[aQ h,jq (by simpa using l) h.tail]
  rfl
def DT:P1s
 | [.int i,.int j],k=>k (.int (max i j))
 | [.int i,.int j,.int l],k=>k (.int (max (max i j) l))
 | [t],k=>got (items t) λts=>got (intsOf ts) λns=>ns≠[]/\∀r,yd ns r->k (.int r)
 | _,_=>False
def Cw:P1s
 | [.int i,.int j],k=>k (.int (min i j))
 | [.int i,.int j,.int l],k=>k (.int (min (min i j) l))
 | [t],k=>got (items t) λts=>got (intsOf ts) λns=>ns≠[]/\∀r,y9 ns r->k (.int r)
 | _,_=>False
theorem gY(hc:X.calm=true):jg X (.builtin "max") DT:=by
 rintro ad s σ H xs us Q I r ⟨ts,Γ,k,l,rp,g,c⟩;unfold DT at g;split at g
 ·rename_i k i j;obtain⟨x,y,rfl⟩:=zz2 l rfl;have rp:Rp X.K H ((.int i,some x)::(.int j,some y)::Γ):=rp;rw[aQ rp,aQ rp.tail]at r;refine xo hc ad s σ H _ us Q I r ⟨i,j,rfl,?_⟩;have e:(if j > i then j else i)=max i j:=by split <;> lia
  rw[e];exact c _ _ _ g (cQ rp.tail.tail λ_=>.int)
 ·rename_i k i j m;obtain⟨x,y,z,rfl⟩:=zz3 l rfl;have rp:Rp X.K H ((.int i,some x)::(.int j,some y)::(.int m,some z)::Γ):=rp;rw[aQ rp,aQ rp.tail,aQ rp.tail.tail]at r;refine xM hc ad s σ H _ us Q I r ⟨i,j,m,rfl,λw h1 h2 h3 h4=>?_⟩;have e:w=max (max i j) m:=by lia
  rw[e];exact c _ _ _ g (cQ rp.tail.tail.tail λ_=>.int)
 ·rename_i k t;obtain⟨x,rfl⟩:=zz1 l rfl;have rp:Rp X.K H ((t,some x)::Γ):=rp;obtain⟨us',e,g⟩:=aG g;obtain⟨ns,en,ne,kt⟩:=aG g;have:=jm en;subst this;obtain⟨a,vs,rfl,hq,l2,db⟩:=aC e rp;have:=jq l2 db;subst this;revert hq;cases oS t with
  |true=>exact λhq=>x3 hc ad s σ H _ us Q I r ⟨a,ns,rfl,hq,ne,λw hw=>c _ _ _ (kt w hw) (cQ rp.tail λ_=>.int)⟩
  |false=>exact λhq=>xE hc ad s σ H _ us Q I r ⟨a,ns,rfl,hq,ne,λw hw=>c _ _ _ (kt w hw) (cQ rp.tail λ_=>.int)⟩
 exact L4 g
theorem jn(hc:X.calm=true):jg X (.builtin "min") Cw:=by
 rintro ad s σ H xs us Q I r ⟨ts,Γ,k,l,rp,g,c⟩;unfold Cw at g;split at g
 ·rename_i k i j;obtain⟨x,y,rfl⟩:=zz2 l rfl;have rp:Rp X.K H ((.int i,some x)::(.int j,some y)::Γ):=rp;rw[aQ rp,aQ rp.tail]at r;refine xl hc ad s σ H _ us Q I r ⟨i,j,rfl,?_⟩;have e:(if j<i then j else i)=min i j:=by split <;> lia
  rw[e];exact c _ _ _ g (cQ rp.tail.tail λ_=>.int)
 ·rename_i k i j m;obtain⟨x,y,z,rfl⟩:=zz3 l rfl;have rp:Rp X.K H ((.int i,some x)::(.int j,some y)::(.int m,some z)::Γ):=rp;rw[aQ rp,aQ rp.tail,aQ rp.tail.tail]at r;refine x8 hc ad s σ H _ us Q I r ⟨i,j,m,rfl,λw h1 h2 h3 h4=>?_⟩;have e:w=min (min i j) m:=by lia
  rw[e];exact c _ _ _ g (cQ rp.tail.tail.tail λ_=>.int)
 ·rename_i k t;obtain⟨x,rfl⟩:=zz1 l rfl;have rp:Rp X.K H ((t,some x)::Γ):=rp;obtain⟨us',e,g⟩:=aG g;obtain⟨ns,en,ne,kt⟩:=aG g;have:=jm en;subst this;obtain⟨a,vs,rfl,hq,l2,db⟩:=aC e rp;have:=jq l2 db;subst this;revert hq;cases oS t with
  |true=>exact λhq=>xB hc ad s σ H _ us Q I r ⟨a,ns,rfl,hq,ne,λw hw=>c _ _ _ (kt w hw) (cQ rp.tail λ_=>.int)⟩
  |false=>exact λhq=>xx hc ad s σ H _ us Q I r ⟨a,ns,rfl,hq,ne,λw hw=>c _ _ _ (kt w hw) (cQ rp.tail λ_=>.int)⟩
 exact L4 g
def vV:P1s
 | [t],k=>got (items t) λts=>k (.lst true ts)
 | _,_=>False
theorem nu:jg X (.type "list") vV:=by
 rintro ad s σ H xs us Q I r ⟨ts,Γ,k,l,rp,g,c⟩;unfold vV at g;split at g
 ·rename_i k t;obtain⟨x,rfl⟩:=zz1 l rfl;have rp:Rp X.K H ((t,some x)::Γ):=rp;obtain⟨us',e,kt⟩:=aG g;obtain⟨a,vs,rfl,hq,l2,db⟩:=aC e rp;exact tZ ad s σ H _ us Q I r ⟨_,a,vs,rfl,hq,λp H' hp g' e'=>c _ _ _ kt (k7 db l2 hp g' e')⟩
 exact L4 g
noncomputable def nv:P1s
 | [.tup ts],k=>k (.tup ts)
 | [.cst ts],k=>k (.cst ts)
 | [.lst _ ts],k=>k (.tup ts)
 | _,_=>False
theorem fj:jg X (.type "tuple") nv:=by
 rintro ad s σ H xs us Q I r ⟨ts,Γ,k,l,rp,g,c⟩;unfold nv at g;split at g
 ·rename_i k ts;obtain⟨x,rfl⟩:=zz1 l rfl;have rp:Rp X.K H ((.tup ts,some x)::Γ):=rp;obtain⟨a,vs,rfl,hq,l2,db⟩:=aC rfl rp;exact mE ad s σ H _ us Q I r ⟨a,vs,rfl,hq,c _ _ _ g rp⟩
 ·rename_i k ts;obtain⟨x,rfl⟩:=zz1 l rfl;have rp:Rp X.K H ((.cst ts,some x)::Γ):=rp;obtain⟨a,vs,rfl,hq,l2,db⟩:=aC rfl rp;exact mE ad s σ H _ us Q I r ⟨a,vs,rfl,hq,c _ _ _ g rp⟩
 ·rename_i k o ts;obtain⟨x,rfl⟩:=zz1 l rfl;have rp:Rp X.K H ((.lst o ts,some x)::Γ):=rp;obtain⟨a,vs,rfl,hq,l2,db⟩:=aC rfl rp;exact tq ad s σ H _ us Q I r ⟨a,vs,rfl,hq,λp H' hp g' e'=>c _ _ _ g (iz db l2 g' e')⟩
 exact L4 g
noncomputable def boolsOf:List T->Option (List Bool)
 | []=>some []
 | .bl i::r=>match boolsOf r with
  |some ns=>some (i::ns)
  |none=>none
 | _::_=>none
theorem aU(ns:List Bool):boolsOf (ns.map T.bl)=some ns:=by
 induction ns with
 |nil=>rfl
 |cons n r ih=>rw[h_,boolsOf,ih]
theorem jK:∀{ts:List T}{ns:List Bool},boolsOf ts=some ns->ts=ns.map T.bl
 | [],ns,e=>by cases e;rfl
 |t::ts,ns,e=>by
  cases t <;> first|cases e|skip
  rename_i i;rw[boolsOf]at e;split at e
  ·rename_i ms em;cases e;rw[h_,jK em]
  cases e
theorem oI{K:LN}{H:Hp}{Γ:Fm}:∀{ns:List Bool}{vs:List V},(ns.map T.bl).length=vs.length->Rp K H (zz (ns.map T.bl) vs++Γ)->vs=bools ns
 | [],[],_,_=>rfl
 | [],_::_,l,_=>by simp at l
 | _::_,[],l,_=>by simp at l
 |n::ns,v::vs,l,h=>by
  have h:Rp K H ((.bl n,some v)::(zz (ns.map T.bl) vs++Γ)):=h;rw[iV h,oI (by simpa using l) h.tail]
  rfl
def D8:P1s
 | [.lst _ ts],k=>got (boolsOf ts) λbs=>k (.bl (bs.all id))
 | _,_=>False
def DX:P1s
 | [.lst _ ts],k=>got (boolsOf ts) λbs=>k (.bl (bs.any id))
 | _,_=>False
theorem lV(hc:X.calm=true):jg X (.builtin "all") D8:=by
 rintro ad s σ H xs us Q I r ⟨ts,Γ,k,l,rp,g,c⟩;unfold D8 at g;split at g
 ·rename_i k o ts;obtain⟨x,rfl⟩:=zz1 l rfl;have rp:Rp X.K H ((.lst o ts,some x)::Γ):=rp;obtain⟨bs,e,kt⟩:=aG g;have:=jK e;subst this;obtain⟨a,vs,rfl,hq,l2,db⟩:=aC rfl rp;have:=oI l2 db;subst this;exact zb hc ad s σ H _ us Q I r ⟨a,bs,rfl,hq,c _ _ _ kt (cQ rp.tail λ_=>.bl)⟩
 exact L4 g
theorem pI(hc:X.calm=true):jg X (.builtin "any") DX:=by
 rintro ad s σ H xs us Q I r ⟨ts,Γ,k,l,rp,g,c⟩;unfold DX at g;split at g
 ·rename_i k o ts;obtain⟨x,rfl⟩:=zz1 l rfl;have rp:Rp X.K H ((.lst o ts,some x)::Γ):=rp;obtain⟨bs,e,kt⟩:=aG g;have:=jK e;subst this;obtain⟨a,vs,rfl,hq,l2,db⟩:=aC rfl rp;have:=oI l2 db;subst this;exact yv hc ad s σ H _ us Q I r ⟨a,bs,rfl,hq,c _ _ _ kt (cQ rp.tail λ_=>.bl)⟩
 exact L4 g
abbrev PO':=Ev->(Option Int->Ev->Prop)->Prop
def wO(K:LN)(f:PO'):TO:=λσ H Q=>∃env Fr k,Rs K H env σ Fr/\f env k/\∀o bn H',k o bn->Rs K H' bn σ Fr->Q o H'
def GO(X:Cx)(e:Option LY)(f:PO'):Prop:=PO X e (wO X.K f)
noncomputable def Et:PO':=λenv k=>k none env
noncomputable def Ex(f:PF):PO':=λenv k=>f env λt am=>match t with
 | .int i=>k (some i) am
 | _=>False
theorem eR:GO X none Et:=by rintro ad s σ H Q I ⟨env,Fr,k,rs,q,c⟩;exact wz ad s σ H Q I (c _ _ _ q rs)
theorem cZ{e:LY}{f:PF}(h:GE X e f):GO X (some e) (Ex f):=by
 rintro ad s σ H Q I ⟨env,Fr,k,rs,q,c⟩;refine uZ h ad s σ H Q I ⟨env,Fr,_,rs,q,λt am v H1 q1 f8=>?_⟩;cases t <;> first|exact L4 q1|skip
 exact⟨_,aQ f8.head,c _ _ _ q1 f8.drop⟩
def hW(ts:List T)(lo hi:Option Int):List T:=(ts.drop (HT.sIx ts.length 0 lo)).take (HT.sIx ts.length ts.length hi-HT.sIx ts.length 0 lo)
def slT:T->Option Int->Option Int->(T->Prop)->Prop
 | .lst _ ts,lo,hi,k=>k (.lst true (hW ts lo hi))
 | .tup ts,lo,hi,k=>¬(HT.sIx ts.length 0 lo=0/\HT.sIx ts.length ts.length hi=ts.length)/\k (.tup (hW ts lo hi))
 | .cst ts,lo,hi,k=>¬(HT.sIx ts.length 0 lo=0/\HT.sIx ts.length ts.length hi=ts.length)/\k (.tup (hW ts lo hi))
 | _,_,_,_=>False
theorem qW:∀(ts:List T) (vs:List V) (n:Nat),zz (ts.drop n) (vs.drop n)=(zz ts vs).drop n
 |ts,vs,0=>rfl
 | [],vs,n+1=>by simp[zz]
 |t::ts,[],n+1=>by simp[zz]
 |t::ts,v::vs,n+1=>by show zz (ts.drop n) (vs.drop n)=(zz ts vs).drop n;exact qW ts vs n
theorem rP:∀(ts:List T) (vs:List V) (n:Nat),zz (ts.take n) (vs.take n)=(zz ts vs).take n
 |ts,vs,0=>by simp[zz]
 | [],vs,n+1=>by simp[zz]
 |t::ts,[],n+1=>by simp[zz]
 |t::ts,v::vs,n+1=>by show(t,some v)::zz (ts.take n) (vs.take n)=(t,some v)::(zz ts vs).take n;rw[rP ts vs n]
theorem um(l:ts.length=vs.length)(lo hi:Option Int)(h:Rp K H (zz ts vs++Γ)):Rp K H (zz (hW ts lo hi) (iX vs lo hi)++Γ)/\(hW ts lo hi).length=(iX vs lo hi).length:=by
 unfold hW iX;rw[<-l];refine⟨?_,?_⟩
 ·rw[rP,qW];have e1:=A' (HT.sIx ts.length 0 lo) (zz ts vs);have e2:=A' (HT.sIx ts.length ts.length hi-HT.sIx ts.length 0 lo) ((zz ts vs).drop (HT.sIx ts.length 0 lo));have h2:Rp K H ((zz ts vs).drop (HT.sIx ts.length 0 lo)++Γ):=by rw[<-e1,g_]at h;exact h.part
  rw[<-e2,g_]at h2;have h3:=h2.perm (s_ _ _ _);exact h3.part
 rw[q_,q_,o_,o_,l]
def fSl(fa:PF)(fl fh:PO'):PF:=λenv k=>fa env λt am=>fl am λlo ca=>fh ca λhi cl=>slT t lo hi λu=>k u cl
theorem cA{e:LY}{lo hi:Option LY}{fa:PF}{fl fh:PO'}{p2 pos:Pos}(he:GE X e fa)(hl:GO X lo fl)(hh:GO X hi fh):GE X (.Subscript e (.Slice lo hi none p2) pos) (fSl fa fl fh):=by
 have sl:SlR X (λx lo hi H Q=>∃t Γ k,Rp X.K H ((t,some x)::Γ)/\slT t lo hi k/\∀u v H',k u->Rp X.K H' ((u,some v)::Γ)->Q v H'):=by
  rintro ad s σ H x v vl vu lo hi sl Q I rx hs pl pu ⟨t,Γ,k,rp,g,c⟩;cases t with
  |lst o ts=>
   obtain⟨a,vs,rfl,hq,l,db⟩:=aC rfl rp;obtain⟨dL,l3⟩:=um l lo hi db;exact zM ad s σ H _ v vl vu lo hi sl Q I rx hs pl pu ⟨a,vs,rfl,hq,λp H' hp g' e=>c _ _ _ g (k7 dL l3 hp g' e)⟩
  |tup ts=>
   obtain⟨a,vs,rfl,hq,l,db⟩:=aC rfl rp;obtain⟨dL,l3⟩:=um l lo hi db;exact vI ad s σ H _ v vl vu lo hi sl Q I rx hs pl pu ⟨a,vs,rfl,hq,by rw[<-l];exact g.1,λp H' hp g' e=>c _ _ _ g.2 (iz dL l3 g' e)⟩
  |cst ts=>
   obtain⟨a,vs,rfl,hq,l,db⟩:=aC rfl rp;obtain⟨dL,l3⟩:=um l lo hi db;exact vI ad s σ H _ v vl vu lo hi sl Q I rx hs pl pu ⟨a,vs,rfl,hq,by rw[<-l];exact g.1,λp H' hp g' e=>c _ _ _ g.2 (iz dL l3 g' e)⟩
  | _=>exact L4 g
 refine PE.imp (sg sl he hl hh) ?_;rintro σ H Q ⟨env,Fr,k,rs,q,c⟩;refine⟨env,Fr,_,rs,q,λt am v H1 q1 f8=>⟨am,_,_,f8,q1,λlo ca H2 q2 rs2=>⟨ca,_,_,rs2,q2,λhi cl H3 q3 rs3=>?_⟩⟩⟩;exact⟨t,_,_,rs3.head,q3,λu w H' ku rp=>c _ _ _ _ ku (.of rs3.1 rp)⟩
end
open PySem PySem.Spec PyProof.Rows L2
inductive Arg where
 |val (t:T)|bor (i:Nat)
noncomputable def ox:Arg->T
 | .val t=>t
 | .bor _=>.any
noncomputable def lend:List Arg->Ev->List T×Ev
 | [],env=>([],env)
 | .val t::r,env=>(t::(lend r env).1,(lend r env).2)
 | .bor i::r,env=>match env[i]? with
  |some t=>(t::(lend r (env.set i .any)).1,(lend r (env.set i .any)).2)
  |none=>(.any::(lend r env).1,(lend r env).2)
noncomputable def back:List Arg->List T->Ev->Ev
 | .bor i::r,t::ts,env=>back r ts (env.set i t)
 | .val _::r,_::ts,env=>back r ts env
 | _,_,env=>env
noncomputable def kC:List Arg->List (Option V)->L2.St->Prop
 | [],[],_=>True
 | .val _::r,_::xs,σ=>kC r xs σ
 | .bor i::r,x::xs,σ=>(σ[i]?=some x\/σ.length<=i)/\kC r xs σ
 | _,_,_=>False
section
variable{K:LN}{H:Hp}{σ:L2.St}
theorem kP:∀{as:List Arg}{xs:List (Option V)}{env:Ev}{Fr:Fm},kC as xs σ->Rs K H env σ ((as.map ox).zip xs++Fr)->Rs K H (lend as env).2 σ ((lend as env).1.zip xs++Fr)
 | [],[],env,Fr,_,h=>h
 | [],_::_,env,Fr,o,_=>o.elim
 | .val t::r,[],env,Fr,o,_=>o.elim
 | .bor i::r,[],env,Fr,o,_=>o.elim
 | .val t::r,x::xs,env,Fr,o,h=>by have h:Rs K H env σ ((t,x)::((r.map ox).zip xs++Fr)):=h;have h2:Rs K H env σ ((r.map ox).zip xs++((t,x)::Fr)):=h.perm d_.symm;exact(kP (as:=r) o h2).perm d_
 | .bor i::r,x::xs,env,Fr,o,h=>by
  have h:Rs K H env σ ((.any,x)::((r.map ox).zip xs++Fr)):=h;have h:=h.drop;rw[lend];split
  ·rename_i t e;obtain⟨y,ey,h2⟩:=h.slot e;have o1:σ[i]?=some x:=by
    rcases o.1 with z|z
    ·exact z
    have:=(c_.mp ey).1;lia
   rw[o1]at ey;cases ey;have h3:Rs K H (env.set i .any) σ ((r.map ox).zip xs++((t,x)::Fr)):=h2.perm d_.symm;exact(kP (as:=r) o.2 h3).perm d_
  have h3:Rs K H env σ ((r.map ox).zip xs++((.any,x)::Fr)):=(Rs.of h.1 (iU (x:=x) h.2)).perm d_.symm;exact(kP (as:=r) o.2 h3).perm d_
theorem kq:∀{as:List Arg}{xs:List (Option V)}{ts:List T}{env:Ev}{Fr:Fm},kC as xs σ->Rs K H env σ (ts.zip xs++Fr)->Rs K H (back as ts env) σ Fr
 | [],xs,ts,env,Fr,_,h=>by
  have:back [] ts env=env:=by cases ts <;> rfl
  rw[this];exact⟨h.1,(h.2.perm (s_ _ _ _)).part⟩
 |a::r,xs,[],env,Fr,_,h=>by
  have:back (a::r) [] env=env:=by cases a <;> rfl
  rw[this];exact h
 | .val t::r,[],u::ts,env,Fr,o,_=>o.elim
 | .bor i::r,[],u::ts,env,Fr,o,_=>o.elim
 | .val t::r,x::xs,u::ts,env,Fr,o,h=>by have h:Rs K H env σ ((u,x)::(ts.zip xs++Fr)):=h;exact kq (as:=r) o h.drop
 | .bor i::r,x::xs,u::ts,env,Fr,o,h=>by
  have h:Rs K H env σ ((u,x)::(ts.zip xs++Fr)):=h;rw[back];by_cases hi:i<env.length
  ·have o1:σ[i]?=some x:=by
    rcases o.1 with z|z
    ·exact z
    have:=h.1;lia
   exact kq (as:=r) o.2 (h.nP hi o1)
  have e:env.set i u=env:=Jf (by lia);rw[e];exact kq (as:=r) o.2 h.drop
theorem Rs.put {env:Ev}{Fr:Fm}{i:Nat}{t:T}{v:V}(h:Rs K H env σ ((t,some v)::Fr)):Rs K H (env.set i t) (σ.set i (some v)) Fr:=by
 by_cases hi:i<env.length
 ·exact h.store hi
 rw[Jf (by lia),Jf (by rw[<-h.1];lia)];exact h.drop
end
abbrev PAs:=Ev->(List Arg->Ev->Prop)->Prop
def wR(K:LN)(f:PAs):TA:=λσ H Q=>∃env Fr k,Rs K H env σ Fr/\f env k/\∀as bn vs H',k as bn->as.length=vs.length->kC as (vs.map some) σ->Rs K H' bn σ ((as.map ox).zip (vs.map some)++Fr)->Q vs H'
def GR(X:Cx)(es:List LY)(f:PAs):Prop:=PA X es (wR X.K f)
noncomputable def F7:PAs:=λenv k=>k [] env
noncomputable def EJ(f:PF)(r:PAs):PAs:=λenv k=>f env λt am=>r am λas ca=>k (.val t::as) ca
def Dm(i:Nat)(r:PAs):PAs:=λenv k=>(match env[i]? with
 |some t=>isAny t=false
 |none=>False)/\r env λas ca=>k (.bor i::as) ca
section
variable{X:Cx}{e:LY}{es:List LY}{f:PF}{fr:PAs}
theorem ar:GR X [] F7:=PA.imp jS (by rintro σ H Q ⟨env,Fr,k,rs,q,c⟩;exact c [] env [] H q rfl trivial rs)
theorem ai(he:GE X e f)(hr:GR X es fr)(hs:L3 (e::es) X.env=(false,Mi e X.env)::L3 es X.env:=by rfl):GR X (e::es) (EJ f fr):=by refine PA.imp (gK he hr hs) ?_;rintro σ H Q ⟨env,Fr,k,rs,q,c⟩;refine⟨env,Fr,_,rs,q,λt am v H1 q1 f8=>⟨am,_,_,f8,q1,λas ca vs H2 q2 l ao rs2=>c _ _ _ _ q2 (by rw[f_,f_,l]) ao ?_⟩⟩;exact rs2.perm d_
theorem aH(i:Nat){x:Str}{pos:Pos}(hr:GR X es fr)(hN:X.N[i]?=some x:=by rfl)(hv:Vis X.env.scope x:=by first|exact gV rfl|exact t_ (gV rfl)|exact t_ (t_ rfl))(hd:(x ==("__debug__":Str))=false:=by decide)(hcd:(x ==("__classdict__":Str))=false:=by decide)
  (hs:L3 (.Name x pos::es) X.env=(false,Mi (.Name x pos) X.env)::L3 es X.env:=by rfl):GR X (.Name x pos::es) (Dm i fr):=by
 refine PA.imp (gK (iQ hN hv hd hcd) hr hs) ?_;rintro σ H Q ⟨env,Fr,k,rs,⟨na,q⟩,c⟩;split at na
 ·rename_i t e;obtain⟨y,ey,rs2⟩:=rs.slot e;obtain⟨v,rfl⟩:=i3 rs2 na;refine⟨v,ey,env,Fr,_,rs,q,λas ca vs H2 q2 l ao rs2=>c _ _ _ _ q2 (by rw[f_,f_,l]) ⟨.inl ey,ao⟩ ?_⟩;exact .of rs2.1 (iU rs2.2)
 exact na.elim
end
abbrev FP:=List T->(T->List T->Prop)->Prop
def aK(K:LN)(n:Nat)(P:FP):Sp:=λvs H Q _=>∃ts Fr k,ts.length=vs.length/\vs.length=n/\Rp K H (zz ts vs++Fr)/\P ts k/\∀t ts' v H',k t ts'->Rp K H' ((t,some v)::(zz ts' vs++Fr))->Q v H'
noncomputable def FI(P:FP)(ts:List T)(k:T->List T->Prop):Prop:=P ts k
def Dc(n:Nat)(P:FP)(fr:PAs):PF:=λenv k=>fr env λas am=>as.length=n/\FI P (lend as am).1 λt ts'=>k t (back as ts' (lend as am).2)
section
variable{X:Cx}
theorem iW:∀(as:List Arg) (env:Ev),(lend as env).1.length=as.length
 | [],env=>rfl
 | .val t::r,env=>by rw[lend,f_,f_,iW r]
 | .bor i::r,env=>by
  rw[lend];split
  ·rw[f_,f_,iW r]
  rw[f_,f_,iW r]
theorem BD{n:Nat}{P:FP}{fr:PAs}:∀ σ H Q,wE X.K (Dc n P fr) σ H Q->zu (aK X.K n P) [] E0 (wR X.K fr) σ H Q:=by
 rintro σ H Q ⟨env,Fr,k,rs,q,c⟩;refine⟨env,Fr,_,rs,q,λas am vs H1 ⟨hn,q1⟩ l ao f8=>?_⟩;show aK X.K n P (vs++[]) H1 Q E0;rw[Hn];have rs2:=kP ao f8;refine⟨(lend as am).1,(lend as am).2.zip σ++Fr,_,by rw[iW,l],by rw[<-l];exact hn,?_,q1,λt ts' v H' kt rp=>c _ _ _ _ kt ?_⟩
 ·exact rs2.2.perm (s_ _ _ _)
 have h3:Rs X.K H' (lend as am).2 σ (zz ts' vs++((t,some v)::Fr)):=⟨rs2.1,rp.perm (by refine GX ?_ (s_ _ _ _);refine GX d_.symm ?_;exact Io _ d_.symm)⟩
 exact kq ao h3
theorem au{j k n:Nat}{x:Str}{ps:List Str}{P:FP}{e:LY}{es:List LY}{fr:PAs}{p pos:Pos}(D:Cal X.prog X.w X.K X.mg X.base j x ps (aK X.K n P))(hr:Room k X.A)(hg:Gl X x)(ha:GR X (e::es) fr)(hjk:j<=k:=by omega)(hdb:(x ==("__debug__":Str))=false:=by decide)
  (he:L3 (e::es) X.env=(false,Mi e X.env)::L3 es X.env:=by rfl) (hpl:(Nm pos (L3 es X.env)).any (·.1)=false:=by rfl):GE X (.Call (.Name x p) (e::es) [] pos) (Dc n P fr):=PE.imp (CZ D hr hg ha hjk hdb he hpl) BD
end
structure PEn where
 nx:Ev->Prop
 rt:T->Ev->Prop
 bk:Ev->Prop:=λ_=>False
 ct:Ev->Prop:=λ_=>False
abbrev PSt:=PEn->Ev->Prop
noncomputable def Kept(κ:Nat->Bool)(σ cr:L2.St):Prop:=cr.length=σ.length/\∀j,κ j=true->cr[j]?=σ[j]?
variable {κ:Nat->Bool}
theorem Kept.refl {σ:L2.St}:Kept κ σ σ:=⟨rfl,λ_ _=>rfl⟩
variable {cr:L2.St}
theorem Kept.trans {σ σ'':L2.St}(a:Kept κ σ cr)(b:Kept κ cr σ''):Kept κ σ σ'':=⟨b.1.trans a.1,λj h=>(b.2 j h).trans (a.2 j h)⟩
theorem Kept.set {σ:L2.St}(h:κ i=false):Kept κ σ (σ.set i x):=⟨F',λj hj=>by
 by_cases e:i=j
 ·subst e;rw[h]at hj;cases hj
 rw[JD e]⟩
structure EndOk (K:LN) (κ:Nat->Bool) (σ:L2.St) (Fr:Fm) (pe:PEn) (D:Ends):Prop where
 nx:∀bn cr H',pe.nx bn->Rs K H' bn cr Fr->Kept κ σ cr->D.nx cr H'
 rt:∀t bn v cr H',pe.rt t bn->Rs K H' bn cr ((t,some v)::Fr)->Kept κ σ cr->D.rt v H'
 bk:∀bn cr H',pe.bk bn->Rs K H' bn cr Fr->Kept κ σ cr->D.bk cr H'
 ct:∀bn cr H',pe.ct bn->Rs K H' bn cr Fr->Kept κ σ cr->D.ct cr H'
theorem EndOk.later {σ:L2.St}{pe:PEn}{D:Ends}(h:EndOk K κ σ Fr pe D)(k:Kept κ σ cr):EndOk K κ cr Fr pe D:=
 ⟨λa b c p q r=>h.nx a b c p q (k.trans r),λa b c d e p q r=>h.rt a b c d e p q (k.trans r),λa b c p q r=>h.bk a b c p q (k.trans r),λa b c p q r=>h.ct a b c p q (k.trans r)⟩
def wS(K:LN)(κ:Nat->Bool)(f:PSt):TS:=λD σ H=>∃env Fr pe,Rs K H env σ Fr/\f pe env/\EndOk K κ σ Fr pe D
def GS(κ:Nat->Bool)(X:Cx)(st:Md)(f:PSt):Prop:=PS X st (wS X.K κ f)
def GSs(κ:Nat->Bool)(X:Cx)(sts:List Md)(f:PSt):Prop:=PSs X sts (wS X.K κ f)
variable {st:Md}
theorem PS.imp {t t':TS}(h:PS X st t)(k:∀D σ H,t' D σ H->t D σ H):PS X st t':=λad s σ H D I q=>h ad s σ H D I (k _ _ _ q)
theorem PSs.imp {st:List Md}{t t':TS}(h:PSs X st t)(k:∀D σ H,t' D σ H->t D σ H):PSs X st t':=λad s σ H D I q=>h ad s σ H D I (k _ _ _ q)
noncomputable def BO:PSt:=λpe env=>pe.nx env
noncomputable def FK(f g:PSt):PSt:=λpe env=>f {pe with nx:=g pe} env
section
variable{X:Cx}{κ:Nat->Bool}{pos:Pos}{st:Md}{rest:List Md}{f g:PSt}{e:LY}{fe:PF}
theorem cR:GSs κ X [] BO:=PSs.imp qH (by rintro D σ H ⟨env,Fr,pe,rs,q,c⟩;exact c.nx _ _ _ q rs .refl)
theorem ag(h1:GS κ X st f)(h2:GSs κ X rest g):GSs κ X (st::rest) (FK f g):=by refine PSs.imp (cz h1 h2) ?_;rintro D σ H ⟨env,Fr,pe,rs,q,c⟩;refine⟨env,Fr,_,rs,q,⟨λbn cr H' q1 f8 k1=>⟨bn,Fr,pe,f8,q1,c.later k1⟩,c.rt,c.bk,c.ct⟩⟩
theorem aj(h1:GS κ X st f):GSs κ X [st] f:=kW h1
noncomputable def Ck(fe:PF):PSt:=λpe env=>fe env λ_ am=>pe.nx am
theorem gG(he:GE X e fe)(hs:NG e none pos.line X.env=pure false:=by rfl):GS κ X (.Expr e pos) (Ck fe):=by refine PS.imp (B8 he hs) ?_;rintro D σ H ⟨env,Fr,pe,rs,q,c⟩;exact⟨env,Fr,_,rs,q,λt bn v H' q1 f8=>c.nx _ _ _ q1 f8.drop .refl⟩
noncomputable def EU(fe:PF):PSt:=λpe env=>fe env λt am=>pe.rt t am
theorem aI(he:GE X e fe):GS κ X (.Return (some e) pos) (EU fe):=by refine PS.imp (r9 he) ?_;rintro D σ H ⟨env,Fr,pe,rs,q,c⟩;exact⟨env,Fr,_,rs,q,λt bn v H' q1 f8=>c.rt _ _ _ _ _ q1 f8 .refl⟩
def sIf(tc:PB)(f g:PSt):PSt:=λpe env=>tc env λb am=>cnd b (f pe am) (g pe am)
theorem cT{c:LY}{a b:List Md}{tc:PB}(hc:GT X c tc)(ha:GSs κ X a f)(hb:GSs κ X b g):GS κ X (.If c a b pos) (sIf tc f g):=by refine PS.imp (zx hc ha hb) ?_;rintro D σ H ⟨env,Fr,pe,rs,q,c⟩;refine⟨env,Fr,_,rs,q,λb bn H' q1 f8=>jo ⟨λh=>⟨bn,Fr,pe,f8,q1.1 h,c⟩,λh=>⟨bn,Fr,pe,f8,q1.2 h,c⟩⟩⟩
noncomputable def A1(i:Nat)(fe:PF):PSt:=λpe env=>fe env λt am=>pe.nx (am.set i t)
theorem ay{i:Nat}{x:Str}{pos':Pos}(hN:X.N.Nodup)(hi:X.N[i]?=some x)(hx:Loc X.env.scope x)(hκ:κ i=false)(he:GE X e fe)(hs:NG e (some (.Name x pos')) pos.line X.env=pure false:=by rfl)(hf:X.fn x=true\/X.env.scope.names.lookup x=some .local:=by first|exact .inl rfl|exact .inr rfl|assumption) :
  GS κ X (.Assign [.Name x pos'] e pos) (A1 i fe):=by
 refine PS.imp (j7 hN hi hx he hs hf) ?_;rintro D σ H ⟨env,Fr,pe,rs,q,c⟩;exact⟨env,Fr,_,rs,q,λt bn v H' q1 f8=>c.nx _ _ _ q1 f8.put (.set hκ)⟩
abbrev PG':=T->Ev->(Ev->Prop)->Prop
abbrev mO:=List T->Ev->(Ev->Prop)->Prop
def wG(K:LN)(κ:Nat->Bool)(f:PG'):TG:=λv σ H Q=>∃t env Fr k,Rs K H env σ ((t,some v)::Fr)/\f t env k/\∀bn cr H',k bn->Rs K H' bn cr Fr->Kept κ σ cr->Q cr H'
def wGs(K:LN)(κ:Nat->Bool)(f:mO):TGs:=λvs σ H Q=>∃ts env Fr k,ts.length=vs.length/\Rs K H env σ (zz ts vs++Fr)/\f ts env k/\∀bn cr H',k bn->Rs K H' bn cr Fr->Kept κ σ cr->Q cr H'
def GG(κ:Nat->Bool)(X:Cx)(tg:LY)(f:PG'):Prop:=PG X tg (wG X.K κ f)
def GGs(κ:Nat->Bool)(X:Cx)(tgs:List LY)(f:mO):Prop:=PGs X tgs (wGs X.K κ f)
noncomputable def gN(i:Nat):PG':=λt env k=>k (env.set i t)
theorem aB{i:Nat}{x:Str}(hN:X.N.Nodup)(hi:X.N[i]?=some x)(hx:Loc X.env.scope x)(hκ:κ i=false)(hf:X.fn x=true\/X.env.scope.names.lookup x=some .local:=by first|exact .inl rfl|exact .inr rfl|assumption):GG κ X (.Name x pos) (gN i):=
 λad s σ H v u Q I r ⟨t,env,Fr,k,rs,q,c⟩=>wb hN hi hx hf ad s σ H v u Q I r (c _ _ _ q rs.put (.set hκ))
noncomputable def C0:mO:=λts env k=>ts=[]/\k env
noncomputable def xY(f:PG')(r:mO):mO:=λts env k=>match ts with
 |t::ts=>f t env λam=>r ts am k
 | []=>False
noncomputable def gTp(n:Nat)(f:mO):PG':=λt env k=>match t with
 | .tup ts=>ts.length=n/\f ts env k
 | .cst ts=>ts.length=n/\f ts env k
 | _=>False
end
open PySem PySem.Spec PyProof.Rows L2
section
variable{X:Cx}{κ:Nat->Bool}{pos:Pos}{e tg:LY}{es:List LY}{fe:PF}{g:PG'}{gs:mO}
theorem eE:GGs κ X [] C0:=by
 rintro ad s σ H vs us Q I r ⟨ts,env,Fr,k,l,rs,⟨e,q⟩,c⟩;subst e;have:vs=[]:=by cases vs with|nil=>rfl|cons _ _=>cases l
 subst this;exact vn ad s σ H [] us Q I r ⟨rfl,c _ _ _ q rs .refl⟩
theorem aF(h1:GG κ X e g)(h2:GGs κ X es gs)(hs:(Mv (e::es) X.env).map (·.2)=NH e X.env::(Mv es X.env).map (·.2):=by rfl):GGs κ X (e::es) (xY g gs):=by
 rintro ad s σ H vs us Q I r ⟨ts,env,Fr,k,l,rs,q,c⟩;cases ts with
 |nil=>exact L4 q
 |cons t ts=>
  cases vs with
  |nil=>cases l
  |cons v vs=>
   have q:g t env λam=>gs ts am k:=q;refine nz h1 h2 hs ad s σ H (v::vs) us Q I r ⟨v,vs,rfl,t,env,zz ts vs++Fr,_,rs,q,λam σ1 H1 q1 f8 k1=>?_⟩;exact⟨ts,am,Fr,k,by simpa using l,f8,q1,λca σ2 H2 q2 rs2 k2=>c _ _ _ q2 rs2 (k1.trans k2)⟩
theorem fZ{x1 n:Nat}(hc:X.calm=true)(h:GGs κ X es gs)(hn:(Mv es X.env).length=n:=by rfl)(hst:(Mv es X.env).findIdx? (·.1)=none:=by rfl):GG κ X (.Tuple es x1 pos) (gTp n gs):=by
 rintro ad s σ H v u Q I r ⟨t,env,Fr,k,rs,q,c⟩;have go:∀ts,items t=some ts->oS t=true->ts.length=n->gs ts env k->LS (LW X.prog X.w) X.A (NH (.Tuple es x1 pos) X.env u) (λ_ s'=>∃ cr H',Inv X ad cr H' s'/\Q cr H') X.xe s:=λts e1 e2 e3 q=>by obtain⟨a,vs,rfl,hq,l,rp⟩:=aC e1 rs.head;rw[e2]at hq;refine yE hc h hn hst ad s σ H _ u Q I r ⟨a,vs,rfl,hq,by rw[<-l];exact e3,ts,env,Fr,k,l,⟨rs.1,?_⟩,q,c⟩;exact rp.perm (s_ _ _ _)
 cases t with
 |tup ts=>exact go ts rfl rfl q.1 q.2
 |cst ts=>exact go ts rfl rfl q.1 q.2
 | _=>exact L4 q
noncomputable def ES(fe:PF)(g:PG'):PSt:=λpe env=>fe env λt am=>g t am pe.nx
theorem oy(he:GE X e fe)(hg:GG κ X tg g)(hs:Oo [tg] e pos.line X.env=pure false:=by rfl)(hw:Oq [tg] e X.env=pure none:=by rfl)(h1:(Mv [tg] X.env).map (·.2)=[NH tg X.env]:=by rfl) :
  GS κ X (.Assign [tg] e pos) (ES fe g):=by
 refine PS.imp (zR he hg hs hw h1) ?_;rintro D σ H ⟨env,Fr,pe,rs,q,c⟩;exact⟨env,Fr,_,rs,q,λt bn v H' q1 f8=>⟨t,bn,Fr,_,f8,q1,λca σ2 H2 q2 rs2 k2=>c.nx _ _ _ q2 rs2 k2⟩⟩
noncomputable def FT(i j:Nat)(fr:PFs):PSt:=λpe env=>fr env λts am=>match ts with
 | [t,u]=>pe.nx ((am.set i t).set j u)
 | _=>False
theorem lq{x y:Str}{a b:LY}{fr:PFs}{px py pt:Pos}{kt k2 pt2}(hc:X.calm=true)(hN:X.N.Nodup)(hi:X.N[i]?=some x)(hj:X.N[j]?=some y)(im:i≠j)
  (hx:X.env.scope.names.lookup x=some .local) (hy:X.env.scope.names.lookup y=some .local) (hκi:κ i=false) (hκj:κ j=false) (ha:GA X [a,b] fr)
  (hw:Oq [.Tuple [.Name x px,.Name y py] kt pt] (.Tuple [a,b] k2 pt2) X.env=pure (some [x,y])) (hs:Oo [.Tuple [.Name x px,.Name y py] kt pt] (.Tuple [a,b] k2 pt2) pos.line X.env=pure false:=by rfl) :
  GS κ X (.Assign [.Tuple [.Name x px,.Name y py] kt pt] (.Tuple [a,b] k2 pt2) pos) (FT i j fr):=by
 refine PS.imp (Dk hc hN hi hj im hx hy ha hw hs) ?_;rintro D σ H ⟨env,Fr,pe,rs,q,c⟩;refine⟨env,Fr,_,rs,q,λts am vs H1 q1 l f8=>?_⟩;rcases ts with _|⟨t,_|⟨u,_|⟨t3,ts⟩⟩⟩
 ·exact q1.elim
 ·exact q1.elim
 ·obtain⟨v,w,rfl⟩:=zz2 l rfl;refine⟨v,w,rfl,c.nx _ _ _ q1 ?_ ((Kept.set hκi).trans (Kept.set hκj))⟩;have r1:Rs X.K H1 am σ ((t,some v)::(u,some w)::Fr):=f8;exact Rs.put (Rs.put r1)
 exact q1.elim
structure ItOk (K:LN) (J:It) (bi:List T) (Fg:Fm):Prop where
 turn:∀i t H Γ,bi[i]?=some t->Rp K H (Fg++Γ)->J.go i H/\∀x H',J.yld i H x H'->Rp K H' ((t,some x)::(Fg++Γ))
 stop:∀H Γ,Rp K H (Fg++Γ)->J.stop bi.length H
abbrev PIt:=Ev->(List T->Ev->Prop)->Prop
def wI(K:LN)(f:PIt):TI:=λσ H R=>∃env Fr k,Rs K H env σ Fr/\f env k/\∀bi bn J Fg H',k bi bn->Rs K H' bn σ (Fg++Fr)->ItOk K J bi Fg->R J H'
def GI(X:Cx)(tg iter:LY)(f:PIt):Prop:=PI X tg iter (wI X.K f)
noncomputable def forL(bi:List T)(g:PG')(fb:PSt)(pe:PEn)(am:Ev):Prop:=∃W:Nat->Ev->Prop,W 0 am/\(∀i t env,W i env->bi[i]?=some t->g t env λca=>fb {pe with nx:=W (i+1),ct:=W (i+1),bk:=pe.nx} ca)/\∀env,W bi.length env->pe.nx env
def Fn(fi:PIt)(g:PG')(fb:PSt):PSt:=λpe env=>fi env λbi am=>forL bi g fb pe am
theorem oA{σ:L2.St}{Fg:Fm}(h:Rs K H env σ (Fg++Fr)):Rs K H env σ Fr:=⟨h.1,(h.2.perm (s_ _ _ _)).part⟩
theorem jQ{iter:LY}{body:List Md}{fi:PIt}{g:PG'}{fb:PSt}(hp:PassesOwn (LW X.prog X.w) X.A X.env X.xe)(hc:X.calm=true)(hi:GI X tg iter fi)(hg:GG κ X tg g)(hb:GSs κ X body fb)(hs:∀x,Mz iter X.env x=pure x:=by intro _;rfl):GS κ X (.For tg iter body [] pos) (Fn fi g fb):=by
 refine PS.imp (DB hp hc hi hg hb hs) ?_;rintro D σ H ⟨env,Fr,pe,rs,q,c⟩;refine⟨env,Fr,_,rs,q,?_⟩;rintro bi am J Fg H1 ⟨W,w0,wt,we⟩ f8 ok;refine⟨λi m cr H'=>∃bn,W i bn/\Rs X.K H' bn cr (Fg++Fr)/\Kept κ σ cr/\m+i=bi.length,⟨bi.length,am,w0,f8,.refl,rfl⟩,?_⟩;rintro i m σ1 H2 ⟨ca,w2,rs2,k2,hm⟩;have db:Rp X.K H2 (Fg++(ca.zip σ1++Fr)):=rs2.2.perm (s_ _ _ _);by_cases hlt:i<bi.length
 ·have ei:bi[i]?=some bi[i]:=f' hlt;obtain⟨hgo,hy⟩:=ok.turn i bi[i] H2 _ ei db;refine .inr ⟨hgo,λcr H'=>∃bn,W (i+1) bn/\Rs X.K H' bn cr (Fg++Fr)/\Kept κ σ cr,λcr H' ⟨bn,w',r',k'⟩=>⟨m-1,by lia,bn,w',r',k',by lia⟩,λx H' hx=>?_⟩;have dL:=hy x H' hx;have rs3:Rs X.K H' ca σ1 ((bi[i],some x)::(Fg++Fr)):=.of rs2.1 (dL.perm (.cons _ (s_ _ _ _)));refine⟨bi[i],ca,Fg++Fr,_,rs3,wt i bi[i] ca w2 ei,λcl σ3 H3 q3 rs4 k4=>?_⟩;refine⟨cl,Fg++Fr,_,rs4,q3,⟨?_,?_,?_,?_⟩⟩
  ·exact λbn cr H' w' r' k'=>⟨bn,w',r',k2.trans (k4.trans k')⟩
  ·exact λt bn v cr H' p r' k'=>c.rt _ _ _ _ _ p (oA (Fg:=Fg) (r'.perm d_.symm)) (k2.trans (k4.trans k'))
  ·exact λbn cr H' p r' k'=>c.nx _ _ _ p (oA r') (k2.trans (k4.trans k'))
  exact λbn cr H' w' r' k'=>⟨bn,w',r',k2.trans (k4.trans k')⟩
 have:i=bi.length:=by lia
 subst this;exact .inl ⟨ok.stop H2 _ db,c.nx _ _ _ (we ca w2) (oA rs2) k2⟩
end
section
variable{X:Cx}{pos:Pos}{e tg:LY}{fe:PF}
def EC(fe:PF):PIt:=λenv k=>fe env λt am=>got (items t) λts=>k (erL ts) am
theorem DL(e:items t=some ts)(n:aX t=true):ItOk K (Its K (oS t) a) ts [(t,some (.ref a))] where
 turn:=λi u H Γ ei rp=>by obtain⟨a',vs,ea,hq,l,db⟩:=aC e (qA rp n);cases ea;obtain⟨w,ew⟩:=ra l ei;refine⟨Df hq rfl i H .ja (by have:=(c_.mp ew).1;exact this),λx H' hy=>?_⟩;obtain⟨rfl,hx⟩:=AW hq .ja hy;rw[ew]at hx;cases hx;exact lh db ei ew
 stop:=λH Γ rp=>by obtain⟨a',vs,ea,hq,l,db⟩:=aC e rp;cases ea;exact zg hq l.symm H .ja
theorem kI(e:items t=some ts):items (er t)=some (erL ts)/\oS (er t)=oS t:=by cases t <;> cases e <;> exact⟨rfl,rfl⟩
theorem gP(h:GE X e fe):GI X tg e (EC fe):=by rintro ad s σ H R I ⟨env,Fr,k,rs,q,c⟩;refine Dn h ad s σ H R I ⟨env,Fr,_,rs,q,λt am v H1 q1 f8=>?_⟩;obtain⟨ts,e1,kt⟩:=aG q1;have rf:Rp X.K H1 ((er t,some v)::(am.zip σ++Fr)):=oj f8.head;obtain⟨e2,e3⟩:=kI e1;obtain⟨a,vs,rfl,hq,l,db⟩:=aC e2 rf;exact⟨oS (er t),a,vs,rfl,hq,c _ _ _ _ _ kt (Rs.of (Fr:=Fr) f8.1 rf) (DL e2 (aT t))⟩
noncomputable def oT(lo:Int)(n:Nat):List T:=(r_ n).map λ(i:Nat)=>.int (lo+(i:Int))
theorem Cn(lo:Int)(n:Nat):ItOk K (Itr lo n) (oT lo n) [] where
 turn:=λi t H Γ ei rp=>by
  unfold oT at ei;rw[y_]at ei;have hi:i<n:=by
   cases h:(r_ n)[i]? with
   |none=>rw[h]at ei;cases ei
   |some j=>
    have:=(c_.mp h).1;simpa using this
  rw[HE hi]at ei;cases ei;refine⟨hi,λx H' ⟨e1,e2⟩=>?_⟩;subst e1;subst e2;exact cQ rp λ_=>.int
 stop:=λH Γ rp=>by show n<=_;unfold oT;rw[a_,D'];exact e_ _
def iR1(fr:PFs):PIt:=λenv k=>fr env λts am=>match ts with
 | [.int j]=>(-(2 ^ 62)<=j/\j<2 ^ 62)/\k (oT 0 j.toNat) am
 | _=>False
variable{a b c:LY}{fr:PFs}{p:Pos}
theorem i4(hg:Gl X "range")(hm:X.mg "range"=none)(ha:GA X [a] fr)(hs:L3 [a] X.env=[(false,Mi a X.env)]:=by rfl):GI X tg (.Call (.Name "range" p) [a] [] pos) (iR1 fr):=by
 rintro ad s σ H R I ⟨env,Fr,k,rs,q,c⟩;refine xy hg hm ha hs ad s σ H R I ⟨env,Fr,_,rs,q,λts am vs H1 q1 l f8=>?_⟩;rcases ts with _|⟨t,_|⟨t2,ts⟩⟩
 ·exact q1.elim
 ·cases t <;> first|exact q1.elim|skip
  rename_i j;rcases vs with _|⟨v,_|⟨v2,vs⟩⟩
  ·cases l
  ·have f8:Rs X.K H1 am σ ((.int j,some v)::Fr):=f8;rw[aQ f8.head];exact⟨j,rfl,q1.1.1,q1.1.2,c _ _ _ [] _ q1.2 f8.drop (Cn 0 _)⟩
  cases l
 cases t <;> exact q1.elim
theorem Ea{u:T}{x:V}{p:LO}(h:Rp K H ((t,some x)::(u,some y)::Γ))(s:bg H H')(e:H' p=some (.tup [x,y])):Rp K H' ((.tup [t,u],some (.ref p))::Γ):=
 iz (ts:=[t,u]) (vs:=[x,y]) h rfl s e
def iEn(fr:PFs):PIt:=λenv k=>fr env λts am=>match ts with
 | [t]=>got (items t) λas=>k ((r_ as.length).zipWith (λ(i:Nat) (x:T)=>T.tup [.int (i:Int),x]) (erL as)) am
 | _=>False
theorem Em{as:List T}{a:LO}(e1:items t=some as)(n1:aX t=true) :
  ItOk K (Ite K (oS t) a) ((r_ as.length).zipWith (λ(i:Nat) (x:T)=>T.tup [.int (i:Int),x]) as) [(t,some (.ref a))] where
 turn:=λi w H Γ ei rp=>by
  have rp0:Rp K H ((t,some (.ref a))::Γ):=rp;rw[KA]at ei;cases h1:(r_ as.length)[i]? with
  |none=>rw[h1]at ei;cases ei
  |some j=>
   cases h2:as[i]? with
   |none=>rw[h1,h2]at ei;cases ei
   |some u=>
    rw[h1,h2]at ei;cases ei;have hi:i<as.length:=(c_.mp h2).1;rw[HE hi]at h1;cases h1;obtain⟨a',vs,ea,ha,la,db⟩:=aC e1 (qA rp0 n1);cases ea;obtain⟨x,ex⟩:=ra la h2;have dL:=lh db h2 ex;refine⟨⟨vs,x,ha,ex⟩,λv H' hy=>?_⟩;obtain⟨p,x',hp,ev,eH,h3⟩:=hy;have ex':=h3 vs ha;rw[ex]at ex';cases ex';subst ev;subst eH;exact Ea (cQ dL λ_=>.int) (cM hp _) aV
 stop:=λH Γ rp=>by have rp0:Rp K H ((t,some (.ref a))::Γ):=rp;obtain⟨a',vs,ea,ha,la,_⟩:=aC e1 rp0;cases ea;refine⟨vs,ha,?_⟩;rw[KR,D',la,Kb]
theorem kz{x1:Nat}{tp:Pos}(hg:Gl X "enumerate")(hm:X.mg "enumerate"=none)(ha:GA X [a] fr)(hs:L3 [a] X.env=[(false,Mi a X.env)]:=by rfl) :
  GI X (.Tuple es x1 tp) (.Call (.Name "enumerate" p) [a] [] pos) (iEn fr):=by
 rintro ad s σ H R I ⟨env,Fr,k,rs,q,c⟩;refine AI hg hm ha hs ad s σ H R I ⟨env,Fr,_,rs,q,λts am vs H1 q1 l f8=>?_⟩;rcases ts with _|⟨t,_|⟨t2,ts⟩⟩
 ·exact q1.elim
 ·obtain⟨v,rfl⟩:=zz1 l rfl;obtain⟨as,ea,kt⟩:=aG q1;have f8:Rs X.K H1 am σ ((t,some v)::Fr):=f8;have r2:Rs X.K H1 am σ ((er t,some v)::Fr):=.of f8.1 (oj f8.head);obtain⟨e1,_⟩:=kI ea;obtain⟨a',xs,rfl,hq,l1,_⟩:=aC e1 r2.head;rw[<-gn as]at kt;exact⟨_,a',rfl,⟨xs,hq⟩,c _ _ _ [(er t,_)] _ kt r2 (Em e1 (aT t))⟩
 exact q1.elim
end
open PySem PySem.Spec PyProof.Rows L2
noncomputable def frA(fr:List (Option Nat)):List Arg:=fr.map λo=>match o with
 |some j=>.bor j
 |none=>.val .any
noncomputable def κc(fr:List (Option Nat))(j:Nat):Bool:=match fr[j]? with
 |some (some _)=>true
 | _=>false
theorem ig:∀(fr:List (Option Nat)) (σ:L2.St),kC (frA fr) (eN fr σ) σ
 | [],σ=>trivial
 |none::r,σ=>ig r σ
 |some j::r,σ=>by
  refine⟨?_,ig r σ⟩;by_cases h:j<σ.length
  ·refine .inl ?_;show σ[j]?=some ((σ[j]?).join);rw[f' h]
   rfl
  exact .inr (by lia)
theorem jY:∀(fr:List (Option Nat)) (τ τ':List (Option V)) (σ:L2.St),τ'.length=τ.length->(∀j,κc fr j=true->τ'[j]?=τ[j]?)->kC (frA fr) τ σ->kC (frA fr) τ' σ
 | [],[],τ',σ,l,_,_=>by
  have:τ'=[]:=by cases τ' with|nil=>rfl|cons _ _=>cases l
  subst this
  trivial
 | [],_::_,_,_,_,_,o=>o.elim
 |none::r,[],_,_,_,_,o=>o.elim
 |some j::r,[],_,_,_,_,o=>o.elim
 |none::r,x::τ,[],σ,l,_,_=>by cases l
 |some j::r,x::τ,[],σ,l,_,_=>by cases l
 |none::r,x::τ,y::τ',σ,l,k,o=>jY r τ τ' σ (by simpa using l) (λj hj=>by simpa using k (j+1) hj) o
 |some i::r,x::τ,y::τ',σ,l,k,o=>by
  have e:y=x:=by have:=k 0 rfl;simpa using this
  subst e;exact⟨o.1,jY r τ τ' σ (by simpa using l) (λj hj=>by simpa using k (j+1) hj) o.2⟩
def Cf(fr:List (Option Nat))(bi:List T)(g:PG')(ft:PB)(fe:PF)(am:Ev)(k:T->Ev->Prop):Prop:=bi.length<sizeLine/\∃W:Nat->List T->Ev->Prop,W 0 [] (lend (frA fr) am).1/\
 (∀i t acc ie,W i acc ie->bi[i]?=some t->g t ie λie2=>ft ie2 λb ie3=>cnd b (fe ie3 λu ie4=>W (i+1) (acc++[u]) ie4) (W (i+1) acc ie3))/\
 ∀acc ie,W bi.length acc ie->k (.lst true acc) (back (frA fr) ie (lend (frA fr) am).2)
def t9(fr:List (Option Nat))(fi:PIt)(g:PG')(ft:PB)(fe:PF):PF:=λenv k=>fi env λbi am=>Cf fr bi g ft fe am k
theorem qQ:∀fr:List (Option Nat),(frA fr).map ox=fr.map λ_=>T.any
 | []=>rfl
 |none::r=>by show T.any::(frA r).map ox=T.any::r.map λ_=>T.any;rw[qQ r]
 |some j::r=>by show T.any::(frA r).map ox=T.any::r.map λ_=>T.any;rw[qQ r]
theorem vK{K:LN}{H:Hp}{Γ:Fm}:∀(fr:List (Option Nat)) (xs:List (Option V)),Rp K H Γ->Rp K H ((fr.map λ_=>T.any).zip xs++Γ)
 | [],xs,h=>h
 | _::r,[],h=>h
 | _::r,x::xs,h=>iU (vK r xs h)
theorem Ba(fr:List (Option Nat)):(frA fr).length=fr.length:=by unfold frA;rw[a_]
theorem uT(fr:List (Option Nat))(σ:L2.St):(eN fr σ).length=fr.length:=by unfold eN;rw[a_]
variable {fe:PF}{fi:PIt}{g:PG'}
theorem uj{fr:List (Option Nat)}{ft:PB}:∀ σ H Q,wE K (t9 fr fi g ft fe) σ H Q->wC (wI K fi) fr (λ_ _ _=>wG K (κc fr) g) (λ_ _ _=>wB K ft) (λ_ _ _=>wE K fe) σ H Q:=by
 rintro σ H Q ⟨env,Fr,k,rs,q,c⟩;refine⟨env,Fr,_,rs,q,?_⟩;rintro bi am J Fg H1 ⟨hz,W,w0,wt,we⟩ f8 ok;intro p hp s3 H3' fp;have l0:Rs K H1 am σ (((frA fr).map ox).zip (eN fr σ)++(Fg++Fr)):=⟨f8.1,by refine Rp.perm ?_ (s_ _ _ _);rw[qQ];exact vK fr _ f8.2⟩
 have l1:=kP (ig fr σ) l0;obtain⟨ie0,ou,e0⟩:∃ie0 ou,lend (frA fr) am=(ie0,ou):=⟨_,_,rfl⟩;have lie:ie0.length=(eN fr σ).length:=by have:=iW (frA fr) am;rw[e0,Ba]at this;rw[uT];exact this
 rw[e0]at l1 w0;have rp0:Rp K (upd H1 p (.lst [])) ((.lst true [],some (.ref p))::(ie0.zip (eN fr σ)++(Fg++(ou.zip σ++Fr)))):=by refine k7 (ts:=[]) (vs:=[]) (l1.2.perm ?_) rfl hp (cM hp _) aV;show Kj (ou.zip σ++(ie0.zip (eN fr σ)++(Fg++Fr))) (ie0.zip (eN fr σ)++(Fg++(ou.zip σ++Fr)));exact(s_ _ _ _).trans ((s_ _ _ _).append_left _)
 refine⟨λi m cr H'=>∃acc ie,W i acc ie/\Rs K H' ie cr ((.lst true acc,some (.ref p))::(Fg++(ou.zip σ++Fr)))/\Kept (κc fr) (eN fr σ) cr/\m+i=bi.length/\acc.length<=i,⟨bi.length,[],ie0,w0,.of lie rp0,.refl,rfl,e_ _⟩,?_⟩;rintro i m σ1 H2 ⟨acc,ie,w2,rs2,k2,hm,ha⟩;have db:Rp K H2 (Fg++((.lst true acc,some (.ref p))::(ie.zip σ1++(ou.zip σ++Fr)))):=by refine rs2.head.perm ?_;refine GX ?_ d_.symm;exact .cons _ (s_ _ _ _)
 by_cases hlt:i<bi.length
 ·have ei:bi[i]?=some bi[i]:=f' hlt;obtain⟨hgo,hy⟩:=ok.turn i bi[i] H2 _ ei db;refine .inr ⟨hgo,λx H' hx=>?_⟩;have dL:=hy x H' hx;have rs3:Rs K H' ie σ1 ((bi[i],some x)::((.lst true acc,some (.ref p))::(Fg++(ou.zip σ++Fr)))):=.of rs2.1 (dL.perm (.cons _ (by refine d_.trans ?_;refine GX ?_ d_.symm;exact .cons _ (s_ _ _ _))))
  refine⟨bi[i],ie,_,_,rs3,wt i bi[i] acc ie w2 ei,λie3 σ3 H3 q3 rs4 k4=>?_⟩;refine⟨ie3,_,_,rs4,q3,λb ie4 H4 q4 rs5=>jo ⟨λhb=>?_,λhb=>?_⟩⟩
  ·refine⟨ie4,_,_,rs5,q4.1 hb,λu ie5 v H5 q5 rs6=>?_⟩;have r7:=rs6.perm (.swap _ _ _);obtain⟨a',ys,ea,hys,ly,r8⟩:=ir r7.head;cases ea;refine⟨ys,hys,by rw[<-ly];exact H_ ha (Jd hlt hz),m-1,by lia,acc++[u],ie5,q5,.of r7.1 ?_,k2.trans k4,by lia,by rw[b_];simp;omega⟩;refine gC (ts:=acc++[u]) (vs:=ys++[v]) (r8.perm (.cons _ ?_)) (by rw[b_,b_,ly];rfl) Put.up;rw[jF ly,g_];refine Io _ ?_;exact d_
  exact⟨m-1,by lia,acc,ie4,q4.2 hb,rs5,k2.trans k4,by lia,by lia⟩
 have:i=bi.length:=by lia
 subst this;refine .inl ⟨ok.stop H2 _ db,c _ _ _ _ (we acc ie w2) ?_⟩;rw[e0];have ao:kC (frA fr) σ1 σ:=jY fr (eN fr σ) σ1 σ k2.1 k2.2 (ig fr σ);refine kq ao (env:=ou) ⟨l1.1,?_⟩;refine db.part.perm ?_;refine GX ?_ (s_ _ _ _);refine GX d_.symm ?_;exact Io _ d_.symm
def GTs(X:Cx)(ifs:List LY)(f:PB):Prop:=PTs X ifs (wB X.K f)
noncomputable def lr:PB:=λenv k=>k true env
theorem dR:GTs X [] lr:=by rintro ad s σ H Q I ⟨env,Fr,k,rs,q,c⟩;exact Ax ad s σ H Q I (c _ _ _ q rs)
theorem Ap{c:LY}{f:PB}(h:GT X c f):GTs X [c] f:=Bo h
variable {N ps:List Str}{elt iter target:LY}{esc sc:MD}{ifs:List LY}
theorem eZ(S:FnScope N ps esc)(N':List Str)(fr:List (Option Nat))(nd:N'.Nodup){ft:PB}(C:iL N esc sc N' fr=true)
  (hi:GI X target iter fi) (hg:∀s3 H3 fp,GG (κc fr) (aS X N' sc s3 H3 fp) target g) (ht:∀s3 H3 fp,GTs (aS X N' sc s3 H3 fp) ifs ft) (he:∀s3 H3 fp,GE (aS X N' sc s3 H3 fp) elt fe)
  (hc:X.calm=true:=by rfl) (hN:X.N=N:=by rfl) (hS:X.env.scope=esc:=by rfl) (hs:∀x,Mz iter X.env x=pure x:=by intro _;rfl):GE X (.ListComp elt [⟨target,iter,ifs,0⟩] sc pos) (t9 fr fi g ft fe):=
 PE.imp (xR S N' fr nd C hi hg ht he hc hN hS hs) uj
variable {jp:Pos}
theorem ve(S:FnScope N ps esc){x:Str}{pos':Pos}(N':List Str)(fr:List (Option Nat))(nd:N'.Nodup){ft:PB}(C:iL N esc sc N' fr=true)
  (hi:X.N[i]?=some x) (hx:Loc X.env.scope x) (hκ:κ i=false) (hit:GI X target iter fi) (hg:∀s3 H3 fp,GG (κc fr) (aS X N' sc s3 H3 fp) target g) (ht:∀s3 H3 fp,GTs (aS X N' sc s3 H3 fp) ifs ft) (he:∀s3 H3 fp,GE (aS X N' sc s3 H3 fp) elt fe)
  (hsw:NG (.ListComp elt [⟨target,iter,ifs,0⟩] sc jp) (some (.Name x pos')) pos.line X.env=pure true) (hf:X.fn x=true:=by rfl)
  (hc:X.calm=true:=by rfl) (hN:X.N=N:=by rfl) (hS:X.env.scope=esc:=by rfl) (hs:∀x,Mz iter X.env x=pure x:=by intro _;rfl):GS κ X (.Assign [.Name x pos'] (.ListComp elt [⟨target,iter,ifs,0⟩] sc jp) pos) (A1 i (t9 fr fi g ft fe)):=by
 refine PS.imp (vH S N' fr nd C hi hx hit hg ht he hsw hf hc hN hS hs) ?_;rintro D σ H ⟨env,Fr,pe,rs,q,c⟩;exact uj σ H _ ⟨env,Fr,_,rs,q,λt bn v H' q1 f8=>c.nx _ _ _ q1 f8.put (.set hκ)⟩
abbrev PM:=T->List T->(T->T->Prop)->Prop
def MtP(X:Cx)(id:String)(m:PM):Prop:=MtM X id (λx xs H Q=>∃t ts Γ k,ts.length=xs.length/\Rp X.K H ((t,some x)::(zz ts xs++Γ))/\m t ts k/\∀t' r v H',k t' r->Rp X.K H' ((r,some v)::(t',some x)::Γ)->Q v H')
noncomputable def isL:T->Bool
 | .lst _ _=>true
 | _=>false
def vS(i:Nat)(m:PM)(fr:PFs):PF:=λenv k=>got (env[i]?) λt0=>isL t0=true/\fr env λts am=>got (am[i]?) λt=>m t ts λt' r=>k r (am.set i t')
variable {xp:Pos}
section
variable{X:Cx}{e o:LY}{es:List LY}{fr:PFs}{fe:PF}{m:PM}{name:Str}{id:String}{apos io pos:Pos}
theorem B5(h:isL t=true)(rp:Rp X.K H ((t,some v)::Γ)):tyV X.K "list" v H:=by
 cases t <;> first|cases h|skip
 obtain⟨a,vs,rfl,hq,l,_⟩:=mU rp;exact .inl ⟨rfl,vs,.inl hq⟩
theorem BK(h:isL t=true):isAny t=false:=by cases t <;> first|rfl|cases h
theorem BW:∀ σ H Q,wE X.K (vS i m fr) σ H Q->tBM X.K "list" (λx xs H Q=>∃t ts Γ k,ts.length=xs.length/\Rp X.K H ((t,some x)::(zz ts xs++Γ))/\m t ts k/\∀t' r v H',k t' r->Rp X.K H' ((r,some v)::(t',some x)::Γ)->Q v H') (Eo i) (wA X.K fr) σ H Q:=by
 rintro σ H Q ⟨env,Fr,k,rs,q,c⟩;obtain⟨t0,e0,hl,q⟩:=aG q;obtain⟨y,ey,rs2⟩:=rs.slot e0;obtain⟨v,rfl⟩:=i3 rs2 (BK hl);refine⟨v,ey,B5 hl rs2.head,env,Fr,_,rs,q,λts am vs H1 q1 l f8=>?_⟩;obtain⟨t,et,q1⟩:=aG q1;obtain⟨y',ey',rs3⟩:=f8.slot et;rw[ey]at ey';cases ey';have hi:i<am.length:=(c_.mp et).1;refine⟨t,ts,(am.set i .any).zip σ++Fr,_,l,?_,q1,λt' r w H' kt rp=>c _ _ _ _ kt ?_⟩
 ·refine rs3.head.perm (.cons _ ?_);exact s_ _ _ _
 have r4:Rs X.K H' (am.set i .any) σ ((t',some v)::(r,some w)::Fr):=.of rs3.1 (rp.perm (by refine GX (.swap _ _ _) ?_;exact .cons _ d_.symm))
 have r5:=Rs.nP (i:=i) r4 (by rw[F'];exact hi) ey;rw[Kc]at r5;exact r5
theorem i5(i:Nat){x:Str}(slot:Slot "list" name id)(hty:Q7 (.builtin id)=pure (.type "method_descriptor"))(hm:MtP X id m)(ha:GA X (e::es) fr)(hN:X.N[i]?=some x:=by rfl)(hv:Vis X.env.scope x:=by first|exact gV rfl|exact t_ (gV rfl)|exact t_ (t_ rfl))(hd:(x ==("__debug__":Str))=false:=by decide)(hcd:(x ==("__classdict__":Str))=false:=by decide)
  (hbase:Ou (.Name x xp) name X.env (Mi (.Name x xp) X.env)=Mi (.Name x xp) X.env:=by rfl)
  (hfew:((Nm io (L3 (e::es) X.env)).all (λx=>!x.1)&&(backToKw io (Rn [] X.env)).all (λx=>x.1.isSome)&&decide ((e::es).length+([]:List Qv).length+(if([]:List Qv).isEmpty then 0 else 1)<30))=true:=by rfl)
  (hline:(apos.endLine == io.line)=true:=by rfl) (hs:L3 (e::es) X.env=(false,Mi e X.env)::L3 es X.env:=by rfl) (hplain:(Nm io (L3 es X.env)).any (·.1)=false:=by rfl) :
  GE X (.Call (.Attribute (.Name x xp) name apos) (e::es) [] io) (vS i m fr):=PE.imp (EA OO slot hty hm (iQ hN hv hd hcd) ha hbase hfew hline hs hplain) BW
theorem y3(i:Nat){x:Str}(slot:Slot "list" name id)(hty:Q7 (.builtin id)=pure (.type "method_descriptor"))(hm:MtP X id m)(hN:X.N[i]?=some x:=by rfl)(hv:Vis X.env.scope x:=by first|exact gV rfl|exact t_ (gV rfl)|exact t_ (t_ rfl))(hd:(x ==("__debug__":Str))=false:=by decide)(hcd:(x ==("__classdict__":Str))=false:=by decide)
  (hbase:Ou (.Name x xp) name X.env (Mi (.Name x xp) X.env)=Mi (.Name x xp) X.env:=by rfl) (hline:(apos.endLine == io.line)=true:=by rfl) :
  GE X (.Call (.Attribute (.Name x xp) name apos) [] [] io) (vS i m CW):=by
 refine PE.imp (E5 OO slot hty hm (iQ hN hv hd hcd) hbase hline) λσ H Q h=>?_;obtain⟨v,ev,ty,env,Fr,k,rs,q,c⟩:=BW σ H Q h;exact⟨v,ev,ty,c [] env [] H q rfl rs⟩
noncomputable def rG:PM
 | .lst true ts,[t],k=>ts.length<sizeLine/\k (.lst true (ts++[t])) .non
 | _,_,_=>False
noncomputable def oD:PM
 | .lst true ts,[],k=>k (.lst true ts.reverse) .non
 | _,_,_=>False
noncomputable def qN:PM
 | .lst true ts,[.int i,t],k=>(0<=i/\i<=(ts.length:Int)/\ts.length<2 ^ 20)/\k (.lst true (ts.take i.toNat++t::ts.drop i.toNat)) .non
 | _,_,_=>False
theorem jZ:MtP X "list.append" rG:=by
 rintro ad s σ H x xs v us Q I rx r ⟨t,ts,Γ,k,l,rp,g,c⟩;unfold rG at g;split at g
 ·rename_i k ts t;obtain⟨y,rfl⟩:=zz1 l rfl;obtain⟨a,vs,ea,ha,la,db⟩:=ir rp;cases ea;refine uA ad s σ H _ _ v us Q I rx r ⟨a,vs,y,rfl,rfl,ha,by rw[<-la];exact g.1,λH' hp=>c _ _ _ _ g.2 (cQ ?_ λ_=>.non)⟩;refine gC (ts:=ts++[t]) (vs:=vs++[y]) ?_ (by rw[b_,b_,la];rfl) hp;rw[jF la,g_];exact db
 exact L4 g
theorem uS:∀{ts:List T}{vs:List V},ts.length=vs.length->zz ts.reverse vs.reverse=(zz ts vs).reverse
 | [],[],_=>rfl
 | [],_::_,l=>by cases l
 | _::_,[],l=>by cases l
 |t::ts,v::vs,l=>by
  have l':ts.length=vs.length:=by simpa using l
  rw[Ht,Ht,jF (by rw[x_,x_];exact l'),uS l'];show _=((t,some v)::zz ts vs).reverse;rw[Ht]
  rfl
theorem sQ:MtP X "list.reverse" oD:=by
 rintro ad s σ H x xs v us Q I rx r ⟨t,ts,Γ,k,l,rp,g,c⟩;unfold oD at g;split at g
 ·rename_i k ts;have:xs=[]:=by cases xs with|nil=>rfl|cons _ _=>cases l
  subst this;obtain⟨a,vs,ea,ha,la,db⟩:=ir rp;cases ea;refine uV ad s σ H _ _ v us Q I rx r ⟨a,vs,rfl,rfl,ha,c _ _ _ _ g (cQ (gC (ts:=ts.reverse) (vs:=vs.reverse) (db.perm (.cons _ ?_)) (by rw[x_,x_,la]) Put.up) λ_=>.non)⟩;rw[uS la];exact(Jr _).symm.append_right _
 exact L4 g
theorem jU:MtP X "list.insert" qN:=by
 rintro ad s σ H x xs v us Q I rx r ⟨t,ts,Γ,k,l,rp,g,c⟩;unfold qN at g;split at g
 ·rename_i k ts i t;obtain⟨y,z,rfl⟩:=zz2 l rfl;obtain⟨a,vs,ea,ha,la,db⟩:=ir rp;cases ea;have hy:y=.int i:=aQ (db.perm ((s_ _ _ _).cons _ |>.trans (.swap _ _ _)));subst hy;refine uP ad s σ H _ _ v us Q I rx r ⟨a,vs,i,z,rfl,rfl,ha,g.1.1,by rw[<-la];exact g.1.2.1,by rw[<-la];exact g.1.2.2,λH' hp=>c _ _ _ _ g.2 (cQ ?_ λ_=>.non)⟩;refine gC (ts:=ts.take i.toNat++t::ts.drop i.toNat) (vs:=vs.take i.toNat++z::vs.drop i.toNat) ?_ (by simp[la]) hp;rw[jF (by rw[q_,q_,la])];have dL:Rp X.K H ((.bare,some (.ref a))::(zz ts vs++((t,some z)::Γ))):=by
   have:Rp X.K H ((.int i,some (.int i))::((.bare,some (.ref a))::(zz ts vs++((t,some z)::Γ)))):=db.perm (by refine GX (.cons _ d_) ?_;exact .swap _ _ _)
   exact this.tail
  refine dL.perm (.cons _ ?_);show Kj (zz ts vs++((t,some z)::Γ)) ((zz (ts.take i.toNat) (vs.take i.toNat)++((t,some z)::zz (ts.drop i.toNat) (vs.drop i.toNat)))++Γ);rw[rP,qW];refine d_.trans ?_;rw[g_];refine GX ?_ d_.symm;refine Kz _ ?_;show Kj (zz ts vs++Γ) (Kk i.toNat (zz ts vs)++(Kl i.toNat (zz ts vs)++Γ));rw[<-g_,A']
 exact L4 g
end
noncomputable def outs(ms:List Bool)(env:Ev):List T:=ms.zipWith (λb t=>if b then t else .any) env
noncomputable def κm(ms:List Bool)(j:Nat):Bool:=match ms[j]? with
 |some b=>b
 |none=>false
theorem kE{K:LN}{H:Hp}{Γ:Fm}:∀{ms:List Bool}{env:Ev}{σ:L2.St}{vs:List V},ms.length=vs.length->(∀j,κm ms j=true->σ[j]?=(vs[j]?).map some)->Rp K H (env.zip σ++Γ)->Rp K H (zz (outs ms env) vs++Γ)
 | [],env,σ,vs,l,k,h=>h.part
 | _::_,_,_,[],l,_,_=>by cases l
 |m::ms,[],σ,v::vs,l,k,h=>h
 |m::ms,t::env,[],v::vs,l,k,h=>by
  have ih:=kE (ms:=ms) (env:=env) (σ:=[]) (vs:=vs) (by simpa using l) (λj hj=>by have:=k (j+1) hj;simpa using this) (by simpa using h)
  cases m with
  |true=>have:=k 0 rfl;simp at this
  |false=>exact iU ih
 |m::ms,t::env,x::σ,v::vs,l,k,h=>by
  have h:Rp K H ((t,x)::(env.zip σ++Γ)):=h;have ks:∀j,κm ms j=true->σ[j]?=(vs[j]?).map some:=λj hj=>by have:=k (j+1) hj;simpa using this
  cases m with
  |true=>
   have e:x=some v:=by have:=k 0 rfl;simpa using this
   subst e;have h2:Rp K H (env.zip σ++((t,some v)::Γ)):=h.perm d_.symm;exact(kE (ms:=ms) (by simpa using l) ks h2).perm d_
  |false=>exact iU (kE (ms:=ms) (by simpa using l) ks h.tail)
theorem zU(l:ts.length=vs.length)(n:Nat)(h:Rp K H (zz ts vs++Γ)):Rp K H ((ts++Ij n T.any).zip (vs.map some++Ij n none)++Γ):=by
 rw[Lh (by rw[a_];exact l),g_];have:∀n,Rp K H (zz ts vs++((Ij n T.any).zip (Ij n (none:Option V))++Γ)):=by
  intro n;induction n with
  |zero=>exact h
  |succ n ih=>
   rw[KS,KS];exact(iU (x:=none) ih).perm d_.symm
 exact this n
variable {P:LV}
theorem bR{mg:Str->Option LM}{base:LZ}{x qual:Str}{f:LO}{fd:L6}{k:Nat}{Pr:FP}(F:Fun K x qual st f fd)(S:FnScope N ps (av st))(ms:List Bool)(hms:ms.length=ps.length)
  (body:∀(cdv:LM) (A:L_) (outer:List Env) (s:LP) (H:Hp) (E:XK),Room k (A.deeper (N9 qual (av st) s.heap.objs.size f cdv))->
   ∃fb,GSs (κm ms) (uE CX0 P w K mg base N qual (av st) f cdv A outer s H E).nox (f6 st) fb/\∀ts kk,ts.length=ps.length->Pr ts kk->fb { nx:=λenv=>kk .non (outs ms env),rt:=λt env=>kk t (outs ms env) } (ts++Ij (N.length-ps.length) .any)) :
  FnOk P w K mg base CX0 (k+1) f fd ps (aK K ps.length Pr):=by
 refine F.ok S (by rintro vs H Q E ⟨ts,Fr,kk,h1,h2,_⟩;exact h2) ?_;rintro cdv A outer s H vs Q E hr ⟨ts,Fr,kk,h1,h2,rp,pr,c⟩;obtain⟨fb,hb,q⟩:=body cdv A outer s H E hr;refine⟨_,hb,ts++Ij (N.length-ps.length) .any,Fr,_,?_,q ts kk (by rw[h1,h2]) pr,?_⟩
 ·unfold L2.start;rw[h2];refine⟨by simp[h1],zU h1 _ rp⟩
 have kv:∀{cr},Kept (κm ms) (L2.start N vs) cr->∀j,κm ms j=true->cr[j]?=(vs[j]?).map some:=λ{cr} kp j hj=>by
  rw[kp.2 j hj];unfold L2.start;have hj2:j<vs.length:=by
   rw[h2,<-hms];unfold κm at hj;split at hj
   ·rename_i b e;exact(c_.mp e).1
   cases hj
  rw[Hk (by rw[a_];exact hj2),y_]
 refine⟨λbn cr H' q' rs' k'=>c _ _ _ _ q' ?_,λt bn v cr H' q' rs' k'=>c _ _ _ _ q' ?_,λ_ _ _ z=>z.elim,λ_ _ _ z=>z.elim⟩
 ·exact cQ (kE (by rw[hms,h2]) (kv k') rs'.2) λ_=>.non
 exact(kE (Γ:=(t,some v)::Fr) (by rw[hms,h2]) (kv k') rs'.2).perm d_
open PySem PySem.Spec PyProof.Rows L2
variable {n:String}
section
variable{X:Cx}{pos:Pos}
theorem ym{te:TE}(h:PS X st (AL te (wg i))):PS X st (λD σ H=>te σ H λv H'=>Gr H H'/\D.nx (σ.set i (some v)) (over H H')):=by
 intro ad s σ H D I q;have key:=h ad s σ H { nx:=λcr H'=>Gr H H'/\D.nx cr (over H H'),rt:=λ_ _=>False} I q;refine thn key λf s' hs=>?_;cases f with
 |next=>
  obtain⟨cr,H',I',g,q'⟩:=hs;exact⟨cr,over H H',o6 I I' g,q'⟩
 |brk=>obtain⟨_,_,_,z⟩:=hs;exact z.elim
 |cont=>obtain⟨_,_,_,z⟩:=hs;exact z.elim
 |ret u=>obtain⟨_,_,_,_,_,z⟩:=hs;exact z.elim
theorem An{f:PF}{σ:L2.St}{Q:VK}(h:wE K (fQ f) σ H Q):wE K f σ H λv H'=>Gr H H'/\Q v (over H H'):=by
 obtain⟨env,Fr,k,rs,q,c⟩:=h;have rv:Rs K H (erL env) σ ((Fr.map λp=>(er p.1,p.2))++[(.kp H,some .non)]):=by refine⟨by rw[gn];exact rs.1,?_⟩;have:=rN rs.2;rw[p_,n8,g_]at this;exact this
 refine⟨erL env,_,_,rv,q,?_⟩;rintro t bn v H' ⟨n,kt⟩ rs';obtain⟨g,r2⟩:=rq rs.2 (Δ:=bn.zip σ++(Fr.map λp=>(er p.1,p.2))) (by rw[g_];exact rs'.head) n;exact⟨g,c t env v _ kt (.of rs.1 r2)⟩
theorem zQ(S:FnScope N ps esc){x:Str}{pos pos':Pos}(N':List Str)(fr:List (Option Nat))(nd:N'.Nodup){ft:PB}(C:iL N esc sc N' fr=true)
  (hi:X.N[i]?=some x) (hx:Loc X.env.scope x) (hκ:κ i=false) (hit:GI X target iter fi) (hg:∀s3 H3 fp,GG (κc fr) (aS X N' sc s3 H3 fp) target g) (ht:∀s3 H3 fp,GTs (aS X N' sc s3 H3 fp) ifs ft) (he:∀s3 H3 fp,GE (aS X N' sc s3 H3 fp) elt fe)
  (hsw:NG (.ListComp elt [⟨target,iter,ifs,0⟩] sc jp) (some (.Name x pos')) pos.line X.env=pure true) (hf:X.fn x=true:=by rfl)
  (hc:X.calm=true:=by rfl) (hN:X.N=N:=by rfl) (hS:X.env.scope=esc:=by rfl) (hs:∀x,Mz iter X.env x=pure x:=by intro _;rfl):GS κ X (.Assign [.Name x pos'] (.ListComp elt [⟨target,iter,ifs,0⟩] sc jp) pos) (A1 i (fQ (t9 fr fi g ft fe))):=by
 refine PS.imp (ym (vH S N' fr nd C hi hx hit hg ht he hsw hf hc hN hS hs)) ?_;rintro D σ H ⟨env,Fr,pe,rs,q,c⟩;exact uj σ H _ (An (Q:=λv H'=>D.nx (σ.set i (some v)) H') ⟨env,Fr,_,rs,q,λt bn v H' q1 f8=>c.nx _ _ _ q1 f8.put (.set hκ)⟩)
theorem t6{x:Str}(hg:Gl X x)(hm:X.mg x=none)(hv:MQ x=some (.type n))(hn:x≠"__name__":=by decide)(hd:(x ==("__debug__":Str))=false:=by decide):GE X (.Name x pos) (fK (.ty n)):=
 PE.imp (Bl (v:=.ty n) hg hm hv rfl hn hd) λσ H Q ⟨env,Fr,k,rs,q,c⟩=>c _ _ _ _ q (j6 rs λ_=>.ty)
def Glb(K:LN)(mg:Str->Option LM)(x:Str)(t:T):Prop:=∃v u,mg x=some u/\RelV v u/\∀Hz H,RepT K Hz H t v []
theorem F6{x:Str}(G:Glb X.K X.mg x t)(hg:Gl X x)(hd:(x ==("__debug__":Str))=false:=by decide):GE X (.Name x pos) (fK t):=by obtain⟨v,u,hm,r,ht⟩:=G;exact BI hg hm r ht hd
noncomputable def js:T->Option Ty
 | .non=>some .non
 | .bl _=>some .bl
 | .int _=>some .int
 | .str _=>some .str
 | .tup _=>some .tup
 | .cst _=>some .tup
 | .lst _ _=>some .lst
 | .dK _ _=>some .dct
 | _=>none
noncomputable def uz:String->Option Ty
 | "NoneType"=>some .non
 | "bool"=>some .bl
 | "int"=>some .int
 | "str"=>some .str
 | "list"=>some .lst
 | "tuple"=>some .tup
 | "dict"=>some .dct
 | _=>none
theorem vY{c:Ty}(h:uz n=some c):n=c.nm:=by unfold uz at h;split at h <;> cases h <;> rfl
def qe:List T->Option (List Ty)
 | []=>some []
 | .ty n::r=>match uz n,qe r with
  |some c,some cs=>some (c::cs)
  | _,_=>none
 | _::_=>none
def vo:P1s
 | [x,.ty n],k=>got (js x) λt=>got (uz n) λc=>k (.bl (isA t c))
 | [x,.tup ts],k=>got (js x) λt=>got (qe ts) λcs=>k (.bl (cs.any (isA t)))
 | _,_=>False
theorem BS(h:Rp K H ((.ty n,some y)::Γ)):y=.ty n:=by obtain⟨_,_,r,_⟩:=gR h rfl;cases r;rfl
theorem zf{K:LN}{H:Hp}{Γ:Fm}:∀{ts:List T}{cs:List Ty}{vs:List V},qe ts=some cs->ts.length=vs.length->Rp K H (zz ts vs++Γ)->vs=cs.map λc=>V.ty c.nm
 | [],cs,[],e,_,_=>by cases e;rfl
 | [],_,_::_,_,l,_=>by cases l
 | _::_,_,[],_,l,_=>by cases l
 |t::ts,cs,v::vs,e,l,h=>by
  cases t <;> first|cases e|skip
  rename_i n;rw[qe]at e;split at e
  ·rename_i c r e1 e2;cases e;have h:Rp K H ((.ty n,some v)::(zz ts vs++Γ)):=h;rw[BS h,vY e1,zf e2 (by simpa using l) h.tail]
   rfl
  cases e
theorem yq{c:Ty}(e:js t=some c)(h:Rp K H ((t,some y)::Γ)):TyG K H y c:=by
 cases t with
 |non=>cases e;rw[rV h];exact .non
 |bl b=>cases e;rw[iV h];exact .bl b
 |int i=>cases e;rw[aQ h];exact .int i
 |str x=>cases e;rw[jM h];exact .str x
 |tup ts=>cases e;obtain⟨a,vs,rfl,hq,_⟩:=aC rfl h;exact .tup hq
 |cst ts=>cases e;obtain⟨a,vs,rfl,hq,_⟩:=aC rfl h;exact .tup hq
 |lst o ts=>cases e;obtain⟨a,vs,rfl,hq,_⟩:=aC rfl h;exact .lst hq
 |dK o ap=>
  cases o with
  |true=>cases e;obtain⟨a,vs,ea,hq,_⟩:=nV h;cases ea;exact .dct (.inl hq)
  |false=>
   cases e;obtain⟨Hz,L,r,g⟩:=gR h rfl;cases r;rename_i a vs hq _;exact .dct (g _ _ hq)
 | _=>cases e
theorem iu:jg X (.builtin "isinstance") vo:=by
 rintro ad s σ H xs us Q I r ⟨ts,Γ,k,l,rp,g,c⟩;unfold vo at g;split at g
 ·rename_i k x n;obtain⟨y,z,rfl⟩:=zz2 l rfl;have rp:Rp X.K H ((x,some y)::(.ty n,some z)::Γ):=rp;obtain⟨t,et,g⟩:=aG g;obtain⟨ct,ec,kt⟩:=aG g;rw[BS rp.tail,vY ec]at r;have e1:[ct].any (isA t)=isA t ct:=by simp
  refine mC ad s σ H _ us Q I r ⟨y,_,t,[ct],rfl,yq et rp,.inl ⟨ct,rfl,rfl⟩,?_⟩;rw[e1];exact c _ _ _ kt (cQ rp.tail.tail λ_=>.bl)
 ·rename_i k x us';obtain⟨y,z,rfl⟩:=zz2 l rfl;have rp:Rp X.K H ((x,some y)::(.tup us',some z)::Γ):=rp;obtain⟨t,et,g⟩:=aG g;obtain⟨cs,ec,kt⟩:=aG g;obtain⟨a,vs,rfl,ha,la,db⟩:=mR rp.tail;have hv:=zf ec la db;subst hv;exact mC ad s σ H _ us Q I r ⟨y,_,t,cs,rfl,yq et rp,.inr ⟨a,rfl,ha⟩,c _ _ _ kt (cQ rp.tail.tail λ_=>.bl)⟩
 exact L4 g
noncomputable def F8:T->(T->Prop)->Prop
 | .lst _ ts,k=>k (.lst true ts.reverse)
 | _,_=>False
theorem Cs(rp:Rp K H (zz ts vs++Γ))(l:ts.length=vs.length)(hp:H p=none)(g:bg H H')(e:H' p=some (.lst vs.reverse)):Rp K H' ((.lst true ts.reverse,some (.ref p))::Γ):=
 k7 (ts:=ts.reverse) (vs:=vs.reverse) (rp.perm (by rw[uS l];exact(Jr _).symm.append_right _)) (by rw[x_,x_,l]) hp g e
theorem u7{p1 p2 pos1:Pos}(hc:X.calm=true)(hg1:Gl X "list")(hm1:X.mg "list"=none)(hg2:Gl X "reversed")(hm2:X.mg "reversed"=none)(he:GE X e fe)
  (hs1:L3 [e] X.env=[(false,Mi e X.env)]:=by rfl) (hs2:L3 [.Call (.Name "reversed" p2) [e] [] jp] X.env=[(false,Mi (.Call (.Name "reversed" p2) [e] [] jp) X.env)]:=by rfl) :
  GE X (.Call (.Name "list" p1) [.Call (.Name "reversed" p2) [e] [] jp] [] pos1) (fUn F8 fe):=by
 refine PE.imp (uh hc hg1 hm1 hg2 hm2 he hs1 hs2) ?_;rintro σ H Q ⟨env,Fr,k,rs,q,c⟩;refine⟨env,Fr,_,rs,q,λt am v H1 q1 f8=>?_⟩;cases t <;> first|exact L4 q1|skip
 obtain⟨a,vs,rfl,hq,l,rp⟩:=aC rfl f8.head;exact⟨a,vs,rfl,hq,λp H' hp g e=>c _ _ _ _ q1 (.of f8.1 (Cs rp l hp g e))⟩
end
section
variable{κ':Type}[DecidableEq κ']
theorem tu:∀{ts:List (κ'×T)}{vs:List (κ'×V)} (q:κ') (t:T) (w:V),ts.map (·.1)=vs.map (·.1)->(oW ts q t).map (·.1)=(putK vs q w).map (·.1):=by
 intro ts vs q t w e;have ha:(ts.any λkv=>decide (kv.1=q))=(vs.any λkv=>decide (kv.1=q)):=by
  have e1:(ts.any λkv=>decide (kv.1=q))=(ts.map (·.1)).any λk=>decide (k=q):=by rw[JF];rfl
  have e2:(vs.any λkv=>decide (kv.1=q))=(vs.map (·.1)).any λk=>decide (k=q):=by rw[JF];rfl
  rw[e1,e2,e]
 unfold oW putK;rw[ha];split
 ·rw[Hw,Hw];have f1:((λx:κ'×T=>x.1) ∘ λkv=>if kv.1=q then(kv.1,t)else kv)=λx=>x.1:=by funext kv;show(if kv.1=q then(kv.1,t)else kv).1=kv.1;split <;> rfl
  have f2:((λx:κ'×V=>x.1) ∘ λkv=>if kv.1=q then(kv.1,w)else kv)=λx=>x.1:=by funext kv;show(if kv.1=q then(kv.1,w)else kv).1=kv.1;split <;> rfl
  rw[f1,f2,e]
 rw[p_,p_,e]
 rfl
theorem qk:∀{ts:List (κ'×T)}{vs:List (κ'×V)} (q:κ') (t:T) (w:V),ts.map (·.1)=vs.map (·.1)->(vs.map (·.1)).Nodup->∃r,((t,some w)::zz (ts.map (·.2)) (vs.map (·.2))).Perm (r++zz ((oW ts q t).map (·.2)) ((putK vs q w).map (·.2))):=by
 intro ts vs q t w e nd;by_cases hm:q∈vs.map (·.1)
 ·
  have ha:(vs.any λkv=>decide (kv.1=q))=true:=by obtain⟨kv,h1,h2⟩:=Ha.mp hm;exact HM.mpr ⟨kv,h1,decide_eq_true h2⟩
  have hb:(ts.any λkv=>decide (kv.1=q))=true:=by rw[<-e]at hm;obtain⟨kv,h1,h2⟩:=Ha.mp hm;exact HM.mpr ⟨kv,h1,decide_eq_true h2⟩
  unfold oW putK;rw[if_pos ha,if_pos hb];clear ha hb;induction ts generalizing vs with
  |nil=>
   have:vs=[]:=by cases vs with|nil=>rfl|cons _ _=>cases e
   subst this;cases hm
  |cons a ts ih=>
   cases vs with
   |nil=>cases e
   |cons b vs=>
    obtain⟨k1,t1⟩:=a;obtain⟨k2,v1⟩:=b;rw[h_,h_,HU]at e;have ek:k1=k2:=e.1;subst ek;rw[h_,kw]at nd;by_cases hk:k1=q
    ·subst hk;have n1:∀kv∈ts,kv.1≠k1:=λkv hkv z=>nd.1 (by rw[<-e.2];exact Ha.mpr ⟨kv,hkv,z⟩)
     have n2:∀kv∈vs,kv.1≠k1:=λkv hkv z=>nd.1 (Ha.mpr ⟨kv,hkv,z⟩);have m1:ts.map (λkv=>if kv.1=k1 then(kv.1,t)else kv)=ts:=by
      conv=>rhs;rw[<-LF ts]
      exact IC λkv hkv=>if_neg (n1 kv hkv)
     have m2:vs.map (λkv=>if kv.1=k1 then(kv.1,w)else kv)=vs:=by
      conv=>rhs;rw[<-LF vs]
      exact IC λkv hkv=>if_neg (n2 kv hkv)
     refine⟨[(t1,some v1)],?_⟩;simp only[h_,if_true,m1,m2];exact .swap _ _ _
    have hm':q∈vs.map (·.1):=by
     rcases m_.mp hm with z|z
     ·exact absurd z.symm hk
     exact z
    obtain⟨r,p⟩:=ih e.2 nd.2 hm';refine⟨r,?_⟩;simp only[h_,if_neg hk];show Kj ((t,some w)::(t1,some v1)::zz (ts.map (·.2)) (vs.map (·.2))) (r++((t1,some v1)::zz ((ts.map λkv=>if kv.1=q then(kv.1,t)else kv).map (·.2)) ((vs.map λkv=>if kv.1=q then(kv.1,w)else kv).map (·.2))));exact(Ky _ _ _).trans ((p.cons _).trans d_.symm)
 have ha:(vs.any λkv=>decide (kv.1=q))=false:=by rw[Ih];intro z;obtain⟨kv,h1,h2⟩:=HM.mp z;exact hm (Ha.mpr ⟨kv,h1,of_decide_eq_true h2⟩)
 have hb:(ts.any λkv=>decide (kv.1=q))=false:=by rw[Ih];intro z;obtain⟨kv,h1,h2⟩:=HM.mp z;exact hm (by rw[<-e];exact Ha.mpr ⟨kv,h1,of_decide_eq_true h2⟩)
 unfold oW putK;rw[ha,hb];refine⟨[],?_⟩;simp only[IE,if_false,Hx];rw[p_,p_,jF (by rw[a_,a_];exact cW e)];exact(Hv (l₁:=[(t,some w)]))
end
def BH:T->T->T->(T->Prop)->Prop
 | .lst true ts,.int i,v,k=>got (ixN ts.length i) λj=>k (.lst true (ts.set j v))
 | .dK true ap,y,v,k=>got (uF y) λq=>ap.length<sizeLine/\k (.dK true (oW ap q v))
 | .dT true ap,.tup ks,v,k=>got (xc ks) λq=>ap.length<sizeLine/\k (.dT true (oW ap q v))
 | _,_,_,_=>False
section
variable{X:Cx}{κ:Nat->Bool}{pos:Pos}
theorem yo{h:LZ}(ok:HOk P w H h)(e:H a=some (.dT ap)):(ap.map (·.1)).Nodup:=by
 obtain⟨z,y,xs,r,o,es,ep,h1,h2,h3,h4,h5⟩:=ok a _ e;have:ap.map (·.1)=xs.map (·.1):=by
  clear h4 h5 h1 z e;induction r with
  |nil=>rfl
  |cons q _ ih=>rw[h_,h_,ih,q.1]
 rw[this];exact h5
theorem zL{h:LZ}{ap:List (Key×V)}(ok:HOk P w H h)(e:H a=some (.dK ap)):(ap.map (·.1)).Nodup:=by
 obtain⟨z,y,vs,r,o,es,ep,h1,h2,h3,h4,h5,h6⟩:=ok a _ e;have:ap.map (·.1)=vs.map (·.1):=by
  clear h6 h5 h4 h1 z e;induction r with
  |nil=>rfl
  |cons q _ ih=>rw[h_,h_,ih,q.1]
 rw[this];exact h6
theorem zK:∀{ts:List T}{vs:List V}{j:Nat}{t:T}{w:V},ts.length=vs.length->j<ts.length->∃r,((t,some w)::zz ts vs).Perm (r::zz (ts.set j t) (vs.set j w))
 | [],vs,j,t,w,l,h=>by cases h
 |a::ts,[],j,t,w,l,h=>by cases l
 |a::ts,b::vs,0,t,w,l,h=>⟨(a,some b),.swap _ _ _⟩
 |a::ts,b::vs,j+1,t,w,l,h=>by obtain⟨r,p⟩:=zK (ts:=ts) (vs:=vs) (j:=j) (t:=t) (w:=w) (by simpa using l) (by simpa using h);exact⟨r,(Ky _ _ _).trans ((p.cons _).trans (.swap _ _ _))⟩
theorem G2(hr:Room kr X.A):uN X (λo i v H Q=>∃t ti tv Γ k,Rp X.K H ((t,some o)::(ti,some i)::(tv,some v)::Γ)/\BH t ti tv k/\∀t' H',k t'->Rp X.K H' ((t',some o)::Γ)->Q H'):=by
 rintro ad s σ H o i v ov iv u Q I ro ri rv ⟨t,ti,tv,Γ,k,rp,g,c⟩;cases t with
 |lst own ts=>
  cases own <;> cases ti <;> first|exact L4 g|skip
  rename_i j;obtain⟨m,em,kt⟩:=aG g;rw[aQ rp.tail]at ri;obtain⟨a,vs,ea,ha,la,db⟩:=ir rp;cases ea;have hm:m<ts.length:=by have:=(qJ em).2.1;exact this
  rw[la]at em;refine xK ad s σ H _ _ v ov iv u Q I ro ri rv ⟨a,vs,j,m,rfl,rfl,ha,em,λH' hp=>c _ _ kt ?_⟩;obtain⟨r,p⟩:=zK (t:=tv) (w:=v) la hm;have dL:Rp X.K H ((.bare,some (.ref a))::(zz ts vs++((tv,some v)::Γ))):=by
   have:Rp X.K H ((.int j,some i)::((.bare,some (.ref a))::(zz ts vs++((tv,some v)::Γ)))):=db.perm (by refine GX (.cons _ d_) ?_;exact .swap _ _ _)
   exact this.tail
  have rp4:Rp X.K H (r::((.bare,some (.ref a))::(zz (ts.set m tv) (vs.set m v)++Γ))):=dL.perm (by refine GX (.cons _ (d_.trans (p.append_right Γ))) ?_;exact .swap _ _ _)
  exact gC rp4.tail (by rw[F',F',la]) hp
 |dK own ap=>
  cases own <;> first|exact L4 g|skip
  have g:got (uF ti) λq=>ap.length<sizeLine/\k (.dK true (oW ap q tv)):=by cases ti <;> exact g
  obtain⟨q,eq,hz,kt⟩:=aG g;rw[vh eq rp.tail]at ri;obtain⟨a,vs,ea,ha,la,db⟩:=nV rp;cases ea;cases ro;have hl:vs.length<sizeLine:=by rw[<-cW la];exact hz
  refine lO (pH hr) I (.inl ⟨vs,q,ha,rfl,hl,rfl⟩) ri rv λs' I'=>⟨_,I',c _ _ kt ?_⟩;obtain⟨r,p⟩:=qk q tv v la (zL I.hok ha);have dL:Rp X.K H ((.bare,some (.ref a))::(zz (ap.map (·.2)) (vs.map (·.2))++((tv,some v)::Γ))):=by
   have:Rp X.K H ((ti,some i)::((.bare,some (.ref a))::(zz (ap.map (·.2)) (vs.map (·.2))++((tv,some v)::Γ)))):=db.perm (by refine GX (.cons _ d_) ?_;exact .swap _ _ _)
   exact this.tail
  have rp4:Rp X.K H (r++((.bare,some (.ref a))::(zz ((oW ap q tv).map (·.2)) ((putK vs q v).map (·.2))++Γ))):=dL.perm (by refine GX (.cons _ (d_.trans (p.append_right Γ))) ?_;rw[g_];exact d_.symm)
  exact pJ rp4.part (tu q tv v la) Put.up
 |dT own ap=>
  cases own <;> cases ti <;> first|exact L4 g|skip
  rename_i ks;obtain⟨q,eq,hz,kt⟩:=aG g;obtain⟨b,rfl,hb⟩:=v8 eq rp.tail;obtain⟨a,vs,ea,ha,la,db⟩:=yl rp;cases ea;cases ro;have hl:vs.length<sizeLine:=by rw[<-cW la];exact hz
  refine lO (pH hr) I (.inr ⟨vs,q,b,ha,rfl,hb,hl,rfl⟩) ri rv λs' I'=>⟨_,I',c _ _ kt ?_⟩;obtain⟨r,p⟩:=qk q tv v la (yo I.hok ha);have dL:Rp X.K H ((.bare,some (.ref a))::(zz (ap.map (·.2)) (vs.map (·.2))++((tv,some v)::Γ))):=by
   have:Rp X.K H ((.tup ks,some (.ref b))::((.bare,some (.ref a))::(zz (ap.map (·.2)) (vs.map (·.2))++((tv,some v)::Γ)))):=db.perm (by refine GX (.cons _ d_) ?_;exact .swap _ _ _)
   exact this.tail
  have rp4:Rp X.K H (r++((.bare,some (.ref a))::(zz ((oW ap q tv).map (·.2)) ((putK vs q v).map (·.2))++Γ))):=dL.perm (by refine GX (.cons _ (d_.trans (p.append_right Γ))) ?_;rw[g_];exact d_.symm)
  exact wY rp4.part (tu q tv v la) Put.up
 | _=>cases ti <;> exact L4 g
def C2(i:Nat)(fi:PF):PG':=λv env k=>got (env[i]?) λt0=>isAny t0=false/\fi env λti am=>got (am[i]?) λt=>BH t ti v λt'=>k (am.set i t')
theorem uB{x:Str}{ix:LY}{fi:PF}(hr:Room kr X.A)(hi:GE X ix fi)(hN:X.N[i]?=some x:=by rfl)(hv:Vis X.env.scope x:=by first|exact gV rfl|exact t_ (gV rfl)|exact t_ (t_ rfl))(hd:(x ==("__debug__":Str))=false:=by decide)(hcd:(x ==("__classdict__":Str))=false:=by decide)
  (ha:∀v,NH (.Subscript (.Name x xp) ix pos) X.env v=(do
   let ov <-N5 [v] (Mi (.Name x xp) X.env)
   let iv <-N5 [v,ov] (Mi ix X.env)
   Qr pos
   N5 [v,ov,iv] (Qq ov iv v)
   release [v,ov,iv] []):=by intro _;rfl):GG κ X (.Subscript (.Name x xp) ix pos) (C2 i fi):=by
 rintro ad s σ H v u Q I r ⟨tv,env,Fr,k,rs,q,c⟩;obtain⟨t0,e0,na,q⟩:=aG q;obtain⟨y,ey,rs2⟩:=rs.slot e0;obtain⟨w,rfl⟩:=i3 rs2 na;refine xS (iQ hN hv hd hcd) hi (G2 hr) ha ad s σ H v u Q I r ⟨w,ey,env,(tv,some v)::Fr,_,rs,q,λti am iv H1 q1 f8=>?_⟩;obtain⟨t,et,q1⟩:=aG q1;obtain⟨y',ey',rs3⟩:=f8.slot et;rw[ey]at ey';cases ey';have hi':i<am.length:=(c_.mp et).1;refine⟨t,ti,tv,(am.set i .any).zip σ++Fr,_,?_,q1,λt' H' kt rp=>c _ _ _ kt ?_ .refl⟩
 ·refine rs3.head.perm (.cons _ ?_);refine GX d_ (.cons _ ?_);exact d_
 have r4:Rs X.K H' (am.set i .any) σ ((t',some w)::Fr):=.of rs3.1 rp;have r5:=Rs.nP (i:=i) r4 (by rw[F'];exact hi') ey;rw[Kc]at r5;exact r5
end
open PySem PySem.Spec PyProof.Rows L2
class Th (α:Type) where
 v:α
noncomputable def Fi(P:FP)(ts:List T)[k:Th (T->List T->Prop)]:Prop:=P ts k.v
def jW(b:Bool)[A:Th Prop][B:Th Prop]:Prop:=cnd b A.v B.v
def ff(o:Option α)[k:Th (α->Prop)]:Prop:=got o k.v
def yQ(fr:List (Option Nat))(bi:List T)(g:PG')(ft:PB)(fe:PF)(env:Ev)[k:Th (T->Ev->Prop)]:Prop:=Cf fr bi g ft fe env k.v
theorem bG{u:α}{k:Th (α->Prop)}:ff (some u) (k:=k)=k.v u:=rfl
theorem aN{o:Option α}{u:α}{k:Th (α->Prop)}(e:o=some u)(h:k.v u):ff o (k:=k):=CH e h
variable {A B:Th Prop}
theorem bV:jW true (A:=A) (B:=B)=A.v:=propext ⟨λh=>h.1 rfl,λh=>BR h⟩
theorem b9:jW false (A:=A) (B:=B)=B.v:=propext ⟨λh=>h.2 rfl,λh=>Fz h⟩
theorem dq:jW (!b) (A:=A) (B:=B)=jW b (A:=B) (B:=A):=by cases b <;> simp only[J2,JR,bV,b9]
theorem ik(h1:b=true->A.v)(h2:b=false->B.v):jW b (A:=A) (B:=B):=⟨h1,h2⟩
theorem aJ{p:Prop}{d:Decidable p}(h1:p->A.v)(h2:¬p->B.v):jW (decide p) (A:=A) (B:=B):=⟨λh=>h1 (of_decide_eq_true h),λh=>h2 (of_decide_eq_false h)⟩
theorem vq(e:b=true)(h:A.v):jW b (A:=A) (B:=B):=by rw[e];exact BR h
variable {gt:PG'}{ko:Option Int->Ev->Prop}
section
variable{f g:PF}{env:Ev}{k:T->Ev->Prop}{kb:Bool->Ev->Prop}{tc td:PB}{pe:PEn}{u v:PSt}{fs:PFs}{fa:PAs}{ks:List T->Ev->Prop}{ka:List Arg->Ev->Prop}
theorem iC:fQ f env k=f (erL env) λt _=>cq t=true/\k t env:=rfl
theorem fu:fQT tc env kb=tc (erL env) λb _=>kb b env:=rfl
theorem iI:fK t env k=k t env:=rfl
theorem dO:Al i env k=ff (env[i]?) (k:=⟨λt=>isAny t=false/\aX t=true/\k t env⟩):=by unfold Al;cases env[i]? <;> rfl
theorem gh:fFz i env k=ff (env[i]?) (k:=⟨λt=>isAny t=false/\k (er t) (env.set i (er t))⟩):=by unfold fFz;cases env[i]? <;> rfl
theorem fv:fMv i env k=ff (env[i]?) (k:=⟨λt=>isAny t=false/\k t (env.set i .any)⟩):=by unfold fMv;cases env[i]? <;> rfl
theorem dh{p:P2}:wD p f g env k=f env λx am=>g am λy ca=>p x y λt=>k t ca:=rfl
theorem fI{p:T->(T->Prop)->Prop}:fUn p f env k=f env λt am=>p t λu=>k u am:=rfl
noncomputable def asB(t:T)[k:Th (Bool->Prop)]:Prop:=match t with
 | .bl b=>k.v b
 | _=>False
theorem fO{k:Th (Bool->Prop)}:asB (.bl b) (k:=k)=k.v b:=rfl
theorem dS:Dq f env kb=f env λt am=>asB t (k:=⟨λb=>kb b am⟩):=rfl
theorem dG:Fj f env kb=f env λt am=>DW t λb=>kb b am:=rfl
theorem cN:Ce tc td env kb=tc env λb am=>jW b (A:=⟨td am kb⟩) (B:=⟨kb false am⟩):=rfl
theorem dw:G4 tc td env kb=tc env λb am=>jW b (A:=⟨kb true am⟩) (B:=⟨td am kb⟩):=rfl
theorem cO:C8 tc env kb=tc env λb am=>kb (!b) am:=rfl
theorem dn:Fv f g env k=f env λt am=>asB t (k:=⟨λb=>jW b (A:=⟨g am k⟩) (B:=⟨k (.bl false) am⟩)⟩):=rfl
theorem dZ:Fu f env k=f env λt am=>asB t (k:=⟨λb=>k (.bl (!b)) am⟩):=rfl
theorem fJ:fIf tc f g env k=tc env λb am=>jW b (A:=⟨f am k⟩) (B:=⟨g am k⟩):=rfl
theorem eM:CW env ks=ks [] env:=rfl
theorem cC:C5 f fs env ks=f env λt am=>fs am λts ca=>ks (t::ts) ca:=rfl
theorem eF:EE fs env k=fs env λts am=>ts.length<=sizeLine/\k (.tup ts) am:=rfl
theorem d9:FR fs env k=fs env λts am=>ts.length<=sizeLine/\k (.lst true ts) am:=rfl
theorem fL{p:P1s}:fCl p fs env k=fs env λts am=>p ts λt=>k t am:=rfl
theorem e6:F7 env ka=ka [] env:=rfl
theorem dg:EJ f fa env ka=f env λt am=>fa am λas ca=>ka (.val t::as) ca:=rfl
theorem dQ:Dm i fa env ka=ff (env[i]?) (k:=⟨λt=>isAny t=false/\fa env λas ca=>ka (.bor i::as) ca⟩):=by
 unfold Dm;cases env[i]? with
 |none=>exact propext ⟨λh=>h.1,λh=>h.elim⟩
 |some t=>rfl
theorem dE{n:Nat}{P:FP}:Dc n P fa env k=fa env λas am=>as.length=n/\Fi P (lend as am).1 (k:=⟨λt ts'=>k t (back as ts' (lend as am).2)⟩):=rfl
theorem cj{fr:List (Option Nat)}{ft:PB}:t9 fr fi gt ft fe env k=fi env λbi am=>yQ fr bi gt ft fe am (k:=⟨k⟩):=rfl
theorem cp{m:PM}:vS i m fs env k=ff (env[i]?) (k:=⟨λt0=>isL t0=true/\fs env λts am=>ff (am[i]?) (k:=⟨λt=>m t ts λt' r=>k r (am.set i t')⟩)⟩):=rfl
theorem fo{fl fh:PO'}:fSl f fl fh env k=f env λt am=>fl am λlo ca=>fh ca λhi cl=>slT t lo hi λu=>k u cl:=rfl
theorem dF:Et env ko=ko none env:=rfl
noncomputable def asI(t:T)[k:Th (Int->Prop)]:Prop:=match t with
 | .int b=>k.v b
 | _=>False
theorem dy{b:Int}{k:Th (Int->Prop)}:asI (.int b) (k:=k)=k.v b:=rfl
theorem dP:Ex f env ko=f env λt am=>asI t (k:=⟨λi=>ko (some i) am⟩):=rfl
theorem cJ:BO pe env=pe.nx env:=rfl
theorem da:FK u v pe env=u {pe with nx:=v pe} env:=rfl
theorem ck:Ck f pe env=f env λ_ am=>pe.nx am:=rfl
theorem dN:EU f pe env=f env λt am=>pe.rt t am:=rfl
theorem fB:sIf tc u v pe env=tc env λb am=>jW b (A:=⟨u pe am⟩) (B:=⟨v pe am⟩):=rfl
theorem eK:A1 i f pe env=f env λt am=>pe.nx (am.set i t):=rfl
theorem d7:ES f gt pe env=f env λt am=>gt t am pe.nx:=rfl
noncomputable def asP(ts:List T)(k:T->T->Prop):Prop:=match ts with
 | [t,u]=>k t u
 | _=>False
theorem gc{u:T}{k:T->T->Prop}:asP [t,u] k=k t u:=rfl
theorem e7:FT i j fs pe env=fs env λts am=>asP ts λt u=>pe.nx ((am.set i t).set j u):=rfl
theorem d3:Fn fi gt u pe env=fi env λbi am=>forL bi gt u pe am:=rfl
variable{t:T}{ke:Ev->Prop}{ts:List T}{gt:PG'}{gts:mO}
theorem iE:gN i t env ke=ke (env.set i t):=rfl
theorem eL:C0 [] env ke=ke env:=propext ⟨λh=>h.2,λh=>⟨rfl,h⟩⟩
theorem cx:xY gt gts (t::ts) env ke=gt t env λam=>gts ts am ke:=rfl
theorem dc{n:Nat}:gTp n gts (.tup ts) env ke=(ts.length=n/\gts ts env ke):=rfl
theorem cP{fi:PF}:C2 i fi t env ke=ff (env[i]?) (k:=⟨λt0=>isAny t0=false/\fi env λti am=>ff (am[i]?) (k:=⟨λt1=>BH t1 ti t λt'=>ke (am.set i t')⟩)⟩):=rfl
variable{ki:List T->Ev->Prop}
theorem dD:EC f env ki=f env λt am=>ff (items t) (k:=⟨λts=>ki (erL ts) am⟩):=rfl
noncomputable def as1(ts:List T)(k:Int->Prop):Prop:=match ts with
 | [.int j]=>k j
 | _=>False
theorem fX{j:Int}{k:Int->Prop}:as1 [.int j] k=k j:=rfl
theorem fW:iR1 fs env ki=fs env λts am=>as1 ts λj=>(-(2 ^ 62)<=j/\j<2 ^ 62)/\ki (oT 0 j.toNat) am:=rfl
noncomputable def asO(ts:List T)(k:T->Prop):Prop:=match ts with
 | [t]=>k t
 | _=>False
theorem gb{t:T}{k:T->Prop}:asO [t] k=k t:=rfl
theorem fV:iEn fs env ki=fs env λts am=>asO ts λt=>ff (items t) (k:=⟨λas=>ki ((r_ as.length).zipWith (λ(i:Nat) (x:T)=>T.tup [.int (i:Int),x]) (erL as)) am⟩):=rfl
end
section
variable{k:T->Prop}{i j l:Int}{x y:Str}{ts us:List T}{o o' b c:Bool}{t:T}
theorem d6:E8 (.int i) (.int j) k=k (.int (i+j)):=rfl
theorem d4:E8 (.lst o ts) (.lst o' us) k=(ts.length+us.length<=sizeLine/\k (.lst true (ts++us))):=rfl
theorem d8:ET (.int i) (.int j) k=k (.int (i-j)):=rfl
theorem de:Ft (.int i) (.int j) k=(x6 i j/\k (.int (i*j))):=rfl
theorem eJ:EW (.int i) (.int j) k=(A2 i j/\k (.int (i/j))):=rfl
theorem eC:FL (.int i) (.int j) k=(0<j/\k (.int (i%j))):=rfl
theorem fH:ltT (.int i) (.int j) k=k (.bl (decide (i<j))):=rfl
theorem g9:leT (.int i) (.int j) k=k (.bl (decide (i<=j))):=rfl
theorem fP:gtT (.int i) (.int j) k=k (.bl (decide (j<i))):=rfl
theorem fD:ER (.int i) k=k (.int (-i)):=rfl
theorem fN:eqT (.int i) (.int j) k=k (.bl (decide (i=j))):=by
 unfold eqT;refine propext ⟨λh=>?_,λh=>⟨rfl,rfl,show(0:Nat)<190 by decide,?_⟩⟩
 ·have:=h.2.2.2;rw[dt,dt,eqD]at this;rw[Ia]at this;exact this
 rw[dt,dt,eqD,Ia];exact h
theorem fR:neT (.int i) (.int j) k=k (.bl (!decide (i=j))):=by
 unfold neT;refine propext ⟨λh=>?_,λh=>⟨rfl,rfl,show(0:Nat)<190 by decide,?_⟩⟩
 ·have:=h.2.2.2;rw[dt,dt,eqD,Ia]at this;exact this
 rw[dt,dt,eqD,Ia];exact h
theorem fY:neT (.bl b) (.bl c) k=k (.bl (!(b == c))):=by
 unfold neT;refine propext ⟨λh=>?_,λh=>⟨rfl,rfl,show(0:Nat)<190 by decide,?_⟩⟩
 ·have:=h.2.2.2;rw[dt,dt,eqD]at this;exact this
 rw[dt,dt,eqD];exact h
noncomputable def iT(ns:List Int):T:=.tup (ns.map T.int)
theorem D4{a b c d:Int}:eqT (.tup [.int a,.int b]) (.tup [.int c,.int d]) k=k (.bl (decide (a=c/\b=d))):=by
 have e:eqD (dt (.tup [.int a,.int b])) (dt (.tup [.int c,.int d]))=decide (a=c/\b=d):=by simp only[dt,dtL,eqD,eqL,Ia,J3,Li]
 unfold eqT;rw[e];exact propext ⟨λh=>h.2.2.2,λh=>⟨rfl,rfl,(by simp[dt,dtL,dpt,i8]),h⟩⟩
theorem Cv{a b c d:Int}:neT (.tup [.int a,.int b]) (.tup [.int c,.int d]) k=k (.bl (!decide (a=c/\b=d))):=by
 have e:eqD (dt (.tup [.int a,.int b])) (dt (.tup [.int c,.int d]))=decide (a=c/\b=d):=by simp only[dt,dtL,eqD,eqL,Ia,J3,Li]
 unfold neT;rw[e];exact propext ⟨λh=>h.2.2.2,λh=>⟨rfl,rfl,(by simp[dt,dtL,dpt,i8]),h⟩⟩
theorem cn:Cc t .non k=(isV t=true/\k (.bl (!pU t))):=by cases t <;> rfl
theorem d5:ixT (.tup ts) (.int i) k=ff (atI ts i) (k:=⟨k⟩):=rfl
theorem dB:ixT (.cst ts) (.int i) k=ff (atI ts i) (k:=⟨k⟩):=rfl
theorem dU:ixT (.lst o ts) (.int i) k=ff (atI ts i) (k:=⟨k⟩):=rfl
theorem iH(a:α)(l:List α):atI (a::l) 0=some a:=iy (j:=0) rfl
theorem iJ(a b:α)(l:List α):atI (a::b::l) 1=some b:=iy (j:=1) rfl
theorem cD:AJ [.lst o ts] k=k (.int ts.length):=rfl
theorem cw:AJ [.cst ts] k=k (.int ts.length):=rfl
theorem fE:FQ [.int i] k=k (.int i.natAbs):=rfl
theorem fG:DT [.int i,.int j] k=k (.int (max i j)):=rfl
theorem fM:Cw [.int i,.int j] k=k (.int (min i j)):=rfl
theorem e9:vV [.lst o ts] k=k (.lst true ts):=rfl
theorem cB:nv [.lst o ts] k=k (.tup ts):=rfl
theorem gf:D8 [.lst o ts] k=ff (boolsOf ts) (k:=⟨λbs=>k (.bl (bs.all id))⟩):=rfl
theorem fT:DX [.lst o ts] k=ff (boolsOf ts) (k:=⟨λbs=>k (.bl (bs.any id))⟩):=rfl
theorem fx:F8 (.lst o ts) k=k (.lst true ts.reverse):=rfl
theorem iK{lo hi:Option Int}:slT (.lst o ts) lo hi k=k (.lst true (hW ts lo hi)):=rfl
theorem fC{kb:Bool->Prop}:DW (.bl b) kb=kb b:=rfl
variable{km:T->T->Prop}
theorem b6:rG (.lst true ts) [t] km=(ts.length<sizeLine/\km (.lst true (ts++[t])) .non):=rfl
theorem aW:oD (.lst true ts) [] km=km (.lst true ts.reverse) .non:=rfl
theorem aZ:qN (.lst true ts) [.int i,t] km=((0<=i/\i<=(ts.length:Int)/\ts.length<2 ^ 20)/\km (.lst true (ts.take i.toNat++t::ts.drop i.toNat)) .non):=rfl
theorem fS{ti:T}:BH (.lst true ts) (.int i) t k=ff (ixN ts.length i) (k:=⟨λj=>k (.lst true (ts.set j t))⟩):=rfl
end
theorem b8(g:α->T)(l:List α):aY (l.map g)=l.all λx=>aX (g x):=by rw[gD,IL];rfl
theorem aL(g:α->T)(l:List α):bY (l.map g)=l.all λx=>cq (g x):=by rw[hC,IL];rfl
theorem b7(l m:List T):aY (l++m)=(aY l&&aY m):=by rw[gD,gD,gD,Km]
theorem bA(l m:List T):bY (l++m)=(bY l&&bY m):=by rw[hC,hC,hC,Km]
theorem bj(l:List α):(l.all λ_=>true)=true:=by induction l with|nil=>rfl|cons _ _ ih=>rw[J1,ih];rfl
theorem bJ:isAny (.non)=false:=rfl
theorem eD:isV (.non)=true:=rfl
theorem bN:pU (.non)=true:=rfl
theorem cK:isAny (.bl b)=false:=rfl
theorem bD{i:Int}:isAny (.int i)=false:=rfl
theorem fk:isAny (.ty n)=false:=rfl
theorem bO:isAny (.cst ts)=false:=rfl
theorem bI:isAny (.lst o ts)=false:=rfl
theorem dM:isV (.lst o ts)=true:=rfl
theorem bM:pU (.lst o ts)=false:=rfl
theorem eB:isL (.lst o ts)=true:=rfl
theorem bC:items (.lst o ts)=some ts:=rfl
variable {bi:List T}
theorem ij{fb:PSt}{pe:PEn}(W:Nat->Ev->Prop)(h0:W 0 env)(ht:∀i t env,W i env->bi[i]?=some t->g t env λca=>fb {pe with nx:=W (i+1),ct:=W (i+1),bk:=pe.nx} ca)(he:∀env,W bi.length env->pe.nx env):forL bi g fb pe env:=⟨W,h0,ht,he⟩
theorem cE{fr:List (Option Nat)}{ft:PB}{k:Th (T->Ev->Prop)}(hz:bi.length<sizeLine)(W:Nat->List T->Ev->Prop)(h0:W 0 [] (lend (frA fr) env).1)(ht:∀i t acc ie,W i acc ie->bi[i]?=some t->g t ie λie2=>ft ie2 λb ie3=>jW b (A:=⟨fe ie3 λu ie4=>W (i+1) (acc++[u]) ie4⟩) (B:=⟨W (i+1) acc ie3⟩))
  (he:∀acc ie,W bi.length acc ie->k.v (.lst true acc) (back (frA fr) ie (lend (frA fr) env).2)):yQ fr bi g ft fe env (k:=k):=⟨hz,W,h0,ht,he⟩
noncomputable def rF(F:T->List T)(bi:List T)(i:Nat):List T:=(bi.take i).flatMap F
theorem xh{F:T->List T}(ei:bi[i]?=some t):rF F bi (i+1)=rF F bi i++F t:=by unfold rF;rw[List.take_succ,ei,HF];show _++List.flatMap F [t]=_;rw[List.flatMap_singleton]
theorem AG{fr:List (Option Nat)}{ft:PB}{k:Th (T->Ev->Prop)}(F:T->List T)(Ok:Ev->Prop)(hz:bi.length<sizeLine)(h0:Ok (lend (frA fr) env).1)
  (ht:∀i t ie,bi[i]?=some t->Ok ie->g t ie λie2=>ft ie2 λb ie3=>jW b (A:=⟨fe ie3 λu ie4=>rF F bi i++[u]=rF F bi (i+1)/\Ok ie4⟩) (B:=⟨rF F bi i=rF F bi (i+1)/\Ok ie3⟩))
  (he:∀ie,Ok ie->k.v (.lst true (bi.flatMap F)) (back (frA fr) ie (lend (frA fr) env).2)):yQ fr bi g ft fe env (k:=k):=by
 refine⟨hz,λi acc ie=>acc=rF F bi i/\Ok ie,⟨rfl,h0⟩,?_,?_⟩
 ·rintro i t acc ie ⟨rfl,ok⟩ ei;exact ht i t ie ei ok
 rintro acc ie ⟨rfl,ok⟩;unfold rF;rw[Hd];exact he ie ok
noncomputable def sq(b:Bool)(ts:List T):T:=match b with
 |true=>.tup ts
 |false=>.lst false ts
abbrev pt(x y:Int):T:=.tup [.int x,.int y]
end PL
namespace L2
open PySem PySem.Spec PyProof.Rows
section
variable{X:Cx}
abbrev xQ(K:LN)(H:Hp):List V->List (List Int)->Prop:=OF λv k=>k≠[]/\∃b,v=.ref b/\SqT K H b (k.map V.int)
end
end L2
namespace PL
open PySem PySem.Spec PyProof.Rows L2
def rowOf:T->Option (List Int)
 | .tup ts=>match intsOf ts with
  |some (n::r)=>some (n::r)
  | _=>none
 | _=>none
def rowsOf:List T->Option (List (List Int))
 | []=>some []
 |t::r=>match rowOf t,rowsOf r with
  |some k,some ks=>some (k::ks)
  | _,_=>none
theorem zq{t:T}{k:List Int}(h:rowOf t=some k):t=iT k/\k≠[]:=by
 cases t <;> first|cases h|skip
 rename_i ts;rw[rowOf]at h;split at h
 ·rename_i n r e;cases h;exact⟨by rw[jm e];rfl,by simp⟩
 cases h
theorem pE:∀{ts:List T}{ks:List (List Int)},rowsOf ts=some ks->ts=ks.map iT/\∀k∈ks,k≠[]
 | [],ks,h=>by cases h;exact⟨rfl,λk hk=>by cases hk⟩
 |t::ts,ks,h=>by
  rw[rowsOf]at h;split at h
  ·rename_i k r e1 e2;cases h;obtain⟨h1,h2⟩:=zq e1;obtain⟨h3,h4⟩:=pE e2;refine⟨by rw[h1,h3];rfl,λq hq=>?_⟩;rcases m_.mp hq with rfl|hq
   ·exact h2
   exact h4 q hq
  cases h
section
variable{X:Cx}
theorem sk{K:LN}{H:Hp}{Γ:Fm}:∀{ks:List (List Int)}{vs:List V},(∀k∈ks,k≠[])->(ks.map iT).length=vs.length->Rp K H (zz (ks.map iT) vs++Γ)->xQ K H vs ks/\∀v∈vs,∃(b:LO) (k:List Int),v=.ref b/\H b=some (.tup (k.map V.int))
 | [],[],_,_,_=>⟨.nil,λv hv=>by cases hv⟩
 | [],_::_,_,l,_=>by cases l
 | _::_,[],_,l,_=>by cases l
 |k::ks,v::vs,n,l,h=>by
  have h:Rp K H ((iT k,some v)::(zz (ks.map iT) vs++Γ)):=h;obtain⟨a,us,rfl,ha,la,h2⟩:=mR h;have eu:=jq la h2;subst eu;obtain⟨r1,r2⟩:=sk (λq hq=>n q (l_ _ hq)) (by simpa using l) h.tail;refine⟨.cons ⟨n k A_,a,rfl,SqT.of ha⟩ r1,λw hw=>?_⟩;rcases m_.mp hw with rfl|hw
  ·exact⟨a,k,rfl,ha⟩
  exact r2 w hw
end
section
variable{X:Cx}
variable{e a b:LY}{fr:PFs}{p1 p2 pos1 jp:Pos}
theorem GH{k:Nat}{A:L_}(r:Room k A):A.units+20<cLine:=by have:=r.un;lia
end
variable {n:Nat}
section
variable{b:Bool}{ts us:List T}{k:T->Prop}{i:Int}{t u:T}{env:Ev}{ke:T->Ev->Prop}
theorem gZ(lo:Int)(n:Nat):(oT lo n).length=n:=by rw[oT,a_,D']
theorem lS{lo:Int}{i:Nat}{t:T}(h:(oT lo n)[i]?=some t):i<n:=by have:=(c_.mp h).1;rwa[gZ]at this
theorem yJ{lo:Int}{i:Nat}{t:T}(h:(oT lo n)[i]?=some t):t=.int (lo+(i:Int)):=by
 have hi:=lS h;rw[oT,y_,HE hi]at h;cases h
 rfl
theorem gS{α:Type}{g:α->T}{l:List α}{i:Nat}{t:T}(h:(l.map g)[i]?=some t):∃x,l[i]?=some x/\t=g x:=by
 rw[y_]at h;cases e:l[i]? with
 |none=>rw[e]at h;cases h
 |some x=>rw[e]at h;cases h;exact⟨x,rfl,rfl⟩
end
noncomputable def FH(f g:PSt):PSt:=λpe env=>∃W:Ev->Prop,f {pe with nx:=W} env/\∀e,W e->g pe e
theorem gM{X:Cx}{κ:Nat->Bool}{st:Md}{rest:List Md}{f g:PSt}(h1:GS κ X st f)(h2:GSs κ X rest g):GSs κ X (st::rest) (FH f g):=by refine PSs.imp (cz h1 h2) ?_;rintro D σ H ⟨env,Fr,pe,rs,⟨W,q,w⟩,c⟩;refine⟨env,Fr,_,rs,q,⟨λbn cr H' q1 f8 k1=>⟨bn,Fr,pe,f8,w _ q1,c.later k1⟩,c.rt,c.bk,c.ct⟩⟩
variable {env:Ev}
theorem iN{f g:PSt}{pe:PEn}(W:Ev->Prop)(h1:f {pe with nx:=W} env)(h2:∀e,W e->g pe e):FH f g pe env:=⟨W,h1,h2⟩
theorem zE{K:LN}{H:Hp}:∀(as bs:List T) (xs ys:List V) (n0:Nat) (Γ:Fm),as.length=xs.length->bs.length=ys.length->xs.length=ys.length->Rp K H (zz as xs++(zz bs ys++Γ))->(∀j x y,xs[j]?=some x->ys[j]?=some y->H (n0+j)=some (.tup [x,y]))->
  Rp K H (zz ((as.zip bs).map λp=>T.tup [p.1,p.2]) ((IW n0 xs.length).map V.ref)++Γ):=by
 intro as;induction as with
 |nil=>
  intro bs xs ys n0 Γ l1 l2 l3 rp _;cases xs with
  |nil=>
   cases ys with
   |nil=>
    cases bs with
    |nil=>exact rp
    |cons b bs=>cases l2
   |cons y ys=>cases l3
  |cons x xs=>cases l1
 |cons a as ih=>
  intro bs xs ys n0 Γ l1 l2 l3 rp h;cases xs with
  |nil=>cases l1
  |cons x xs=>
   cases ys with
   |nil=>cases l3
   |cons y ys=>
    cases bs with
    |nil=>cases l2
    |cons b bs=>
     have rp1:Rp K H ((a,some x)::(zz as xs++((b,some y)::(zz bs ys++Γ)))):=rp;have db:Rp K H ((a,some x)::(b,some y)::(zz as xs++(zz bs ys++Γ))):=rp1.perm (.cons _ d_);have e0:=h 0 x y rfl rfl;have dL:Rp K H ((.tup [a,b],some (.ref n0))::(zz as xs++(zz bs ys++Γ))):=iz (ts:=[a,b]) (vs:=[x,y]) db rfl (λ_ _ q=>q) e0;have rp4:Rp K H (zz as xs++(zz bs ys++((.tup [a,b],some (.ref n0))::Γ))):=dL.perm (by rw[<-g_,<-g_];exact d_.symm)
     have rp5:=ih bs xs ys (n0+1) _ (HX l1) (HX l2) (HX l3) rp4 λj x' y' hx hy=>by have:=h (j+1) x' y' hx hy;rw[JW];exact this
     exact rp5.perm (by rw[f_,List.range'_succ];exact d_)
section
variable{X:Cx}{a b:LY}{fr:PFs}{p1 p2 pos1 jp:Pos}
def lz2:P1s:=λts k=>match ts with
 | [t,u]=>got (items t) λas=>got (items u) λbs=>as.length=bs.length/\k (.lst true (((erL as).zip (erL bs)).map λp=>T.tup [p.1,p.2]))
 | _=>False
theorem fF{t u:T}{k:T->Prop}:lz2 [t,u] k=ff (items t) (k:=⟨λas=>ff (items u) (k:=⟨λbs=>as.length=bs.length/\k (.lst true (((erL as).zip (erL bs)).map λp=>T.tup [p.1,p.2]))⟩)⟩):=rfl
def fLZ(fr:PFs):PF:=fCl lz2 fr
theorem fq{k:T->Ev->Prop}:fLZ fr env k=fr env λts am=>lz2 ts λt=>k t am:=rfl
theorem uO(hc:X.calm=true)(hg1:Gl X "list")(hm1:X.mg "list"=none)(hg2:Gl X "zip")(hm2:X.mg "zip"=none)(ha:GA X [a,b] fr)
  (hs:L3 [a,b] X.env=[(false,Mi a X.env),(false,Mi b X.env)]:=by rfl) (hs1:L3 [b] X.env=[(false,Mi b X.env)]:=by rfl)
  (hs2:L3 [.Call (.Name "zip" p2) [a,b] [] jp] X.env=[(false,Mi (.Call (.Name "zip" p2) [a,b] [] jp) X.env)]:=by rfl) :
  GE X (.Call (.Name "list" p1) [.Call (.Name "zip" p2) [a,b] [] jp] [] pos1) (fLZ fr):=by
 rintro ad s σ H Q I ⟨env,Fr,k,rs,q,c⟩;refine MC (gA I hg1 hm1 boot_list (callWith_type1 ?_ (by rw[hs2];rfl) rfl));rw[hs2];refine MR ?_;refine MC (gA I hg2 hm2 boot_zip (callWith_type1 ?_ (by rw[hs,hs1]) (by rw[hs1];rfl)));refine thn (ha jp ad s σ H (λvs H1=>∃ts am,(lz2 ts λt=>k t am)/\ts.length=vs.length/\Rs X.K H1 am σ (zz ts vs++Fr)) I ⟨env,Fr,_,rs,q,λts am vs H1 q1 l f8=>⟨ts,am,q1,l,f8⟩⟩) λus s1 ⟨vs,H1,I1,r1,ts,am,q1,l,f8⟩=>?_;rcases ts with _|⟨t,_|⟨u,_|⟨t3,ts⟩⟩⟩
 ·exact q1.elim
 ·exact q1.elim
 ·obtain⟨v,w,rfl⟩:=zz2 l rfl;obtain⟨as,ea,q2⟩:=aG q1;obtain⟨bs,eb,el,kt⟩:=aG q2;have f8:Rs X.K H1 am σ ((t,some v)::(u,some w)::Fr):=f8;have r2:Rs X.K H1 am σ ((er t,some v)::(u,some w)::Fr):=.of f8.1 (oj f8.head);have r3:Rs X.K H1 am σ ((er u,some w)::(er t,some v)::Fr):=.of f8.1 (oj (r2.perm (.swap _ _ _)).head);have r4:=r3.perm (.swap _ _ _);obtain⟨e1,_⟩:=kI ea;obtain⟨e2,_⟩:=kI eb;have rA:Rp X.K H1 ((er t,some v)::(er u,some w)::(am.zip σ++Fr)):=r4.head.perm (.cons _ d_);obtain⟨a',xs,rfl,hq1,m1,rB⟩:=aC e1 rA;have rC:Rp X.K H1 ((er u,some w)::(zz (erL as) xs++(am.zip σ++Fr))):=rB.perm d_;obtain⟨b',ys,rfl,hq2,m2,rD⟩:=aC e2 rC;have rE:Rp X.K H1 (zz (erL as) xs++(zz (erL bs) ys++(am.zip σ++Fr))):=rD.perm (by simpa only[g_]using(Hv (l₁:=zz (erL bs) ys) (l₂:=zz (erL as) xs)).append_right (am.zip σ++Fr));cases r1 with
  |cons r rr=>
   cases rr with
   |cons r' rr=>
    cases rr;cases r;cases r';have el2:xs.length=ys.length:=by rw[<-m1,<-m2,gn,gn,el]
    refine thn (oN I1 hc hq1 hq2 el2 λS n0 H' hS off sm e h=>c _ _ _ _ kt (.of f8.1 ?_)) λv s2 hv=>PK hv
    let J:Hp:=λb=>if b=S then none else H' b
    have s1:bg H1 J:=λb o q=>by
     have hb:b≠S:=λz=>by rw[z,hS]at q;cases q
     show(if b=S then none else H' b)=_;rw[if_neg hb];exact sm _ _ q
    have s2:bg J H':=λb o q=>by
     by_cases hb:b=S
     ·have q:(if b=S then none else H' b)=some o:=q;rw[if_pos hb]at q;cases q
     have q:(if b=S then none else H' b)=some o:=q;rw[if_neg hb]at q;exact q
    have hJ:∀j x y,xs[j]?=some x->ys[j]?=some y->J (n0+j)=some (.tup [x,y]):=λj x y hx hy=>by show(if n0+j=S then none else H' (n0+j))=_;rw[if_neg (off j)];exact h j x y hx hy
    refine k7 (zE _ _ _ _ n0 _ m1 m2 el2 (rE.same s1) hJ) ?_ (show(if S=S then none else H' S)=none from if_pos rfl) s2 e;rw[a_,a_,Lj,KW,m1,m2,el2,Kb]
 exact q1.elim
end
section
variable{X:Cx}
noncomputable def G9:P2
 | .bl a,.bl b,k=>k (.bl (a == b))
 | _,_,_=>False
noncomputable def C6:P2
 | .bl a,.bl b,k=>k (.bl (a != b))
 | _,_,_=>False
theorem du{a b:Bool}{k:T->Prop}:G9 (.bl a) (.bl b) k=k (.bl (a == b)):=rfl
theorem cm{a b:Bool}{k:T->Prop}:C6 (.bl a) (.bl b) k=k (.bl (a != b)):=rfl
theorem Cy:OpR X (Ms .Is) (λx y H Q=>∃a b,x=.bl a/\y=.bl b/\Q (.bl (a == b)) H):=by intro ad s σ H x y v u Q I rx ry h;obtain⟨a,b,rfl,rfl,q⟩:=h;cases rx;cases ry;exact is_bool (uk I q rfl)
theorem Aq:OpR X (Ms .IsNot) (λx y H Q=>∃a b,x=.bl a/\y=.bl b/\Q (.bl (a != b)) H):=by intro ad s σ H x y v u Q I rx ry h;obtain⟨a,b,rfl,rfl,q⟩:=h;cases rx;cases ry;exact isnot_bool (uk I q rfl)
theorem rH:OpP X (Ms .Is) G9:=.of Cy λtx ty x y H Γ k Q rp g c=>by
 cases tx <;> cases ty <;> first|exact L4 g|skip
 exact⟨_,_,iV rp.tail,iV rp,c _ _ _ g (cQ rp.tail.tail λ_=>.bl)⟩
theorem oE:OpP X (Ms .IsNot) C6:=.of Aq λtx ty x y H Γ k Q rp g c=>by
 cases tx <;> cases ty <;> first|exact L4 g|skip
 exact⟨_,_,iV rp.tail,iV rp,c _ _ _ g (cQ rp.tail.tail λ_=>.bl)⟩
end
variable {ts:List T}
section
variable{X:Cx}{κ:Nat->Bool}{es:List LY}{pos:Pos}{gs:mO}
theorem kD{prog:LV}{w:L0}{A:L_}{E:LM->LP->Prop}{s:LP}{env:Env}{elts:List LY}{x1}{pos:Pos}{l:LO}{items:Array LM}{Q:Unit->LP->Prop}(hh:A.handled=none)(hl:s.heap.IsList l items)
  (hn:(Mv elts env).length=items.size) (hstar:(Mv elts env).findIdx? (·.1)=none)
  (h:∀h',Og s.heap.objs.size s.heap h'->LS (LW prog w) A (Om ((Mv elts env).map (·.2)) items.toList) Q E {s with heap:=h'}) :
  LS (LW prog w) A (NH (.Tuple elts x1 pos) env (.ref l)) Q E s:=by
 rw[assign_Tuple];refine LL (Nf ?_);unfold unpack;rw[hn,hstar];exact LL (Ma (PySem.W.kun_itemsOf hh hl h))
theorem Ds{k:Nat}{t:TGs}(hc:X.calm=true)(h:PGs X es t)
  (hn:(Mv es X.env).length=n:=by rfl) (hst:(Mv es X.env).findIdx? (·.1)=none:=by rfl):PG X (.Tuple es k pos) (λv σ H Q=>∃a xs,v=.ref a/\SqL X.K H a xs/\xs.length=n/\t xs σ H Q):=by
 intro ad s σ H v u Q I r hw;obtain⟨a,xs,e1,hq,hl,hw⟩:=hw;subst e1;cases r;obtain⟨bi,rv,ht,hz⟩:=I.list hq;refine kD (I.ok.hd hc) ht.isList (by simp[hn,<-hl,rv.length]) hst λh' hx=>?_
 have I1:L2.Inv X ad σ H {s with heap:=h'}:=I.kept (t':=s.toks) λb o e=>hx b o (k_ (LU e)) e;exact h ad _ σ H xs _ Q I1 (by simpa using rv) hw
noncomputable def gTq(n:Nat)(f:mO):PG':=λt env k=>match t with
 | .tup ts=>ts.length=n/\f ts env k
 | .cst ts=>ts.length=n/\f ts env k
 | .lst _ ts=>ts.length=n/\f ts env k
 | _=>False
theorem dX{k:Ev->Prop}:gTq n gs (.tup ts) env k=(ts.length=n/\gs ts env k):=rfl
theorem eA{o:Bool}{k:Ev->Prop}:gTq n gs (.lst o ts) env k=(ts.length=n/\gs ts env k):=rfl
theorem v5{x1:Nat}(hc:X.calm=true)(h:GGs κ X es gs)(hn:(Mv es X.env).length=n:=by rfl)(hst:(Mv es X.env).findIdx? (·.1)=none:=by rfl):GG κ X (.Tuple es x1 pos) (gTq n gs):=by
 rintro ad s σ H v u Q I r ⟨t,env,Fr,k,rs,q,c⟩;cases t with
 |tup ts=>exact fZ hc h hn hst ad s σ H v u Q I r ⟨.tup ts,env,Fr,k,rs,q,c⟩
 |cst ts=>exact fZ hc h hn hst ad s σ H v u Q I r ⟨.cst ts,env,Fr,k,rs,q,c⟩
 |lst o ts=>
  obtain⟨a,vs,rfl,hq,l,rp⟩:=aC rfl rs.head;refine Ds hc h hn hst ad s σ H _ u Q I r ⟨a,vs,rfl,hq,by rw[<-l];exact q.1,ts,env,Fr,k,l,⟨rs.1,?_⟩,q.2,c⟩;exact rp.perm (s_ _ _ _)
 | _=>exact L4 q
end
end PL
namespace ZT
open PySem
abbrev Up(l:List Nat):Prop:=l.Pairwise (·<·)
theorem v9{l:List Nat}(h:Up l){i j:Nat}{x y:Nat}(hi:l[i]?=some x)(hj:l[j]?=some y)(im:i<j):x<y:=by obtain⟨a,rfl⟩:=c_.mp hi;obtain⟨b,rfl⟩:=c_.mp hj;exact I_.mp h i j a b im
theorem rM{xs:Array Nat}{j:Nat}(hu:Up xs.toList):∀(f lo hi:Nat),lo<=hi->hi<=xs.size->hi-lo<=f->(∀k x,k<lo->xs[k]?=some x->x<j)->(∀k x,hi<=k->xs[k]?=some x->j<=x)->
  NS xs j f lo hi<=xs.size/\(∀k x,k<NS xs j f lo hi->xs[k]?=some x->x<j)/\∀k x,NS xs j f lo hi<=k->xs[k]?=some x->j<=x
 |0,lo,hi,h1,h2,h3,a,b=>by
  have e:lo=hi:=by omega
  subst e;exact⟨h2,a,b⟩
 |f+1,lo,hi,h1,h2,h3,a,b=>by
  unfold NS;by_cases hl:lo<hi
  ·rw[if_pos hl];have hm:(lo+hi)/2<xs.size:=by omega
   have e:xs.getD ((lo+hi)/2) j=xs[(lo+hi)/2]:=by rw[v_,w_ hm];rfl
   have em:xs.toList[(lo+hi)/2]?=some xs[(lo+hi)/2]:=by rw[u_];exact w_ hm
   dsimp only;rw[e];by_cases hx:xs[(lo+hi)/2]<j
   ·rw[if_pos hx];refine rM hu f _ _ (by omega) h2 (by omega) (λk x hk ek=>?_) b;by_cases hk2:k=(lo+hi)/2
    ·subst hk2;rw[w_ hm]at ek;cases ek;exact hx
    exact Jd (v9 hu (by rw[u_];exact ek) em (by omega)) hx
   rw[if_neg hx];refine rM hu f _ _ (by omega) (by omega) (by omega) a λk x hk ek=>?_
   by_cases hk2:k=(lo+hi)/2
   ·subst hk2;rw[w_ hm]at ek;cases ek;exact K9 hx
   have:=v9 hu em (by rw[u_];exact ek) (by omega);omega
  rw[if_neg hl];have e:lo=hi:=by omega
  subst e;exact⟨h2,a,b⟩
variable {xs:Array Nat}
theorem k8(j:Nat)(hu:Up xs.toList):L9 xs j<=xs.size/\(∀k x,k<L9 xs j->xs[k]?=some x->x<j)/\∀k x,L9 xs j<=k->xs[k]?=some x->j<=x:=
 rM hu _ _ _ (Hq _) (e_ _) (by omega) (λk x hk=>by omega) λk x hk ek=>by rw[HW hk]at ek;cases ek
theorem xf{j:Nat}(hu:Up xs.toList)(hj:xs[L9 xs j]?≠some j):Up (Me xs (L9 xs j) j).toList:=by
 obtain⟨h1,h2,h3⟩:=k8 j hu;rw[Na];have sp:xs.toList=xs.toList.take (L9 xs j)++xs.toList.drop (L9 xs j):=(A' _ _).symm;have hu':=hu;rw[sp]at hu';obtain⟨p,q,r⟩:=KI.mp hu';have lt:∀x∈xs.toList.take (L9 xs j),x<j:=λx hx=>by obtain⟨k,hk,e⟩:=HP.mp hx;rw[q_]at hk;rw[List.getElem_take]at e;exact h2 k x (by omega) (by rw[<-u_,c_];exact⟨by omega,e⟩)
 have gt:∀x∈xs.toList.drop (L9 xs j),j<x:=λx hx=>by
  obtain⟨k,hk,e⟩:=HP.mp hx;rw[o_]at hk;rw[List.getElem_drop]at e;have e2:xs[L9 xs j+k]?=some x:=by rw[<-u_,c_];exact⟨by omega,e⟩
  refine KZ (h3 _ x (by omega) e2) λz=>?_
  subst z;by_cases k0:k=0
  ·subst k0;exact hj e2
  have hb:L9 xs j<xs.size:=by rw[G']at hk;omega
  have g:=v9 hu (i:=L9 xs j) (j:=L9 xs j+k) (by rw[u_];exact w_ hb) (by rw[u_];exact e2) (by omega);have:=h3 _ _ (e_ _) (w_ hb);omega
 exact KI.mpr ⟨p,Im.mpr ⟨gt,q⟩,λa ha b hb=>by
  rcases m_.mp hb with e|hb
  ·rw[e];exact lt a ha
  exact r a ha b hb⟩
theorem qE(j:Nat):R4 #[] j=false:=rfl
open PySem PyProof.Rows
section
variable{prog:LV}{w:L0}{A:L_}{E:LM->LP->Prop}{s:LP}
abbrev bt(w:L0):Bool:=w.params.followText "set-order"
theorem stored{h:LZ}{a:LO}{o:Obj}{es:Array (Int×LM)}{ep:Nat}{t:M1}{es':Array (Int×LM)}{t':M1}(ho:h.get? a=some o)(hd:o.data=.set es ep t) :
  (h.update a (OC es' t')).get? a=some {o with data:=.set es' (ep+1) t'}:=by
 have e:=MA (OC es' t') ho (by rw[putSet_of es' t' hd];rfl);rw[putSet_of es' t' hd]at e;exact e
end
open PySem PyProof.Rows
section
variable{prog:LV}{w:L0}{A:L_}{E:LM->LP->Prop}{s:LP}
abbrev nob(w:L0):Obj:={ cls:=.type "set",dict:=none,data:=.set #[] 0 (.fresh 0 0 (!bt w)) }
theorem B0(a:LM){Q:LM->LP->Prop}(h:Q (.ref s.heap.objs.size) {s with heap:=s.heap.push (nob w) }):Nn (LW prog w) A (.call (.builtin "set.__new__") ⟨[.type "set",a],[]⟩) (wants Q E) s:=by
 refine Qm ?_;show LS _ A.in1 (checkBuiltinCall "set.__new__" ⟨[.type "set",a],[]⟩ >>= λ_=>Oz (.builtin "set.__new__" ⟨[.type "set",a],[]⟩)) _ _ s;refine LL (OY (F.newCall_set_1 a) (LR ⟨N0 Qn _,Ni F.entry_set_new ?_⟩));rw[M7 Qn _];unfold Nq.«set.__new__» QY;have hsub:=sub_set_self;obtain⟨hp,g,d,tk,os⟩:=s;dsimp only
 wp_walk
 refine wpAny_askSetting (LR ?_);dsimp only;simp only[newObj];refine LL (wpAny_alloc (LR ?_));exact LR h
end
end ZT
namespace PL
open PySem PySem.Spec PyProof.Rows L2
def uR:PM
 | .lst true ts,[.int i],k=>(0<=i/\i<2 ^ 60)/\got (ts[i.toNat]?) λt=>k (.lst true (ts.eraseIdx i.toNat)) t
 | _,_,_=>False
section
variable{X:Cx}{pos:Pos}{e:LY}{es:List LY}{fe:PF}{fr:PFs}{m:PM}{name:Str}{id:String}{apos io spos xp yp kp vp p1 pos1:Pos}{x:Str}{κ:Nat->Bool}{kn:Nat}
theorem qj:∀{ts:List T}{vs:List V}{i:Nat}{t:T}{w:V},ts[i]?=some t->vs[i]?=some w->(zz ts vs).Perm ((t,some w)::zz (ts.eraseIdx i) (vs.eraseIdx i))
 | [],vs,i,t,w,e,f=>by simp at e
 |t::ts,[],i,_,w,e,f=>by simp at f
 |t::ts,v::vs,0,u,w,e,f=>by cases e;cases f;exact .refl _
 |t::ts,v::vs,i+1,u,w,e,f=>((qj (ts:=ts) (vs:=vs) (i:=i) e f).cons _).trans (.swap _ _ _)
theorem wQ:MtP X "list.pop" uR:=by
 rintro ad s σ H x xs v us Q I rx r ⟨t,ts,Γ,k,l,rp,g,c⟩;unfold uR at g;split at g
 ·rename_i k ts i;obtain⟨y,rfl⟩:=zz1 l rfl;obtain⟨⟨h0,h1⟩,g⟩:=g;obtain⟨t,et,kt⟩:=aG g;obtain⟨a,vs,ea,ha,la,db⟩:=ir rp;cases ea;have hy:y=.int i:=aQ (db.perm ((s_ _ _ _).cons _ |>.trans (.swap _ _ _)));subst hy;have hi:i.toNat<ts.length:=(c_.mp et).1;obtain⟨w,ew⟩:=ra la et;refine zD ad s σ H _ _ v us Q I rx r ⟨a,vs,i,i.toNat,w,rfl,rfl,ha,by omega,by omega,Qo h0 (by rw[<-la];omega),ew,c _ _ _ _ kt ?_⟩;have dL:Rp X.K H ((.bare,some (.ref a))::(zz ts vs++Γ)):=by
   have:Rp X.K H ((.int i,some (.int i))::((.bare,some (.ref a))::(zz ts vs++Γ))):=db.perm (by refine GX (.cons _ d_) ?_;exact .swap _ _ _)
   exact this.tail
  have rp4:Rp X.K H ((.bare,some (.ref a))::(zz (ts.eraseIdx i.toNat) (vs.eraseIdx i.toNat)++((t,some w)::Γ))):=dL.perm (.cons _ (((qj et ew).append_right Γ).trans d_.symm));exact(gC rp4 (by rw[KJ,KJ,la]) Put.up).perm (.swap _ _ _)
 exact L4 g
end
theorem bz{ts:List T}{i:Int}{k:T->T->Prop}:uR (.lst true ts) [.int i] k=((0<=i/\i<2 ^ 60)/\ff (ts[i.toNat]?) (k:=⟨λt=>k (.lst true (ts.eraseIdx i.toNat)) t⟩)):=rfl
end PL
namespace ZV
open PySem
theorem nD:∀j:Nat,∃m,5 ^ 2 ^ j=1+2 ^ (j+2)*(2*m+1)
 |0=>⟨0,rfl⟩
 |j+1=>by
  obtain⟨m,e⟩:=nD j;refine⟨m+2 ^ j*((2*m+1)*(2*m+1)),?_⟩;rw[Hg 2 j,LG,e,show j+1+2=j+3 from rfl,show(2:Nat) ^ (j+3)=2*2 ^ (j+2)from by rw[Hg];exact Nat.mul_comm _ _,show(2:Nat) ^ (j+2)=4*2 ^ j from by rw[Hg,Hg];omega];generalize 2 ^ j=a;generalize hc:2*m+1=c;rw[show 2*(m+a*(c*c))+1=c+2*(a*(c*c)) by omega,Nat.pow_two];clear e hc
  grind
theorem m8{M x:Nat}(h:x%M=1%M):∀n,x ^ n%M=1%M
 |0=>rfl
 |n+1=>by rw[Hg,Ju,m8 h n,h,<-Ju]
theorem rZ:∀(k n:Nat),5 ^ n%2 ^ (k+2)=1->2 ^ k ∣ n
 |0,n,_=>Nat.one_dvd _
 |k+1,n,h=>by
  have h0:5 ^ n%2 ^ (k+2)=1:=by have:5 ^ n%2 ^ (k+1+2)%2 ^ (k+2)=5 ^ n%2 ^ (k+2):=Nat.mod_mod_of_dvd _ ⟨2,by rw[<-Hg]⟩;rw[h]at this;rw[<-this];exact Hj (K0 (by omega))
  obtain⟨q,rfl⟩:=rZ k n h0;rcases Nat.mod_two_eq_zero_or_one q with e|e
  ·obtain⟨r,rfl⟩:=Kt e;exact⟨r,by rw[Hg,Jv]⟩
  exfalso;obtain⟨m,em⟩:=nD k;obtain⟨r,rfl⟩:∃r,q=2*r+1:=⟨q/2,by omega⟩;have s2:5 ^ 2 ^ (k+1)%2 ^ (k+3)=1%2 ^ (k+3):=by obtain⟨m',e'⟩:=nD (k+1);rw[e',show k+1+2=k+3 from rfl,Iw]
  have e1:5 ^ (2 ^ k*(2*r+1))=(5 ^ 2 ^ (k+1)) ^ r*5 ^ 2 ^ k:=by rw[<-LG,<-LH];congr 1;rw[LI,K6,Hg,Jv]
  have h1:5 ^ (2 ^ k*(2*r+1))%2 ^ (k+3)=1:=h;rw[e1,Ju,m8 s2 r,<-Ju,Ku,em,show(2:Nat) ^ (k+3)=2 ^ (k+2)*2 from Hg ..]at h1;have p:0<2 ^ (k+2):=HA _;have:(1+2 ^ (k+2)*(2*m+1))%(2 ^ (k+2)*2)=1+2 ^ (k+2):=by
   rw[show 1+2 ^ (k+2)*(2*m+1)=1+2 ^ (k+2)+2 ^ (k+2)*2*m by rw[LI,K6,Jv];omega,Iw];refine Hj ?_;have:4<=2 ^ (k+2):=by rw[Hg,Hg];have:=HA k;omega
   omega
  omega
noncomputable def lp(k:Nat):Nat->Nat->Nat
 |0,i=>i
 |n+1,i=>lp k n ((i*5+1)%2 ^ k)
theorem Cj{k:Nat}:∀{n i:Nat},i<2 ^ k->lp k n i<2 ^ k
 |0,_,h=>h
 |n+1,i,_=>Cj (n:=n) (i:=(i*5+1)%2 ^ k) (Hl _ (HA k))
theorem rz{k:Nat}:∀(n i:Nat),(4*lp k n i+1)%2 ^ (k+2)=5 ^ n*(4*i+1)%2 ^ (k+2)
 |0,i=>by rw[Lx,Ku];rfl
 |n+1,i=>by
  have e:(4*((i*5+1)%2 ^ k)+1)%2 ^ (k+2)=5*(4*i+1)%2 ^ (k+2):=by
   rw[show(2:Nat) ^ (k+2)=4*2 ^ k from by rw[Hg,Hg];omega];have d:=Nat.div_add_mod (i*5+1) (2 ^ k);rw[show 5*(4*i+1)=4*((i*5+1)%2 ^ k)+1+4*2 ^ k*((i*5+1)/2 ^ k) by rw[Jv];omega,Iw]
  rw[lp,rz n,Ju,e,<-Ju,show 5 ^ (n+1)=5 ^ n*5 from Hg ..,Jv]
variable {i:Nat}
theorem yG{k:Nat}:∀{m n:Nat},m<=n->n<2 ^ k->lp k m i=lp k n i->m=n:=by
 intro m n hmn hn h;have f1:=rz (k:=k) m i;have f2:=rz (k:=k) n i;rw[h]at f1;have e:5 ^ m*(4*i+1)%2 ^ (k+2)=5 ^ n*(4*i+1)%2 ^ (k+2):=f1.symm.trans f2;obtain⟨d,rfl⟩:∃d,n=m+d:=⟨n-m,by omega⟩;have le:5 ^ m*(4*i+1)<=5 ^ (m+d)*(4*i+1):=Nat.mul_le_mul_right _ (KL (by decide) hmn);have dv:2 ^ (k+2) ∣ 5 ^ (m+d)*(4*i+1)-5 ^ m*(4*i+1):=Kt (Nat.sub_mod_eq_zero_of_mod_eq e.symm);have ee:5 ^ (m+d)*(4*i+1)-5 ^ m*(4*i+1)=5 ^ m*(4*i+1)*(5 ^ d-1):=by rw[Nat.mul_sub,K6,LH,Nat.mul_right_comm]
 rw[ee]at dv;have co:Nat.Coprime (2 ^ (k+2)) (5 ^ m*(4*i+1)):=by refine Nat.Coprime.pow_left _ (Nat.Coprime.mul_right (Nat.Coprime.pow_right _ (by decide)) ?_);show Nat.gcd 2 (4*i+1)=1;rw[Nat.gcd_rec,show(4*i+1)%2=1 by omega];exact Nat.gcd_one_left 2
 have dd:=co.dvd_of_dvd_mul_left dv;have p5:0<5 ^ d:=Nat.pow_pos (by decide);have m1:5 ^ d%2 ^ (k+2)=1:=by obtain⟨c,hc⟩:=dd;rw[show 5 ^ d=1+2 ^ (k+2)*c by omega,Iw];exact Hj (K0 (by omega))
 obtain⟨c,hc⟩:=rZ k d m1;cases c with
 |zero=>omega
 |succ c=>
  have:2 ^ k<=d:=by rw[hc,Nat.mul_succ];omega
  omega
variable {α:Type}
theorem BQ{l m:List α}(nd:l.Nodup)(h:∀z∈l,z∈m):l.length<=m.length:=by
 haveI:DecidableEq α:=λa b=>Rh (a=b)
 induction l generalizing m with
 |nil=>exact Hq _
 |cons a l ih=>
  obtain⟨n1,n2⟩:=kw.mp nd;have hm:a∈m:=h a A_;have:=ih (m:=m.erase a) n2 λz hz=>(List.mem_erase_of_ne (λe:z=a=>n1 (by rw[<-e];exact hz))).mpr (h z (l_ _ hz))
  rw[List.length_erase_of_mem hm]at this;have:=List.length_pos_of_mem hm;rw[f_];omega
theorem Ct{N:Nat}:∀{l:List Nat},l.Nodup->(∀x∈l,x<N)->N<=l.length->∀j,j<N->j∈l:=by
 intro l nd h hl j hj;refine MN λhn=>?_;have sub:∀x∈j::l,x∈r_ N:=λx m=>z_.mpr ((m_.mp m).elim (λe=>by rw[e];exact hj) (h x))
 have nd2:(j::l).Nodup:=kw.mpr ⟨hn,nd⟩;have:=BQ nd2 sub;rw[f_,D']at this;omega
variable {j:Nat}
theorem CO{k:Nat}(hi:i<2 ^ k)(hj:j<2 ^ k):∃n,n<2 ^ k/\lp k n i=j:=by
 have nd:((r_ (2 ^ k)).map λn=>lp k n i).Nodup:=by
  refine IJ.mpr (List.Pairwise.imp_of_mem (λ{a b} ha hb hab e=>?_) JB);have ha:=z_.mp ha;have hb:=z_.mp hb;rcases K2 a b with h|h
  ·exact hab (yG h hb e)
  exact hab (yG h ha e.symm).symm
 have:=Ct nd (λx m=>by obtain⟨n,_,rfl⟩:=Ha.mp m;exact Cj hi) (by rw[a_,D'];exact e_ _) j hj;obtain⟨n,hn,e⟩:=Ha.mp this;exact⟨n,z_.mp hn,e⟩
noncomputable def hd(k:Nat):Nat->Nat->Nat->Nat
 |0,i,_=>i
 |n+1,i,p=>hd k n ((i*5+1+p/32)%2 ^ k) (p/32)
theorem EL{k:Nat}:∀{n i:Nat},hd k n i 0=lp k n i
 |0,_=>rfl
 |n+1,i=>by show hd k n ((i*5+1+0/32)%2 ^ k) (0/32)=lp k n ((i*5+1)%2 ^ k);rw[Nat.zero_div,KY,EL]
theorem uY{k j:Nat}(hj:j<2 ^ k):∀{m i p:Nat},p<32 ^ m->i<2 ^ k->∃n,n<m+2 ^ k/\hd k n i p=j
 |0,i,p,hp,hi=>by
  have e:p=0:=by rw[Lx]at hp;omega
  subst e;obtain⟨n,hn,e⟩:=CO hi hj;exact⟨n,by omega,by rw[EL,e]⟩
 |m+1,i,p,hp,hi=>by obtain⟨n,hn,e⟩:=uY hj (m:=m) (i:=(i*5+1+p/32)%2 ^ k) (p:=p/32) (by rw[Hg]at hp;omega) (Hl _ (HA k));exact⟨n+1,by omega,e⟩
open PySem ZT
variable {p:L7}
section
variable{t:M1}{k:Nat}
noncomputable def adv(t:M1):Nat->L7->L7
 |0,p=>p
 |n+1,p=>adv t n (t.advance p)
structure GoP (k:Nat) (p:L7):Prop where
 i:p.i<2 ^ k
 more:p.more<=9
 pb:p.perturb<32 ^ 13
 no:p.dummy=none
theorem zS{mask:Nat}:Mf mask i-i<=9:=by unfold Mf;split <;> omega
theorem v7{h:Int}:Mq h<32 ^ 13:=by unfold Mq;have:=IG h (show(0:Int)<2 ^ 64 by decide);have:=Ja h (show((2:Int) ^ 64)≠0 by decide);omega
theorem sP(hm:t.mask+1=2 ^ k)(h:Int):GoP k (t.probeStart h):=⟨by show Mq h%(t.mask+1)<2 ^ k;rw[hm];exact Hl _ (HA k),zS,v7,rfl⟩
theorem CA(hm:t.mask+1=2 ^ k)(g:GoP k p):GoP k (t.advance p):=by
 unfold ML;split
 ·exact⟨g.i,GZ (Nat.sub_le _ _) g.more,g.pb,g.no⟩
 refine⟨?_,zS,H_ (Lk _ _) g.pb,g.no⟩;show(p.i*5+1+p.perturb/32)%(t.mask+1)<2 ^ k;rw[hm];exact Hl _ (HA k)
theorem ni(hm:t.mask+1=2 ^ k):∀{m:Nat}{p:L7},p.more=m->∃q,adv t (m+1) p=q/\q.j=q.i/\q.i=(p.i*5+1+p.perturb/32)%2 ^ k/\q.perturb=p.perturb/32
 |0,p,e=>by refine⟨_,rfl,?_⟩;show(t.advance p).j=(t.advance p).i/\(t.advance p).i=_/\(t.advance p).perturb=_;unfold ML;rw[if_neg (by omega)];refine⟨rfl,?_,rfl⟩;show(p.i*5+1+p.perturb/32)%(t.mask+1)=_;rw[hm]
 |m+1,p,e=>by
  have e1:t.advance p={p with j:=p.j+1,more:=p.more-1}:=by unfold ML;rw[if_pos (by omega)]
  obtain⟨q,h1,h2⟩:=ni hm (m:=m) (p:=t.advance p) (by rw[e1];show p.more-1=m;omega);refine⟨q,h1,?_⟩;rw[e1]at h2;exact h2
theorem gH{a b:Nat}:∀{p:L7},adv t (a+b) p=adv t b (adv t a p):=by
 induction a with
 |zero=>intro p;rw[Jg];rfl
 |succ a ih=>intro p;rw[Nat.succ_add];exact ih
theorem rK(hm:t.mask+1=2 ^ k):∀{n:Nat}{p:L7},GoP k p->GoP k (adv t n p)
 |0,_,g=>g
 |n+1,_,g=>rK hm (n:=n) (CA hm g)
theorem zW(hm:t.mask+1=2 ^ k):∀{n:Nat}{p:L7},GoP k p->∃M,M<=10*(n+1)/\(adv t M p).j=hd k (n+1) p.i p.perturb
 |0,p,g=>by obtain⟨q,h1,h2,h3,h4⟩:=ni hm (p:=p) rfl;exact⟨p.more+1,by have:=g.more;omega,by rw[h1,h2,h3];rfl⟩
 |n+1,p,g=>by
  obtain⟨q,h1,h2,h3,h4⟩:=ni hm (p:=p) rfl;have gq:GoP k q:=by rw[<-h1];exact rK hm g
  obtain⟨M,hM,e⟩:=zW hm (n:=n) gq;refine⟨p.more+1+M,by have:=g.more;omega,?_⟩;rw[gH,h1,e,h3,h4]
  rfl
theorem D6(hm:t.mask+1=2 ^ k)(g:GoP k p)(hj:j<2 ^ k):∃M,M<=10*(13+2 ^ k)/\(adv t M p).j=j:=by obtain⟨n,hn,e⟩:=uY hj (m:=13) (i:=(p.i*5+1+p.perturb/32)%2 ^ k) (p:=p.perturb/32) (H_ (Lk _ _) g.pb) (Hl _ (HA k));obtain⟨M,hM,e2⟩:=zW hm (n:=n) g;exact⟨M,by omega,e2.trans e⟩
theorem BJ(hm:t.mask+1=2 ^ k)(hu:Up t.place.toList)(hn:t.dummies=#[])(hf:t.place.size<=t.mask):∃j,j<2 ^ k/\t.slot j=.empty:=by
 refine MN λhc=>?_;have all:∀j∈r_ (2 ^ k),j∈t.place.toList:=λj mj=>by refine MN λnj=>hc ⟨j,z_.mp mj,?_⟩;unfold N1;dsimp only;rw[if_neg,hn,qE,if_neg B_];intro z;exact nj (D_ (by rw[u_];exact eq_of_beq z))
 have:=BQ JB all;rw[D',G']at this;omega
theorem reach(hm:t.mask+1=2 ^ k)(hu:Up t.place.toList)(hn:t.dummies=#[])(hf:t.place.size<=t.mask)(g:GoP k p):∃M,M<10*Mj t.mask/\t.slot (adv t M p).j=.empty:=by obtain⟨j,hj,e⟩:=BJ hm hu hn hf;obtain⟨M,hM,e2⟩:=D6 hm g hj;exact⟨M,by unfold Mj;omega,by rw[e2];exact e⟩
theorem A6(hn:t.dummies=#[])(j:Nat):t.slot j≠.dummy:=by
 unfold N1;dsimp only;split
 ·exact λz=>by cases z
 rw[hn,qE,if_neg B_];exact λz=>by cases z
end
open PySem ZT
variable {owner:Array (Option Nat)}
section
variable{k mask:Nat}
theorem vL(hm:mask+1=2 ^ k){owner:Array (Option Nat)}:∀{n i p f:Nat},owner.getD (hd k n i p) (some 0)=none->n<f->∃j,Mm mask owner f i p=some j/\owner.getD j (some 0)=none
 |n,i,p,0,_,l=>absurd l (HI _)
 |n,i,p,f+1,e,l=>by
  unfold Mm;cases hf:(r_ (Mf mask i+1-i)).find? λx=>(owner.getD (i+x) (some 0)).isNone with
  |some x=>
   have:=Kn hf;exact⟨i+x,rfl,Option.isNone_iff_eq_none.mp this⟩
  |none=>
   dsimp only;cases n with
   |zero=>
    have:=JX.mp hf 0 (z_.mpr (by unfold Mf;split <;> omega));rw[KY,show owner.getD i (some 0)=none from e]at this;exact absurd rfl this
   |succ n=>
    have e':owner.getD (hd k n ((i*5+1+p/32)%(mask+1)) (p/32)) (some 0)=none:=by rw[hm];exact e
    exact vL hm e' (Ik l)
theorem sS{α:Type}{p q:α->Bool}{j:α}(hp:p j=false)(hq:q j=true)(he:∀x,x≠j->q x=p x):∀{l:List α},l.Nodup->j∈l->(l.filter q).length=(l.filter p).length+1
 | [],_,m=>by cases m
 |x::l,nd,m=>by
  obtain⟨n1,n2⟩:=kw.mp nd;by_cases h:x=j
  ·subst h;rw[HZ,HZ,hp,hq,if_pos rfl,if_neg B_,f_];congr 2;exact J6 λy hy=>he y λz=>n1 (by rw[<-z];exact hy)
  have ih:=sS hp hq he n2 ((m_.mp m).resolve_left λz=>h z.symm);rw[HZ,HZ,he x h];split
  ·rw[f_,f_,ih]
  exact ih
structure Own (k:Nat) (owner:Array (Option Nat)) (c:Nat):Prop where
 sz:owner.size=2 ^ k
 cnt:((r_ (2 ^ k)).filter λj=>(owner.getD j none).isSome).length=c
 lt:∀j x,owner.getD j none=some x->x<c
theorem G6:Own k (JG (2 ^ k) none) 0 where
 sz:=Array.size_replicate
 cnt:=by rw[List.length_eq_zero_iff,List.filter_eq_nil_iff];intro j hj;rw[v_,Jh];split <;> exact B_
 lt:=λj x e=>by rw[v_,Jh]at e;split at e <;> cases e
theorem yV{c:Nat}(o:Own k owner c)(hc:c<2 ^ k):∃j,j<2 ^ k/\owner.getD j (some 0)=none:=by
 refine MN λhn=>?_;have all:((r_ (2 ^ k)).filter λj=>(owner.getD j none).isSome)=r_ (2 ^ k):=by
  refine JO.mpr λj mj=>?_;have hj:=z_.mp mj;cases h:owner.getD j none with
  |some x=>rfl
  |none=>
   refine absurd ⟨j,hj,?_⟩ hn;have hs:j<owner.size:=by rw[o.sz];exact hj
   rw[v_,w_ hs]at h ⊢;exact h
 have:=o.cnt;rw[all,D']at this;omega
theorem B9{c:Nat}(o:Own k owner c)(e:owner.getD j (some 0)=none):Own k (owner.setIfInBounds j (some c)) (c+1):=by
 have hs:j<owner.size:=by refine Ke λz=>?_;rw[v_,HW z]at e;cases e
 have e0:owner.getD j none=none:=by rw[v_,w_ hs]at e ⊢;exact e
 have g1:(owner.setIfInBounds j (some c)).getD j none=some c:=by
  rw[v_,IU hs]
  rfl
 have g2:∀x,x≠j->(owner.setIfInBounds j (some c)).getD x none=owner.getD x none:=λx hx=>by rw[v_,v_,JC (Nl hx)]
 refine⟨by rw[Array.size_setIfInBounds];exact o.sz,?_,λx y h=>?_⟩
 ·rw[sS (p:=λx=>(owner.getD x none).isSome) (j:=j) (by rw[e0];rfl) (by rw[g1];rfl) (λx hx=>by rw[g2 x hx]) JB (z_.mpr (by rw[<-o.sz];exact hs)),o.cnt]
 by_cases z:x=j
 ·rw[z,g1]at h;cases h;exact Lb _
 rw[g2 x z]at h;exact J7 (o.lt x y h)
theorem nY{α β:Type}{f:α->Option β}:∀{l:List α},(l.filterMap f).length=(l.filter λx=>(f x).isSome).length
 | []=>rfl
 |x::l=>by
  rw[IB,HZ];cases h:f x with
  |none=>exact nY
  |some y=>
   show(y::l.filterMap f).length=(x::_).length;rw[f_,f_,nY]
theorem sM{n:Nat}:∀(f a:Nat),n<2 ^ (a+f)->∃b,a<=b/\O6 n f (2 ^ a)=2 ^ b/\n<2 ^ b/\(b=a\/2 ^ b<=2*n)
 |0,a,h=>⟨a,e_ _,rfl,h,.inl rfl⟩
 |f+1,a,h=>by
  unfold O6;by_cases c:2 ^ a<=n
  ·rw[if_pos c,<-Hg];obtain⟨b,h1,h2,h3,h4⟩:=sM f (a+1) (by rw[JW];exact h);refine⟨b,by omega,h2,h3,.inr ?_⟩;rcases h4 with rfl|h4
   ·rw[Hg];omega
   exact h4
  rw[if_neg c];exact⟨a,e_ _,rfl,by omega,.inl rfl⟩
theorem zV{n:Nat}(h:n<1000000):∃b,MW n=2 ^ b/\3<=b/\n<2 ^ b/\(b=3\/2 ^ b<=2*n):=by obtain⟨b,h1,h2,h3,h4⟩:=sM (n:=n) 64 3 (C' h (by decide));exact⟨b,h2,h1,h3,h4⟩
end
open PySem ZT PyProof.Rows
variable {Q:Bool->LP->Prop}{b:LO}{h:LZ}{row:List Int}
section
variable{prog:LV}{w:L0}{A:L_}{E:LM->LP->Prop}{s:LP}
noncomputable def TI(h:LZ)(row:List Int)(b:LO):Prop:=∃o n,∃ps:List (Int×Tok),h.get? b=some o/\o.cls=.type "tuple"/\o.data=.seq (ps.map λp=>MB p.1 p.2).toArray n/\ps.map (·.1)=row
theorem hG:∀{ps:List (Int×Tok)},ItemsAre (Qp prog w) (ps.map (·.1)) (ps.map λp=>MB p.1 p.2)
 | []=>.nil
 |p::ps=>.cons (intKind_is _ _ _ _) hG
theorem TI.key (x:TI h row b):IsTupleKey (Qp prog w) h row b:=by obtain⟨o,n,ps,h1,h2,h3,rfl⟩:=x;exact⟨o,_,n,h1,h2,h3,hG⟩
theorem TI.at {h':LZ}(x:TI h row b)(k:∀o,h.get? b=some o->h'.get? b=some o):TI h' row b:=let ⟨o,n,ps,h1,r⟩:=x;⟨o,n,ps,k o h1,r⟩
theorem tw(x:TI s.heap row b)(q:Q false s):LS (LW prog w) A (NT 8 (.ref b)) Q E s:=by
 have hT:=(x.key (prog:=prog) (w:=w)).typeIs;obtain⟨o,n,ps,h1,h2,h3,h4⟩:=x;unfold NT;refine LL (OI hT ?_);dsimp only;refine LL (LR ?_);rw[if_neg (by decide)];refine LL (Mn h1 h3 ?_);refine LL ?_;show LS _ _ (forIn (ps.map λp=>MB p.1 p.2).toArray _ _) _ _ s;rw[<-K3];refine OM _ (λrest r s'=>r.1=none/\s'=s/\∀v∈rest,∃i t,v=MB i t) _ ?_ ?_ _ _ ⟨rfl,rfl,λv hv=>?_⟩
 ·rintro v rest r s' ⟨hr,rfl,hall⟩;obtain⟨i,t,rfl⟩:=hall v A_;refine LL (?_:LS _ _ (NT 7 (.int i t)) _ _ _);unfold NT;refine LR ?_;simp only[IE,if_false];exact LR ⟨rfl,rfl,λu hu'=>hall u (l_ _ hu')⟩
 ·rintro⟨r1,r2⟩ s' ⟨hr,rfl,_⟩;simp only at hr;subst hr;exact LR q
 obtain⟨p,_,rfl⟩:=Ha.mp (show v∈ps.map λp=>MB p.1 p.2 from hv);exact⟨_,_,rfl⟩
theorem ye(x:TI s.heap row b)(q:Q true s):LS (LW prog w) A (O0 8 (.ref b)) Q E s:=by
 have hT:=(x.key (prog:=prog) (w:=w)).typeIs;obtain⟨o,n,ps,h1,h2,h3,h4⟩:=x;unfold O0;refine LL (MX hT F.slot_tuple_hash.lookup ?_);dsimp only;refine LL (Mn h1 h3 ?_);refine LL ?_;show LS _ _ (forIn (ps.map λp=>MB p.1 p.2).toArray _ _) _ _ s;rw[<-K3];refine OM _ (λrest r s'=>r.1=none/\s'=s/\∀v∈rest,∃i t,v=MB i t) _ ?_ ?_ _ _ ⟨rfl,rfl,λv hv=>?_⟩
 ·rintro v rest r s' ⟨hr,rfl,hall⟩;obtain⟨i,t,rfl⟩:=hall v A_;refine LL (?_:LS _ _ (O0 7 (.int i t)) _ _ _);unfold O0;refine LR ?_;simp only[J2,IE,if_false];exact LR ⟨rfl,rfl,λu hu'=>hall u (l_ _ hu')⟩
 ·rintro⟨r1,r2⟩ s' ⟨hr,rfl,_⟩;simp only at hr;subst hr;exact LR q
 obtain⟨p,_,rfl⟩:=Ha.mp (show v∈ps.map λp=>MB p.1 p.2 from hv);exact⟨_,_,rfl⟩
theorem zv(x:TI s.heap row b){vs:List LM}(hv:∀v∈vs,∃c r,v=.ref c/\TI s.heap r c)(q:Q false s):LS (LW prog w) A (PX (.ref b) vs) Q E s:=by
 unfold PX;refine LL ?_;refine OM _ (λrest r s'=>r.1=none/\s'=s/\∀v∈rest,∃c r,v=.ref c/\TI s.heap r c) _ ?_ ?_ _ _ ⟨rfl,rfl,hv⟩
 ·rintro v rest r s' ⟨hr,rfl,hall⟩;obtain⟨c,r',rfl,y⟩:=hall v A_;dsimp only;have fin:(none:Option Bool)=none/\s'=s'/\∀v∈rest,∃c r,v=.ref c/\TI s'.heap r c:=⟨rfl,rfl,λu hu'=>hall u (l_ _ hu')⟩;refine L' (λ_=>LR fin) (λ_=>?_);refine LL (O7 (x.key (prog:=prog) (w:=w)) ?_);rw[if_neg (by decide)];refine LL (O7 (y.key (prog:=prog) (w:=w)) ?_);rw[if_neg (by decide)];refine LL (tw x ?_);rw[if_neg (by decide)];refine LL (tw y ?_);rw[if_neg (by decide)];exact LR fin
 rintro⟨r1,r2⟩ s' ⟨hr,rfl,_⟩;simp only at hr;subst hr;exact LR q
end
open PySem ZT
section
variable{t t':M1}{k mask:Nat}
theorem jc(h:t.mask=t'.mask):∀{n:Nat}{p:L7},adv t n p=adv t' n p
 |0,_=>rfl
 |n+1,p=>by
  have e:t.advance p=t'.advance p:=by unfold ML;rw[h]
  show adv t n (t.advance p)=adv t' n (t'.advance p);rw[e];exact jc h
theorem nZ(h:t.mask=t'.mask){x:Int}:t.probeStart x=t'.probeStart x:=by unfold RE;rw[h]
def Way(t:M1)(h:Int)(j:Nat):Prop:=∃M,M<10*Mj t.mask/\(adv t M (t.probeStart h)).j=j/\∀m,m<M->(adv t m (t.probeStart h)).j∈t.place.toList
theorem Way.mono {h:Int}(w:Way t h j)(e:t.mask=t'.mask)(s:∀x∈t.place.toList,x∈t'.place.toList):Way t' h j:=by obtain⟨M,h1,h2,h3⟩:=w;exact⟨M,by rw[<-e];exact h1,by rw[<-nZ e,<-jc e];exact h2,λm hm=>by rw[<-nZ e,<-jc e];exact s _ (h3 m hm)⟩
theorem ze{xs:Array Nat}(hu:Up xs.toList)(e:xs[i]?=some j):L9 xs j=i:=by
 obtain⟨h1,h2,h3⟩:=k8 j hu;have hi:i<xs.size:=(Iq.mp e).1;rcases Nat.lt_trichotomy (L9 xs j) i with c|c|c
 ·have g:=h3 _ _ (e_ _) (w_ (Jd c hi));have:=v9 hu (by rw[u_];exact w_ (Jd c hi)) (by rw[u_];exact e) c;omega
 ·exact c
 exact absurd (h2 i j c e) (HY _)
theorem wq(hu:Up t.place.toList)(e:t.place[i]?=some j):t.slot j=.live i:=by unfold N1;dsimp only;rw[ze hu e,e,if_pos (beq_self_eq_true _)]
theorem slot_mem(hu:Up t.place.toList)(m:j∈t.place.toList):∃i,t.slot j=.live i:=by obtain⟨i,e⟩:=IP.mp m;exact⟨i,wq hu (by rw[<-u_];exact e)⟩
theorem qq(hu:Up t.place.toList){hashAt:Nat->Int}{h:Int}{i0:Nat}:∀{M:Nat}{p:L7}{f:Nat},(∀m,m<M->(adv t m p).j∈t.place.toList)->t.slot (adv t M p).j=.live i0->hashAt i0=h->M<f->
  ∃m i,m<=M/\Nk t hashAt h f p=some (.candidate (adv t m p).j i (adv t (m+1) p))/\t.slot (adv t m p).j=.live i/\(m=M->i=i0)
 |M,p,0,_,_,_,l=>absurd l (HI _)
 |M,p,f+1,w,e,eh,l=>by
  have hs:∃i,t.slot p.j=.live i/\(M=0->i=i0):=by
   cases M with
   |zero=>exact⟨i0,e,λ_=>rfl⟩
   |succ M=>exact(slot_mem hu (w 0 (Hh _))).imp λi g=>⟨g,λz=>nomatch z⟩
  obtain⟨i,hs,h0⟩:=hs;unfold Nk;rw[hs];dsimp only;by_cases hh:(hashAt i == h)=true
  ·rw[if_pos hh];exact⟨0,i,Hq _,rfl,hs,λz=>h0 z.symm⟩
  rw[if_neg hh];cases M with
  |zero=>exact absurd (by rw[h0 rfl,eh];exact beq_self_eq_true _) hh
  |succ M=>
   obtain⟨m,i',h1,h2,h3,h4⟩:=qq hu (M:=M) (p:=t.advance p) (f:=f) (λm hm=>w (m+1) (Lc hm)) e eh (Ik l);exact⟨m+1,i',Iy h1,h2,h3,λz=>h4 (HX z)⟩
noncomputable def PQ(mask:Nat)(p:L7):Prop:=p.i<=mask/\p.j+p.more=Mf mask p.i
theorem kJ(h:i<=mask):i<=Mf mask i/\Mf mask i<=mask/\Mf mask i<=i+9:=by unfold Mf;split <;> omega
theorem sH{h:Int}:PQ t.mask (t.probeStart h):=by have l:Mq h%(t.mask+1)<=t.mask:=Iu (Hl _ (Hh _));exact⟨l,JN (kJ l).1⟩
theorem Ei(g:PQ t.mask p):PQ t.mask (t.advance p):=by
 unfold ML;split
 ·exact⟨g.1,by show p.j+1+(p.more-1)=Mf t.mask p.i;have:=g.2;omega⟩
 have l:(p.i*5+1+p.perturb/32)%(t.mask+1)<=t.mask:=Iu (Hl _ (Hh _));exact⟨l,JN (kJ l).1⟩
theorem r6:∀{n:Nat}{p:L7},PQ t.mask p->PQ t.mask (adv t n p)
 |0,_,g=>g
 |n+1,_,g=>r6 (n:=n) (p:=t.advance _) (Ei g)
theorem Cd(g:PQ t.mask p):p.j<=t.mask:=by have:=(kJ g.1).2.1;have:=g.2;omega
theorem qO:∀{m:Nat}{p:L7},m<=p.more->adv t m p={p with j:=p.j+m,more:=p.more-m}
 |0,p,_=>rfl
 |m+1,p,h=>by
  have e:t.advance p={p with j:=p.j+1,more:=p.more-1}:=by unfold ML;rw[if_pos (by omega)]
  show adv t m (t.advance p)=_;rw[e,qO (by show m<=p.more-1;omega)];show RR (p.j+1+m) (p.more-1-m) p.i p.perturb p.dummy=⟨p.j+(m+1),p.more-(m+1),p.i,p.perturb,p.dummy⟩;rw[show p.j+1+m=p.j+(m+1) by omega,show p.more-1-m=p.more-(m+1) by omega]
theorem mX:adv t (p.more+1) p={p with j:=(p.i*5+1+p.perturb/32)%(t.mask+1),more:=Mf t.mask ((p.i*5+1+p.perturb/32)%(t.mask+1))-(p.i*5+1+p.perturb/32)%(t.mask+1),i:=(p.i*5+1+p.perturb/32)%(t.mask+1),perturb:=p.perturb/32}:=by
 rw[gH,qO (e_ _)];show t.advance _=_;unfold ML;rw[if_neg (by show ¬p.more-p.more > 0;omega)]
 rfl
theorem sG{owner:Array (Option Nat)}{j:Nat}:∀{f:Nat}{p:L7},p.i<=t.mask->p.j=p.i->p.more=Mf t.mask p.i-p.i->Mm t.mask owner f p.i p.perturb=some j->
  ∃M,M<10*f/\(adv t M p).j=j/\∀m,m<M->owner.getD (adv t m p).j (some 0)≠none
 |0,p,_,_,_,e=>by cases e
 |f+1,p,hi,hj,hm,e=>by
  obtain⟨r1,r2,r3⟩:=kJ hi;unfold Mm at e;have at_:∀m,m<=p.more->(adv t m p).j=p.i+m:=λm h=>by rw[qO h];show p.j+m=_;rw[hj]
  cases hf:(r_ (Mf t.mask p.i+1-p.i)).find? λx=>(owner.getD (p.i+x) (some 0)).isNone with
  |some x=>
   rw[hf]at e;cases e;obtain⟨h1,as,bs,h2,h3⟩:=List.find?_eq_some_iff_append.mp hf;have hx:x<Mf t.mask p.i+1-p.i:=z_.mp (by rw[h2];exact n_ _ (.head _));refine⟨x,by omega,at_ x (by omega),λm hm2 z=>?_⟩;rw[at_ m (by omega)]at z;have le:as.length=x:=by
    have g:(r_ (Mf t.mask p.i+1-p.i))[as.length]?=some x:=by rw[h2,Hi (e_ _),Ji];rfl
    have hl:as.length<Mf t.mask p.i+1-p.i:=by have:=(c_.mp g).1;rwa[D']at this
    rw[HE hl]at g;exact GY g
   have mm:m∈as:=by have g:(r_ (Mf t.mask p.i+1-p.i))[m]?=some m:=HE (by omega);rw[h2,Hk (by rw[le];exact hm2)]at g;exact D_ g
   have:=h3 m mm;rw[z]at this;cases this
  |none=>
   rw[hf]at e;dsimp only at e;have no:=JX.mp hf;have l:(p.i*5+1+p.perturb/32)%(t.mask+1)<=t.mask:=Iu (Hl _ (Hh _));have e':Mm t.mask owner f (adv t (p.more+1) p).i (adv t (p.more+1) p).perturb=some j:=by rw[mX];exact e
   obtain⟨M,h1,h2,h3⟩:=sG (f:=f) (p:=adv t (p.more+1) p) (by rw[mX];exact l) (by rw[mX]) (by rw[mX]) e';refine⟨p.more+1+M,by omega,by rw[gH];exact h2,λm hm2=>?_⟩;by_cases c:m<p.more+1
   ·rw[at_ m (by omega)];have:=no m (z_.mpr (by omega));exact λz=>this (by rw[z];rfl)
   have:=h3 (m-(p.more+1)) (by omega);rw[<-gH,show p.more+1+(m-(p.more+1))=m by omega]at this;exact this
structure OwnW (t:M1) (k:Nat) (hs:List Int) (owner:Array (Option Nat)):Prop where
 o:Own k owner hs.length
 wy:∀j x,owner.getD j none=some x->∃h,hs[x]?=some h/\∃M,M<10*Mj t.mask/\(adv t M (t.probeStart h)).j=j/\∀m,m<M->(owner.getD (adv t m (t.probeStart h)).j none).isSome=true
 ex:∀x,x<hs.length->∃j,owner.getD j none=some x
theorem getD_some(hj:j<owner.size)(h:owner.getD j (some 0)≠none):(owner.getD j none).isSome=true:=by
 rw[v_,w_ hj]at h ⊢;cases q:owner[j]with
 |none=>exact absurd (by rw[q];rfl) h
 |some x=>rfl
theorem zI(hm:t.mask+1=2 ^ k){hs:List Int}{h:Int}(o:OwnW t k hs owner)(e:owner.getD j (some 0)=none)(ef:Mm t.mask owner (Mj t.mask) (Mq h%(t.mask+1)) (Mq h)=some j):OwnW t k (hs++[h]) (owner.setIfInBounds j (some hs.length)):=by
 have hj:j<owner.size:=by refine Ke λz=>?_;rw[v_,HW z]at e;cases e
 have g1:(owner.setIfInBounds j (some hs.length)).getD j none=some hs.length:=by
  rw[v_,IU hj]
  rfl
 have g2:∀x,x≠j->(owner.setIfInBounds j (some hs.length)).getD x none=owner.getD x none:=λx hx=>by rw[v_,v_,JC (Nl hx)]
 have g0:owner.getD j none=none:=by rw[v_,w_ hj]at e ⊢;exact e
 have up:∀x,(owner.getD x none).isSome=true->((owner.setIfInBounds j (some hs.length)).getD x none).isSome=true:=λx q=>by
  by_cases z:x=j
  ·rw[z,g1];rfl
  rw[g2 x z];exact q
 have on:=B9 o.o e;refine⟨by rw[b_];exact on,λx y q=>?_,λx hx=>?_⟩
 ·by_cases z:x=j
  ·rw[z,g1]at q;cases q;refine⟨h,by rw[Hi (e_ _),Ji];rfl,?_⟩;have l:Mq h%(t.mask+1)<=t.mask:=Iu (Hl _ (Hh _));obtain⟨M,h1,h2,h3⟩:=sG (p:=t.probeStart h) l rfl rfl ef;refine⟨M,h1,by rw[h2,z],λm hm2=>up _ (getD_some ?_ (h3 m hm2))⟩;have:=Cd (r6 (t:=t) (n:=m) (p:=t.probeStart h) sH);rw[o.o.sz,<-hm];omega
  rw[g2 x z]at q;obtain⟨h',e1,M,h1,h2,h3⟩:=o.wy x y q;exact⟨h',by rw[Hk (c_.mp e1).1];exact e1,M,h1,h2,λm hm2=>up _ (h3 m hm2)⟩
 rw[b_]at hx;have hx:x<hs.length+1:=hx;by_cases z:x=hs.length
 ·exact⟨j,by rw[z];exact g1⟩
 obtain⟨y,q⟩:=o.ex x (by omega);have yj:y≠j:=λw=>by rw[w,g0]at q;cases q
 exact⟨y,by rw[g2 y yj];exact q⟩
theorem wx(hm:t.mask+1=2 ^ k):∀(hs pre:List Int) {owner:Array (Option Nat)},OwnW t k pre owner->pre.length+hs.length<2 ^ k->
  ∃owner',OwnW t k (pre++hs) owner'/\hs.foldl (λ(acc:Option (Array (Option Nat)×Nat)) h=>do
   let (owner,k) <-acc
   let j <-Mm t.mask owner (Mj t.mask) (Mq h%(t.mask+1)) (Mq h)
   pure (owner.setIfInBounds j (some k),k+1)) (some (owner,pre.length))=some (owner',pre.length+hs.length)
 | [],pre,owner,o,_=>⟨owner,by rw[Hn];exact o,rfl⟩
 |h::hs,pre,owner,o,l=>by rw[f_]at l;obtain⟨j,hj,e⟩:=yV o.o (by omega);obtain⟨n,hn,eh⟩:=uY hj (m:=13) (i:=Mq h%(t.mask+1)) (p:=Mq h) v7 (by rw[hm];exact Hl _ (HA k));obtain⟨j',e1,e2⟩:=vL hm (owner:=owner) (n:=n) (f:=Mj t.mask) (by rw[eh];exact e) (by unfold Mj;omega);obtain⟨o',h1,h2⟩:=wx hm hs (pre++[h]) (zI hm o e2 e1) (by rw[b_];show pre.length+1+hs.length<_;omega);rw[g_]at h1;rw[b_]at h2;refine⟨o',h1,?_⟩;rw[Ll];show hs.foldl _ ((Mm t.mask owner (Mj t.mask) (Mq h%(t.mask+1)) (Mq h)).bind λj=>some (owner.setIfInBounds j (some pre.length),pre.length+1))=_;rw[e1,f_];have h2:_=some (o',pre.length+1+hs.length):=h2;rw[show pre.length+(hs.length+1)=pre.length+1+hs.length by omega];exact h2
end
open PySem ZT PyProof.Rows
section
variable{k mask:Nat}
noncomputable def bare(mask:Nat):M1:={ mask:=mask,place:=#[],dummies:=#[],finger:=0,led:=false,moves:=0,plain:=false}
theorem CU:OwnW (bare mask) k [] (JG (2 ^ k) none) where
 o:=G6
 wy:=λj x e=>by
  rw[v_,Jh]at e;split at e
  ·cases e
  cases e
 ex:=λx h=>absurd h (HI x)
theorem yR(hm:mask+1=2 ^ k){f m:Nat}{led plain:Bool}{hs:Array Int}(hl:hs.size<=mask):∃t order,QZ mask f m led plain hs=some (t,order)/\t.mask=mask/\t.dummies=#[]/\t.led=led/\Up t.place.toList/\t.place.size=hs.size/\order.size=hs.size/\(∀x∈order.toList,x<hs.size)/\
  (∀i x j:Nat,order[i]?=some x->t.place[i]?=some j->∃h,hs[x]?=some h/\Way t h j)/\∀x,x<hs.size->x∈order.toList:=by
 obtain⟨owner,o,e⟩:=wx (t:=bare mask) hm hs.toList [] (CU (k:=k)) (by rw[G'];show 0+hs.size<_;omega);rw[Hx]at o;rw[HG,Jg,G']at e;have oo:=o.o;rw[G']at oo;have e2:PY mask hs=some owner:=by
  unfold PY;rw[<-Array.foldl_toList,hm];show Option.map _ (hs.toList.foldl _ (some (JG (2 ^ k) none,0)))=_;have e:hs.toList.foldl (λ(acc:Option (Array (Option Nat)×Nat)) h=>do
   let (owner,k) <-acc
   let j <-Mm mask owner (Mj mask) (Mq h%(mask+1)) (Mq h)
   pure (owner.setIfInBounds j (some k),k+1)) (some (JG (2 ^ k) none,0))=some (owner,hs.size):=e
  rw[hm]at e;rw[e]
  rfl
 have ml:∀j x,(j,x)∈(r_ (mask+1)).filterMap (λj=>(owner.getD j none).map (j,·))↔j<mask+1/\owner.getD j none=some x:=λj x=>by
  rw[ID];constructor
  ·rintro⟨j',mj,h⟩;obtain⟨v,hv,e⟩:=HV.mp h;cases e;exact⟨z_.mp mj,hv⟩
  rintro⟨h1,h2⟩;exact⟨j,z_.mpr h1,by rw[h2];rfl⟩
 have lt:∀j x,owner.getD j none=some x->x<hs.size:=oo.lt;unfold QZ;rw[e2];refine⟨_,_,rfl,rfl,rfl,rfl,?_,?_,?_,?_,?_,?_⟩
 ·show Up (((r_ (mask+1)).filterMap λj=>(owner.getD j none).map (j,·)).map (·.1));refine IJ.mpr (List.pairwise_filterMap.mpr (List.pairwise_lt_range.imp λ{a b} hab x hx y hy=>?_));obtain⟨u,_,rfl⟩:=HV.mp hx;obtain⟨v,_,rfl⟩:=HV.mp hy;exact hab
 ·show(((r_ (mask+1)).filterMap λj=>(owner.getD j none).map (j,·)).map (·.1)).length=_;rw[a_,nY,<-oo.cnt,hm];congr 1;refine J6 λj _=>?_;rw[J4]
 ·show(((r_ (mask+1)).filterMap λj=>(owner.getD j none).map (j,·)).map (·.2)).length=_;rw[a_,nY,<-oo.cnt,hm];congr 1;refine J6 λj _=>?_;rw[J4]
 ·intro x hx;obtain⟨⟨j,y⟩,hy,rfl⟩:=Ha.mp hx;exact lt j y ((ml j y).mp hy).2
 ·intro i x j hx hj;rw[List.getElem?_toArray,y_]at hx hj;obtain⟨⟨j1,x1⟩,h1,e1⟩:=HV.mp hx;obtain⟨⟨j2,x2⟩,h2,e2⟩:=HV.mp hj;rw[h1]at h2;cases h2;have e1:x1=x:=e1;have e2:j1=j:=e2;subst e1 e2;obtain⟨g1,g2⟩:=(ml j1 x1).mp (D_ h1);obtain⟨h,eh,M,w1,w2,w3⟩:=o.wy j1 x1 g2;refine⟨h,by rw[<-u_];exact eh,M,w1,(congrArg P9 (jc (t':=bare mask) (by rfl))).trans w2,λm hm2=>?_⟩;have g:=w3 m hm2;obtain⟨v,ev⟩:=HK.mp g;have lm:=Cd (r6 (t:=bare mask) (n:=m) (p:=(bare mask).probeStart h) sH);refine Ha.mpr ⟨((adv (bare mask) m ((bare mask).probeStart h)).j,v),(ml _ _).mpr ⟨K5 lm,ev⟩,?_⟩;exact congrArg P9 (jc (t:=bare mask) (by rfl))
 intro x hx;obtain⟨j,e⟩:=o.ex x (by rw[G'];exact hx);have hj:j<mask+1:=by rw[hm,<-oo.sz];refine Ke λz=>?_;rw[v_,HW z]at e;cases e
 exact Ha.mpr ⟨(j,x),(ml j x).mpr ⟨hj,e⟩,rfl⟩
end
section
variable{prog:LV}{w:L0}{A:L_}{E:LM->LP->Prop}{s:LP}
structure SV2 (hh:List Int->Int) (L:Nat) (h:LZ) (o:Obj) (es:Array (Int×LM)) (ep:Nat) (t:M1) (k:Nat) (S:List (List Int)):Prop where
 ex:o.ExactSet
 dat:o.data=.set es ep t
 k3:3<=k
 pw:t.mask+1=2 ^ k
 up:Up t.place.toList
 no:t.dummies=#[]
 pl:t.place.size=es.size
 nf:es.size*5<t.mask*3
 ub:t.mask+1<=8*es.size+8
 sz:es.size=S.length
 el:∀e∈es.toList,∃b row,e=(hh row,.ref b)/\row∈S/\b<L/\TI h row b
 al:∀row∈S,∃b,(hh row,L5 b)∈es.toList/\TI h row b
 wy:∀(i:Nat) (e:Int×LM) (j:Nat),es[i]?=some e->t.place[i]?=some j->Way t e.1 j
variable{hh:List Int->Int}{L:Nat}{a b:LO}{o:Obj}{es:Array (Int×LM)}{ep k:Nat}{t:M1}{S:List (List Int)}{row:List Int}
theorem SV2.ft (V:SV2 hh L h o es ep t k S):t.fits es.size=true:=by unfold Q0 Ox;rw[V.pl,V.no,beq_self_eq_true,Hb];refine decide_eq_true ?_;show es.size+0<=t.mask;have:=V.nf;omega
theorem SV2.way (V:SV2 hh L h o es ep t k S):t.gaveWay=false:=by
 unfold RV;have:t.mask%2=1:=by have h1:=V.pw;have h3:=V.k3;obtain⟨j,rfl⟩:∃j,k=j+1:=⟨k-1,by omega⟩;rw[Hg]at h1;omega
 rw[this]
 rfl
theorem jP(h:t.slot j=.live i):t.place[i]?=some j:=by
 unfold N1 at h;dsimp only at h;split at h
 ·rename_i e;cases h;exact eq_of_beq e
 split at h <;> cases h
theorem look(ho:s.heap.get? a=some o)(V:SV2 hh L s.heap o es ep t k S)(hx:TI s.heap row b)(hu:A.units<cLine){hs:Int}{f:Nat}{st:Option L7}{nx:L7}{Q:Rb->LP->Prop}
  (pr:t.probe (λi=>(es[i]?.map (·.1)).getD 0) hs (st.getD (t.probeStart hs))=some (.candidate j i nx)) (hj:t.slot j=.live i) {c:LO}{r:List Int} (ei:es[i]?=some (hh r,.ref c)) (hc:TI s.heap r c)
  (yes:r=row->Q (.there none) s) (no:r≠row->LS (LW prog w) A (Ny a (.ref b) hs true f (some nx)) Q E s):LS (LW prog w) A (Ny a (.ref b) hs true (f+1) st) Q E s:=by
 unfold Ny;refine LL (M4 ho V.dat V.ft ?_);dsimp only;rw[V.way,if_neg B_];split
 ·rename_i met heq;have z:some met=some (Rt j i nx):=heq.symm.trans pr;cases z;clear heq;dsimp only;refine L' (λ_=>LL (zv hx (λv hv=>?_) ?sa)) (λz=>?sb)
  ·obtain⟨e',me,rfl⟩:=Ha.mp hv;obtain⟨c',r',h4,_,_,h6⟩:=V.el e' (by have:=IS.mp me;exact IS.mpr (Array.mem_filter.mp this).1);exact⟨c',r',by rw[h4],h6⟩
  case' sb=>clear z
  case' sa=>
   rw[if_neg B_];refine ?sb
  case sb=>
   rw[ei];dsimp only;refine LL (Ma (wpAny_eqBool_tuple hu (hc.key (prog:=prog) (w:=w)) (hx.key (prog:=prog) (w:=w)) ?_));refine LL (M4 ho V.dat V.ft ?_);dsimp only;by_cases er:r=row
   ·rw[decide_eq_true er,if_pos (show(true&&true)=true from rfl)];exact LR (yes er)
   rw[decide_eq_false er,if_neg (by decide),show t.sameMemory t.moves t.mask=some true by unfold RF;rw[if_pos (beq_self_eq_true _)]];dsimp only;rw[if_pos rfl,hj];dsimp only;rw[ei];dsimp only;refine LL (wpAny_isSame_ref_self ?_);refine LL (LR ?_);rw[if_pos rfl];dsimp only;rw[if_neg B_];exact no er
 rename_i ii;exact absurd pr (ii _)
theorem SV2.FV (V:SV2 hh L h o es ep t k S)(hi:t.place[i]?=some j):∃c r,es[i]?=some (hh r,.ref c)/\r∈S/\TI h r c:=by
 have hz:i<es.size:=by rw[<-V.pl];exact(Iq.mp hi).1
 obtain⟨c,r,e,mr,_,hc⟩:=V.el es[i] (IS.mpr (Array.getElem_mem hz));exact⟨c,r,by rw[w_ hz,e],mr,hc⟩
theorem DS{r1 r2:List Int}{c:LO}(x:TI h r1 c)(y:TI h r2 c):r1=r2:=by
 obtain⟨o,n,ps,h1,_,h3,rfl⟩:=x;obtain⟨o',n',qs,g1,_,g3,rfl⟩:=y;rw[h1]at g1;cases g1;rw[h3]at g3;injection g3 with g3
 have e:(ps.map λp=>MB p.1 p.2)=qs.map λp=>MB p.1 p.2:=by simpa using g3
 have f:∀ps:List (Int×Tok),ps.map (·.1)=(ps.map λp=>MB p.1 p.2).map λv=>match v with | .int i _=>i | _=>0:=λps=>by rw[Hw];rfl
 rw[f,f,e]
theorem nI(ho:s.heap.get? a=some o)(V:SV2 hh L s.heap o es ep t k S)(hx:TI s.heap row b)(hu:A.units<cLine){i0:Nat}{c0:LO}(e0:es[i0]?=some (hh row,.ref c0))(h0:TI s.heap row c0){Q:Rb->LP->Prop}(q:Q (.there none) s) :
  ∀{f M:Nat}{st:Option L7},(∀m,m<M->(adv t m (st.getD (t.probeStart (hh row)))).j∈t.place.toList)->t.slot (adv t M (st.getD (t.probeStart (hh row)))).j=.live i0->M<10*Mj t.mask->M<f->LS (LW prog w) A (Ny a (.ref b) (hh row) true f st) Q E s
 |0,M,st,_,_,_,l=>absurd l (HI _)
 |f+1,M,st,wy,e,lt,l=>by
  obtain⟨m,i,hm,pr,hj,hi⟩:=qq V.up (hashAt:=λi=>(es[i]?.map (·.1)).getD 0) (h:=hh row) wy e (by show(es[i0]?.map (·.1)).getD 0=_;rw[e0];rfl) lt;obtain⟨c,r,ei,mr,hc⟩:=V.FV (jP hj);refine look ho V hx hu pr hj ei hc (λ_=>q) λne=>?_;have mM:m≠M:=λz=>by rw[hi z,e0]at ei;have hc2:L5 c0=.ref c:=congrArg JS (GY ei);cases hc2;exact ne (DS hc h0)
  have ml:m<M:=KZ hm mM;refine nI ho V hx hu e0 h0 q (f:=f) (M:=M-(m+1)) (st:=some (adv t (m+1) (st.getD (t.probeStart (hh row))))) (λn hn=>?_) ?_ (by omega) (by omega)
  ·show(adv t n (adv t (m+1) _)).j∈_;rw[<-gH];exact wy _ (by omega)
  show t.slot (adv t (M-(m+1)) (adv t (m+1) _)).j=_;rw[<-gH,show m+1+(M-(m+1))=M by omega];exact e
end
open PySem ZT PyProof.Rows
section
variable{t:M1}{k:Nat}
theorem pS(hu:Up t.place.toList)(hn:t.dummies=#[]){hashAt:Nat->Int}{h:Int}:∀{M:Nat}{p:L7}{f:Nat},p.dummy=none->t.slot (adv t M p).j=.empty->M<f->
  (∃m,m<=M/\Nk t hashAt h f p=some (.empty (adv t m p).j none)/\t.slot (adv t m p).j=.empty/\∀n,n<m->(adv t n p).j∈t.place.toList)\/
  ∃m i,m<M/\Nk t hashAt h f p=some (.candidate (adv t m p).j i (adv t (m+1) p))/\t.slot (adv t m p).j=.live i/\∀n,n<=m->(adv t n p).j∈t.place.toList
 |M,p,0,_,_,l=>absurd l (HI _)
 |M,p,f+1,nd,e,l=>by
  unfold Nk;cases hs:t.slot p.j with
  |empty=>exact .inl ⟨0,Hq _,by rw[nd];rfl,hs,λn z=>absurd z (HI n)⟩
  |dummy=>exact absurd hs (A6 hn _)
  |live i=>
   have mp:p.j∈t.place.toList:=D_ (by rw[u_];exact jP hs);dsimp only;cases M with
   |zero=>rw[show adv t 0 p=p from rfl,hs]at e;cases e
   |succ M=>
    by_cases hh:(hashAt i == h)=true
    ·rw[if_pos hh];refine .inr ⟨0,i,Hh _,rfl,hs,λn z=>?_⟩;rw[Nat.le_zero.mp z];exact mp
    rw[if_neg hh];have nd':(t.advance p).dummy=none:=by unfold ML;split <;> exact nd
    have up:∀{m:Nat},(∀n,n<m->(adv t n (t.advance p)).j∈t.place.toList)->∀n,n<m+1->(adv t n p).j∈t.place.toList:=λ{m} g n hn2=>by
     cases n with
     |zero=>exact mp
     |succ n=>exact g n (Ik hn2)
    rcases pS hu hn (M:=M) (p:=t.advance p) (f:=f) nd' e (Ik l)with⟨m,h0,h1,h2,h3⟩|⟨m,i',hm,h1,h2,h3⟩
    ·exact .inl ⟨m+1,Iy h0,h1,h2,up h3⟩
    exact .inr ⟨m+1,i',Lc hm,h1,h2,λn z=>up (m:=m+1) (λn z=>h3 n (Iu z)) n (K5 z)⟩
theorem yC{xs:Array α}{p:Nat}(hp:p<=xs.size)(x:α)(i:Nat):(Me xs p x)[i]?=if i<p then xs[i]? else if i=p then some x else xs[i-1]?:=by
 have l:(xs.toList.take p).length=p:=by rw[q_,G',Ip hp]
 rw[<-u_,Na,<-u_,<-u_];split
 ·rename_i h;rw[Hk (by rw[l];exact h),Ho h]
 rename_i h;rw[Hi (by rw[l];omega),l];split
 ·rename_i e;rw[e,Ji]
  rfl
 rename_i e;obtain⟨d,hd⟩:∃d,i-p=d+1:=⟨i-p-1,by omega⟩;rw[hd,Ii,HN,show p+d=i-1 by omega]
theorem kg{xs:Array α}{p:Nat}{x y:α}:y∈(Me xs p x).toList↔y=x\/y∈xs.toList:=by
 rw[Na,C_,m_];have e:y∈xs.toList↔y∈xs.toList.take p\/y∈xs.toList.drop p:=by rw[<-C_,A']
 rw[e];constructor
 ·rintro(h|h|h)
  ·exact .inr (.inl h)
  ·exact .inl h
  exact .inr (.inr h)
 rintro(h|h|h)
 ·exact .inr (.inl h)
 ·exact .inl h
 exact .inr (.inr h)
theorem lK{xs:Array α}{p:Nat}{x:α}(h:p<=xs.size):(Me xs p x).size=xs.size+1:=by rw[<-G',Na,b_,f_,q_,o_,G'];omega
theorem BP{α β:Type}{f:α->Option β}:∀{l:List α}{i:Nat},(∀x∈l,(f x).isSome=true)->(l.filterMap f)[i]?=l[i]?.bind f
 | [],i,_=>rfl
 |x::l,i,h=>by
  obtain⟨y,e⟩:=HK.mp (h x (.head _));rw[IB,e];cases i with
  |zero=>exact e.symm
  |succ i=>exact BP λz m=>h z (.tail _ m)
end
section
variable{prog:LV}{w:L0}{A:L_}{E:LM->LP->Prop}{s:LP}
variable{hh:List Int->Int}{L:Nat}{a b:LO}{o:Obj}{es:Array (Int×LM)}{ep k:Nat}{t:M1}{S:List (List Int)}{row:List Int}
theorem mH(ho:s.heap.get? a=some o)(V:SV2 hh L s.heap o es ep t k S)(hx:TI s.heap row b)(hn:row ∉ S)(hu:A.units<cLine){hs:Int}{Q:Rb->LP->Prop}(q:∀j,Way t hs j->t.slot j=.empty->Q (.free j false) s) :
  ∀{f M M0:Nat}{st:Option L7},st.getD (t.probeStart hs)=adv t M0 (t.probeStart hs)->(∀m,m<M0->(adv t m (t.probeStart hs)).j∈t.place.toList)->t.slot (adv t (M0+M) (t.probeStart hs)).j=.empty->M0+M<10*Mj t.mask->M<f->LS (LW prog w) A (Ny a (.ref b) hs true f st) Q E s
 |0,M,M0,st,_,_,_,_,l=>absurd l (HI _)
 |f+1,M,M0,st,es0,wy,e,lt,l=>by
  have nd:(st.getD (t.probeStart hs)).dummy=none:=by rw[es0];exact(rK V.pw (sP V.pw hs)).no
  have e':t.slot (adv t M (st.getD (t.probeStart hs))).j=.empty:=by rw[es0,<-gH];exact e
  have sh:∀n,adv t n (st.getD (t.probeStart hs))=adv t (M0+n) (t.probeStart hs):=λn=>by rw[es0,<-gH]
  have all:∀{m:Nat},(∀n,n<m->(adv t n (st.getD (t.probeStart hs))).j∈t.place.toList)->∀n,n<M0+m->(adv t n (t.probeStart hs)).j∈t.place.toList:=λ{m} g n h=>by
   by_cases c:n<M0
   ·exact wy n c
   have:=g (n-M0) (by omega);rw[sh,show M0+(n-M0)=n by omega]at this;exact this
  rcases pS V.up V.no (hashAt:=λi=>(es[i]?.map (·.1)).getD 0) (h:=hs) (f:=10*Mj t.mask) nd e' (by omega)with⟨m,h0,h1,h2,h3⟩|⟨m,i,hm,h1,h2,h3⟩
  ·unfold Ny;refine LL (M4 ho V.dat V.ft ?_);dsimp only;rw[V.way,if_neg B_];split
   ·rename_i met heq;have z:some met=some (RO (adv t m (st.getD (t.probeStart hs))).j none):=heq.symm.trans h1;cases z;exact LR (q _ ⟨M0+m,by omega,by rw[sh],all h3⟩ h2)
   rename_i ii;exact absurd h1 (ii _)
  obtain⟨c,r,ei,mr,hc⟩:=V.FV (jP h2);refine look ho V hx hu h1 h2 ei hc (λz=>absurd (z▸mr) hn) λ_=>?_;refine mH ho V hx hn hu q (f:=f) (M:=M-(m+1)) (M0:=M0+(m+1)) (st:=some (adv t (m+1) (st.getD (t.probeStart hs)))) (by show adv t (m+1) _=_;rw[sh]) (all λn z=>h3 n (Iu z)) ?_ (by omega) (by omega);rw[show M0+(m+1)+(M-(m+1))=M0+M by omega];exact e
noncomputable def SW2(hh:List Int->Int)(L:Nat)(h:LZ)(a:LO)(S:List (List Int)):Prop:=∃o es ep t k,h.get? a=some o/\SV2 hh L h o es ep t k S
theorem pF(ho:s.heap.get? a=some o)(V:SV2 hh L s.heap o es ep t k S)(hl:S.length<1000){es2:Array (Int×LM)}{t2:M1}
  (e1:t2.mask=t.mask) (e2:Up t2.place.toList) (e3:t2.dummies=#[]) (e4:t2.place.size=es2.size) (e5:es2.size=es.size+1)
  (el:∀h',Mk a s.heap h'->∀e∈es2.toList,∃c r,e=(hh r,L5 c)/\r∈row::S/\c<L/\TI h' r c) (al:∀h',Mk a s.heap h'->∀r∈row::S,∃c,(hh r,L5 c)∈es2.toList/\TI h' r c)
  (wy:∀(i:Nat) (e:Int×LM) (j:Nat),es2[i]?=some e->t2.place[i]?=some j->Way t2 e.1 j) {Q:Bool->LP->Prop}
  (q:∀h',Mk a s.heap h'->SW2 hh L h' a (row::S)->Q true {s with heap:=h'}) :
  LS (LW prog w) A (storeSet a es2 t2 >>= λ_=>if(!false&&t2.tooFull)=true then setRelay a (O8 (es.size+1)) >>= λ_=>pure true else pure true) Q E s:=by
 have n1:=V.sz;refine LL (PZ ho V.dat ?_ (by rw[e5,n1];show _<=16777216;omega));have s1:=stored (es':=es2) (t':=t2) ho V.dat;have b1:=NB s.heap a (OC es2 t2);generalize s.heap.update a (OC es2 t2)=h1 at s1 b1 ⊢;have ub:=V.ub;by_cases c:t2.tooFull=true
 ·rw[if_pos (by rw[c];rfl)];have cc:t.mask*3<=(es.size+1)*5:=by have:decide (t2.fill*5>=t2.mask*3)=true:=c;have:=of_decide_eq_true this;unfold Ox at this;rw[e1,e3,e4,e5]at this;exact this
  have f2:t2.fits es2.size=true:=by unfold Q0 Ox;rw[e4,e3,beq_self_eq_true,Hb];refine decide_eq_true ?_;show es2.size+0<=t2.mask;rw[e1,e5];have:=V.nf;have h3:=V.k3;have pw:=V.pw;have:2 ^ 3<=2 ^ k:=KL (by decide) h3;omega
  have gw:O8 (es.size+1)=(es.size+1)*4:=by unfold O8;rw[if_neg (by omega)]
  obtain⟨kb,a1,a2,a3,a4⟩:=zV (n:=(es.size+1)*4) (by omega);rw[gw];unfold setRelay;refine LL (LL (M4 s1 rfl f2 ?_));dsimp only;have le:MW ((es.size+1)*4)<=8*(es.size+1)+8:=by rw[a1];rcases a4 with rfl|a4 <;> omega
  rw[if_neg (show ¬MW ((es.size+1)*4) > sizeLine by show ¬_ > 16777216;omega)];obtain⟨t3,od,l1,l2,l3,l4,l5,l6,l7,l8,l9,l0⟩:=yR (k:=kb) (mask:=MW ((es.size+1)*4)-1) (f:=t2.finger) (m:=t2.movedTo (MW ((es.size+1)*4)-1)) (led:=t2.led) (plain:=t2.plain) (hs:=es2.map (·.1)) (by rw[a1];have:=HA kb;omega) (by rw[Lo,e5];omega);rw[show t2.relaid (es2.map (·.1)) ((es.size+1)*4)=some (t3,od)from l1];rw[Lo]at l6 l7 l8 l0;have tot:∀x∈od.toList,(es2[x]?).isSome=true:=λx hx=>by rw[w_ (l8 x hx)];rfl
  have fs:(od.filterMap (es2[·]?)).size=es2.size:=by rw[<-G',IH,nY,JO.mpr tot,G',l7]
  have fm:∀e∈(od.filterMap (es2[·]?)).toList,e∈es2.toList:=λe me=>by rw[IH]at me;obtain⟨x,_,h⟩:=ID.mp me;exact IS.mpr (Array.mem_of_getElem? h)
  have mf:∀e∈es2.toList,e∈(od.filterMap (es2[·]?)).toList:=λe me=>by obtain⟨x,ex⟩:=IP.mp me;rw[u_]at ex;rw[IH];exact ID.mpr ⟨x,l0 x (Iq.mp ex).1,ex⟩
  refine LL (L' (λz=>absurd z ?_) (λ_=>LR ?_))
  ·rw[fs,bne_self_eq_false];exact B_
  refine PZ s1 rfl ?_ (by rw[fs,e5,n1];show _<=16777216;omega);have s3:=stored (es':=od.filterMap (es2[·]?)) (t':=t3) s1 rfl;have b3:=b1.trans (NB h1 a (OC (od.filterMap (es2[·]?)) t3));refine LR (q _ b3 ⟨_,_,_,t3,kb,s3,V.ex,rfl,a2,by rw[l2,a1];have:=HA kb;omega,l5,l3,by rw[l6,fs],?_,?_,by rw[fs,e5,n1];rfl,λe me=>el _ b3 e (fm e me),λr mr=>?_,λi e j hi hj=>?_⟩)
  ·rw[fs,l2,e5,a1];omega
  ·rw[fs,l2,e5];have:0<MW ((es.size+1)*4):=by rw[a1];exact HA kb
   omega
  ·obtain⟨c',h1',h2'⟩:=al _ b3 r mr;exact⟨c',mf _ h1',h2'⟩
  rw[<-u_,IH,BP tot]at hi;obtain⟨x,hx,ex⟩:=Option.bind_eq_some_iff.mp hi;rw[u_]at hx;obtain⟨hv,eh,wv⟩:=l9 i x j hx hj;rw[Array.getElem?_map,ex]at eh;cases eh;exact wv
 rw[if_neg (by rw[JR,Hb];exact c)];refine LR (q _ b1 ⟨_,es2,_,t2,k,s1,V.ex,rfl,V.k3,by rw[e1];exact V.pw,e2,e3,e4,?_,by rw[e1,e5];omega,by rw[e5,n1];rfl,el _ b1,al _ b1,wy⟩);have:¬decide (t2.fill*5>=t2.mask*3)=true:=c;rw[decide_eq_true_eq]at this;unfold Ox at this;rw[e3,e4]at this;show es2.size*5<t2.mask*3;have z:(#[]:Array Nat).size=0:=rfl;omega
theorem yZ(hS:SW2 hh L s.heap a S)(hx:TI s.heap row b)(bL:b<L)(hu:A.units<cLine)(hl:S.length<1000)
  (q:∀d h',Mk a s.heap h'->SW2 hh L h' a (if row∈S then S else row::S)->Q d {s with heap:=h'}):LS (LW prog w) A (Rc a (.ref b) (hh row)) Q E s:=by
 obtain⟨o,es,ep,t,k,ho,V⟩:=hS;have na:∀c r,TI s.heap r c->c≠a:=λc r ⟨o',n,ps,e,_,hd,_⟩ z=>by rw[z,ho]at e;cases e;rw[V.dat]at hd;cases hd
 have kp:∀{h'},Mk a s.heap h'->∀c r,TI s.heap r c->TI h' r c:=λ{h'} sb c r x=>x.at λo' e=>sb.extBut _ _ (na c r x) e;unfold Rc setAddHashedIn;refine Ma (LL (M4 ho V.dat V.ft ?_));dsimp only;rw[if_neg (show ¬byScan (.ref b) es=true from λz=>by unfold byScan at z;rw[E_,E_]at z;exact absurd (show false=true from z.1.1) B_)];by_cases hn:row∈S
 ·rw[if_pos hn]at q;obtain⟨c0,me,h0⟩:=V.al row hn;obtain⟨i0,e0⟩:=IP.mp me;rw[u_]at e0;have hi:i0<t.place.size:=by rw[V.pl];exact(Iq.mp e0).1
  have hj:t.place[i0]?=some t.place[i0]:=w_ hi;obtain⟨M,w1,w2,w3⟩:=V.wy i0 _ _ e0 hj;refine LL (nI ho V hx hu e0 h0 (st:=none) (M:=M) ?_ w3 (by show t.slot (adv t M (t.probeStart (hh row))).j=_;rw[w2];exact wq V.up hj) w1 (by have h1:=V.ub;have h2:=V.sz;unfold Mj at w1;omega))
  exact LR (q false s.heap ⟨rfl,λ_ _=>rfl⟩ ⟨o,es,ep,t,k,ho,V⟩)
 rw[if_neg hn]at q;obtain⟨M,hM,e⟩:=reach V.pw V.up V.no (by have:=V.nf;have:=V.pl;omega) (sP V.pw (hh row));refine LL (mH ho V hx hn hu (st:=none) (M:=M) (M0:=0) (λj wj hj=>?_) rfl (λm z=>absurd z (HI m)) (by rw[Jg];exact e) (by rw[Jg];exact hM) (by have h1:=V.ub;have h2:=V.sz;unfold Mj at hM;omega))
 dsimp only;refine LL (M4 ho V.dat V.ft ?_);dsimp only;have bl:=(k8 (xs:=t.place) j V.up).1;have pe:t.place[L9 t.place j]?≠some j:=λz=>by unfold N1 at hj;dsimp only at hj;rw[if_pos (by rw[z];exact beq_self_eq_true _)]at hj;cases hj
 have dm:(t.put j).1.dummies=#[]:=by unfold R5;dsimp only;rw[V.no,qE,if_neg B_]
 have pl:=V.pl;have ble:L9 t.place j<=es.size:=by omega
 have f4:(t.put j).1.place.size=(Me es (t.put j).2 (hh row,L5 b)).size:=by show(Me t.place (L9 t.place j) j).size=(Me es (L9 t.place j) (hh row,L5 b)).size;rw[lK bl,lK ble,pl]
 have f5:(Me es (t.put j).2 (hh row,L5 b)).size=es.size+1:=lK ble;have f2:Up (t.put j).1.place.toList:=xf V.up pe;have sub:∀x∈t.place.toList,x∈(t.put j).1.place.toList:=λx m=>kg.mpr (.inr m);have f7:∀(i:Nat) (e:Int×LM) (y:Nat),(Me es (t.put j).2 (hh row,L5 b))[i]?=some e->(t.put j).1.place[i]?=some y->Way (t.put j).1 e.1 y:=λi e y h1 h2=>by
  have h1:(Me es (L9 t.place j) (hh row,L5 b))[i]?=some e:=h1;have h2:(Me t.place (L9 t.place j) j)[i]?=some y:=h2;rw[yC ble]at h1;rw[yC bl]at h2;by_cases c1:i<L9 t.place j
  ·rw[if_pos c1]at h1 h2;exact(V.wy i e y h1 h2).mono rfl sub
  rw[if_neg c1]at h1 h2;by_cases c2:i=L9 t.place j
  ·rw[if_pos c2]at h1 h2;cases h1;cases h2;exact wj.mono rfl sub
  rw[if_neg c2]at h1 h2;exact(V.wy _ e y h1 h2).mono rfl sub
 have el:∀h',Mk a s.heap h'->∀e∈(Me es (t.put j).2 (hh row,L5 b)).toList,∃c r,e=(hh r,L5 c)/\r∈row::S/\c<L/\TI h' r c:=λh' sb e me=>by
  rcases kg.mp me with h|h
  ·exact⟨b,row,h,A_,bL,kp sb _ _ hx⟩
  obtain⟨c,r,h1,h2,h4,h3⟩:=V.el e h;exact⟨c,r,h1,l_ _ h2,h4,kp sb _ _ h3⟩
 have al:∀h',Mk a s.heap h'->∀r∈row::S,∃c,(hh r,L5 c)∈(Me es (t.put j).2 (hh row,L5 b)).toList/\TI h' r c:=λh' sb r mr=>by
  rcases m_.mp mr with h|h
  ·rw[h];exact⟨b,kg.mpr (.inl rfl),kp sb _ _ hx⟩
  obtain⟨c,h1,h2⟩:=V.al r h;exact⟨c,kg.mpr (.inr h1),kp sb _ _ h2⟩
 refine L' (λ_=>?_) (λ_=>?_)
 ·refine LL (ye hx ?_);rw[if_pos rfl];exact pF (t2:=(t.put j).1) (es2:=Me es (t.put j).2 (hh row,L5 b)) ho V hl rfl f2 dm f4 f5 el al f7 (q true)
 refine LL (LR ?_);rw[if_pos rfl];exact pF (t2:=(t.put j).1) (es2:=Me es (t.put j).2 (hh row,L5 b)) ho V hl rfl f2 dm f4 f5 el al f7 (q true)
end
open PySem ZT PyProof.Rows
variable {L:Nat}
section
variable{prog:LV}{w:L0}{A:L_}{R:Q5->LP->Prop}{I:LO}{fp wr:List LO}{G:Array P4->Array P4->Prop}{n:Nat}{P:Nat->LM->Prop}{St:Nat->LP->Prop}
noncomputable def ddR(row:Nat->List Int):Nat->List (List Int)
 |0=>[]
 |i+1=>if row i∈ddR row i then ddR row i else row i::ddR row i
theorem rd{row:Nat->List Int}:∀{i:Nat},(ddR row i).length<=i
 |0=>e_ _
 |i+1=>by
  have:=rd (row:=row) (i:=i);unfold ddR;split
  ·omega
  rw[f_];omega
abbrev il(prog:LV)(w:L0):List Int->Int:=tupleKeyHash (Qp prog w)
theorem SW2.at {hh:List Int->Int}{h':LZ}{a:LO}{S:List (List Int)}(x:SW2 hh L h a S)(k:∀b o,h.get? b=some o->b=a\/b<L->h'.get? b=some o):SW2 hh L h' a S:=by
 obtain⟨o,es,ep,t,kk,e,V⟩:=x;have kp:∀b row,b<L->TI h row b->TI h' row b:=λb row hb y=>y.at λo e=>k b o e (.inr hb);refine⟨o,es,ep,t,kk,k _ _ e (.inl rfl),V.ex,V.dat,V.k3,V.pw,V.up,V.no,V.pl,V.nf,V.ub,V.sz,λe me=>?_,λr mr=>?_,V.wy⟩
 ·obtain⟨c,r,h1,h2,h4,h3⟩:=V.el e me;exact⟨c,r,h1,h2,h4,kp c r h4 h3⟩
 obtain⟨c,h1,h2⟩:=V.al r mr;obtain⟨c',r',g1,_,g4,_⟩:=V.el _ h1;have e2:L5 c=.ref c':=congrArg JS g1;cases e2;exact⟨c,h1,kp c r g4 h2⟩
theorem xt(W:WalksS prog w A.in1 I fp wr G n P St)(S:LO)(hSf:S ∉ fp)(hSL:L<=S)(hwL:∀b∈wr,L<=b)(row:Nat->List Int)(adr:Nat->LO)(hval:∀i v,P i v->v=.ref (adr i))(hb:n<1000)(hu:A.in1.units<cLine) :
  ∀(k i:Nat) (s:LP),n-i=k->i<=n->St i s->SW2 (il prog w) L s.heap S (ddR row i)->(∀j,j<n->TI s.heap (row j) (adr j)/\adr j<L)->(∀s',Moved (S::wr) G s s'->SW2 (il prog w) L s'.heap S (ddR row n)->R (.ok (.ret .none)) s')->Nn (LW prog w) A (.builtin "set.update.loop" ⟨[.ref S,.ref I],[]⟩) R s:=by
 have hSw:S ∉ wr:=λh=>hSf (W.sub _ h);have hsub:∀b∈wr,b∈S::wr:=λb hb=>l_ _ hb;have low:∀b,b=S\/b<L->b ∉ wr:=λb h m=>h.elim (λz=>hSw (z▸m)) λz=>absurd (hwL b m) (Nat.not_le.mpr z);intro k;induction k with
 |zero=>
  intro i s hk hi hst hS hT hR;obtain rfl:i=n:=by omega
  refine Ni OP ?_;rw[M7 NQ _];show LS _ A.in1 (Ng (.ref I) >>= _) _ _ s;refine LL (W.done s _ _ hst λs' hm=>?_);show LS _ A.in1 (ret ME) _ _ s';exact LR (hR s' (hm.mono hsub) (hS.at λb o e h=>hm.heap b o (low b h) e))
 |succ k ih=>
  intro i s hk hi hst hS hT hR;have hlt:i<n:=by omega
  refine Ni OP ?_;rw[M7 NQ _];show LS _ A.in1 (Ng (.ref I) >>= _) _ _ s;refine LL (W.item i s _ _ hlt hst λv s' hP hst' hm=>?_);obtain rfl:=hval i v hP;have hS':SW2 (il prog w) L s'.heap S (ddR row i):=hS.at λb o e h=>hm.heap b o (low b h) e;have hT2:∀j,j<n->TI s'.heap (row j) (adr j)/\adr j<L:=λj hj=>⟨(hT j hj).1.at λo e=>hm.heap _ o (low _ (.inr (hT j hj).2)) e,(hT j hj).2⟩;show LS _ A.in1 (N5 [L5 (adr i)] (setAdd S (.ref (adr i))) >>= _) _ _ s';refine LL (Ma ?_);unfold setAdd;refine Ma (LL (wpAny_pyHash_tuple hu ((hT2 i hlt).1.key (prog:=prog) (w:=w)) ?_));refine yZ (s:={s' with toks:=s'.toks+((row i).length+1) }) hS' (hT2 i hlt).1 (hT2 i hlt).2 hu (H_ rd (Jd hlt hb)) λd h' sb hS2=>?_;have hS2:SW2 (il prog w) L h' S (ddR row (i+1)):=hS2;refine LR ⟨N0 NQ _,ih (i+1) _ (by omega) hlt (W.frame _ s' _ _ hst' (JA _ _) λb hb o e=>?_) hS2 (λj hj=>⟨(hT2 j hj).1.at λo e=>?_,(hT2 j hj).2⟩) λs'' hm'' hS''=>?_⟩
  ·rw[sb.2 b (λh:b=S=>hSf (by rw[<-h];exact hb))];exact e
  ·rw[sb.2 _ (λh:adr j=S=>absurd (hT2 j hj).2 (by rw[h];exact Nat.not_lt.mpr hSL))];exact e
  refine hR s'' (Moved.trans W.gtrans ((hm.mono hsub).then_heap (JA _ _) λb o hb e=>?_) hm'') hS'';rw[sb.2 b (λh:b=S=>hb (by rw[h];exact A_))];exact e
end
section
variable{prog:LV}{w:L0}{A:L_}{E:LM->LP->Prop}{s:LP}
theorem Bb{row:Nat->List Int}:SW2 (il prog w) L (h.push (nob w)) h.objs.size (ddR row 0):=
 ⟨_,#[],0,_,3,LX _ rfl,⟨rfl,rfl,rfl⟩,rfl,e_ _,rfl,Ig,rfl,rfl,by show 0*5<7*3;decide,by show 7+1<=8*0+8;decide,rfl,(λe he=>nomatch he),(λr hr=>nomatch hr),λi e j h=>by cases h⟩
set_option maxHeartbeats 3200000 in
theorem wV{l:LO}{items:Array LM}{row:Nat->List Int}{adr:Nat->LO}{Q:LM->LP->Prop}(hh:A.handled=none)(hl:s.heap.IsList l items)(hi:∀(i:Nat) (v:LM),items[i]?=some v->v=.ref (adr i))(hTup:∀j,j<items.size->TI s.heap (row j) (adr j))(hb:items.size<1000)(hu:A.in1.in1.in1.units<cLine)
  (h:∀(h':LZ) (tk:Nat),SW2 (il prog w) s.heap.objs.size h' s.heap.objs.size (ddR row items.size)->(∀b o,b<s.heap.objs.size->s.heap.get? b=some o->h'.get? b=some o)->Q (.ref s.heap.objs.size) {s with heap:=h',toks:=tk}) :
  LS (LW prog w) A (call (.type "set") [.ref l]) Q E s:=by
 obtain⟨c,tl,hmro⟩:=Nb.mro;have hmade:=Nb.made;have hsub:=Nb.sub;refine wpAny_call (Qm ?_);show LS _ _ (callAny (.type "set") _) _ _ _;refine LR ⟨Code.quiet_builtin _ (by rfl'),Ni F.entry_type_call ?_⟩;rw[Around.under_plain (weight_type_call_type "set" [.ref l] []) rfl];have h1:=Nb.notType;have h2:=Nb.canCreate;have hct:=F.typeCall_set_1 (.ref l)
 repeat (any_goals (first|assumption|wp_step))
 refine Np (B0 (.ref l) (E:=E) (Q:=λobj s₁=>obj=.ref s.heap.objs.size/\s₁={s with heap:=s.heap.push (nob w) }) ⟨rfl,rfl⟩) λr s₁ hr=>?_;cases r with
 |error e=>exact hr
 |ok fl=>
  cases fl with
  |ret obj=>
   obtain⟨rfl,rfl⟩:=hr;have hS:(s.heap.push (nob w)).get? s.heap.objs.size=some (nob w):=LX _ rfl;have hT:QW {s with heap:=s.heap.push (nob w) } (.ref s.heap.objs.size) "set":=⟨_,hS,rfl⟩;have hli:=Nb.init.lookup;have hbi:=Nb.init.bind (.ref s.heap.objs.size)
   repeat (any_goals (first|assumption|wp_step))
   refine Np (codeAny_call_builtin (R:=wants (λr s₂=>r=.none/\∃h' tk,s₂={s with heap:=h',toks:=tk}/\SW2 (il prog w) s.heap.objs.size h' s.heap.objs.size (ddR row items.size)/\(∀b o,b<s.heap.objs.size->s.heap.get? b=some o->h'.get? b=some o)) E) Nb.init.plain F.entry_set_init (check_set_init_1 hT ?_)) λr₂ s₂ hr₂=>?_
   ·obtain⟨ol,hol,hcl,nl,hdl⟩:=hl;obtain⟨ocls,odict,odata,oslots⟩:=ol;simp only at hcl hdl;subst hcl;subst hdl;have hol':(s.heap.push (nob w)).get? l=some { cls:=.type "list",dict:=odict,data:=.seq items nl,slots:=oslots}:=LQ _ hol;have hsls:=F.sub_list_set;have hslf:=F.sub_list_frozenset;have ii:(Nt "list" == Nt "dict")=false:=by decide
    have hl1:(s.heap.push (nob w)).IsList l items:=⟨_,hol',rfl,nl,rfl⟩;unfold Nq.«set.__init__» noKeywords QF;generalize hPI:O1=PI
    wp_walk
    subst hPI;refine MG hl1 ?_;refine LL (wpAny_runValue ?_);have hlS:l<s.heap.objs.size:=LU hol;have hh3:A.in1.in1.in1.handled=none:=by simp[hh]
    have hneI:l≠(s.heap.push (nob w)).objs.size:=by rw[Mo];exact k_ (J7 hlS)
    have hSf:s.heap.objs.size ∉ [(s.heap.push (nob w)).objs.size,l]:=by rw[Mo];simp only[m_,Hc,He,or_false,not_or];exact⟨k_ (Lb _),Jc hlS⟩
    refine xt (L:=s.heap.objs.size) ((Qi hh3 _ l hneI items).toS) s.heap.objs.size hSf (e_ _) (λb hb=>?hwL) row adr hi hb hu (items.size-0) 0 _ (by omega) (Hq _) ⟨⟨_,LX _ rfl,rfl,rfl⟩,(hl1.push _)⟩ ?hS0 (λj hj=>⟨(hTup j hj).at λo e=>LQ _ (LQ _ e),?hlt⟩) ?hR
    case hwL=>rw[Hc.mp hb,Mo];exact Kr _
    case hlt=>obtain⟨o,_,_,e,_⟩:=hTup j hj;exact LU e
    case hS0=>exact Bb.at λb o e _=>LQ _ e
    case hR=>
     intro s' hm hS';obtain⟨h',g',d',tk',os'⟩:=s';have eg:g'=s.gens:=hm.gens;have ed:d'=s.drawn:=hm.drawn;have eo:os'=s.os:=hm.os;subst eg;subst ed;subst eo;refine LR ?_;show LS _ _ (ret ME) _ _ _;refine LR ⟨rfl,h',tk',rfl,hS',λb o hb e=>?_⟩;refine hm.heap b o ?_ (LQ _ (LQ _ e));rw[Mo];simp only[m_,Hc,He,or_false,not_or];exact⟨k_ hb,k_ (J7 hb)⟩
   ·cases r₂ with
    |error e=>exact hr₂
    |ok fl₂=>
     cases fl₂ with
     |ret r=>
      obtain⟨rfl,h',tk,rfl,hS',hk'⟩:=hr₂
      repeat (any_goals (first|assumption|wp_step))
      exact h _ _ hS' hk'
     | _=>exact hr₂.elim
  | _=>exact hr.elim
end
end ZV
namespace L2
open PySem PySem.Spec PyProof.Rows
noncomputable def ddL(ks:List (List Int)):List (List Int):=ks.foldl (λS r=>if r∈S then S else r::S) []
variable {ks:List (List Int)}
theorem zd{r:List Int}:ddL (ks++[r])=if r∈ddL ks then ddL ks else r::ddL ks:=by unfold ddL;rw[List.foldl_append];rfl
theorem yW{ks:List (List Int)}:∀{i:Nat},i<=ks.length->ZV.ddR (λj=>ks.getD j []) i=ddL (ks.take i)
 |0,_=>by rw[KC];rfl
 |i+1,h=>by
  have e:ks[i]?=some (ks.getD i []):=by rw[i_,f' h];rfl
  rw[Iv,e,Option.toList_some,zd,<-yW (Nat.le_of_succ_le h)]
  rfl
variable {ad:List (LO×Obj)}
section
variable{X:Cx}
theorem DO{σ:St}{H:Hp}{s:LP}{b:LO}{k:List Int}(I:Inv X ad σ H s)(h:SqT X.K H b (k.map V.int)):ZV.TI s.heap k b:=by obtain⟨bi,r,⟨o,ho,hc,n,hd⟩,hz⟩:=I.tuple h;obtain⟨ps,rfl,e⟩:=gp r;exact⟨o,n,ps,ho,hc,hd,e⟩
theorem zo{σ:St}{H:Hp}{s:LP}(I:Inv X ad σ H s){ys:List V}{bi:List LM}(r:Vals ys bi):xQ X.K H ys ks->bi.length=ks.length/\∃adr:Nat->LO,(∀(i:Nat) (v:LM),bi[i]?=some v->v=.ref (adr i))/\∀j,j<bi.length->ZV.TI s.heap (ks.getD j []) (adr j):=by
 induction r generalizing ks with
 |nil=>
  intro q;cases q;exact⟨rfl,λ_=>0,λi v e=>by simp at e,λj h=>absurd h (HI _)⟩
 |cons hv tv ih=>
  intro q;rcases q with _|⟨hk,tk⟩;rename_i k ks;obtain⟨_,b,rfl,hb⟩:=hk;cases hv;obtain⟨l,adr,h1,h2⟩:=ih tk;refine⟨by rw[f_,f_,l],λi=>if i=0 then b else adr (i-1),λi v e=>?_,λj hj=>?_⟩
  ·cases i with
   |zero=>cases e;rfl
   |succ i=>exact h1 i v e
  cases j with
  |zero=>exact DO I hb
  |succ j=>exact h2 j (Ik hj)
theorem uw{e:LY}{te:TE}{p1 p2 pos1 jp:Pos}(hc:X.calm=true)(hu:X.A.units+20<cLine)(hg1:Gl X "len")(hm1:X.mg "len"=none)(hg2:Gl X "set")(hm2:X.mg "set"=none)(he:PE X e te)
  (hs1:L3 [e] X.env=[(false,Mi e X.env)]:=by rfl) (hs2:L3 [.Call (.Name "set" p2) [e] [] jp] X.env=[(false,Mi (.Call (.Name "set" p2) [e] [] jp) X.env)]:=by rfl) :
  PE X (.Call (.Name "len" p1) [.Call (.Name "set" p2) [e] [] jp] [] pos1) (λσ H Q=>te σ H λx H1=>∃l vs,∃ks:List (List Int),x=.ref l/\SqL X.K H1 l vs/\xQ X.K H1 vs ks/\ks.length<1000/\Q (.int (ddL ks).length) H1):=by
 intro ad s σ H Q I h;refine MC (gA I hg1 hm1 boot_len (callWith_builtin1 ?_ (by rw[hs2];rfl) rfl));rw[hs2];refine MR ?_;refine MC (gA I hg2 hm2 boot_set (callWith_type1 ?_ (by rw[hs1];rfl) rfl));rw[hs1];refine MR (thn (he ad s σ H _ I h) ?_);rintro u s1 ⟨x,H1,I1,r1,l,vs,ks,ex,hl,rv,hz,q⟩;subst ex;cases r1;obtain⟨bi,rr,pl,_⟩:=I1.list hl;obtain⟨ln,adr,h1,h2⟩:=zo I1 rr rv;refine LR (ZV.wV (items:=bi.toArray) (row:=λj=>ks.getD j []) (adr:=adr) (I1.ok.hd hc) pl.isList (λi v e=>h1 i v (by simpa using e)) (λj hj=>h2 j (by simpa using hj)) (by rw[j_];omega) (by show X.A.units+1+1+1<cLine;omega) λh' tk SW kp=>?_);have k1:∀b o,s1.heap.get? b=some o->h'.get? b=some o:=λb o e=>kp b o (LU e) e;have I2:Inv X ad σ H1 {s1 with heap:=h',toks:=tk}:=I1.kept (t':=tk) k1;rw[show bi.toArray.size=ks.length by rw[j_,ln],yW (e_ _),Hd]at SW;obtain⟨o,es,ep,t,k,ho,V⟩:=SW;have dl:(ddL ks).length<=ks.length:=by have:=ZV.rd (row:=λj=>ks.getD j []) (i:=ks.length);rw[yW (e_ _),Hd]at this;exact this
 refine LR (call_len_set (s:={s1 with heap:=h',toks:=tk}) ho V.ex V.dat V.ft (by rw[V.sz];omega) ?_);exact⟨.int (ddL ks).length,H1,I2.kept (t':=tk+1+1) (λb o e=>e),⟨_,by rw[V.sz]⟩,q⟩
end
end L2
namespace PL
open PySem PySem.Spec PyProof.Rows L2
section
variable{X:Cx}
def lnD:T->(T->Prop)->Prop
 | .lst _ ts,k=>got (rowsOf ts) λks=>ks.length<1000/\k (.int (ddL ks).length)
 | _,_=>False
theorem Ey{o:Bool}{ts:List T}{k:T->Prop}:lnD (.lst o ts) k=ff (rowsOf ts) (k:=⟨λks=>ks.length<1000/\k (.int (ddL ks).length)⟩):=rfl
theorem uQ{e:LY}{fe:PF}{p1 p2 pos1 jp:Pos}{kr:Nat}(hr:Room kr X.A)(hc:X.calm=true)(hg1:Gl X "len")(hm1:X.mg "len"=none)(hg2:Gl X "set")(hm2:X.mg "set"=none)(he:GE X e fe)
  (hs1:L3 [e] X.env=[(false,Mi e X.env)]:=by rfl) (hs2:L3 [.Call (.Name "set" p2) [e] [] jp] X.env=[(false,Mi (.Call (.Name "set" p2) [e] [] jp) X.env)]:=by rfl) :
  GE X (.Call (.Name "len" p1) [.Call (.Name "set" p2) [e] [] jp] [] pos1) (fUn lnD fe):=by
 refine PE.imp (uw hc (GH hr) hg1 hm1 hg2 hm2 he hs1 hs2) ?_;rintro σ H Q ⟨env,Fr,k,rs,q,c⟩;refine⟨env,Fr,_,rs,q,λt am x H1 q1 f8=>?_⟩;cases t <;> try exact q1.elim
 rename_i o ts;obtain⟨ks,ek,hz,kt⟩:=aG q1;obtain⟨et,ne⟩:=pE ek;subst et;obtain⟨a,vs,rfl,hq,l2,db⟩:=mU f8.head;obtain⟨rv,_⟩:=sk ne l2 db;exact⟨a,vs,ks,rfl,.inl hq,rv,hz,c _ _ _ _ kt (.of f8.1 (cQ f8.head.tail λ_=>.int))⟩
end
end PL
namespace Mp
open PySem L2
noncomputable def top(i:Nat):Md:=PySem.Challenge.pw_millpath_k11_what_outlines_are.main.body.getD i (.Pass ⟨0,0,0,0⟩)
abbrev lj:Md:=top 2
abbrev jO:Md:=top 3
abbrev jb:Md:=top 5
abbrev oh:Md:=top 6
abbrev gU:Md:=top 7
abbrev iA:Md:=top 9
abbrev i6:Md:=top 10
abbrev jH:Md:=top 11
abbrev fy:Md:=top 12
abbrev jd:Md:=top 13
abbrev gT:Md:=top 14
abbrev iw:Md:=top 15
abbrev eW:Md:=top 16
abbrev gW:Md:=top 17
abbrev lE:Md:=top 18
abbrev zF:Md:=top 20
abbrev o9:Md:=top 21
abbrev lJ:Md:=top 22
abbrev mY:Md:=top 23
abbrev qV:Md:=top 24
abbrev eX:Md:=top 25
abbrev n9:Md:=top 26
abbrev gO:Md:=top 27
abbrev lH:Md:=top 28
abbrev nB:Md:=top 29
abbrev jV:Md:=top 30
abbrev gQ:Md:=top 31
abbrev uG:Md:=top 32
abbrev i9:Md:=top 33
abbrev je:Md:=top 34
variable {ap:List (Key×V)}
theorem tQ{k:Key}{v:V}:gy ((k,v)::ap) k=some v:=by
 unfold gy;rw[HH,show(decide ((k,v).1=k))=true from decide_eq_true rfl]
 rfl
theorem qd{k k':Key}{v:V}(h:¬k=k'):gy ((k,v)::ap) k'=gy ap k':=by unfold gy;rw[HH,show(decide ((k,v).1=k'))=false from decide_eq_false h]
theorem key_ne:¬((Mb (some ("cells":Str)):Key)=Mb (some ("turn":Str))):=by rfl'
noncomputable def stK(c:LO)(t:Int):List (Key×V):=[(Mb (some ("cells":Str)),V.ref c),(Mb (some ("turn":Str)),V.int t)]
theorem rY(c:LO)(t:Int):gy (stK c t) (Mb (some ("cells":Str)))=some (.ref c):=tQ
theorem vf(c:LO)(t:Int):gy (stK c t) (Mb (some ("turn":Str)))=some (.int t):=by unfold stK;rw[qd key_ne];exact tQ
theorem Es(c:LO)(t u:Int):putK (stK c t) (Mb (some ("turn":Str))) (.int u)=stK c u:=by
 have e:((stK c t).any λkv=>decide (kv.1=(Mb (some ("turn":Str)):Key)))=true:=by rw[kh,vf];rfl
 unfold putK;rw[if_pos e];show [(if(Mb (some ("cells":Str)):Key)=Mb (some ("turn":Str))then _ else _),(if(Mb (some ("turn":Str)):Key)=Mb (some ("turn":Str))then _ else _)]=stK c u;rw[if_neg key_ne,if_pos rfl]
 rfl
structure StAt (H:Hp) (st c:LO) (cs:List Int) (t:Int):Prop where
 d:H st=some (.dK (stK c t))
 l:H c=some (.lst (cs.map V.int))
 pos:0<cs.length
 len:cs.length<=63
variable {H:Hp}{cs:List Int}{st:LO}
theorem StAt.ne {c:LO}{t:Int}(S:StAt H st c cs t):st≠c:=Cm S.d S.l (by intro z;cases z)
variable {H':Hp}
theorem StAt.same {c:LO}{t:Int}(S:StAt H st c cs t)(e:bg H H'):StAt H' st c cs t:=⟨e _ _ S.d,e _ _ S.l,S.pos,S.len⟩
structure Txt (mg:Str->Option LM):Prop where
 len:mg "len"=none
 list:mg "list"=none
 divmod:mg "divmod"=none
 isinstance:mg "isinstance"=none
 dict:mg "dict"=none
 tuple:mg "tuple"=none
 str:mg "str"=none
 int:mg "int"=none
 bool:mg "bool"=none
 all:mg "all"=none
 any:mg "any"=none
 zip:mg "zip"=none
 range:mg "range"=none
 max:mg "max"=none
 min:mg "min"=none
 abs:mg "abs"=none
 sum:mg "sum"=none
 sorted:mg "sorted"=none
 enumerate:mg "enumerate"=none
 set:mg "set"=none
 reversed:mg "reversed"=none
def BL(K:LN):Sp:=λvs H Q _=>∃(a:LO) (ns:List Int),vs=[.ref a]/\SqL K H a (ns.map V.int)/\ns.length<=63/\∀(st c:LO) (cs:List Int) (H':Hp),H st=none->H c=none->StAt H' st c cs 0->bg H H'->Q (.ref st) H'
def Dg:Sp:=λvs H Q _=>∃(st c:LO) (cs:List Int) (t m:Int),vs=[.ref st,.int m]/\StAt H st c cs t/\0<=t/\t<2 ^ 40/\0<m/\m<1073741824/\
 ∀(r:Int) (cs':List Int) (H':Hp),0<=r->r<m->StAt H' st c cs' (t+1)->Kp st c H H'->Q (.int r) H'
variable {fd:L6}
section
variable{P:LV}{w:L0}{K:LN}{mg:Str->Option LM}{base:LZ}
theorem scB:FnScope ["_law_script","_law_cells"] ["_law_script"] (av mY):=⟨rfl,rfl,rfl,by rfl',rfl,by rfl',by rfl'⟩
theorem xZ{f:LO}(F:Fun K "_law_begin" "_law_begin" mY f fd)(T:Txt mg):FnOk P w K mg base CX0 1 f fd ["_law_script"] (BL K):=by
 refine F.ok scB (λvs H Q E h=>?_) (λcdv A outer s H vs Q E hr h=>?_)
 ·obtain⟨a,ns,rfl,_⟩:=h
  rfl
 obtain⟨a,ns,rfl,hS,h63,q⟩:=h;have sc:=@scB;refine⟨_,(cz (j7 (i:=1) sc.nd rfl (gV rfl) (pR kL (by rfl) T.list (by rfl') (gK (sg vC (pv 0) wz (uZ cV)) jS)))
  (cz (zx (qP yD (pv 1) (zO jS) (aA _)) (kW (j7 (i:=1) sc.nd rfl (gV rfl) (zO (gK cV jS)))) qH)
  (kW (r9 (B6 (tJ jT (pv 1) (tJ jT cV Aw)) rfl rfl (by intro z;cases z) (by decide)))))),?_⟩
 refine⟨_,rfl,_,rfl,a,_,rfl,hS,λp hp=>⟨p,_,rfl,.inl (SqL.of aV),λl hl=>?_⟩⟩;obtain⟨zs,ez,lz⟩:∃zs:List Int,iX (ns.map V.int) none (some 63)=zs.map V.int/\zs.length<=63:=by refine⟨_,by unfold iX;rw[<-Hu,<-HD],?_⟩;exact GZ (List.length_take_le' _ _) (GZ (by rw[o_];omega) h63)
 have hp0:H p=none:=hp;have hl0:H l=none:=(cM hp _).none hl;have g1:bg H (upd (upd H p (.lst (iX (ns.map V.int) none (some 63)))) l (.lst (iX (ns.map V.int) none (some 63)))):=(cM hp _).trans' (cM hl _);refine⟨_,rfl,(by show 0<=sizeLine;decide),λe he=>?_⟩;have hul:∀o,upd (upd (upd H p (.lst (iX (ns.map V.int) none (some 63)))) l (.lst (iX (ns.map V.int) none (some 63)))) e o l=some (.lst (zs.map V.int)):=λo=>by rw[aO (cg aV he),aV,ez]
 have he0:H e=none:=g1.none he;have g2:=g1.trans' (cM he (.lst []));refine⟨.lst (di zs),.lst (di []),tP (SqL.of (hul _)),tP (SqL.of aV),?_,_,rfl,?_⟩
 ·have:=pH hr;rw[dpt,qm];exact this
 have fin:∀(c:LO) (cs:List Int) (H2:Hp),H c=none->bg H H2->H2 c=some (.lst (cs.map V.int))->0<cs.length->cs.length<=63->∀p,H2 p=none->StAt (upd (upd H2 p (.dK [])) p (.dK (iY [] [(Mb (some ("cells":Str)),V.ref c),(Mb (some ("turn":Str)),V.int 0)]))) p c cs 0/\bg H (upd (upd H2 p (.dK [])) p (.dK (iY [] [(Mb (some ("cells":Str)),V.ref c),(Mb (some ("turn":Str)),V.int 0)]))):=λc cs H2 hc g h1 h2 h3 p hp=>by
  have em:iY [] [((Mb (some ("cells":Str)):Key),V.ref c),(Mb (some ("turn":Str)),V.int 0)]=stK c 0:=by
   show putK (putK ([]:List (Key×V)) (Mb (some ("cells":Str))) (V.ref c)) (Mb (some ("turn":Str))) (V.int 0)=stK c 0;rw[tL _ (show gy ([]:List (Key×V)) (Mb (some ("cells":Str)))=none from rfl),Hx,tL _ (show gy [((Mb (some ("cells":Str)):Key),V.ref c)] (Mb (some ("turn":Str)))=none by rw[qd key_ne];rfl)]
   rfl
  rw[em,Ai];exact⟨⟨aV,by rw[aO (cg h1 hp)];exact h1,h2,h3⟩,g.trans' (cM hp _)⟩
 refine FE (λc=>?_) (λc=>?_)
 ·
  refine⟨(by show 1<=sizeLine;decide),λc7 h7=>?_⟩;have g3:=g2.trans' (cM h7 (.lst [V.int 7]));intro p' hp';obtain⟨S,g4⟩:=fin c7 [7] _ (g2.none h7) g3 aV (by decide) (by decide) p' hp';refine⟨_,rfl,?_,[(Mb (some ("cells":Str)),V.ref c7),(Mb (some ("turn":Str)),V.int 0)],rfl,(by show 2<=15;decide),?_⟩
  ·exact aV
  exact q p' c7 [7] _ (g3.none hp') (g2.none h7) S g4
 have c0:0<zs.length:=by
  cases zs with
  |nil=>rw[iZ]at c;cases c
  |cons a r=>exact Hh _
 intro p' hp';obtain⟨S,g4⟩:=fin l zs _ hl0 g2 (hul _) c0 lz p' hp';refine⟨_,rfl,?_,[(Mb (some ("cells":Str)),V.ref l),(Mb (some ("turn":Str)),V.int 0)],rfl,(by show 2<=15;decide),?_⟩
 ·exact aV
 exact q p' l zs _ (g2.none hp') hl0 S g4
theorem scT:FnScope ["_law_state","_law_many","_law_turn","_law_place","_law_cell","_law_digit","_law_mixed"] ["_law_state","_law_many"] (av qV):=⟨rfl,rfl,rfl,by rfl',rfl,by rfl',by rfl'⟩
theorem Bm{f:LO}(F:Fun K "_law_take" "_law_take" qV f fd)(T:Txt mg):FnOk P w K mg base CX0 1 f fd ["_law_state","_law_many"] Dg:=by
 refine F.ok scT (λvs H Q E h=>?_) (λcdv A outer s H vs Q E hr h=>?_)
 ·obtain⟨st,c,cs,t,m,rfl,_⟩:=h
  rfl
 obtain⟨st,c,cs,t,m,rfl,S,ht0,ht,hm0,hm1,q⟩:=h;have sc:=@scT;have hu:=pH hr;refine⟨_,(cz (j7 (i:=2) sc.nd rfl (gV rfl) (eQ nA (mS hu (pv 0) jT (λ_ _=>rfl)) cV))
  (cz (B4 hu (pv 0) jT (pv 2) rfl)
  (cz (j7 (i:=3) sc.nd rfl (gV rfl) (eQ jJ (pv 2) (oa kQ (by rfl) T.len (by rfl') (gK (mS hu (pv 0) jT (λ_ _=>rfl)) jS))))
  (cz (j7 (i:=4) sc.nd rfl (gV rfl) (Ca vc (mS hu (pv 0) jT (λ_ _=>rfl)) (pv 3) (λ_ _=>rfl)))
  (cz (zx (qP FG (pv 4) (eQ Dl cV cV) (aA _)) (cz (zR (oa tD (by rfl) T.divmod (by rfl') (gK (pv 4) (gK (pv 1) jS))) (yE rfl (nz (xS (mS hu (pv 0) jT (λ_ _=>rfl)) (pv 3) set_list) (nz (wb (i:=5) sc.nd rfl (gV rfl)) vn))))
  (kW (r9 (pv 5)))) qH)
  (cz (j7 (i:=6) sc.nd rfl (gV rfl) (eQ jJ (eQ k9 (eQ nA (eQ nA (eQ jJ (pv 4) cV) (eQ k9 (eQ k9 (pv 2) (pv 2)) cV)) cV) cV) cV))
  (cz (j7 (i:=6) sc.nd rfl (gV rfl) (eQ jJ (eQ k9 (pv 6) (pv 6)) cV))
  (kW (r9 (eQ jJ (eQ wa (eQ jJ (eQ k9 (eQ nA (pv 6) (eQ k9 (pv 2) cV)) cV) cV) cV) (pv 1))))))))))),?_⟩
 have D0:mK H st (.str ("turn":Str)) (some (.int t)):=by rw[<-vf c t];exact mK.k (k:=Mb (some ("turn":Str))) S.d
 refine⟨_,rfl,st,_,rfl,D0,_,_,rfl,rfl,?_⟩;have hP:wW H st (.str ("turn":Str)) (.int (t+1)) (upd H st (.dK (stK c (t+1)))):=by rw[<-Es c t (t+1)];exact wW.k (k:=Mb (some ("turn":Str))) S.d (by show 2<sizeLine;decide)
 refine⟨_,rfl,_,rfl,st,_,rfl,hP,?_⟩;have S1:StAt (upd H st (.dK (stK c (t+1)))) st c cs (t+1):=⟨aV,by rw[aO S.ne.symm];exact S.l,S.pos,S.len⟩;have K1:Kp st c H (upd H st (.dK (stK c (t+1)))):=λb o e n1 n2=>by rw[aO n1];exact e
 generalize upd H st (.dK (stK c (t+1)))=H1 at S1 K1 ⊢;have D1:mK H1 st (.str ("cells":Str)) (some (.ref c)):=by rw[<-rY c (t+1)];exact mK.k (k:=Mb (some ("cells":Str))) S1.d
 have hl:(cs.map V.int).length=cs.length:=a_ _;have hpos:(0:Int)<(((cs.map V.int).length:Nat):Int):=by rw[hl];have:=S.pos;omega
 refine⟨_,rfl,_,rfl,st,_,rfl,D1,c,_,rfl,.inl (SqL.of S1.l),_,_,rfl,rfl,hpos,?_⟩;have j0:0<=(t+1)%(((cs.map V.int).length:Nat):Int):=Ja _ (by omega);have j1:(t+1)%(((cs.map V.int).length:Nat):Int)<(cs.length:Int):=by have:=IG (t+1) hpos;rw[hl]at this ⊢;exact this
 obtain⟨v,hat⟩:∃v:Int,atI (cs.map V.int) ((t+1)%(((cs.map V.int).length:Nat):Int))=some (.int v):=⟨_,yN j0 j1⟩;refine⟨_,rfl,st,_,rfl,D1,_,rfl,c,_,_,_,rfl,rfl,SqL.of S1.l,hat,?_⟩;refine⟨_,rfl,_,_,rfl,rfl,⟨by decide,by decide,by decide⟩,_,_,rfl,rfl,_,rfl,?_⟩;refine FE (λhc=>?_) (λhc=>?_)
 ·
  refine⟨_,rfl,_,rfl,_,_,rfl,⟨hm0,hm1⟩,λp hp=>?_⟩;have g:=cM hp (.tup [.int (v/m),.int (v%m)]);have S2:=S1.same g;have D2:mK (upd H1 p (.tup [.int (v/m),.int (v%m)])) st (.str ("cells":Str)) (some (.ref c)):=by rw[<-rY c (t+1)];exact mK.k (k:=Mb (some ("cells":Str))) S2.d
  refine⟨p,_,rfl,SqT.of aV,rfl,_,_,rfl,?_⟩;refine⟨_,rfl,st,_,rfl,D2,_,rfl,c,_,_,((t+1)%(((cs.map V.int).length:Nat):Int)).toNat,rfl,rfl,S2.l,vd j0 (by rw[hl];rw[hl]at j1;exact j1),?_⟩;refine⟨_,_,rfl,rfl,?_⟩;refine⟨_,rfl,?_⟩;have es:∀j:Nat,(cs.map V.int).set j (.int (v/m))=(cs.set j (v/m)).map V.int:=λj=>by rw[Kf]
  refine q (v%m) (cs.set ((t+1)%(((cs.map V.int).length:Nat):Int)).toNat (v/m)) _ (Ja _ (by omega)) (IG _ hm0) ⟨?_,?_,?_,?_⟩ ?_
  ·rw[aO S2.ne];exact S2.d
  ·rw[aV,es]
  ·rw[F'];exact S.pos
  ·rw[F'];exact S.len
  intro b o e n1 n2;rw[aO n2];exact g b o (K1 b o e n1 n2)
 
 have mulR:∀(x y:Int),-(2 ^ 64)<y->y<2 ^ 64->x6 x y:=λx y h1 h2=>.inr ⟨h1,h2⟩;refine⟨_,rfl,_,_,rfl,rfl,(by show(0:Int)<2147483629;decide),_,rfl,_,rfl,_,_,rfl,rfl,mulR _ _ (by omega) (by omega),_,_,rfl,rfl,mulR _ _ (by decide) (by decide),_,_,rfl,rfl,_,_,rfl,rfl,_,_,rfl,rfl,mulR _ _ (by decide) (by decide),_,_,rfl,rfl,(by show(0:Int)<2147483647;decide),?_⟩;generalize hM:(v%2147483629+(t+1)*(t+1)*7919+11)*48271%2147483647=M;have m0:0<=M:=by rw[<-hM];exact Ja _ (by decide)
 have m1:M<2147483647:=by rw[<-hM];exact IG _ (by decide)
 refine⟨_,rfl,_,rfl,_,_,rfl,rfl,mulR _ _ (by omega) (by omega),_,_,rfl,rfl,(by show(0:Int)<2147483587;decide),?_⟩;refine⟨_,rfl,_,rfl,_,_,rfl,rfl,mulR _ _ (by decide) (by decide),_,_,rfl,rfl,_,_,rfl,rfl,mulR _ _ (by decide) (by decide),_,_,rfl,rfl,(by show(0:Int)<2147483629;decide),_,_,rfl,rfl,⟨by decide,by decide⟩,_,rfl,_,_,rfl,rfl,hm0,?_⟩;exact q _ cs H1 (Ja _ (by omega)) (IG _ hm0) S1 K1
end
open PySem L2 PL
structure Cells where
 cs:List Int
 pos:0<cs.length
 len:cs.length<=63
noncomputable def stT(c:Cells)(n:Nat):T:=.dK true [(Mb (some ("cells":Str)),.lst true (c.cs.map T.int)),(Mb (some ("turn":Str)),.int (n:Int))]
theorem eI{c:Cells}{n:Nat}:isAny (stT c n)=false:=rfl
def Scr(K:LN)(t:T)(ns:List Int):Prop:=t=.lst false (ns.map T.int)\/∃a,t=.hole (.ref a)/\∀H,SqL K H a (ns.map V.int)
def qX(K:LN):FP:=λts k=>∃t,∃ns:List Int,ts=[t]/\Scr K t ns/\ns.length<=63/\∀c,k (stT c 0) ts
def iq:FP:=λts k=>∃c n m,ts=[stT c n,.int m]/\n<2 ^ 40/\0<m/\m<1073741824/\∀r c',0<=r->r<m->k (.int r) [stT c' (n+1),.int m]
variable {Γ:Fm}{α β:Type}
section
variable{P:LV}{w:L0}{K:LN}{mg:Str->Option LM}{base:LZ}
theorem Du{l:List (α×β)}{a b:α}(h:[a,b]=l.map (·.1)):∃v w,l=[(a,v),(b,w)]:=by
 cases l with
 |nil=>cases h
 |cons x l=>
  cases l with
  |nil=>cases h
  |cons y l=>
   cases l with
   |nil=>
    have h1:=(Jw h).1;have h2:=(Jw (Jw h).2).1;exact⟨x.2,y.2,by rw[h1,h2]⟩
   |cons z l=>cases (Jw (Jw h).2).2
theorem t4{a:LO}{o:HO}(h:H a=some o):Put H a o H:=⟨h,λ_ _=>rfl⟩
theorem EF{c:Cells}{n:Nat}{v:V}(h:Rp K H ((stT c n,some v)::Γ)):∃st l,v=.ref st/\StAt H st l c.cs n/\Rp K H ((.bare,some (.ref st))::(.bare,some (.ref l))::Γ):=by
 obtain⟨st,ap,ev,hs,ek,h2⟩:=nV h;cases ev;obtain⟨v1,v2,rfl⟩:=Du ek;have h2:Rp K H ((.bare,some (.ref st))::(.lst true (c.cs.map T.int),some v1)::(.int (n:Int),some v2)::Γ):=h2;have e2:v2=.int n:=aQ h2.tail.tail;subst e2;have h3:=h2.perm (.swap _ _ _);obtain⟨l,vs,el,hl,ll,h4⟩:=ir h3;cases el;have ev:vs=c.cs.map V.int:=jq ll h4.tail;subst ev;refine⟨st,l,rfl,⟨hs,hl,c.pos,c.len⟩,?_⟩;have h5:Rp K H ((.bare,some (.ref l))::(.bare,some (.ref st))::(.int (n:Int),some (.int n))::Γ):=by have:Rp K H (zz (c.cs.map T.int) (c.cs.map V.int)++((.bare,some (.ref l))::(.bare,some (.ref st))::(.int (n:Int),some (.int n))::Γ)):=h4.perm d_.symm;exact this.part
 exact(h5.perm (by refine GX (.cons _ (.swap _ _ _)) ?_;refine GX (.swap _ _ _) ?_;exact .cons _ (.swap _ _ _))).tail
theorem sO{H:Hp}{Γ:Fm}:∀(ns:List Int),Rp K H Γ->Rp K H (zz (ns.map T.int) (ns.map V.int)++Γ)
 | [],h=>h
 |n::r,h=>cQ (sO r h) λ_=>.int
theorem xV{n:Nat}{l:LO}(S:StAt H st l cs n)(h:Rp K H ((.bare,some (.ref st))::(.bare,some (.ref l))::Γ)):∃c,Rp K H ((stT c n,some (.ref st))::Γ):=by
 refine⟨⟨cs,S.pos,S.len⟩,?_⟩;have h1:Rp K H ((.bare,some (.ref l))::(zz (cs.map T.int) (cs.map V.int)++((.bare,some (.ref st))::Γ))):=(sO cs (h.perm (.swap _ _ _))).perm d_;have h2:=gC h1 (by rw[a_,a_]) (t4 S.l);have h3:Rp K H ((.bare,some (.ref st))::((.lst true (cs.map T.int),some (.ref l))::(.int (n:Int),some (.int n))::Γ)):=by refine(cQ (t:=.int (n:Int)) h2 λ_=>.int).perm ?_;refine GX (.swap _ _ _) ?_;refine GX (.cons _ (.swap _ _ _)) ?_;exact .swap _ _ _
 exact pJ (ts:=[(Mb (some ("cells":Str)),.lst true (cs.map T.int)),(Mb (some ("turn":Str)),.int (n:Int))]) (vs:=stK l n) h3 rfl (t4 S.d)
theorem EI{a c:LO}(h:Rp K H ((.bare,some (.ref a))::(.bare,some (.ref c))::Γ))(k:Kp a c H H')(ha:∃u,H' a=some u/\∀xs,u≠.tup xs)(hc:∃u,H' c=some u/\∀xs,u≠.tup xs):Rp K H' ((.bare,some (.ref a))::(.bare,some (.ref c))::Γ):=by
 obtain⟨ua,ea,na⟩:=ha;obtain⟨uc,ec,nc⟩:=hc;obtain⟨Hz,N,h,nd,g,d⟩:=h;cases h with
 |cons e1 h1 c1=>
  cases c1 with
  |cons e2 h2 c2=>
   rcases h1 with⟨z,_⟩|⟨v1,ev1,h1⟩
   ·cases z
   rcases h2 with⟨z,_⟩|⟨v2,ev2,h2⟩
   ·cases z
   cases ev1;cases ev2;cases h1;cases h2;rename_i M u1 hu1 nt1 u2 hu2 nt2;subst e2;subst e1;have nd':(a::c::M).Nodup:=nd;rw[kw,kw]at nd';have keep:∀b o,H b=some o->b≠a->b≠c->H' b=some o:=k;have tk:TK H H':=λb xs r=>keep b _ r (λz=>nt1 xs (z▸r)) (λz=>nt2 xs (z▸r));have za:Hz a=none:=d a A_;have zc:Hz c=none:=d c (l_ _ A_);have g':Gr Hz H':=λb u r=>by
    obtain⟨w',q⟩:=Rd.some r;have b1:b≠a:=λz=>by rw[z,za]at q;cases q
    have b2:b≠c:=λz=>by rw[z,zc]at q;cases q
    rcases g b u r with r|⟨o,r⟩
    ·exact .inl (keep b _ r b1 b2)
    exact .inr ⟨o,keep b _ r b1 b2⟩
   refine⟨Hz,[a]++([c]++M),.cons rfl (.inr ⟨_,rfl,.bare ea λxs z=>?_⟩) (.cons rfl (.inr ⟨_,rfl,.bare ec λxs z=>?_⟩) (c2.move tk .ja λb m u e=>?_)),nd,g',d⟩
   ·rw[ea]at z;exact na xs (GY z)
   ·rw[ec]at z;exact nc xs (GY z)
   have b1:b≠a:=λz=>nd'.1 (by rw[<-z];exact l_ _ m)
   have b2:b≠c:=λz=>nd'.2.1 (by rw[<-z];exact m)
   exact⟨keep b u e b1 b2,λnt xs r=>nt xs (by rw[keep b u e b1 b2]at r;exact e.trans r)⟩
theorem AU{a c:LO}(h:Rp K H Γ)(ha:H a=none)(hc:H c=none)(ne:a≠c)(s:bg H H')(ea:∃u,H' a=some u/\∀xs,u≠.tup xs)(ec:∃u,H' c=some u/\∀xs,u≠.tup xs):Rp K H' ((.bare,some (.ref a))::(.bare,some (.ref c))::Γ):=by
 obtain⟨ua,ea,na⟩:=ea;obtain⟨uc,ec,nc⟩:=ec;obtain⟨Hz,N,h,nd,g,d⟩:=h;have n1:a ∉ N:=λm=>by obtain⟨⟨u,e⟩,_⟩:=h.there a m;rw[ha]at e;cases e
 have n2:c ∉ N:=λm=>by obtain⟨⟨u,e⟩,_⟩:=h.there c m;rw[hc]at e;cases e
 refine⟨Hz,[a]++([c]++N),.cons rfl (.inr ⟨_,rfl,.bare ea λxs z=>?_⟩) (.cons rfl (.inr ⟨_,rfl,.bare ec λxs z=>?_⟩) (h.move (bg.tk s) .ja λb m u e=>jr s b u e)),?_,g.trans (.of s),?_⟩
 ·rw[ea]at z;exact na xs (GY z)
 ·rw[ec]at z;exact nc xs (GY z)
 ·show(a::c::N).Nodup;rw[kw,kw];exact⟨λm=>(m_.mp m).elim (λz=>ne z) n1,n2,nd⟩
 intro b m;have m:b∈a::c::N:=m;rcases m_.mp m with rfl|m
 ·exact g.none ha
 rcases m_.mp m with rfl|m
 ·exact g.none hc
 exact d b m
theorem zB(D:Dfn K mg "_law_take" qV ["_law_state","_law_many"])(TX:Txt mg):Cal P w K mg base 1 "_law_take" ["_law_state","_law_many"] (aK K 2 iq):=by
 refine(D.cal λ_ _ F=>Bm F TX).imp ?_;rintro vs H Q E ⟨ts,Fr,k,l,hn,rp,⟨c,n,m,rfl,h1,h2,h3,pk⟩,q⟩;obtain⟨x,y,rfl⟩:=zz2 l rfl;have rp:Rp K H ((stT c n,some x)::(.int m,some y)::Fr):=rp;have ey:=aQ rp.tail;subst ey;obtain⟨st,lc,rfl,S,db⟩:=EF rp;refine⟨st,lc,c.cs,n,m,rfl,S,by omega,by omega,h2,h3,λr cs' H' hr0 hr1 S' kp=>?_⟩;have dL:=EI db kp ⟨_,S'.d,λ_ z=>by cases z⟩ ⟨_,S'.l,λ_ z=>by cases z⟩;have S'':StAt H' st lc cs' ((n+1:Nat):Int):=by push_cast;exact S'
 obtain⟨c',rp4⟩:=xV S'' dL;exact q _ _ _ _ (pk r c' hr0 hr1) (cQ rp4 λ_=>.int)
theorem tT{w y:V}(h:Rp K H ((.hole w,some y)::Γ)):y=w:=by
 obtain⟨_,_,r,_⟩:=gR h rfl;cases r
 rfl
theorem xA(D:Dfn K mg "_law_begin" mY ["_law_script"])(TX:Txt mg):Cal P w K mg base 1 "_law_begin" ["_law_script"] (aK K 1 (qX K)):=by
 refine(D.cal λ_ _ F=>xZ F TX).imp ?_;rintro vs H Q E ⟨ts,Fr,k,l,hn,rp,⟨t,ns,rfl,hs,h1,pk⟩,q⟩;obtain⟨x,rfl⟩:=zz1 l rfl;have rp:Rp K H ((t,some x)::Fr):=rp;obtain⟨a,rfl,hq⟩:∃a,x=.ref a/\SqL K H a (ns.map V.int):=by
  rcases hs with rfl|⟨a,rfl,hs⟩
  ·obtain⟨a,us,rfl,hq,l2,db⟩:=aC rfl rp;have eu:=jq l2 db;subst eu;exact⟨a,rfl,hq⟩
  exact⟨a,tT rp,hs H⟩
 refine⟨a,ns,rfl,hq,h1,λst lc cs H' hs hl S g=>?_⟩;have dL:=AU rp hs hl S.ne g ⟨_,S.d,λ_ z=>by cases z⟩ ⟨_,S.l,λ_ z=>by cases z⟩;obtain⟨c,rp4⟩:=xV (n:=0) S dL;exact q _ _ _ _ (pk c) rp4
def y6(K:LN):FP:=λts k=>∃t,∃ns:List Int,ts=[t]/\Scr K t ns/\ns.length<=63/\∀z,k (.bl true) [z]
def vt(K:LN):Sp:=λvs H Q _=>∃(a:LO) (ns:List Int),vs=[.ref a]/\SqL K H a (ns.map V.int)/\ns.length<=63/\∀H',Q (.bl true) H'
theorem tN{Hz H:Hp}:∀(ns:List Int),RepTs K Hz H (ns.map T.int) (ns.map V.int) []
 | []=>.nil
 | _::r=>.cons rfl .int (tN r)
theorem DA{k:Nat}{f:LO}(F:FnOk P w K mg base CX0 k f fd ["_law_script"] (aK K 1 (y6 K))):FnOk P w K mg base CX0 k f fd ["_law_script"] (vt K):=by
 refine F.imp ?_;rintro vs H Q E ⟨a,ns,rfl,hq,h1,q⟩;have key:∀t,Scr K t ns->(∀Hz,RepT K H Hz t (.ref a) [])->aK K 1 (y6 K) [.ref a] H Q E:=λt sc ht=>
  ⟨[t],[],λt _=>t=.bl true,rfl,rfl,⟨H,[],.cons rfl (.inr ⟨_,rfl,ht H⟩) .nil,JQ,.ja,λ_ m=>by cases m⟩,⟨t,ns,rfl,sc,h1,λ_=>rfl⟩,λt ts' v H' e rp=>by subst e;rw[iV rp];exact q H'⟩
 rcases hq with hq|hq
 ·exact key _ (.inl rfl) λHz=>.lstZ hq (tN ns)
 exact key _ (.inr ⟨a,rfl,λH=>.inr hq⟩) λHz=>.hole
end
open PySem L2 PL
abbrev qD:T:=.cst [.cst [.int 1,.int 0],.cst [.int 1,.int 1],.cst [.int 0,.int 1],.cst [.int (-1),.int 1],.cst [.int (-1),.int 0],.cst [.int (-1),.int (-1)],.cst [.int 0,.int (-1)],.cst [.int 1,.int (-1)]]
abbrev Pt:=Int×Int
noncomputable def ptP(p:Pt):T:=pt p.1 p.2
variable {p:Pt}
theorem gd:er (ptP p)=ptP p:=rfl
theorem cI:cq (ptP p)=true:=rfl
theorem bF:aX (ptP p)=true:=rfl
theorem bE:isAny (ptP p)=false:=rfl
theorem dI{k:T->Prop}:ixT (ptP p) (.int 0) k=k (.int p.1):=rfl
theorem dk{k:T->Prop}:ixT (ptP p) (.int 1) k=k (.int p.2):=rfl
theorem bH{k:T->Prop}:nv [ptP p] k=k (ptP p):=rfl
theorem DG{p q:Pt}{k:T->Prop}:eqT (ptP p) (ptP q) k=k (.bl (decide (p=q))):=by unfold ptP;rw[D4];congr 2;rw[decide_eq_decide];exact⟨λh=>Hr h.1 h.2,λh=>by rw[h];exact⟨rfl,rfl⟩⟩
noncomputable def FO:List Pt:=[(1,0),(1,1),(0,1),(-1,1),(-1,0),(-1,-1),(0,-1),(1,-1)]
noncomputable def st8(d:Nat):Pt:=FO.getD d (0,0)
def ak(p:Pt)(d:Nat)(m:Int):Pt:=(p.1+(st8 d).1*m,p.2+(st8 d).2*m)
variable {d:Nat}
theorem zt(h:d<8):atI [T.cst [.int 1,.int 0],.cst [.int 1,.int 1],.cst [.int 0,.int 1],.cst [.int (-1),.int 1],.cst [.int (-1),.int 0],.cst [.int (-1),.int (-1)],.cst [.int 0,.int (-1)],.cst [.int 1,.int (-1)]] (d:Int)=some (.cst [.int (st8 d).1,.int (st8 d).2]):=by
 match d,h with
 |0,_=>rfl
 |1,_=>rfl
 |2,_=>rfl
 |3,_=>rfl
 |4,_=>rfl
 |5,_=>rfl
 |6,_=>rfl
 |7,_=>rfl
theorem qo(d:Nat)(h:d<8):-1<=(st8 d).1/\(st8 d).1<=1/\-1<=(st8 d).2/\(st8 d).2<=1:=by
 match d,h with
 |0,_=>decide
 |1,_=>decide
 |2,_=>decide
 |3,_=>decide
 |4,_=>decide
 |5,_=>decide
 |6,_=>decide
 |7,_=>decide
noncomputable def far(p q:Pt):Int:=max ((q.1-p.1).natAbs:Int) ((q.2-p.2).natAbs:Int)
def lead(p q:Pt):Option Nat:=if far p q=0 then none else(r_ 8).find? λd=>decide (ak p d (far p q)=q)
def mI(p q:Pt):T:=match lead p q with
 |none=>.non
 |some d=>.tup [.int (d:Int),.int (far p q)]
variable {t:T}
theorem bP:js (er t)=js t:=by cases t <;> rfl
theorem fk{c:Ty}(h:js t=some c):isAny (er t)=false:=by cases t <;> first|rfl|cases h
theorem dJ{x:T}{n:String}{k:T->Prop}:vo [x,.ty n] k=ff (js x) (k:=⟨λt=>ff (uz n) (k:=⟨λc=>k (.bl (isA t c))⟩)⟩):=rfl
variable {ts:List T}
theorem dY{x:T}{k:T->Prop}:vo [x,.tup ts] k=ff (js x) (k:=⟨λt=>ff (qe ts) (k:=⟨λcs=>k (.bl (cs.any (isA t)))⟩)⟩):=rfl
theorem cy:uz "int"=some .int:=rfl
theorem br:uz "bool"=some .bl:=rfl
theorem cG:qe [.ty "list",.ty "tuple"]=some [.lst,.tup]:=rfl
def zZ(c:Ty):Bool:=[Ty.lst,Ty.tup].any (isA c)
def Kd(t:T):Prop:=(∃c,js t=some c)/\∀us,items t=some us->∀u∈us,∃c,js u=some c
def isI(t:T):Bool:=decide (js t=some .int)
def nums(t:T)(n:Nat):Bool:=match items t with
 |some us=>decide (us.length=n)&&us.all isI
 |none=>false
mutual
theorem fg:∀t:T,er (er t)=er t
 | .tup ts=>by rw[er,er,d0 ts]
 | .cst ts=>by rw[er,er,d0 ts]
 | .lst _ ts=>by rw[er,er,d0 ts]
 | .dK _ ts=>by rw[er,er,zN ts]
 | .dT _ ts=>by rw[er,er,y8 ts]
 | .bare=>rfl
 | .any=>rfl
 | .hole _=>rfl
 | .kp _=>rfl
 | .non=>rfl
 | .bl _=>rfl
 | .int _=>rfl
 | .str _=>rfl
 | .ty _=>rfl
theorem d0:∀t:List T,erL (erL t)=erL t
 | []=>rfl
 |t::r=>by rw[erL,erL,fg t,d0 r]
theorem zN:∀t:List (Key×T),erK (erK t)=erK t
 | []=>rfl
 | (_,t)::r=>by rw[erK,erK,fg t,zN r]
theorem y8:∀t:List (List Key×T),erT (erT t)=erT t
 | []=>rfl
 | (_,t)::r=>by rw[erT,erT,fg t,y8 r]
end
theorem yi:isI (er t)=isI t:=by unfold isI;rw[bP]
theorem iD(f:α->β)(l:List α):l.flatMap (λx=>[f x])=l.map f:=by
 induction l with
 |nil=>rfl
 |cons x l ih=>rw[B',ih];rfl
theorem xw{c:Ty}(h:js t=some c):(items t).isSome=zZ c:=by cases t <;> first|cases h;rfl|cases h
theorem xF:items (er t)=(items t).map erL:=by cases t <;> rfl
theorem aU(f:α->Bool)(l:List α):boolsOf (l.map λx=>T.bl (f x))=some (l.map f):=by
 induction l with
 |nil=>rfl
 |cons x l ih=>rw[h_,boolsOf,ih];rfl
theorem vg{us:List T}{k:T->Prop}(h:items t=some us)(q:k (.int us.length)):AJ [t] k:=by cases t <;> first|cases h;exact q|cases h
abbrev Ed:=Pt×Pt
def edT(e:Ed):T:=.tup [ptP e.1,ptP e.2]
variable {e:Ed}
theorem fU:er (edT e)=edT e:=rfl
theorem cL:cq (edT e)=true:=rfl
theorem bB:aX (edT e)=true:=rfl
theorem bK:isAny (edT e)=false:=rfl
theorem dH{k:T->Prop}:ixT (edT e) (.int 0) k=k (ptP e.1):=rfl
theorem eG{k:T->Prop}:ixT (edT e) (.int 1) k=k (ptP e.2):=rfl
noncomputable def ah(ps:List Pt):List Ed:=ps.zip (ps.drop 1++ps.take 1)
theorem xa(ps:List Pt):((ps.map ptP).zip ((ps.map ptP).drop 1++(ps.map ptP).take 1)).map (λp=>T.tup [p.1,p.2])=(ah ps).map edT:=by
 unfold ah;rw[<-Hu,<-HD,<-p_,Ly,Hw]
 rfl
theorem vF(ps:List Pt):erL (ps.map ptP)=ps.map ptP:=by rw[bT];rfl
theorem eU(ps:List Pt):(ah ps).length=ps.length:=by unfold ah;rw[Lj,b_,o_,q_];lia
theorem mN:hW ts (some 1) none=ts.drop 1:=by
 unfold hW;rw[HT.jf,show HT.sIx ts.length 0 (some 1)=min 1 ts.length from HT.i7 ts.length 0 1];cases ts with
 |nil=>rfl
 |cons t ts=>
  rw[show min 1 (t::ts).length=1 by rw[f_];lia,Jt (by rw[o_];lia)]
theorem iG:hW ts none (some 1)=ts.take 1:=by
 unfold hW;rw[HT.jf,show HT.sIx ts.length ts.length (some 1)=min 1 ts.length from HT.i7 ts.length _ 1];cases ts with
 |nil=>rfl
 |cons t ts=>rw[show min 1 (t::ts).length=1 by rw[f_];lia];rfl
abbrev Fp:=Bool×Pt
def fpT(f:Fp):T:=if f.1 then .lst false [.int f.2.1,.int f.2.2]else ptP f.2
def hdT(c:Bool)(fs:List Fp):T:=if c then .tup (fs.map fpT)else .lst false (fs.map fpT)
variable {c:Bool}
theorem FU{fs:List Fp}:js (hdT c fs)=some (if c then .tup else .lst):=by cases c <;> rfl
theorem CG:zZ (if c then .tup else .lst)=true:=by cases c <;> rfl
theorem bf{fs:List Fp}:items (hdT c fs)=some (fs.map fpT):=by cases c <;> rfl
theorem bW{fs:List Fp}:isAny (hdT c fs)=false:=by cases c <;> rfl
variable {f:Fp}
theorem EN:js (fpT f)=some (if f.1 then .lst else .tup):=by obtain⟨b,p⟩:=f;cases b <;> rfl
theorem nT:items (fpT f)=some [.int f.2.1,.int f.2.2]:=by obtain⟨b,p⟩:=f;cases b <;> rfl
theorem fw:isAny (fpT f)=false:=by obtain⟨b,p⟩:=f;cases b <;> rfl
theorem hU:er (fpT f)=fpT f:=by obtain⟨b,p⟩:=f;cases b <;> rfl
theorem cu:aX (fpT f)=true:=by obtain⟨b,p⟩:=f;cases b <;> rfl
theorem AF:nums (fpT f) 2=true:=by unfold nums;rw[nT];rfl
theorem Fd:Kd (fpT f):=⟨⟨_,EN⟩,λus e u m=>by
 rw[nT]at e;cases e;rcases m_.mp m with rfl|m
 ·exact⟨_,rfl⟩
 rw[Hc.mp m];exact⟨_,rfl⟩⟩
theorem cv{k:T->Prop}:nv [fpT f] k=k (ptP f.2):=by obtain⟨b,p⟩:=f;cases b <;> rfl
theorem gx{fs:List Fp}:er (hdT c fs)=hdT c fs:=by
 have e:erL (fs.map fpT)=fs.map fpT:=by rw[bT];exact IC λf _=>hU
 cases c
 ·show T.lst false (erL (fs.map fpT))=_;rw[e];rfl
 show T.tup (erL (fs.map fpT))=_;rw[e];rfl
noncomputable def iF(e:Ed)(c:Pt):Int:=(e.2.1-e.1.1)*(c.2-e.1.2)-(e.2.2-e.1.2)*(c.1-e.1.1)
noncomputable def sm(p:Pt):Prop:=-8388608<p.1/\p.1<8388608/\-8388608<p.2/\p.2<8388608
def smE(e:Ed):Prop:=sm e.1/\sm e.2
variable {a b:Int}
theorem vU(h1:-16777216<a)(h2:a<16777216)(h3:-16777216<b)(h4:b<16777216):-281474976710656<=a*b/\a*b<=281474976710656:=by
 have hn:(a*b).natAbs<=16777216*16777216:=by rw[JT];exact Lq (by lia) (by lia)
 lia
theorem tm{c:Pt}(h:smE e)(hc:sm c):-(2 ^ 64)<iF e c/\iF e c<2 ^ 64:=by obtain⟨⟨a1,a2,a3,a4⟩,b1,b2,b3,b4⟩:=h;obtain⟨c1,c2,c3,c4⟩:=hc;unfold iF;have p1:=vU (a:=e.2.1-e.1.1) (b:=c.2-e.1.2) (by lia) (by lia) (by lia) (by lia);have p2:=vU (a:=e.2.2-e.1.2) (b:=c.1-e.1.1) (by lia) (by lia) (by lia) (by lia);omega
noncomputable def ovl(a0 a1 b0 b1:Int):Bool:=decide (min a0 a1<=max b0 b1)&&decide (min b0 b1<=max a0 a1)
def acr(e o:Ed):Bool:=decide (iF e o.1*iF e o.2<=0)
def com(e o:Ed):Bool:=ovl e.1.1 e.2.1 o.1.1 o.2.1&&(ovl e.1.2 e.2.2 o.1.2 o.2.2&&(acr e o&&acr o e))
variable {i:Nat}
theorem map_take{g:α->β}{l:List α}{x:α}(h:l[i]?=some x):HS g (l.take (i+1))=HS g (l.take i)++[g x]:=by rw[Iv,h,p_];rfl
theorem dA{n:Nat}{gs:mO}{env:Ev}{k:Ev->Prop}:gTp n gs (edT e) env k=gTp n gs (.tup [ptP e.1,ptP e.2]) env k:=rfl
theorem dC{n:Nat}{gs:mO}{env:Ev}{k:Ev->Prop}:gTp n gs (ptP p) env k=gTp n gs (.tup [.int p.1,.int p.2]) env k:=rfl
noncomputable def eS(n i:Nat):Nat:=if i=0 then n-1 else i-1
theorem kF{g:α->T}{l:List α}{n:Nat}(hn:n=l.length)(h:(Lz (λ(i:Nat) (x:T)=>T.tup [.int (i:Int),x]) (r_ n) (l.map g))[i]?=some t):∃x,l[i]?=some x/\t=.tup [.int (i:Int),g x]:=by
 subst hn;rw[KA]at h;cases e:l[i]? with
 |none=>
  rw[y_,e]at h;cases hr:(r_ l.length)[i]? <;> rw[hr]at h <;> cases h
 |some x=>
  have hi:i<l.length:=(c_.mp e).1;rw[y_,e,HE hi]at h;cases h;exact⟨x,rfl,rfl⟩
theorem gv{g:α->T}{l:List α}{n:Nat}(hn:n=l.length):(Lz (λ(i:Nat) (x:T)=>T.tup [.int (i:Int),x]) (r_ n) (l.map g)).length=l.length:=by rw[KR,D',a_,hn,Kb]
theorem sf{g:α->T}{l:List α}(h:i<l.length)(z:α):atI (l.map g) ((i:Int)-1)=some (g (l.getD (eS l.length i) z)):=by
 unfold atI eS;rw[a_];by_cases hi:i=0
 ·subst hi;rw[if_pos rfl];have:ixN l.length (((0:Nat):Int)-1)=some (l.length-1):=by unfold ixN;rw[if_neg (by decide),if_pos (by lia)];congr 1;lia
  rw[this,Kg,y_,i_,f' (by lia)]
  rfl
 rw[if_neg hi];have:ixN l.length ((i:Int)-1)=some (i-1):=by unfold ixN;rw[if_pos (by lia)];rw[if_pos (by lia)];congr 1;lia
 rw[this,Kg,y_,i_,f' (by omega)]
 rfl
variable {q:Pt}
theorem wJ:isV (mI p q)=true:=by unfold mI;cases lead p q <;> rfl
theorem sA:pU (mI p q)=!(lead p q).isSome:=by unfold mI;cases lead p q <;> rfl
noncomputable def beyond(es:List Ed)(i:Nat):List Ed:=if i=0 then(es.take (es.length-1)).drop 2 else es.drop (i+2)
def kY(es:List Ed)(i:Nat):Bool:=match es[i]? with
 |some e=>(beyond es i).any (com e)
 |none=>false
def m7(es:List Ed):Bool:=(r_ es.length).any (kY es)
def cS(e:Ed):Nat:=(lead e.1 e.2).getD 0
def gF(es:List Ed):Bool:=es.all λe=>(lead e.1 e.2).isSome
def ot(ws:List Nat)(i:Nat):Bool:=decide (((ws.getD i 0:Int)-(ws.getD (eS ws.length i) 0:Int))%8=4)
def ph(ws:List Nat):Bool:=(r_ ws.length).any (ot ws)
def DY(ps:List Pt):Bool:=gF (ah ps)&&(!ph ((ah ps).map cS)&&!m7 (ah ps))
theorem AK{n:Nat}:hW ts (some (n:Int)) none=ts.drop n:=by
 unfold hW;rw[HT.jf,HT.i7];rcases K2 n ts.length with h|h
 ·rw[Ip h,Jt (by rw[o_];lia)]
 rw[Ld h,Kv (e_ _),Kv h,KP]
theorem Fy{n m:Nat}(h:m<=ts.length):hW ts (some (n:Int)) (some (m:Int))=(ts.take m).drop n:=by
 unfold hW;rw[HT.i7,HT.i7,Ip h,List.drop_take];rcases K2 n ts.length with h2|h2
 ·rw[Ip h2]
 rw[Ld h2,KD (by omega),KD (by lia),KC,KC]
variable {ps:List Pt}
theorem pK(h:e∈ah ps):e.1∈ps/\e.2∈ps:=by
 obtain⟨h1,h2⟩:=JE (show(e.1,e.2)∈ps.zip (ps.drop 1++ps.take 1)from h);refine⟨h1,?_⟩;rcases C_.mp h2 with h|h
 ·exact HC h
 exact HQ h
noncomputable def oV(x y w h a b c d:Int):List Pt:=[(x+a,y),(x+w-b,y),(x+w,y+b),(x+w,y+h-c),(x+w-c,y+h),(x+d,y+h),(x,y+h-d),(x,y+a)]
noncomputable def ddl:Pt->List Pt->List Pt
 | _,[]=>[]
 |p,q::l=>if q=p then ddl q l else q::ddl q l
def lQ(x y w h a b c d:Int):List Pt:=ddl (x,y+a) (oV x y w h a b c d)
theorem Bk{x:Pt}:∀{l:List Pt}{p:Pt},ddl p (l++[x])=ddl p l++(if x=l.getLastD p then []else [x]):=by
 intro l;induction l with
 |nil=>intro p;rfl
 |cons q l ih=>
  intro p;have e:(q::l).getLastD p=l.getLastD q:=by rw[Ib]
  rw[e,F_,ddl,ddl,ih];split
  ·rfl
  rfl
variable {z:Pt}
theorem zi{l:List Pt}{x:Pt}(hp:l.getD (l.length-1) z=p)(e:l[i]?=some x):ddl p (l.take (i+1))=ddl p (l.take i)++(if x=l.getD (eS l.length i) z then []else [x]):=by
 have hi:i<l.length:=(c_.mp e).1;have ek:(l.take i).getLastD p=l.getD (eS l.length i) z:=by
  unfold eS;by_cases h:i=0
  ·subst h;rw[if_pos rfl,hp];rfl
  rw[if_neg h,J_,List.getLast?_eq_getElem?,q_,Ip (by lia),Ho (by lia),i_,f' (by omega)]
  rfl
 rw[Iv,e,<-ek];exact Bk
theorem B1:∀{l:List Pt}{p:Pt},q∈ddl p l->q∈l:=by
 intro l;induction l with
 |nil=>intro p h;exact h
 |cons x l ih=>
  intro p h;rw[ddl]at h;split at h
  ·exact l_ _ (ih h)
  rcases m_.mp h with rfl|h
  ·exact A_ ..
  exact l_ _ (ih h)
theorem Bw:∀{l:List Pt}{p:Pt},(ddl p l).length<=l.length:=by
 intro l;induction l with
 |nil=>intro p;exact e_ _
 |cons x l ih=>
  intro p;rw[ddl];split
  ·exact Nat.le_succ_of_le ih
  exact Iy ih
theorem Au:∀{l:List Pt}{p:Pt},ddl p l=[]->q∈l->q=p:=by
 intro l;induction l with
 |nil=>intro p _ h;cases h
 |cons x l ih=>
  intro p h m;rw[ddl]at h;split at h
  ·rename_i e;rcases m_.mp m with rfl|m
   ·exact e
   rw[<-e];exact ih h m
  cases h
variable {h w x y:Int}
theorem sT{c d:Int}(hw:w≠0):0<(lQ x y w h a b c d).length:=by refine IF λz=>?_;have e:=Au (Hs z) (show((x+w,y+b):Pt)∈oV x y w h a b c d from .tail _ (.tail _ (.head _)));have:=congrArg JU e;dsimp only at this;lia
noncomputable def bd(m:Int)(z:Int):Prop:=-m<=z/\z<=m
def bdP(m:Int)(p:Pt):Prop:=bd m p.1/\bd m p.2
def bdL(m:Int):List Pt->Prop
 | []=>True
 |p::l=>bdP m p/\bdL m l
variable {m:Int}
theorem cb:∀{l:List Pt},bdL m l->p∈l->bdP m p:=by
 intro l;induction l with
 |nil=>intro _ h;cases h
 |cons x l ih=>
  intro h q;rcases m_.mp q with rfl|q
  ·exact h.1
  exact ih h.2 q
theorem lT:∀{l:List Pt},(∀p∈l,bdP m p)->bdL m l:=by
 intro l;induction l with
 |nil=>intro _;trivial
 |cons x l ih=>exact λh=>⟨h x (A_ ..),ih λp q=>h p (l_ _ q)⟩
variable {n:Int}
theorem wo{z:Int}(h:bd m z)(l:m<=n):bd n z:=⟨by have:=h.1;lia,by have:=h.2;lia⟩
theorem xN(h:bdP m p)(l:m<=n):bdP n p:=⟨wo h.1 l,wo h.2 l⟩
theorem Ak{c d:Int}(h0:bd m x)(h1:bd m y)(h2:bd m (x+w))(h3:bd m (y+h))(h4:bd m (x+a))(h5:bd m (x+w-b))(h6:bd m (y+b))(h7:bd m (y+h-c))(h8:bd m (x+w-c))(h9:bd m (x+d))(h10:bd m (y+h-d))(h11:bd m (y+a)):bdL m (lQ x y w h a b c d):=
 lT λp q=>cb (l:=oV x y w h a b c d) ⟨⟨h4,h1⟩,⟨h5,h1⟩,⟨h2,h6⟩,⟨h2,h7⟩,⟨h8,h3⟩,⟨h9,h3⟩,⟨h0,h10⟩,⟨h0,h11⟩,trivial⟩ (B1 q)
theorem Bv(h0:bd m x)(h1:bd m (x+w))(g0:0<=a)(g1:a<=w):bd m (x+a):=⟨Jj h0.1 (Int.le_add_of_nonneg_right g0),Jj (Int.add_le_add_left g1 x) h1.2⟩
theorem BM(h0:bd m x)(h1:bd m (x+w))(g0:0<=a)(g1:a<=w):bd m (x+w-a):=⟨Jj h0.1 (by lia),Jj (Int.sub_le_self _ g0) h1.2⟩
theorem CQ{c d M:Int}(h0:bd m x)(h1:bd m y)(h2:bd m (x+w))(h3:bd m (y+h))(mw:M<=w)(mh:M<=h)(ha:0<=a/\a<=M)(hb:0<=b/\b<=M)(hc:0<=c/\c<=M)(hd:0<=d/\d<=M):bdL m (lQ x y w h a b c d):=
 have l {z:Int} (g:0<=z/\z<=M):z<=w:=Jj g.2 mw;have k {z:Int} (g:0<=z/\z<=M):z<=h:=Jj g.2 mh
 Ak h0 h1 h2 h3 (Bv h0 h2 ha.1 (l ha)) (BM h0 h2 hb.1 (l hb)) (Bv h1 h3 hb.1 (k hb)) (BM h1 h3 hc.1 (k hc)) (BM h0 h2 hc.1 (l hc)) (Bv h0 h2 hd.1 (l hd)) (BM h1 h3 hd.1 (k hd)) (Bv h1 h3 ha.1 (k ha))
variable {u v:Int}
theorem E3(h0:bd m x)(h1:bd m y)(h2:bd m (x+u))(h3:bd m (y+v)):bdL m [(x,y),(x+u,y),(x,y+v)]:=⟨⟨h0,h1⟩,⟨h2,h1⟩,⟨h0,h3⟩,trivial⟩
theorem Ae{l:List α}{i:Int}(h0:0<=i)(h1:i<l.length):∃x,x∈l/\atI l i=some x:=by
 have h:i.toNat<l.length:=by lia
 refine⟨l[i.toNat],HB h,?_⟩;have:=iy (xs:=l) (j:=i.toNat) (f' h);rwa[JP h0]at this
variable {ns:List Int}
theorem qf(P:Int->Prop){i:Int}(h0:0<=i)(h1:i<ns.length)(hp:∀x∈ns,P x):∃v,atI (ns.map T.int) i=some (.int v)/\P v:=by obtain⟨t,m,e⟩:=Ae (l:=ns.map T.int) h0 (by rw[a_];exact h1);obtain⟨v,mv,rfl⟩:=Ha.mp m;exact⟨v,e,hp v mv⟩
theorem four{P:Int->Prop}(h:cs.length=4)(hp:∀v∈cs,P v):∃a b c d,cs=[a,b,c,d]/\P a/\P b/\P c/\P d:=by
 match cs,h with
 | [a,b,c,d],_=>exact⟨a,b,c,d,rfl,hp a (.head _),hp b (.tail _ (.head _)),hp c (.tail _ (.tail _ (.head _))),hp d (.tail _ (.tail _ (.tail _ (.head _))))⟩
theorem sF{l r:List Pt}(h:bdL m l)(e:∀p∈r,p∈l):bdL m r:=lT λp q=>cb h (e p q)
theorem Fh(h:0<=m)(h2:m<ts.length):hW ts (some m) none=ts.drop m.toNat/\hW ts none (some m)=ts.take m.toNat:=by
 obtain⟨n,rfl⟩:=Jp h;refine⟨AK,?_⟩;unfold hW;rw[HT.jf,HT.i7,Ip (by lia)]
 rfl
theorem nN(l:List α)(x:α):atI (l++[x]) (-1)=some x:=by
 unfold atI;have:ixN (l++[x]).length (-1)=some l.length:=by unfold ixN;rw[b_,if_neg (by decide),if_pos (by show -((l.length+1:Nat):Int)<=-1;lia)];congr 1;show(-1+((l.length+1:Nat):Int)).toNat=_;lia
 rw[this,Kg,Hi (e_ _),Ji]
 rfl
theorem mW{l r:List Pt}(h1:bdL m l)(h2:bdL m r):bdL m (l++r):=lT λp q=>(C_.mp q).elim (cb h1) (cb h2)
theorem En{l:List Pt}(h:bdL m l)(e:m<=n):bdL n l:=lT λp q=>xN (cb h q) e
theorem BB{c:Int}(h1:bd 600 a)(h2:bd 600 c)(h3:0<b):bd 360000 (a/b*c):=by
 have e:(a/b*c).natAbs<=600*600:=by
  rw[JT];refine Lq (GZ (Int.natAbs_ediv_le_natAbs a b) ?_) ?_
  ·have:=h1.1;have:=h1.2;lia
  have:=h2.1;have:=h2.2;lia
 exact⟨by lia,by lia⟩
theorem DQ{p q:Pt}{k:T->Prop}:neT (ptP p) (ptP q) k=k (.bl (decide (p≠q))):=by unfold ptP;rw[Cv,<-decide_not];congr 2;rw[decide_eq_decide];exact not_congr ⟨λh=>Hr h.1 h.2,λh=>by rw[h];exact⟨rfl,rfl⟩⟩
theorem vW{A B:Int}(h:0<m):(m*A)*(m*B)<=0↔(A<=0/\0<=B)\/(0<=A/\B<=0):=by
 have e:(m*A)*(m*B)=(m*m)*(A*B):=by grind
 have hm:0<m*m:=K7 h h;rw[e];have k:(m*m)*(A*B)<=0↔A*B<=0:=⟨λg=>JH.mp λz=>absurd (K7 hm z) (JH.mpr g),λg=>Js (Kh hm) g⟩;rw[k];constructor
 ·intro g;rcases J8 A 0 with a|a|a
  ·refine .inl ⟨Kh a,JH.mp λz=>absurd (Int.mul_pos_of_neg_of_neg a z) (JH.mpr g)⟩
  ·rcases Int.le_total B 0 with b|b
   ·exact .inr ⟨by lia,b⟩
   exact .inl ⟨by lia,b⟩
  refine .inr ⟨Kh a,JH.mp λz=>absurd (K7 a z) (JH.mpr g)⟩
 rintro(⟨a,b⟩|⟨a,b⟩)
 ·exact Int.mul_nonpos_of_nonpos_of_nonneg a b
 exact Js a b
def crs(d:Nat)(x y:Int):Int:=(st8 d).1*y-(st8 d).2*x
theorem qZ{c:Pt}:iF (p,ak p d m) c=m*crs d (c.1-p.1) (c.2-p.2):=by
 unfold iF ak crs;dsimp only;generalize (st8 d).1=a;generalize (st8 d).2=b
 grind
noncomputable def opp(A B:Int):Prop:=(A<=0/\0<=B)\/(0<=A/\B<=0)
variable {d':Nat}
theorem bU(hm:0<m)(hn:0<n):com (p,ak p d m) (q,ak q d' n)=true ↔
    ((min p.1 (p.1+(st8 d).1*m)<=max q.1 (q.1+(st8 d').1*n)/\min q.1 (q.1+(st8 d').1*n)<=max p.1 (p.1+(st8 d).1*m))/\
     (min p.2 (p.2+(st8 d).2*m)<=max q.2 (q.2+(st8 d').2*n)/\min q.2 (q.2+(st8 d').2*n)<=max p.2 (p.2+(st8 d).2*m))/\
     opp (crs d (q.1-p.1) (q.2-p.2)) (crs d (q.1+(st8 d').1*n-p.1) (q.2+(st8 d').2*n-p.2))/\opp (crs d' (p.1-q.1) (p.2-q.2)) (crs d' (p.1+(st8 d).1*m-q.1) (p.2+(st8 d).2*m-q.2))):=by
  unfold com ovl acr;rw[qZ,qZ,qZ,qZ,E_,E_,E_,E_,E_,decide_eq_true_iff,decide_eq_true_iff,decide_eq_true_iff,decide_eq_true_iff,decide_eq_true_iff,decide_eq_true_iff,vW hm,vW hn];exact Iff.rfl
variable {o:Ed}
theorem tM{a b:Pt}:com (b,a) o=com (a,b) o:=by
 have s1:∀c,iF (b,a) c=-iF (a,b) c:=λc=>by unfold iF;dsimp only;grind
 unfold com ovl acr;dsimp only;rw[s1,s1,Int.neg_mul_neg,LA b.1,LB b.1,LA b.2,LB b.2,Int.mul_comm (iF o b)]
theorem sy:com e o=com o e:=by unfold com ovl;rw[KQ (decide (min e.1.1 _<=_)),KQ (decide (min e.1.2 _<=_)),KQ (acr e o)]
theorem xm{a b:Pt}:com e (b,a)=com e (a,b):=by rw[sy,tM,sy]
def Meet(p:Pt)(d:Nat)(m:Int)(q:Pt)(d':Nat)(n:Int):Prop:=∃s t:Int,0<=s/\s<=2*m/\0<=t/\t<=2*n/\2*p.1+(st8 d).1*s=2*q.1+(st8 d').1*t/\2*p.2+(st8 d).2*s=2*q.2+(st8 d').2*t
theorem CK(hm:0<m)(hn:0<n):com (p,ak p 0 m) (q,ak q 0 n)=true↔Meet p 0 m q 0 n:=by
 rw[bU hm hn];unfold Meet crs opp;simp only[show st8 0=(1,0)from rfl];constructor
 ·intro h;exact⟨max 0 (2*(q.1-p.1)),max 0 (2*(q.1-p.1))-2*(q.1-p.1),by omega,by lia,by omega,by omega,by lia,by lia⟩
 rintro⟨s,t,h⟩;lia
theorem Ec(hm:0<m)(hn:0<n):com (p,ak p 0 m) (q,ak q 1 n)=true↔Meet p 0 m q 1 n:=by
 rw[bU hm hn];unfold Meet crs opp;simp only[show st8 0=(1,0)from rfl,show st8 1=(1,1)from rfl];constructor
 ·intro h;exact⟨2*((q.1-p.1) + -(q.2-p.2)),2*(-(q.2-p.2)),by lia,by lia,by lia,by lia,by lia,by lia⟩
 rintro⟨s,t,h⟩;lia
theorem D5(hm:0<m)(hn:0<n):com (p,ak p 0 m) (q,ak q 2 n)=true↔Meet p 0 m q 2 n:=by
 rw[bU hm hn];unfold Meet crs opp;simp only[show st8 0=(1,0)from rfl,show st8 2=(0,1)from rfl];constructor
 ·intro h;exact⟨2*((q.1-p.1)),2*(-(q.2-p.2)),by lia,by lia,by lia,by lia,by lia,by lia⟩
 rintro⟨s,t,h⟩;lia
theorem Dy(hm:0<m)(hn:0<n):com (p,ak p 0 m) (q,ak q 3 n)=true↔Meet p 0 m q 3 n:=by
 rw[bU hm hn];unfold Meet crs opp;simp only[show st8 0=(1,0)from rfl,show st8 3=(-1,1)from rfl];constructor
 ·intro h;exact⟨2*((q.1-p.1)+(q.2-p.2)),2*(-(q.2-p.2)),by lia,by lia,by lia,by lia,by lia,by lia⟩
 rintro⟨s,t,h⟩;lia
theorem Dw(hm:0<m)(hn:0<n):com (p,ak p 1 m) (q,ak q 0 n)=true↔Meet p 1 m q 0 n:=by
 rw[bU hm hn];unfold Meet crs opp;simp only[show st8 1=(1,1)from rfl,show st8 0=(1,0)from rfl];constructor
 ·intro h;exact⟨-(2*(-(q.2-p.2))),-(2*((q.1-p.1) + -(q.2-p.2))),by lia,by lia,by lia,by lia,by lia,by lia⟩
 rintro⟨s,t,h⟩;lia
theorem Dx(hm:0<m)(hn:0<n):com (p,ak p 1 m) (q,ak q 1 n)=true↔Meet p 1 m q 1 n:=by
 rw[bU hm hn];unfold Meet crs opp;simp only[show st8 1=(1,1)from rfl];constructor
 ·intro h;exact⟨max 0 (2*(q.1-p.1)),max 0 (2*(q.1-p.1))-2*(q.1-p.1),by omega,by lia,by omega,by omega,by lia,by lia⟩
 rintro⟨s,t,h⟩;lia
theorem DK(hm:0<m)(hn:0<n):com (p,ak p 1 m) (q,ak q 2 n)=true↔Meet p 1 m q 2 n:=by
 rw[bU hm hn];unfold Meet crs opp;simp only[show st8 1=(1,1)from rfl,show st8 2=(0,1)from rfl];constructor
 ·intro h;exact⟨2*((q.1-p.1)),2*((q.1-p.1) + -(q.2-p.2)),by lia,by lia,by lia,by lia,by lia,by lia⟩
 rintro⟨s,t,h⟩;lia
theorem Eg(hm:0<m)(hn:0<n):com (p,ak p 1 m) (q,ak q 3 n)=true↔Meet p 1 m q 3 n:=by
 rw[bU hm hn];unfold Meet crs opp;simp only[show st8 1=(1,1)from rfl,show st8 3=(-1,1)from rfl];constructor
 ·intro h;exact⟨(q.1-p.1)+(q.2-p.2),(q.1-p.1) + -(q.2-p.2),by lia,by lia,by lia,by lia,by lia,by lia⟩
 rintro⟨s,t,h⟩;lia
theorem DH(hm:0<m)(hn:0<n):com (p,ak p 2 m) (q,ak q 0 n)=true↔Meet p 2 m q 0 n:=by
 rw[bU hm hn];unfold Meet crs opp;simp only[show st8 2=(0,1)from rfl,show st8 0=(1,0)from rfl];constructor
 ·intro h;exact⟨-(2*(-(q.2-p.2))),-(2*((q.1-p.1))),by lia,by lia,by omega,by omega,by lia,by lia⟩
 rintro⟨s,t,h⟩;lia
theorem Di(hm:0<m)(hn:0<n):com (p,ak p 2 m) (q,ak q 1 n)=true↔Meet p 2 m q 1 n:=by
 rw[bU hm hn];unfold Meet crs opp;simp only[show st8 2=(0,1)from rfl,show st8 1=(1,1)from rfl];constructor
 ·intro h;exact⟨-(2*((q.1-p.1) + -(q.2-p.2))),-(2*((q.1-p.1))),by lia,by lia,by omega,by omega,by lia,by lia⟩
 rintro⟨s,t,h⟩;lia
theorem CP(hm:0<m)(hn:0<n):com (p,ak p 2 m) (q,ak q 2 n)=true↔Meet p 2 m q 2 n:=by
 rw[bU hm hn];unfold Meet crs opp;simp only[show st8 2=(0,1)from rfl];constructor
 ·intro h;exact⟨max 0 (2*(q.2-p.2)),max 0 (2*(q.2-p.2))-2*(q.2-p.2),by omega,by lia,by omega,by lia,by lia,by lia⟩
 rintro⟨s,t,h⟩;lia
theorem Dd(hm:0<m)(hn:0<n):com (p,ak p 2 m) (q,ak q 3 n)=true↔Meet p 2 m q 3 n:=by
 rw[bU hm hn];unfold Meet crs opp;simp only[show st8 2=(0,1)from rfl,show st8 3=(-1,1)from rfl];constructor
 ·intro h;exact⟨2*((q.1-p.1)+(q.2-p.2)),2*((q.1-p.1)),by lia,by lia,by omega,by omega,by lia,by lia⟩
 rintro⟨s,t,h⟩;lia
theorem D3(hm:0<m)(hn:0<n):com (p,ak p 3 m) (q,ak q 0 n)=true↔Meet p 3 m q 0 n:=by
 rw[bU hm hn];unfold Meet crs opp;simp only[show st8 3=(-1,1)from rfl,show st8 0=(1,0)from rfl];constructor
 ·intro h;exact⟨-(2*(-(q.2-p.2))),-(2*((q.1-p.1)+(q.2-p.2))),by lia,by lia,by lia,by lia,by lia,by lia⟩
 rintro⟨s,t,h⟩;lia
theorem CV(hm:0<m)(hn:0<n):com (p,ak p 3 m) (q,ak q 1 n)=true↔Meet p 3 m q 1 n:=by
 rw[bU hm hn];unfold Meet crs opp;simp only[show st8 3=(-1,1)from rfl,show st8 1=(1,1)from rfl];constructor
 ·intro h;exact⟨-((q.1-p.1) + -(q.2-p.2)),-((q.1-p.1)+(q.2-p.2)),by lia,by lia,by lia,by lia,by lia,by lia⟩
 rintro⟨s,t,h⟩;lia
theorem CC(hm:0<m)(hn:0<n):com (p,ak p 3 m) (q,ak q 2 n)=true↔Meet p 3 m q 2 n:=by
 rw[bU hm hn];unfold Meet crs opp;simp only[show st8 3=(-1,1)from rfl,show st8 2=(0,1)from rfl];constructor
 ·intro h;exact⟨-(2*((q.1-p.1))),-(2*((q.1-p.1)+(q.2-p.2))),by lia,by lia,by lia,by lia,by lia,by lia⟩
 rintro⟨s,t,h⟩;lia
theorem E6(hm:0<m)(hn:0<n):com (p,ak p 3 m) (q,ak q 3 n)=true↔Meet p 3 m q 3 n:=by
 rw[bU hm hn];unfold Meet crs opp;simp only[show st8 3=(-1,1)from rfl];constructor
 ·intro h;exact⟨max 0 (2*(q.2-p.2)),max 0 (2*(q.2-p.2))-2*(q.2-p.2),by omega,by lia,by omega,by lia,by lia,by lia⟩
 rintro⟨s,t,h⟩;lia
theorem Ff(h:i<4):st8 (4+i)=(-(st8 i).1,-(st8 i).2):=by
 match i,h with
 |0,_=>rfl
 |1,_=>rfl
 |2,_=>rfl
 |3,_=>rfl
theorem tG(h:i<4):ak (ak p (4+i) m) i m=p:=by unfold ak;rw[Ff h];exact Hr (by dsimp only;grind) (by dsimp only;grind)
theorem sR(h:i<4):Meet p (4+i) m q d' n↔Meet (ak p (4+i) m) i m q d' n:=by
 unfold Meet ak;rw[Ff h];dsimp only;generalize (st8 i).1=a;generalize (st8 i).2=b;constructor
 ·rintro⟨s,t,h1,h2,h3,h4,h5,h6⟩;exact⟨2*m-s,t,by lia,by lia,h3,h4,by rw[<-h5];grind,by rw[<-h6];grind⟩
 rintro⟨s,t,h1,h2,h3,h4,h5,h6⟩;exact⟨2*m-s,t,by lia,by lia,h3,h4,by rw[<-h5];grind,by rw[<-h6];grind⟩
theorem meet_comm:Meet p d m q d' n↔Meet q d' n p d m:=
 ⟨λ⟨s,t,a,b,c,d,e,f⟩=>⟨t,s,c,d,a,b,e.symm,f.symm⟩,λ⟨s,t,a,b,c,d,e,f⟩=>⟨t,s,c,d,a,b,e.symm,f.symm⟩⟩
theorem EV(hd:d<4)(hd':d'<4)(hm:0<m)(hn:0<n):com (p,ak p d m) (q,ak q d' n)=true↔Meet p d m q d' n:=by
 match d,d',hd,hd' with
 |0,0,_,_=>exact CK hm hn
 |0,1,_,_=>exact Ec hm hn
 |0,2,_,_=>exact D5 hm hn
 |0,3,_,_=>exact Dy hm hn
 |1,0,_,_=>exact Dw hm hn
 |1,1,_,_=>exact Dx hm hn
 |1,2,_,_=>exact DK hm hn
 |1,3,_,_=>exact Eg hm hn
 |2,0,_,_=>exact DH hm hn
 |2,1,_,_=>exact Di hm hn
 |2,2,_,_=>exact CP hm hn
 |2,3,_,_=>exact Dd hm hn
 |3,0,_,_=>exact D3 hm hn
 |3,1,_,_=>exact CV hm hn
 |3,2,_,_=>exact CC hm hn
 |3,3,_,_=>exact E6 hm hn
theorem Fl(hd:d<8)(hd':d'<4)(hm:0<m)(hn:0<n):com (p,ak p d m) (q,ak q d' n)=true↔Meet p d m q d' n:=by
 by_cases c:d<4
 ·exact EV c hd' hm hn
 obtain⟨i,rfl⟩:∃i,d=4+i:=⟨d-4,by lia⟩;have hi:i<4:=by lia
 have:=EV (p:=ak p (4+i) m) (q:=q) hi hd' hm hn;rw[tG hi,tM]at this;rw[this,sR hi]
theorem geo(hd:d<8)(hd':d'<8)(hm:0<m)(hn:0<n):com (p,ak p d m) (q,ak q d' n)=true↔Meet p d m q d' n:=by
 by_cases c:d'<4
 ·exact Fl hd c hm hn
 obtain⟨i,rfl⟩:∃i,d'=4+i:=⟨d'-4,by lia⟩;have hi:i<4:=by lia
 have:=Fl (p:=p) (q:=ak q (4+i) n) hd hi hm hn;rw[tG hi,xm,meet_comm]at this;rw[this,meet_comm (p:=p),sR hi]
structure Sg (e:Ed) (d:Nat) (m:Int):Prop where
 dl:d<8
 mp:0<m
 eq:e.2=ak e.1 d m
theorem yP:0<=far p q:=by unfold far;lia
theorem xX(h:lead p q=some d):Sg (p,q) d (far p q):=by
 unfold lead at h;split at h
 ·cases h
 rename_i c;have h1:=Kn h;have h2:=z_.mp (J' h);have:=yP (p:=p) (q:=q);exact⟨h2,by lia,(of_decide_eq_true h1).symm⟩
theorem vD(h:d<8):max ((st8 d).1.natAbs:Int) ((st8 d).2.natAbs:Int)=1:=by
 match d,h with
 |0,_=>rfl
 |1,_=>rfl
 |2,_=>rfl
 |3,_=>rfl
 |4,_=>rfl
 |5,_=>rfl
 |6,_=>rfl
 |7,_=>rfl
theorem mZ(h:Sg (p,q) d m):far p q=m:=by
 obtain⟨hd,hm,e⟩:=h;have e:q=ak p d m:=e;subst e;unfold far ak;dsimp only;rw[show p.1+(st8 d).1*m-p.1=(st8 d).1*m by lia,show p.2+(st8 d).2*m-p.2=(st8 d).2*m by lia]
 match d,hd with
 |0,_=>rw[show st8 0=(1,0)from rfl];dsimp only;lia
 |1,_=>rw[show st8 1=(1,1)from rfl];dsimp only;lia
 |2,_=>rw[show st8 2=(0,1)from rfl];dsimp only;lia
 |3,_=>rw[show st8 3=(-1,1)from rfl];dsimp only;lia
 |4,_=>rw[show st8 4=(-1,0)from rfl];dsimp only;lia
 |5,_=>rw[show st8 5=(-1,-1)from rfl];dsimp only;lia
 |6,_=>rw[show st8 6=(0,-1)from rfl];dsimp only;lia
 |7,_=>rw[show st8 7=(1,-1)from rfl];dsimp only;lia
theorem DD{a b:Nat}(ha:a<8)(hb:b<8)(h:st8 a=st8 b):a=b:=by
 have:∀a,a<8->∀b,b<8->st8 a=st8 b->a=b:=by decide
 exact this a ha b hb h
theorem BF{a b:Nat}(ha:a<8)(hb:b<8)(hm:0<m)(h:ak p a m=ak p b m):a=b:=by unfold ak at h;have h1:p.1+(st8 a).1*m=p.1+(st8 b).1*m:=congrArg JU h;have h2:p.2+(st8 a).2*m=p.2+(st8 b).2*m:=congrArg JS h;exact DD ha hb (Hr (Ir (JI hm) (IX h1)) (Ir (JI hm) (IX h2)))
theorem tR(h:Sg (p,q) d m):lead p q=some d:=by
 have hf:=mZ h;obtain⟨hd,hm,e⟩:=h;have e:q=ak p d m:=e;unfold lead;rw[if_neg (by lia),hf];cases hx:(r_ 8).find? λd=>decide (ak p d m=q)with
 |none=>exact absurd (decide_eq_true e.symm) (JX.mp hx d (z_.mpr hd))
 |some x=>
  have h1:ak p x m=q:=of_decide_eq_true (Kn (p:=λd=>decide (ak p d m=q)) hx);have h2:=z_.mp (J' hx);rw[e]at h1;exact congrArg some (BF h2 hd hm h1)
def aM(e:Ed):List Pt:=(r_ (2*far e.1 e.2).toNat).map λ(t:Nat)=>(2*e.1.1+(e.2.1-e.1.1)/far e.1 e.2*(t:Int),2*e.1.2+(e.2.2-e.1.2)/far e.1 e.2*(t:Int))
def hpt(e:Ed)(d:Nat)(s:Int):Pt:=(2*e.1.1+(st8 d).1*s,2*e.1.2+(st8 d).2*s)
theorem acl(a b:Int):a+b-a=b:=by lia
theorem dW(h:Sg e d m):aM e=(r_ (2*m).toNat).map λ(t:Nat)=>hpt e d t:=by obtain⟨p,q⟩:=e;have hf:=mZ h;obtain⟨hd,hm,e⟩:=h;have e:q=ak p d m:=e;have z:m≠0:=JI hm;unfold aM hpt;dsimp only;rw[hf,e];unfold ak;dsimp only;rw[acl,acl,IY _ z,IY _ z]
theorem cf(h:Sg e d m){x:Pt}:x∈aM e↔∃s:Int,0<=s/\s<2*m/\x=hpt e d s:=by
 rw[dW h,Ha];constructor
 ·rintro⟨t,mt,rfl⟩;have:=z_.mp mt;exact⟨t,by lia,by lia,rfl⟩
 rintro⟨s,h1,h2,rfl⟩;exact⟨s.toNat,z_.mpr (by lia),by rw[JP h1]⟩
theorem CJ(h:d<8):(st8 d).1≠0\/(st8 d).2≠0:=by
 match d,h with
 |0,_=>decide
 |1,_=>decide
 |2,_=>decide
 |3,_=>decide
 |4,_=>decide
 |5,_=>decide
 |6,_=>decide
 |7,_=>decide
variable {s:Int}
theorem BG(hd:d<8){t:Int}(h:hpt e d s=hpt e d t):s=t:=by
 have h1:(st8 d).1*s=(st8 d).1*t:=IX (congrArg JU h);have h2:(st8 d).2*s=(st8 d).2*t:=IX (congrArg JS h);rcases CJ hd with z|z
 ·exact Ka z h1
 exact Ka z h2
theorem gu(h:Sg e d m):(aM e).Nodup:=by rw[dW h];refine IJ.mpr (JB.imp λ{a b} ne z=>ne ?_);have:=BG h.dl z;lia
theorem C1:hpt e d 0=(2*e.1.1,2*e.1.2):=by unfold hpt;rw[IA,IA,LC,LC]
theorem kS(h:Sg e d m):hpt e d (2*m-s)=(2*e.2.1-(st8 d).1*s,2*e.2.2-(st8 d).2*s):=by rw[h.eq];unfold hpt ak;exact Hr (by dsimp only;grind) (by dsimp only;grind)
theorem wN(h:Sg e d m):(2*e.1.1,2*e.1.2)∈aM e:=(cf h).mpr ⟨0,Int.le_refl _,by have:=h.mp;lia,C1.symm⟩
theorem FW{a b:Nat}(ha:a<8)(hb:b<8):((a:Int)-(b:Int))%8=4↔(st8 a).1=-(st8 b).1/\(st8 a).2=-(st8 b).2:=by
 have:∀a:Nat,a<8->∀b:Nat,b<8->(((a:Int)-(b:Int))%8=4↔(st8 a).1=-(st8 b).1/\(st8 a).2=-(st8 b).2):=by decide
 exact this a ha b hb
theorem As{a b:Nat}(ha:a<8)(hb:b<8){t:Int}(hs:0<s)(ht:0<=t)(h1:(st8 a).1*t=-((st8 b).1*s))(h2:(st8 a).2*t=-((st8 b).2*s)):(st8 a).1=-(st8 b).1/\(st8 a).2=-(st8 b).2:=by
 have n1:=congrArg LK h1;have n2:=congrArg LK h2;rw[Int.natAbs_neg,JT,JT]at n1 n2;have u1:=vD ha;have u2:=vD hb;have e:t=s:=by
  have l1:max ((st8 a).1.natAbs*t.natAbs) ((st8 a).2.natAbs*t.natAbs)=t.natAbs:=by rw[KG,show max (st8 a).1.natAbs (st8 a).2.natAbs=1 by omega,Ku]
  have l2:max ((st8 b).1.natAbs*s.natAbs) ((st8 b).2.natAbs*s.natAbs)=s.natAbs:=by rw[KG,show max (st8 b).1.natAbs (st8 b).2.natAbs=1 by omega,Ku]
  rw[n1,n2,l2]at l1;lia
 have z:s≠0:=JI hs;rw[e,<-Int.neg_mul]at h1 h2;exact⟨Ir z h1,Ir z h2⟩
theorem pG{a b:Nat}(h:Sg e a m)(g:Sg o b n)(c:e.2=o.1){x:Pt}(h1:x∈aM e)(h2:x∈aM o):((b:Int)-(a:Int))%8=4:=by obtain⟨s,s0,s1,rfl⟩:=(cf h).mp h1;obtain⟨t,t0,t1,e2⟩:=(cf g).mp h2;have e3:hpt e a s=hpt e a (2*m-(2*m-s)):=congrArg (hpt e a) (by lia);rw[e3,kS h,c]at e2;have q1:2*o.1.1-(st8 a).1*(2*m-s)=2*o.1.1+(st8 b).1*t:=congrArg JU e2;have q2:2*o.1.2-(st8 a).2*(2*m-s)=2*o.1.2+(st8 b).2*t:=congrArg JS e2;exact(FW g.dl h.dl).mpr (As g.dl h.dl (s:=2*m-s) (t:=t) (by lia) t0 (by lia) (by lia))
theorem xj{a b:Nat}(h:Sg e a m)(g:Sg o b n)(c:e.2=o.1)(z:((b:Int)-(a:Int))%8=4):∃x,x∈aM e/\x∈aM o:=by obtain⟨z1,z2⟩:=(FW g.dl h.dl).mp z;have:=h.mp;have:=g.mp;refine⟨hpt o b 1,(cf h).mpr ⟨2*m-1,by lia,by lia,?_⟩,(cf g).mpr ⟨1,by lia,by lia,rfl⟩⟩;rw[kS h,c];unfold hpt;rw[z1,z2];exact Hr (by dsimp only;lia) (by dsimp only;lia)
theorem sZ{a b:Nat}(h:Sg e a m)(g:Sg o b n):com e o=true↔∃s t:Int,0<=s/\s<=2*m/\0<=t/\t<=2*n/\hpt e a s=hpt o b t:=by
 obtain⟨p,p'⟩:=e;obtain⟨q,q'⟩:=o;have e1:p'=ak p a m:=h.eq;have e2:q'=ak q b n:=g.eq;rw[e1,e2,geo h.dl g.dl h.mp g.mp];unfold Meet hpt;constructor
 ·rintro⟨s,t,h1,h2,h3,h4,h5,h6⟩;exact⟨s,t,h1,h2,h3,h4,Hr h5 h6⟩
 rintro⟨s,t,h1,h2,h3,h4,h5⟩;exact⟨s,t,h1,h2,h3,h4,congrArg JU h5,congrArg JS h5⟩
theorem ky{l:List α}{z:α}(h:i<l.length):l[i]?=some (l.getD i z):=by
 rw[i_,f' h]
 rfl
theorem eO(h:i<ps.length):(ah ps)[i]?=some (ps.getD i z,ps.getD ((i+1)%ps.length) z):=by
 refine List.getElem?_zip_eq_some.mpr ⟨ky h,?_⟩;show _=some (ps.getD ((i+1)%ps.length) z);by_cases g:i+1<ps.length
 ·rw[Hk (by rw[o_];lia),HN,LD 1 i,Hj g];exact ky g
 have g:i+1=ps.length:=by lia
 rw[Hi (by rw[o_];omega),o_,g,Jk,show i-(ps.length-1)=0 by lia,Ho (by decide)];exact ky (by lia)
abbrev e00:Ed:=((0,0),(0,0))
structure Lp (es:List Ed) (n:Nat):Prop where
 len:es.length=n
 st:∀i,i<n->Sg (es.getD i e00) (cS (es.getD i e00)) (far (es.getD i e00).1 (es.getD i e00).2)
 ch:∀i,i<n->(es.getD i e00).2=(es.getD ((i+1)%n) e00).1
theorem C4(h:gF (ah ps)=true):Lp (ah ps) ps.length where
 len:=eU ps
 st:=λi hi=>by
  have e:=eO (z:=(0,0)) hi;have e2:(ah ps).getD i e00=(ps.getD i (0,0),ps.getD ((i+1)%ps.length) (0,0)):=by rw[i_,e];rfl
  have g:=Iz.mp h _ (D_ e);obtain⟨d,hd⟩:=HK.mp g;rw[e2];have hw:cS (ps.getD i (0,0),ps.getD ((i+1)%ps.length) (0,0))=d:=by unfold cS;rw[hd];rfl
  rw[hw];exact xX hd
 ch:=λi hi=>by
  have l:(i+1)%ps.length<ps.length:=Hl _ (by lia);have g:∀k,k<ps.length->(ah ps).getD k e00=(ps.getD k (0,0),ps.getD ((k+1)%ps.length) (0,0)):=λk h=>by rw[i_,eO (z:=(0,0)) h];rfl
  rw[g i hi,g _ l]
variable {es:List Ed}
theorem oJ:o∈beyond es i↔∃j,i+2<=j/\(i=0->j<es.length-1)/\es[j]?=some o:=by
 unfold beyond;rw[IP];split
 ·rename_i h;subst h;constructor
  ·rintro⟨k,e⟩;rw[HN]at e;have l:2+k<es.length-1:=by have:=(c_.mp e).1;rw[q_]at this;omega
   rw[Ho l]at e;exact⟨2+k,by lia,λ_=>l,e⟩
  rintro⟨j,h1,h2,e⟩;refine⟨j-2,?_⟩;rw[HN,show 2+(j-2)=j by lia,Ho (h2 rfl)];exact e
 rename_i h;constructor
 ·rintro⟨k,e⟩;rw[HN]at e;exact⟨i+2+k,by lia,λz=>absurd z h,e⟩
 rintro⟨j,h1,h2,e⟩;refine⟨j-(i+2),?_⟩;rw[HN,show i+2+(j-(i+2))=j by omega];exact e
theorem q0:m7 es=true↔∃i j,i+2<=j/\j<es.length/\(i=0->j<es.length-1)/\com (es.getD i e00) (es.getD j e00)=true:=by
 unfold m7 kY;rw[HM];constructor
 ·rintro⟨i,mi,h⟩;rw[ky (z:=e00) (z_.mp mi)]at h;obtain⟨o,mo,hc⟩:=HM.mp h;obtain⟨j,h1,h2,e⟩:=oJ.mp mo;have hj:j<es.length:=(c_.mp e).1;refine⟨i,j,h1,hj,h2,?_⟩;rw[i_ (i:=j),e];exact hc
 rintro⟨i,j,h1,hj,h2,hc⟩;refine⟨i,z_.mpr (by lia),?_⟩;rw[ky (z:=e00) (show i<es.length by lia)];exact HM.mpr ⟨_,oJ.mpr ⟨j,h1,h2,ky hj⟩,hc⟩
theorem lW:ph (es.map cS)=true↔∃i,i<es.length/\((cS (es.getD i e00):Int)-(cS (es.getD (eS es.length i) e00):Int))%8=4:=by
 have g:∀i,i<es.length->(es.map cS).getD i 0=cS (es.getD i e00):=λi h=>by rw[i_,y_,ky (z:=e00) h];rfl
 unfold ph ot;rw[HM,a_];constructor
 ·rintro⟨i,mi,h⟩;have hi:=z_.mp mi;have:=of_decide_eq_true h;rw[g i hi,g _ (by unfold eS;split <;> lia)]at this;exact⟨i,hi,this⟩
 rintro⟨i,hi,h⟩;refine⟨i,z_.mpr hi,decide_eq_true ?_⟩;rw[g i hi,g _ (by unfold eS;split <;> lia)];exact h
theorem vX{n:Nat}(L:Lp es n):(es.flatMap aM).Nodup↔∀i j,i<j->j<n->∀x,x∈aM (es.getD i e00)->x∈aM (es.getD j e00)->False:=by
 have ln:=L.len;unfold Lm;rw[KH];have gg:∀i (h:i<es.length),es[i]=es.getD i e00:=λi h=>by rw[i_,f' h];rfl
 constructor
 ·rintro⟨_,h⟩ i j im hj x h1 h2;have hi':i<es.length:=by lia
  have hj':j<es.length:=by lia
  have:=I_.mp h i j hi' hj' im;rw[gg,gg]at this;exact this x h1 x h2 rfl
 intro h;refine⟨λe me=>?_,I_.mpr λi j hi hj im x hx y hy z=>?_⟩
 ·obtain⟨i,hi,e1⟩:=HP.mp me;rw[<-e1,gg];exact gu (L.st i (by lia))
 rw[gg]at hx hy;exact h i j im (by lia) x hx (by rw[z];exact hy)
theorem xg{n:Nat}(L:Lp es n)(h3:3<=n):(es.flatMap aM).Nodup↔ph (es.map cS)=false/\m7 es=false:=by
 have ln:=L.len;rw[vX L];constructor
 ·intro h;have sym:∀i j,i≠j->i<n->j<n->∀x,x∈aM (es.getD i e00)->x∈aM (es.getD j e00)->False:=λi j ne hi hj x h1 h2=>by
   rcases Nat.lt_or_gt_of_ne ne with c|c
   ·exact h i j c hj x h1 h2
   exact h j i c hi x h2 h1
  refine⟨Ih.mpr λz=>?_,Ih.mpr λz=>?_⟩
  ·obtain⟨i,hi,hb⟩:=lW.mp z;rw[ln]at hb hi;have hp:eS n i<n/\eS n i≠i/\(eS n i+1)%n=i:=by
    unfold eS;split
    ·rename_i q;subst q;exact⟨by lia,by lia,by rw[show n-1+1=n by lia,Jk]⟩
    exact⟨by lia,by lia,by rw[show i-1+1=i by lia,Hj hi]⟩
   have hc:=L.ch _ hp.1;rw[hp.2.2]at hc;obtain⟨x,x1,x2⟩:=xj (L.st _ hp.1) (L.st i hi) hc hb;exact sym _ _ hp.2.1 hp.1 hi x x1 x2
  obtain⟨i,j,h1,hj,h2,hc⟩:=q0.mp z;rw[ln]at hj h2;have hi:i<n:=by lia
  obtain⟨s,t,s0,s1,t0,t1,e⟩:=(sZ (L.st i hi) (L.st j hj)).mp hc;have pick:∀{k:Nat}{s:Int},k<n->0<=s->s<=2*far (es.getD k e00).1 (es.getD k e00).2->hpt (es.getD k e00) (cS (es.getD k e00)) s∈aM (es.getD k e00)\/hpt (es.getD k e00) (cS (es.getD k e00)) s∈aM (es.getD ((k+1)%n) e00):=λ{k s} hk g0 g1=>by
   by_cases c:s<2*far (es.getD k e00).1 (es.getD k e00).2
   ·exact .inl ((cf (L.st k hk)).mpr ⟨s,g0,c,rfl⟩)
   refine .inr ?_;have e0:s=2*far (es.getD k e00).1 (es.getD k e00).2-0:=by lia
   rw[e0,kS (L.st k hk),IA,IA,JJ,JJ,L.ch k hk];exact wN (L.st _ (Hl _ (by lia)))
  have i1:(i+1)%n=i+1:=Hj (by lia);have j1:(j+1)%n=j+1/\j+1<n\/(j+1)%n=0/\j+1=n:=by
   by_cases c:j+1<n
   ·exact .inl ⟨Hj c,c⟩
   have c:j+1=n:=by lia
   exact .inr ⟨by rw[c,Jk],c⟩
  have q1:=pick hi s0 s1;have q2:=pick hj t0 t1;rw[<-e,]at q2;rw[i1]at q1;rcases q1 with q1|q1 <;> rcases q2 with q2|q2
  ·exact sym i j (by lia) hi hj _ q1 q2
  ·exact sym i _ (by lia) hi (Hl _ (by lia)) _ q1 q2
  ·exact sym (i+1) j (by lia) (by lia) hj _ q1 q2
  exact sym (i+1) _ (by lia) (by lia) (Hl _ (by lia)) _ q1 q2
 rintro⟨hb,ht⟩ i j im hj x h1 h2;have hi:i<n:=by lia
 by_cases c1:j=i+1
 ·have hc:=L.ch i hi;rw[Hj (by lia),<-c1]at hc;have:=pG (L.st i hi) (L.st j hj) hc h1 h2;refine absurd ((lW (es:=es)).mpr ⟨j,by lia,?_⟩) (by rw[hb];exact B_);rw[show eS es.length j=i by unfold eS;rw[if_neg (by lia)];lia];exact this
 by_cases c2:i=0/\j=n-1
 ·obtain⟨r1,r2⟩:=c2;have hc:=L.ch j hj;rw[show j+1=n by lia,Jk,<-r1]at hc;have:=pG (L.st j hj) (L.st i hi) hc h2 h1;refine absurd ((lW (es:=es)).mpr ⟨i,by lia,?_⟩) (by rw[hb];exact B_);rw[show eS es.length i=j by unfold eS;rw[if_pos r1];lia];exact this
 obtain⟨s,s0,s1,e1⟩:=(cf (L.st i hi)).mp h1;obtain⟨t,t0,t1,e2⟩:=(cf (L.st j hj)).mp h2;refine absurd (q0.mpr ⟨i,j,by lia,by lia,λz=>by lia,(sZ (L.st i hi) (L.st j hj)).mpr ⟨s,t,s0,by lia,t0,by lia,by rw[<-e1,<-e2]⟩⟩) (by rw[ht];exact B_)
def jt(ps:List Pt):Bool:=decide (3<=ps.length)&&(gF (ah ps)&&decide ((ah ps).flatMap aM).Nodup)
theorem yh(h3:3<=ps.length):DY ps=jt ps:=by
 unfold DY jt;rw[decide_eq_true h3,Hb];cases hg:gF (ah ps)with
 |false=>rfl
 |true=>
  rw[Hb,Hb];have:=xg (C4 hg) h3;by_cases c:((ah ps).flatMap aM).Nodup
  ·obtain⟨a,b⟩:=this.mp c;rw[a,b,decide_eq_true c]
   rfl
  rw[decide_eq_false c];refine Ih.mpr λz=>c (this.mpr ?_);rw[E_,J9,J9]at z;exact z
theorem qw{k:Nat}(hk:k<=ps.length):(ah (ps.drop k++ps.take k)).Perm (ah ps):=by
 have e:ah (ps.drop k++ps.take k)=(ah ps).drop k++(ah ps).take k:=by
  have ll:(ps.drop k++ps.take k).length=ps.length:=by rw[b_,o_,q_];lia
  have le:=eU ps;have rot:∀{α:Type}{l:List α}{z:α}{i:Nat},k<=l.length->i<l.length->(l.drop k++l.take k).getD i z=l.getD ((i+k)%l.length) z:=λ{α l z i} hk hi=>by
   rw[i_,i_];congr 1;by_cases c:i<l.length-k
   ·rw[Hk (by rw[o_];exact c),HN,Hj (by lia),LD]
   rw[Hi (by rw[o_];lia),o_,Ho (by lia),Nat.mod_eq_sub_mod (by lia),Hj (by lia),show i-(l.length-k)=i+k-l.length by lia]
  refine Jq λi=>?_;by_cases hi:i<ps.length
  ·have l1:(i+1)%ps.length<ps.length:=Hl _ (by lia);have l2:(i+k)%ps.length<ps.length:=Hl _ (by lia);rw[eO (z:=(0,0)) (by rw[ll];exact hi),ll,rot hk hi,rot hk l1,ky (z:=e00) (l:=(ah ps).drop k++(ah ps).take k) (i:=i) (by rw[b_,o_,q_,le];lia),rot (by rw[le];exact hk) (by rw[le];exact hi),le,i_ (l:=ah ps),eO (z:=(0,0)) l2];congr 2;have:((i+1)%ps.length+k)%ps.length=((i+k)%ps.length+1)%ps.length:=by rw[Kw ((i+1)%ps.length),LJ,<-Kw,Kw ((i+k)%ps.length),LJ,<-Kw,JW]
   rw[this]
  rw[HJ (by rw[eU,ll];lia),HJ (by rw[b_,o_,q_,le];lia)]
 rw[e];refine Hv.trans ?_;rw[A']
noncomputable def swp(e:Ed):Ed:=(e.2,e.1)
theorem pZ:(ah ps.reverse).Perm ((ah ps).map swp):=by
 by_cases h0:ps.length=0
 ·rw[Hs h0];exact Lr _
 have le:=eU ps;have gr:∀{i:Nat},i<ps.length->ps.reverse.getD i (0,0)=ps.getD (ps.length-1-i) (0,0):=λ{i} hi=>by rw[i_,i_,IM hi]
 have e:ah ps.reverse=(((ah ps).map swp).take (ps.length-1)).reverse++((ah ps).map swp).drop (ps.length-1):=by
  have lt:(((ah ps).map swp).take (ps.length-1)).length=ps.length-1:=by rw[q_,a_,le];lia
  refine Jq λi=>?_;by_cases hi:i<ps.length
  ·have sw:∀{j:Nat},j<ps.length->((ah ps).map swp)[j]?=some (ps.getD ((j+1)%ps.length) (0,0),ps.getD j (0,0)):=λ{j} hj=>by rw[y_,eO (z:=(0,0)) hj];rfl
   rw[eO (z:=(0,0)) (by rw[x_];exact hi),x_];by_cases c:i<ps.length-1
   ·rw[Hk (by rw[x_,lt];exact c),IM (by rw[lt];exact c),lt,Ho (by omega),sw (by omega),gr hi,Hj (by lia),gr (by lia),Hj (by omega),show ps.length-1-1-i+1=ps.length-1-i by lia,show ps.length-1-(i+1)=ps.length-1-1-i by lia]
   have ei:i=ps.length-1:=by lia
   rw[Hi (by rw[x_,lt];lia),x_,lt,HN,sw (by lia),ei,show ps.length-1+(ps.length-1-(ps.length-1))=ps.length-1 by lia,show ps.length-1+1=ps.length by lia,Jk,gr (by lia),gr (by lia)];congr 3;lia
  rw[HJ (by rw[eU,x_];lia),HJ (by rw[b_,x_,o_,lt,a_,le];lia)]
 rw[e];refine(List.Perm.append_right _ (Jr _)).trans ?_;rw[A']
structure Spl (ps:List Pt):Prop where
 len:3<=ps.length
 st:∀e∈ah ps,∃d m,Sg e d m
 nd:((ah ps).flatMap aM).Nodup
theorem vP(h:∀e∈es,∃d m,Sg e d m):gF es=true:=Iz.mpr λe me=>by
 obtain⟨d,m,s⟩:=h e me;have:=tR (p:=e.1) (q:=e.2) s;rw[this]
 rfl
theorem Be(h:Spl ps):jt ps=true:=by
 unfold jt;rw[decide_eq_true h.len,vP h.st,decide_eq_true h.nd]
 rfl
variable {qs:List Pt}
theorem yz(h:Spl ps)(l:qs.length=ps.length)(p:(ah qs).Perm (ah ps)):Spl qs where
 len:=by rw[l];exact h.len
 st:=λe me=>h.st e (p.mem_iff.mp me)
 nd:=((p.flatMap_right aM).nodup_iff).mpr h.nd
theorem Bd{k:Nat}(h:Spl ps)(hk:k<=ps.length):Spl (ps.drop k++ps.take k):=yz h (by rw[b_,o_,q_];lia) (qw hk)
theorem A0(h:d<8):∃d',d'<8/\(st8 d').1=-(st8 d).1/\(st8 d').2=-(st8 d).2:=by
 match d,h with
 |0,_=>exact⟨4,by decide⟩
 |1,_=>exact⟨5,by decide⟩
 |2,_=>exact⟨6,by decide⟩
 |3,_=>exact⟨7,by decide⟩
 |4,_=>exact⟨0,by decide⟩
 |5,_=>exact⟨1,by decide⟩
 |6,_=>exact⟨2,by decide⟩
 |7,_=>exact⟨3,by decide⟩
theorem rj(h:Sg e d m):∃d',Sg (swp e) d' m/\∀s,hpt (swp e) d' s=hpt e d (2*m-s):=by
 obtain⟨d',h1,h2,h3⟩:=A0 h.dl;have ee:=h.eq;refine⟨d',⟨h1,h.mp,?_⟩,λs=>?_⟩
 ·show e.1=ak e.2 d' m;rw[ee];unfold ak;rw[h2,h3];exact Hr (by dsimp only;grind) (by dsimp only;grind)
 rw[kS h];unfold hpt swp;rw[h2,h3];exact Hr (by dsimp only;grind) (by dsimp only;grind)
theorem Ac(f:Nat->α)(n:Nat):(r_ n).map (λt=>f (n-1-t))=((r_ n).map f).reverse:=by
 refine Jq λi=>?_;by_cases h:i<n
 ·rw[IM (by rw[a_,D'];exact h),y_,y_,HE h,a_,D',HE (by omega)]
  rfl
 rw[HJ (by rw[a_,D'];lia),HJ (by rw[x_,a_,D'];lia)]
theorem AX(h:Sg e d m):(aM (swp e)++[(2*e.1.1,2*e.1.2)]).Perm (aM e++[(2*e.2.1,2*e.2.2)]):=by
 obtain⟨d',h1,h2⟩:=rj h;have hm:=h.mp;have n0:((2*m).toNat:Int)=2*m:=JP (by lia);have a:aM (swp e)++[(2*e.1.1,2*e.1.2)]=(r_ ((2*m).toNat+1)).map (λt=>hpt e d ((((2*m).toNat+1-1-t:Nat)):Int)):=by
  rw[dW h1,JK,p_,h_,Il,Nat.add_sub_cancel,Ji];congr 1
  ·refine IC λt mt=>?_;have:=z_.mp mt;rw[h2];congr 1;lia
  rw[<-C1 (e:=e) (d:=d)]
  rfl
 have b:aM e++[(2*e.2.1,2*e.2.2)]=(r_ ((2*m).toNat+1)).map (λ(t:Nat)=>hpt e d (t:Int)):=by rw[dW h,JK,p_,h_,Il,n0];congr 2;have:=kS h (s:=0);rw[JJ,IA,IA,JJ,JJ]at this;exact this.symm
 rw[a,b,Ac (λ(t:Nat)=>hpt e d (t:Int))];exact Jr _
theorem qU:∀{es:List Ed},(∀e∈es,∃d m,Sg e d m)->((es.map swp).flatMap aM++es.map (λe=>((2*e.1.1,2*e.1.2):Pt))).Perm (es.flatMap aM++es.map (λe=>((2*e.2.1,2*e.2.2):Pt)))
 | [],_=>Lr _
 |e::es,h=>by
  obtain⟨d,m,s⟩:=h e (.head _);have h1:=AX s;have h2:=qU (es:=es) λe me=>h e (.tail _ me);rw[h_,B',h_,B',h_];have mv:∀(A B C:List Pt) (x:Pt),((A++B)++x::C).Perm ((A++[x])++(B++C)):=λA B C x=>by rw[g_,g_];exact Io A d_
  exact(mv _ _ _ _).trans ((h1.append h2).trans (mv _ _ _ _).symm)
theorem xD:(ah ps).map (·.1)=ps:=by unfold ah;exact List.map_fst_zip (by rw[b_,o_,q_];lia)
theorem xv:(ah ps).map (·.2)=ps.drop 1++ps.take 1:=by unfold ah;exact List.map_snd_zip (by rw[b_,o_,q_];omega)
theorem AB(h:Spl ps):Spl ps.reverse:=by
 have pr:=pZ (ps:=ps);refine⟨by rw[x_];exact h.len,λe me=>?_,((pr.flatMap_right aM).nodup_iff).mpr ?_⟩
 ·obtain⟨o,mo,rfl⟩:=Ha.mp (pr.mem_iff.mp me);obtain⟨d,m,s⟩:=h.st o mo;obtain⟨d',h1,_⟩:=rj s;exact⟨d',m,h1⟩
 have s:=qU h.st;have f1:(ah ps).map (λe=>((2*e.1.1,2*e.1.2):Pt))=ps.map λp=>(2*p.1,2*p.2):=by have:=congrArg (HS λp:Pt=>((2*p.1,2*p.2):Pt)) (xD (ps:=ps));rw[Hw]at this;exact this
 have f2:(ah ps).map (λe=>((2*e.2.1,2*e.2.2):Pt))=(ps.drop 1++ps.take 1).map λp=>(2*p.1,2*p.2):=by have:=congrArg (HS λp:Pt=>((2*p.1,2*p.2):Pt)) (xv (ps:=ps));rw[Hw]at this;exact this
 rw[f1,f2]at s;have p2:((ps.drop 1++ps.take 1).map λp:Pt=>((2*p.1,2*p.2):Pt)).Perm (ps.map λp=>(2*p.1,2*p.2)):=by refine List.Perm.map _ (Hv.trans ?_);rw[A']
 have s2:=s.trans (Io _ p2);exact((List.perm_append_right_iff _).mp s2).nodup_iff.mpr h.nd
abbrev Tr3:=Pt×Nat×Int
def tE(t:Tr3):Ed:=(t.1,ak t.1 t.2.1 t.2.2)
def Dj(a b:Tr3):Prop:=∀s u:Int,0<=s->s<2*a.2.2->0<=u->u<2*b.2.2->2*a.1.1+(st8 a.2.1).1*s=2*b.1.1+(st8 b.2.1).1*u->2*a.1.2+(st8 a.2.1).2*s=2*b.1.2+(st8 b.2.1).2*u->False
theorem rS{t:Tr3}(h:t.2.1<8)(m:0<t.2.2):Sg (tE t) t.2.1 t.2.2:=⟨h,m,rfl⟩
theorem qY{t:Tr3}(m:t.2.2=0):(tE t).2=(tE t).1:=by unfold tE ak;rw[m];exact Hr (by dsimp only;lia) (by dsimp only;lia)
theorem nh:far p p=0:=by unfold far;lia
theorem t7(h:e.2=e.1):aM e=[]:=by
 unfold aM;rw[h,nh]
 rfl
theorem xU{t:Tr3}(h:t.2.1<8)(m:0<=t.2.2){x:Pt}(hx:x∈aM (tE t)):∃s:Int,0<=s/\s<2*t.2.2/\x=hpt (tE t) t.2.1 s:=by
 by_cases c:t.2.2=0
 ·rw[t7 (qY c)]at hx;cases hx
 exact(cf (rS h (by lia))).mp hx
def npt(ps:List Pt):Nat:=((ah ps).flatMap aM).length
def fr(p q:Pt):Nat:=(far p q).toNat
theorem wu:(aM e).length=2*fr e.1 e.2:=by have:=yP (p:=e.1) (q:=e.2);unfold aM fr;rw[a_,D'];lia
theorem xW(p:(ah qs).Perm (ah ps)):npt qs=npt ps:=(p.flatMap_right aM).length_eq
theorem A5(h:Spl ps):npt ps.reverse=npt ps:=by have s:=(qU h.st).length_eq;rw[b_,b_,a_,a_]at s;unfold npt;rw[((pZ (ps:=ps)).flatMap_right aM).length_eq];lia
theorem CM{t:Tr3}(h:t.2.1<8)(m:0<=t.2.2):(aM (tE t)).length=(2*t.2.2).toNat:=by
 by_cases c:t.2.2=0
 ·rw[t7 (qY c),c]
  rfl
 rw[dW (rS h (by lia)),a_,D']
theorem zm{f:Ed->Bool}:∀{ts:List Tr3},(∀t∈ts,t.2.1<8/\0<=t.2.2)->(((ts.map tE).filter f).flatMap aM).length<=(ts.map λt=>(2*t.2.2).toNat).sum
 | [],_=>e_ _
 |t::ts,h=>by
  have ih:=zm (f:=f) (ts:=ts) λx m=>h x (.tail _ m);have e:=CM (h t (.head _)).1 (h t (.head _)).2;rw[h_,h_,IV,HZ];split
  ·rw[B',b_,e];lia
  lia
theorem sI(h1:0<ps.length)(st:∀e∈ah ps,∃d m,Sg e d m)(nd:((ah ps).flatMap aM).Nodup):3<=ps.length:=by
 have L:=C4 (vP st);by_cases c1:ps.length=1
 ·have s:=L.st 0 (by omega);have c:=L.ch 0 (by omega);rw[c1]at c;have c:((ah ps).getD 0 e00).2=((ah ps).getD 0 e00).1:=c;have f:=s.mp;rw[c,nh]at f;exact absurd f (by decide)
 by_cases c2:ps.length=2
 ·have s:=L.st 0 (by omega);have c:=L.ch 0 (by omega);have d:=L.ch 1 (by lia);rw[c2]at c d;have c:((ah ps).getD 0 e00).2=((ah ps).getD 1 e00).1:=c;have d:((ah ps).getD 1 e00).2=((ah ps).getD 0 e00).1:=d;have e:(ah ps).getD 1 e00=swp ((ah ps).getD 0 e00):=Hr c.symm d;obtain⟨d',g1,g2⟩:=rj s;have m:=s.mp;refine absurd ?_ ((vX L).mp nd 0 1 (by decide) (by lia) _ ((cf s).mpr ⟨2*far ((ah ps).getD 0 e00).1 ((ah ps).getD 0 e00).2-1,by lia,by lia,(g2 1)⟩));rw[e];exact(cf g1).mpr ⟨1,by lia,by lia,rfl⟩
 lia
theorem zT{ts:List Tr3}(hp:(ah ps).Perm ((ts.map tE).filter λe=>decide (e.2≠e.1)))(hd:∀t∈ts,t.2.1<8/\0<=t.2.2)(h1:0<ps.length)(dj:ts.Pairwise Dj):Spl ps/\npt ps<=(ts.map λt=>(2*t.2.2).toNat).sum:=by
 have st:∀e∈ah ps,∃d m,Sg e d m:=λe me=>by obtain⟨m1,m2⟩:=IZ.mp (hp.mem_iff.mp me);obtain⟨t,mt,rfl⟩:=Ha.mp m1;obtain⟨g1,g2⟩:=hd t mt;have ne:=of_decide_eq_true m2;have:t.2.2≠0:=λz=>ne (qY z);exact⟨_,_,rS g1 (by lia)⟩
 have nd:((ah ps).flatMap aM).Nodup:=by
  refine((hp.flatMap_right aM).nodup_iff).mpr ?_;unfold Lm;rw[KH];refine⟨λe me=>?_,List.Pairwise.filter _ (IJ.mpr (dj.imp_of_mem λ{a b} ma mb q=>?_))⟩
  ·obtain⟨d,m,s⟩:=st e (hp.mem_iff.mpr me);exact gu s
  intro x hx y hy z;obtain⟨s,s0,s1,e1⟩:=xU (hd a ma).1 (hd a ma).2 hx;obtain⟨u,u0,u1,e2⟩:=xU (hd b mb).1 (hd b mb).2 hy;rw[e1,e2]at z;exact q s u s0 s1 u0 u1 (congrArg JU z) (congrArg JS z)
 refine⟨⟨sI h1 st nd,st,nd⟩,?_⟩;unfold npt;rw[(hp.flatMap_right aM).length_eq];exact zm hd
theorem mV{ts:List Tr3}(hp:ah ps=ts.map tE)(hd:∀t∈ts,t.2.1<8/\0<t.2.2)(h1:0<ps.length)(dj:ts.Pairwise Dj):Spl ps/\npt ps<=(ts.map λt=>(2*t.2.2).toNat).sum:=by refine zT (ts:=ts) ?_ (λt m=>⟨(hd t m).1,Kh (hd t m).2⟩) h1 dj;rw[hp,JO.mpr];intro e me;obtain⟨t,mt,rfl⟩:=Ha.mp me;refine decide_eq_true λz=>?_;have f:=mZ (p:=(tE t).1) (q:=(tE t).2) (rS (hd t mt).1 (hd t mt).2);rw[z,nh]at f;have:=(hd t mt).2;lia
noncomputable def edF:Pt->List Pt->List Ed
 | _,[]=>[]
 |p,q::l=>(p,q)::edF q l
theorem rm:∀{r:List Pt}{a z:Pt},(a::r).zip (r++[z])=edF a r++[(r.getLastD a,z)]
 | [],a,z=>rfl
 |b::r,a,z=>by
  rw[F_,HL,rm (r:=r),Ib]
  rfl
theorem vN{a:Pt}{r:List Pt}:(ah (a::r)).Perm (edF (r.getLastD a) (a::r)):=by unfold ah;show((a::r).zip (r++[a])).Perm _;rw[rm];exact Hv
theorem rn:∀{l:List Pt}{p:Pt},edF p (ddl p l)=(edF p l).filter λe=>decide (e.2≠e.1)
 | [],_=>rfl
 |q::l,p=>by
  show edF p (if q=p then ddl q l else q::ddl q l)=((p,q)::edF q l).filter _;by_cases c:q=p
  ·rw[if_pos c,HZ,if_neg (by rw[decide_eq_true_iff];exact λz=>z c),<-c];exact rn
  rw[if_neg c,HZ,if_pos (decide_eq_true c),<-rn]
  rfl
theorem lD:∀{l:List Pt}{p:Pt},(ddl p l).getLastD p=l.getLastD p
 | [],_=>rfl
 |q::l,p=>by
  unfold ddl;rw[Ib];by_cases c:q=p
  ·rw[if_pos c,<-c];exact lD
  rw[if_neg c,Ib];exact lD
theorem xn{l:List Pt}(hl:l.getLastD p=p)(h:0<(ddl p l).length):(ah (ddl p l)).Perm ((edF p l).filter λe=>decide (e.2≠e.1)):=by
 rw[<-rn];have e:=lD (l:=l) (p:=p);rw[hl]at e;cases q:ddl p l with
 |nil=>rw[q]at h;cases h
 |cons a r=>
  rw[q,Ib]at e;have:=vN (a:=a) (r:=r);rw[e]at this;exact this
theorem jI:st8 0=(1,0):=rfl
theorem lL:st8 1=(1,1):=rfl
theorem jE:st8 2=(0,1):=rfl
theorem lU:st8 3=(-1,1):=rfl
theorem jG:st8 4=(-1,0):=rfl
theorem lu:st8 5=(-1,-1):=rfl
theorem jX:st8 6=(0,-1):=rfl
theorem lM:st8 7=(1,-1):=rfl
theorem AR{c d M:Int}(hm:2*M<=w)(hn:2*M<=h)(hw:0<w)(hh:0<h)(ha:0<=a/\a<=M)(hb:0<=b/\b<=M)(hc:0<=c/\c<=M)(hd:0<=d/\d<=M)(h1:0<(lQ x y w h a b c d).length)(w2:w<=14)(h2:h<=14):Spl (lQ x y w h a b c d)/\npt (lQ x y w h a b c d)<=160:=by
 have ee:edF (x,y+a) (oV x y w h a b c d)=[((x,y+a),7,a),((x+a,y),0,w-a-b),((x+w-b,y),1,b),((x+w,y+b),2,h-b-c),((x+w,y+h-c),3,c),((x+w-c,y+h),4,w-c-d),((x+d,y+h),5,d),((x,y+h-d),6,h-d-a)].map tE:=by
  unfold oV tE ak;simp only[edF,HS,jI,lL,jE,lU,jG,lu,jX,lM,HU,Jx,and_true,true_and]
  and_intros <;> lia
 refine Jy (λn=>GZ n (by simp only[HS,IV,JL];omega)) (zT (ts:=[((x,y+a),7,a),((x+a,y),0,w-a-b),((x+w-b,y),1,b),((x+w,y+b),2,h-b-c),((x+w,y+h-c),3,c),((x+w-c,y+h),4,w-c-d),((x+d,y+h),5,d),((x,y+h-d),6,h-d-a)]) ?_ ?_ h1 ?_)
 ·rw[<-ee];exact xn rfl h1
 ·simp only[Hm,He,false_imp_iff,implies_true,and_true]
  and_intros <;> lia
 simp only[Im,Hm,He,false_imp_iff,implies_true,Ig,and_true,Dj,jI,lL,jE,lU,jG,lu,jX,lM]
 and_intros <;>(intros;lia)
theorem F1(u0:0<u)(u1:u<w)(v0:0<v)(v1:v<h)(w2:w<=14)(h2:h<=14):Spl [(x+0,y+0),(x+w,y+0),(x+w,y+v),(x+u,y+v),(x+u,y+h),(x+0,y+h)]/\npt [(x+0,y+0),(x+w,y+0),(x+w,y+v),(x+u,y+v),(x+u,y+h),(x+0,y+h)]<=160:=by
 refine Jy (λn=>GZ n (by simp only[HS,IV,JL];lia)) (mV (ts:=[((x+0,y+0),0,w),((x+w,y+0),2,v),((x+w,y+v),4,w-u),((x+u,y+v),2,h-v),((x+u,y+h),4,u),((x+0,y+h),6,h)]) ?_ ?_ (Hh _) ?_)
 ·unfold ah tE ak;simp only[Kl,Kk,F_,Hx,HL,Jl,HS,jI,lL,jE,lU,jG,lu,jX,lM,HU,Jx,and_true,true_and]
  and_intros <;> lia
 ·simp only[Hm,He,false_imp_iff,implies_true,and_true]
  and_intros <;> lia
 simp only[Im,Hm,He,false_imp_iff,implies_true,Ig,and_true,Dj,jI,lL,jE,lU,jG,lu,jX,lM]
 and_intros <;>(intros;lia)
theorem Fo(u0:0<u)(u1:2*u<w)(v0:0<v)(v1:v<h)(v2:2<=v)(w2:w<=14)(h2:h<=14):Spl [(x+0,y+0),(x+w,y+0),(x+w,y+h),(x+(w-u),y+h),(x+(w-u),y+v),(x+u,y+v),(x+u,y+h),(x+0,y+h)]/\npt [(x+0,y+0),(x+w,y+0),(x+w,y+h),(x+(w-u),y+h),(x+(w-u),y+v),(x+u,y+v),(x+u,y+h),(x+0,y+h)]<=160:=by
 refine Jy (λn=>GZ n (by simp only[HS,IV,JL];lia)) (mV (ts:=[((x+0,y+0),0,w),((x+w,y+0),2,h),((x+w,y+h),4,u),((x+(w-u),y+h),6,h-v),((x+(w-u),y+v),4,w-u-u),((x+u,y+v),2,h-v),((x+u,y+h),4,u),((x+0,y+h),6,h)]) ?_ ?_ (Hh _) ?_)
 ·unfold ah tE ak;simp only[Kl,Kk,F_,Hx,HL,Jl,HS,jI,lL,jE,lU,jG,lu,jX,lM,HU,Jx,and_true,true_and]
  and_intros <;> lia
 ·simp only[Hm,He,false_imp_iff,implies_true,and_true]
  and_intros <;> lia
 simp only[Im,Hm,He,false_imp_iff,implies_true,Ig,and_true,Dj,jI,lL,jE,lU,jG,lu,jX,lM]
 and_intros <;>(intros;lia)
theorem FC{p q:Int}(u0:0<u)(u1:2*u<w)(p0:0<p)(p1:p<q)(q1:q<h)(pq:p+(h-q)<=12)(w2:w<=14)(h2:h<=14):Spl [(x+0,y+0),(x+u,y+0),(x+u,y+p),(x+(w-u),y+p),(x+(w-u),y+0),(x+w,y+0),(x+w,y+h),(x+(w-u),y+h),(x+(w-u),y+q),(x+u,y+q),(x+u,y+h),(x+0,y+h)]/\npt [(x+0,y+0),(x+u,y+0),(x+u,y+p),(x+(w-u),y+p),(x+(w-u),y+0),(x+w,y+0),(x+w,y+h),(x+(w-u),y+h),(x+(w-u),y+q),(x+u,y+q),(x+u,y+h),(x+0,y+h)]<=160:=by
 refine Jy (λn=>GZ n (by simp only[HS,IV,JL];lia)) (mV (ts:=[((x+0,y+0),0,u),((x+u,y+0),2,p),((x+u,y+p),0,w-u-u),((x+(w-u),y+p),6,p),((x+(w-u),y+0),0,u),((x+w,y+0),2,h),((x+w,y+h),4,u),((x+(w-u),y+h),6,h-q),((x+(w-u),y+q),4,w-u-u),((x+u,y+q),2,h-q),((x+u,y+h),4,u),((x+0,y+h),6,h)]) ?_ ?_ (Hh _) ?_)
 ·unfold ah tE ak;simp only[Kl,Kk,F_,Hx,HL,Jl,HS,jI,lL,jE,lU,jG,lu,jX,lM,HU,Jx,and_true,true_and]
  and_intros <;> lia
 ·simp only[Hm,He,false_imp_iff,implies_true,and_true]
  and_intros <;> lia
 simp only[Im,Hm,He,false_imp_iff,implies_true,Ig,and_true,Dj,jI,lL,jE,lU,jG,lu,jX,lM]
 and_intros <;>(intros;lia)
theorem Ar{l:Int}(h:0<l)(l2:l<=14):Spl [(x,y),(x+l,y),(x,y+l)]/\npt [(x,y),(x+l,y),(x,y+l)]<=160:=by
 refine Jy (λn=>GZ n (by simp only[HS,IV,JL];lia)) (mV (ts:=[((x,y),0,l),((x+l,y),3,l),((x,y+l),6,l)]) ?_ ?_ (Hh _) ?_)
 ·unfold ah tE ak;simp only[Kl,Kk,F_,Hx,HL,Jl,HS,jI,lL,jE,lU,jG,lu,jX,lM,HU,Jx,and_true,true_and]
  and_intros <;> lia
 ·simp only[Hm,He,false_imp_iff,implies_true,and_true]
  and_intros <;> omega
 simp only[Im,Hm,He,false_imp_iff,implies_true,Ig,and_true,Dj,jI,lL,jE,lU,jG,lu,jX,lM]
 and_intros <;>(intros;lia)
noncomputable def kj:List Pt->Pt->List Ed
 | [],_=>[]
 |p::l,z=>(p,l.headD z)::kj l z
theorem kl{a:Pt}{l:List Pt}:ah (a::l)=kj (a::l) a:=by
 unfold ah;show(a::l).zip (l++[a])=_;have:∀(l:List Pt) (a z:Pt),(a::l).zip (l++[z])=kj (a::l) z:=by
  intro l;induction l with
  |nil=>intro a z;rfl
  |cons b l ih=>intro a z;rw[F_,HL,ih];rfl
 exact this l a a
inductive Rfn (z:Pt):List Pt->List Pt->Prop
 |nil:Rfn z [] []
 |keep {p:Pt}{l k:List Pt} (h:Rfn z l k):Rfn z (p::l) (p::k)
 |put {p:Pt}{l k:List Pt}{d:Nat}{m r:Int} (s:Sg (p,l.headD z) d m) (r0:0<r) (r1:r<m) (h:Rfn z l k):Rfn z (p::l) (p::ak p d r::k)
theorem t5{l k:List Pt}(h:Rfn z l k):k.headD z=l.headD z:=by cases h <;> rfl
theorem Bn{l k:List Pt}(h:Rfn z l k):l.length<=k.length:=by
 induction h with
 |nil=>exact e_ _
 |keep h ih=>rw[f_,f_];lia
 |put s r0 r1 h ih=>rw[f_,f_,f_];lia
theorem A3{r:Int}(s:Sg (p,q) d m)(r0:0<r)(r1:r<m):Sg (p,ak p d r) d r/\Sg (ak p d r,q) d (m-r)/\aM (p,ak p d r)++aM (ak p d r,q)=aM (p,q):=by
 have e:q=ak p d m:=s.eq;have s1:Sg (p,ak p d r) d r:=⟨s.dl,r0,rfl⟩;have s2:Sg (ak p d r,q) d (m-r):=⟨s.dl,by lia,by show q=ak (ak p d r) d (m-r);rw[e];unfold ak;exact Hr (by dsimp only;grind) (by dsimp only;grind)⟩
 refine⟨s1,s2,?_⟩;rw[dW s1,dW s2,dW s,show(2*m).toNat=(2*r).toNat+(2*(m-r)).toNat by lia,List.range_add,p_,Hw];congr 1;refine IC λt _=>?_;have n0:(((2*r).toNat+t:Nat):Int)=2*r+t:=by lia
 show hpt (ak p d r,q) d t=hpt (p,q) d (((2*r).toNat+t:Nat):Int);rw[n0];unfold hpt ak;exact Hr (by dsimp only;grind) (by dsimp only;grind)
theorem yO{l k:List Pt}(h:Rfn z l k):(kj k z).flatMap aM=(kj l z).flatMap aM/\((∀e∈kj l z,∃d m,Sg e d m)->∀e∈kj k z,∃d m,Sg e d m):=by
 induction h with
 |nil=>exact⟨rfl,λh=>h⟩
 | @keep p l k h ih=>
  have hh:=t5 h;unfold kj;rw[B',B',ih.1,hh];refine⟨rfl,λg e me=>?_⟩;rcases m_.mp me with rfl|me
  ·exact g _ (.head _)
  ·exact ih.2 (λe m=>g e (.tail _ m)) e me
 | @put p l k d m r s r0 r1 h ih=>
  have hh:=t5 h;obtain⟨s1,s2,e3⟩:=A3 s r0 r1;show((p,ak p d r)::(ak p d r,k.headD z)::kj k z).flatMap aM=((p,l.headD z)::kj l z).flatMap aM/\((∀e∈(p,l.headD z)::kj l z,∃d m,Sg e d m)->∀e∈(p,ak p d r)::(ak p d r,k.headD z)::kj k z,∃d m,Sg e d m);rw[B',B',B',ih.1,hh,<-e3,g_];refine⟨rfl,λg e me=>?_⟩;rcases m_.mp me with rfl|me
  ·exact⟨_,_,s1⟩
  rcases m_.mp me with rfl|me
  ·exact⟨_,_,s2⟩
  exact ih.2 (λe m=>g e (.tail _ m)) e me
theorem Bj(h:Spl ps)(r:Rfn (ps.headD (0,0)) ps qs):Spl qs:=by
 cases ps with
 |nil=>exact absurd h.len (by decide)
 |cons p l=>
  have r:Rfn p (p::l) qs:=r;have o:=yO r;have ll:=Bn r;obtain⟨k,rfl⟩:∃k,qs=p::k:=by cases r <;> exact⟨_,rfl⟩
  have e1:ah (p::l)=kj (p::l) p:=kl;have e2:ah (p::k)=kj (p::k) p:=kl;refine⟨GZ h.len ll,by rw[e2];exact o.2 (by rw[<-e1];exact h.st),?_⟩;rw[e2,o.1,<-e1];exact h.nd
theorem Ay(h:Spl ps)(r:Rfn (ps.headD (0,0)) ps qs):npt qs=npt ps:=by
 cases ps with
 |nil=>exact absurd h.len (by decide)
 |cons p l=>
  have r:Rfn p (p::l) qs:=r;have o:=yO r;obtain⟨k,rfl⟩:∃k,qs=p::k:=by cases r <;> exact⟨_,rfl⟩
  unfold npt;rw[kl,kl,o.1]
def j3:List Pt->List Ed
 | []=>[]
 |p::l=>edF p l
theorem ip:∀{l:List Pt}{p q:Pt},edF p (l++[q])=edF p l++[(l.getLastD p,q)]
 | [],p,q=>rfl
 |a::l,p,q=>by
  rw[F_,edF,ip,edF,Ib]
  rfl
structure Stp (l:List Pt) (z:Pt):Prop where
 hd:∃r,l=(0,0)::r/\r.getLastD (0,0)=z
 st:∀e∈j3 l,∃d m,Sg e d m
 nd:((j3 l).flatMap aM).Nodup
 pt:∀x∈(j3 l).flatMap aM,0<=x.1/\0<=x.2/\x.2<2*z.2/\x.1+x.2<2*(z.1+z.2)/\(x.1=0->x.2=0)
 ln:((j3 l).flatMap aM).length=(2*(z.1+z.2)).toNat
 zp:0<=z.1/\0<=z.2/\(z.1=0->z.2=0)
theorem Fw:Stp [(0,0)] (0,0):=⟨⟨[],rfl,rfl⟩,(λe m=>nomatch m),JQ,(λx m=>nomatch m),rfl,by decide⟩
theorem vQ(h:0<m):Sg ((x,y),(x+m,y)) 0 m:=⟨by decide,h,by unfold ak;rw[jI];exact Hr (by dsimp only;lia) (by dsimp only;lia)⟩
theorem wc(h:0<m):Sg ((x,y),(x,y+m)) 2 m:=⟨by decide,h,by unfold ak;rw[jE];exact Hr (by dsimp only;lia) (by dsimp only;lia)⟩
theorem jl{l r:List α}(h1:l.Nodup)(h2:r.Nodup)(h:∀x∈l,x∈r->False):(l++r).Nodup:=II.mpr ⟨h1,h2,λa ha b hb e=>h a ha (by rw[e];exact hb)⟩
theorem yA(h:0<m){u:Pt}:u∈aM ((x,y),(x+m,y))↔∃s:Int,0<=s/\s<2*m/\u=(2*x+s,2*y):=by
 rw[cf (vQ h)];unfold hpt;rw[jI];exact exists_congr λs=>and_congr_right λ_=>and_congr_right λ_=>by rw[show((2*x+1*s,2*y+0*s):Pt)=(2*x+s,2*y)from Hr (by dsimp only;lia) (by dsimp only;lia)]
theorem yu(h:0<m){u:Pt}:u∈aM ((x,y),(x,y+m))↔∃s:Int,0<=s/\s<2*m/\u=(2*x,2*y+s):=by
 rw[cf (wc h)];unfold hpt;rw[jE];exact exists_congr λs=>and_congr_right λ_=>and_congr_right λ_=>by rw[show((2*x+0*s,2*y+1*s):Pt)=(2*x,2*y+s)from Hr (by dsimp only;lia) (by dsimp only;lia)]
theorem E7{l:List Pt}(h:Stp l (x,y))(ha:0<a)(hb:0<b):Stp ((l++[(x+a,y)])++[(x+a,y+b)]) (x+a,y+b):=by
 obtain⟨⟨r,el,er⟩,st,nd,pt,ln,z1,z2,z3⟩:=h;have ln:((j3 l).flatMap aM).length=(2*(x+y)).toNat:=ln;have z1:0<=x:=z1;have z2:0<=y:=z2;have z3:x=0->y=0:=z3;have pe:j3 ((l++[(x+a,y)])++[(x+a,y+b)])=j3 l++[((x,y),(x+a,y)),((x+a,y),(x+a,y+b))]:=by
  rw[el];show edF (0,0) ((r++[(x+a,y)])++[(x+a,y+b)])=edF (0,0) r++_;rw[ip,ip,er,JM,g_]
  rfl
 have pt:∀u∈(j3 l).flatMap aM,0<=u.1/\0<=u.2/\u.2<2*y/\u.1+u.2<2*(x+y)/\(u.1=0->u.2=0):=pt;refine⟨⟨(r++[(x+a,y)])++[(x+a,y+b)],by rw[el];rfl,JM ..⟩,?_,?_,?_,?_,?_⟩
 ·rw[pe];intro e me;rcases C_.mp me with me|me
  ·exact st e me
  rcases m_.mp me with rfl|me
  ·exact⟨_,_,vQ ha⟩
  rw[Hc.mp me];exact⟨_,_,wc hb⟩
 ·rw[pe,HF,B',B',IT,Hn];refine jl nd (jl (gu (vQ ha)) (gu (wc hb)) λu h1 h2=>?_) λu h1 h2=>?_
  ·obtain⟨s,s0,s1,rfl⟩:=(yA ha).mp h1;obtain⟨t,t0,t1,e⟩:=(yu hb).mp h2;have e1:2*x+s=2*(x+a):=congrArg JU e;lia
  obtain⟨_,_,_,g,_⟩:=pt u h1;rcases C_.mp h2 with h2|h2
  ·obtain⟨s,s0,s1,rfl⟩:=(yA ha).mp h2;have g:2*x+s+2*y<2*(x+y):=g;lia
  obtain⟨s,s0,s1,rfl⟩:=(yu hb).mp h2;have g:2*(x+a)+(2*y+s)<2*(x+y):=g;lia
 ·rw[pe,HF,B',B',IT,Hn];intro u mu;dsimp only;rcases C_.mp mu with mu|mu
  ·obtain⟨g1,g2,g3,g4,g5⟩:=pt u mu;exact⟨g1,g2,by lia,by lia,g5⟩
  rcases C_.mp mu with mu|mu
  ·obtain⟨s,s0,s1,rfl⟩:=(yA ha).mp mu;dsimp only;exact⟨by lia,by lia,by lia,by lia,λz=>by have:=z3 (by lia);lia⟩
  obtain⟨s,s0,s1,rfl⟩:=(yu hb).mp mu;dsimp only;exact⟨by lia,by lia,by lia,by lia,λz=>by lia⟩
 ·rw[pe,HF,B',B',IT,Hn,b_,b_,ln,dW (vQ ha),dW (wc hb),a_,a_,D',D'];show _=(2*(x+a+(y+b))).toNat;lia
 exact⟨by show 0<=x+a;lia,by show 0<=y+b;lia,λz=>by have:x+a=0:=z;lia⟩
theorem uX{l:List Pt}(h:Stp l (x,y))(hx:0<x)(hy:0<y)(x2:x<=20)(y2:y<=20):Spl (l++[(0,y)])/\npt (l++[(0,y)])<=160:=by
 obtain⟨⟨r,el,er⟩,st,nd,pt,ln,_⟩:=h;have ln:((j3 l).flatMap aM).length=(2*(x+y)).toNat:=ln;have pt:∀u∈(j3 l).flatMap aM,0<=u.1/\0<=u.2/\u.2<2*y/\u.1+u.2<2*(x+y)/\(u.1=0->u.2=0):=pt;have s1:Sg ((x,y),((0:Int),y)) 4 x:=⟨by decide,hx,by unfold ak;rw[jG];exact Hr (by dsimp only;lia) (by dsimp only;lia)⟩;have s2:Sg (((0:Int),y),((0:Int),(0:Int))) 6 y:=⟨by decide,hy,by unfold ak;rw[jX];exact Hr (by dsimp only;lia) (by dsimp only;lia)⟩;have ee:ah (l++[(0,y)])=j3 l++[((x,y),((0:Int),y)),(((0:Int),y),((0:Int),(0:Int)))]:=by
  rw[el];unfold ah;show((0,0)::(r++[(0,y)])).zip ((r++[(0,y)])++[(0,0)])=edF (0,0) r++_;rw[rm,ip,er,JM,g_]
  rfl
 have m1:∀{u:Pt},u∈aM ((x,y),((0:Int),y))->0<u.1/\u.2=2*y:=λ{u} hu=>by obtain⟨s,s0,s1,rfl⟩:=(cf s1).mp hu;unfold hpt;rw[jG];dsimp only;lia
 have m2:∀{u:Pt},u∈aM (((0:Int),y),((0:Int),(0:Int)))->u.1=0/\0<u.2:=λ{u} hu=>by obtain⟨s,s0,s1,rfl⟩:=(cf s2).mp hu;unfold hpt;rw[jX];dsimp only;lia
 have be:∀e∈ah (l++[(0,y)]),∃d m,Sg e d m:=by
  rw[ee];intro e me;rcases C_.mp me with me|me
  ·exact st e me
  rcases m_.mp me with rfl|me
  ·exact⟨_,_,s1⟩
  rw[Hc.mp me];exact⟨_,_,s2⟩
 have nd':((ah (l++[(0,y)])).flatMap aM).Nodup:=by
  rw[ee,HF,B',B',IT,Hn];refine jl nd (jl (gu s1) (gu s2) λu h1 h2=>?_) λu h1 h2=>?_
  ·have:=(m1 h1).1;have:=(m2 h2).1;lia
  obtain⟨_,_,g3,_,g5⟩:=pt u h1;rcases C_.mp h2 with h2|h2
  ·have:=(m1 h2).2;lia
  obtain⟨k1,k2⟩:=m2 h2;have:=g5 k1;lia
 refine⟨⟨sI (by rw[b_];exact Hh _) be nd',be,nd'⟩,?_⟩;unfold npt;rw[ee,HF,B',B',IT,Hn,b_,b_,ln,dW s1,dW s2,a_,a_,D',D'];lia
def aR:List Pt->Nat
 | []=>0
 | [_]=>0
 |p::q::l=>fr p q+aR (q::l)
theorem yw:∀{l:List Pt}{p:Pt},((edF p l).flatMap aM).length=2*aR (p::l)
 | [],_=>rfl
 |q::l,p=>by rw[edF,B',b_,yw,wu,aR];dsimp only;lia
theorem vT{a:Pt}{r:List Pt}:npt (a::r)=2*(aR (a::r)+fr (r.getLastD a) a):=by unfold npt;rw[(vN.flatMap_right aM).length_eq,edF,B',b_,yw,wu];dsimp only;lia
def Nar(D:Nat)(l:List Pt):Prop:=∀p∈l,∀q∈l,fr p q<=D
theorem kG{D:Nat}:∀{A B:List Pt},Nar D (A++B)->aR (A++B)<=aR A+aR B+D
 | [],B,_=>by show aR B<=0+aR B+D;lia
 | [p],[],_=>by show aR [p]<=aR [p]+0+D;lia
 | [p],q::B,h=>by have:=h p (.head _) q (.tail _ (.head _));show fr p q+aR (q::B)<=0+aR (q::B)+D;lia
 |p::q::A,B,h=>by have:=kG (A:=q::A) (B:=B) λx mx y my=>h x (.tail _ mx) y (.tail _ my);show fr p q+aR (q::A++B)<=fr p q+aR (q::A)+aR B+D;lia
theorem nJ:∀{A B:List Pt},aR A+aR B<=aR (A++B)
 | [],B=>by show 0+aR B<=aR B;lia
 | [p],[]=>e_ _
 | [p],q::B=>by show 0+aR (q::B)<=fr p q+aR (q::B);lia
 |p::q::A,B=>by have:=nJ (A:=q::A) (B:=B);show fr p q+aR (q::A)+aR B<=fr p q+aR (q::A++B);lia
theorem mQ:fr p q=fr q p:=by unfold fr far;lia
theorem qg:∀{A:List Pt}{p q:Pt},aR (A++[p,q])=aR (A++[p])+fr p q
 | [],p,q=>by show fr p q+0=0+fr p q;lia
 | [a],p,q=>by show fr a p+(fr p q+0)=fr a p+0+fr p q;lia
 |a::b::A,p,q=>by have:=qg (A:=b::A) (p:=p) (q:=q);show fr a b+aR (b::A++[p,q])=fr a b+aR (b::A++[p])+fr p q;lia
theorem tO:∀{A:List Pt},aR A.reverse=aR A
 | []=>rfl
 | [_]=>rfl
 |p::q::A=>by have:=tO (A:=q::A);rw[Ht]at this;rw[Ht,Ht,g_];show aR (A.reverse++[q,p])=fr p q+aR (q::A);rw[qg,this,mQ];lia
variable {D:Nat}
theorem lC{n:Nat}(h:Nar D ps)(l:aR ps<=n):npt ps<=2*(n+D):=by
 cases ps with
 |nil=>exact Hq _
 |cons a r=>
  rw[vT];have:=h (r.getLastD a) (by
   cases r with
   |nil=>exact .head _
   |cons b r=>rw[Ib,J_];exact .tail _ (by
     cases q:r.getLast? with
     |none=>exact .head _
     |some z=>exact .tail _ (List.mem_of_getLast? q))) a (.head _)
  lia
theorem jk:2*aR ps<=npt ps:=by
 cases ps with
 |nil=>exact Hq _
 |cons a r=>rw[vT];lia
theorem qr(h:i<ps.length):ps.set i q=ps.take i++q::ps.drop (i+1):=List.set_eq_take_append_cons_drop.trans (if_pos h)
variable {A B:List Pt}
theorem iM(h:Nar D (A++q::B)):aR (A++q::B)<=aR (A++B)+2*D:=by have h1:=kG h;have h2:=kG (A:=[q]) (B:=B) (D:=D) λx mx y my=>h x (n_ _ mx) y (n_ _ my);have h3:=nJ (A:=A) (B:=B);have:aR [q]=0:=rfl;have h2:aR (q::B)<=aR [q]+aR B+D:=h2;lia
theorem oq{r:Pt}:fr p r<=fr p q+fr q r:=by unfold fr far;omega
theorem ji{q:Pt}:∀{A B:List Pt},aR (A++B)<=aR (A++q::B)
 | [],[]=>Hq _
 | [],b::B=>by show aR (b::B)<=fr q b+aR (b::B);lia
 | [x],[]=>Hq _
 | [x],b::B=>by have:=oq (p:=x) (q:=q) (r:=b);show fr x b+aR (b::B)<=fr x q+(fr q b+aR (b::B));lia
 |x::y::A,B=>by have:=ji (q:=q) (A:=y::A) (B:=B);show fr x y+aR (y::A++B)<=fr x y+aR (y::A++q::B);lia
theorem rg:∀{l:List Pt}{p q:Pt},q∈p::l->fr p q<=aR (p::l)
 | [],p,q,h=>by rw[Hc.mp h];unfold fr far;lia
 |a::l,p,q,h=>by
  show _<=fr p a+aR (a::l);rcases m_.mp h with rfl|h
  ·unfold fr far;lia
  have:=rg (p:=a) h;have:=oq (p:=p) (q:=a) (r:=q);lia
theorem ui:∀{l:List Pt}{p q:Pt},p∈l->q∈l->fr p q<=aR l
 | [],p,q,h,_=>by cases h
 |a::l,p,q,hp,hq=>by
  rcases m_.mp hp with rfl|mp
  ·exact rg hq
  rcases m_.mp hq with rfl|mq
  ·rw[mQ];exact rg hp
  cases l with
  |nil=>cases mp
  |cons b l=>
   have:=ui mp mq;show _<=fr a b+aR (b::l);lia
structure Bnt (ps qs:List Pt):Prop where
 len:0<qs.length/\qs.length<=ps.length+2
 near:∀x∈qs,∃p∈ps,fr x p<=4
 n:npt qs<1000
theorem rl{e:Nat}(hp:aR ps<=80)(p0:Pt)(m0:p0∈ps)(he:e<=4)(w:∀x∈qs,x∈ps\/fr x p0<=e):Nar (80+e) qs/\∀x∈qs,∃p∈ps,fr x p<=4:=by
 refine⟨λx mx y my=>?_,λx mx=>?_⟩
 ·rcases w x mx with a|a <;> rcases w y my with b|b
  ·have:=ui a b;lia
  ·have h1:=ui a m0;have h2:=oq (p:=x) (q:=p0) (r:=y);rw[mQ (p:=p0)]at h2;lia
  ·have h1:=ui m0 b;have h2:=oq (p:=x) (q:=p0) (r:=y);lia
  have h2:=oq (p:=x) (q:=p0) (r:=y);rw[mQ (p:=p0)]at h2;lia
 rcases w x mx with a|a
 ·exact⟨x,a,by unfold fr far;lia⟩
 exact⟨p0,m0,by lia⟩
theorem kT{l k:List Pt}(h:Nar D l)(s:∀x∈k,x∈l):Nar D k:=λx mx y my=>h x (s x mx) y (s y my)
variable {p0:Pt}
theorem rO(hp:npt ps<=160)(e:ps=A++B)(m0:p0∈ps)(hq:fr q p0<=4):Bnt ps (A++q::B):=by
 have h80:aR ps<=80:=by have:=jk (ps:=ps);lia
 obtain⟨na,ne⟩:=rl (qs:=A++q::B) h80 p0 m0 (e_ 4) λx mx=>by
  rcases C_.mp mx with m|m
  ·exact .inl (by rw[e];exact Hf _ m)
  rcases m_.mp m with rfl|m
  ·exact .inr hq
  exact .inl (by rw[e];exact n_ _ m)
 have h1:=iM na;rw[<-e]at h1;have:=lC na (n:=248) (by lia);refine⟨⟨by rw[b_];exact Hh _,by rw[e,b_,b_,f_];lia⟩,ne,by lia⟩
theorem AA(hp:npt ps<=160)(hi:i<ps.length)(m0:p0∈ps)(hq:fr q p0<=4):Bnt ps (ps.set i q):=by
 have h80:aR ps<=80:=by have:=jk (ps:=ps);lia
 obtain⟨na,ne⟩:=rl (qs:=ps.set i q) h80 p0 m0 (e_ 4) λx mx=>by
  rcases Jb mx with m|rfl
  ·exact .inl m
  exact .inr hq
 have e:=qr (q:=q) hi;have h1:=iM (A:=ps.take i) (B:=ps.drop (i+1)) (q:=q) (by rw[<-e];exact na);have h2:=ji (A:=ps.take i) (B:=ps.drop (i+1)) (q:=ps[i]);rw[<-Ie hi,A']at h2;rw[<-e]at h1;have:=lC na (n:=248) (by lia);refine⟨⟨by rw[F'];lia,by rw[F'];lia⟩,ne,by lia⟩
theorem zr{j:Nat}(hp:npt ps<=160)(hi:i<ps.length)(hj:j<ps.length)(mp:p∈ps)(mq:q∈ps):Bnt ps ((ps.set i q).set j p):=by
 have h80:aR ps<=80:=by have:=jk (ps:=ps);lia
 have sub1:∀x∈ps.set i q,x∈ps:=λx mx=>(Jb mx).elim id λe=>by rw[e];exact mq
 have sub:∀x∈(ps.set i q).set j p,x∈ps:=λx mx=>(Jb mx).elim (sub1 x) λe=>by rw[e];exact mp
 obtain⟨na,ne⟩:=rl (e:=0) (qs:=(ps.set i q).set j p) h80 p mp (by decide) λx mx=>.inl (sub x mx)
 have n0:Nar 80 ps:=λx mx y my=>GZ (ui mx my) h80;have n1:Nar 80 (ps.set i q):=kT n0 sub1;have up:∀{l:List Pt}{a:Nat}{z:Pt},a<l.length->Nar 80 (l.set a z)->aR (l.set a z)<=aR l+160:=λ{l a z} ha hn=>by have e:=qr (q:=z) ha;have h1:=iM (A:=l.take a) (B:=l.drop (a+1)) (q:=z) (by rw[<-e];exact hn);have h2:=ji (A:=l.take a) (B:=l.drop (a+1)) (q:=l[a]);rw[<-Ie ha,A']at h2;rw[<-e]at h1;lia
 have h1:=up hi n1;have h2:=up (l:=ps.set i q) (a:=j) (z:=p) (by rw[F'];exact hj) na;have:=lC na (n:=400) (by lia);refine⟨⟨by rw[F',F'];lia,by rw[F',F'];lia⟩,ne,by lia⟩
theorem AS(hp:npt ps<=160)(hi:i<ps.length)(h2:2<=ps.length):Bnt ps (ps.take i++ps.drop (i+1)):=by
 have h80:aR ps<=80:=by have:=jk (ps:=ps);lia
 have sub:∀x∈ps.take i++ps.drop (i+1),x∈ps:=λx mx=>(C_.mp mx).elim HQ HC;have n0:Nar 80 ps:=λx mx y my=>GZ (ui mx my) h80;have h2:=ji (A:=ps.take i) (B:=ps.drop (i+1)) (q:=ps[i]);rw[<-Ie hi,A']at h2;have:=lC (kT n0 sub) (n:=80) (by lia);refine⟨⟨?_,?_⟩,λx mx=>⟨x,sub x mx,by unfold fr far;lia⟩,by lia⟩ <;>(rw[b_,q_,o_];lia)
theorem Bu(hp:npt ps<=160)(h0:0<ps.length):Bnt ps (ps.take i++(ps.drop i).reverse):=by
 have h80:aR ps<=80:=by have:=jk (ps:=ps);lia
 have sub:∀x∈ps.take i++(ps.drop i).reverse,x∈ps:=λx mx=>(C_.mp mx).elim HQ λm=>HC (Jz.mp m);have n0:Nar 80 ps:=λx mx y my=>GZ (ui mx my) h80;have h1:=kG (kT n0 sub);have h2:=nJ (A:=ps.take i) (B:=ps.drop i);rw[A']at h2;rw[tO]at h1;have:=lC (kT n0 sub) (n:=160) (by lia);refine⟨⟨?_,?_⟩,λx mx=>⟨x,sub x mx,by unfold fr far;lia⟩,by lia⟩ <;>(rw[b_,x_,q_,o_];lia)
theorem yt(hp:npt ps<=160)(m0:p0∈ps)(hq:fr q p0<=3):Bnt ps (ps.take i++[q,p0]++ps.drop i):=by
 have h80:aR ps<=80:=by have:=jk (ps:=ps);lia
 have e1:ps.take i++[q,p0]++ps.drop i=ps.take i++q::p0::ps.drop i:=by rw[g_];rfl
 rw[e1];obtain⟨na,ne⟩:=rl (e:=3) (qs:=ps.take i++q::p0::ps.drop i) h80 p0 m0 (by decide) λx mx=>by
  rcases C_.mp mx with m|m
  ·exact .inl (HQ m)
  rcases m_.mp m with rfl|m
  ·exact .inr hq
  rcases m_.mp m with rfl|m
  ·exact .inl m0
  exact .inl (HC m)
 have h1:=iM na;have h2:=iM (A:=ps.take i) (B:=ps.drop i) (q:=p0) (kT na λx mx=>by
  rcases C_.mp mx with m|m
  ·exact Hf _ m
  exact n_ _ (.tail _ m))
 rw[A']at h2;have:=lC na (n:=412) (by lia);refine⟨⟨by rw[b_];exact Hh _,?_⟩,ne,by lia⟩;have:=congrArg Kq (A' i ps);rw[b_]at this;rw[b_,f_,f_];lia
theorem zA:(lead p q).isSome=!(decide (far p q=0) || (decide ((q.1-p.1)*(q.2-p.2)≠0)&&decide (((q.1-p.1).natAbs:Int)≠((q.2-p.2).natAbs:Int)))):=by
 cases h:lead p q with
 |some d=>
  have s:=xX h;have hm:=s.mp;have e:q=ak p d (far p q):=s.eq;generalize far p q=m at *;have dl:=s.dl;clear s h;subst e;have:decide (m=0)=false:=decide_eq_false (by lia);rw[this,KO];show true=_;symm;rw[J9,Bool.and_eq_false_iff];unfold ak;dsimp only;rw[acl,acl]
  match d,dl with
  |0,_=>left;rw[jI];exact decide_eq_false (λz=>z (by dsimp only;rw[Jm m,IA]))
  |1,_=>right;rw[lL];exact decide_eq_false (λz=>z rfl)
  |2,_=>left;rw[jE];exact decide_eq_false (λz=>z (by dsimp only;rw[Jm m,Jm]))
  |3,_=>right;rw[lU];exact decide_eq_false (λz=>z (by dsimp only;lia))
  |4,_=>left;rw[jG];exact decide_eq_false (λz=>z (by dsimp only;rw[Jm m,IA]))
  |5,_=>right;rw[lu];exact decide_eq_false (λz=>z rfl)
  |6,_=>left;rw[jX];exact decide_eq_false (λz=>z (by dsimp only;rw[Jm m,Jm]))
  |7,_=>right;rw[lM];exact decide_eq_false (λz=>z (by dsimp only;lia))
 |none=>
  show false=_;symm;rw[Bool.not_eq_false'];refine MN λz=>?_;rw[Bool.or_eq_true,E_,decide_eq_true_iff,decide_eq_true_iff,decide_eq_true_iff,not_or,not_and]at z;obtain⟨z1,z2⟩:=z;have no:∀d m,Sg (p,q) d m->False:=λd m s=>by rw[tR s]at h;cases h
  have c:q.1-p.1=0\/q.2-p.2=0\/(q.1-p.1).natAbs=(q.2-p.2).natAbs:=by
   by_cases a:(q.1-p.1)*(q.2-p.2)=0
   ·rcases Int.mul_eq_zero.mp a with a|a
    ·exact .inl a
    exact .inr (.inl a)
   have:=Pe (z2 a);lia
  have f0:¬(q.1-p.1=0/\q.2-p.2=0):=λg=>z1 (by unfold far;lia)
  have mk:∀d m,d<8->0<m->q.1-p.1=(st8 d).1*m->q.2-p.2=(st8 d).2*m->False:=λd m a b e1 e2=>no d m ⟨a,b,by show q=ak p d m;unfold ak;rw[<-e1,<-e2];exact Hr (by dsimp only;lia) (by dsimp only;lia)⟩
  rcases J8 (q.1-p.1) 0 with x|x|x <;> rcases J8 (q.2-p.2) 0 with y|y|y
  ·exact mk 5 (-(q.1-p.1)) (by decide) (by lia) (by rw[lu];dsimp only;lia) (by rw[lu];dsimp only;lia)
  ·exact mk 4 (-(q.1-p.1)) (by decide) (by omega) (by rw[jG];dsimp only;lia) (by rw[jG];dsimp only;lia)
  ·exact mk 3 (-(q.1-p.1)) (by decide) (by lia) (by rw[lU];dsimp only;lia) (by rw[lU];dsimp only;lia)
  ·exact mk 6 (-(q.2-p.2)) (by decide) (by omega) (by rw[jX];dsimp only;lia) (by rw[jX];dsimp only;lia)
  ·exact f0 ⟨x,y⟩
  ·exact mk 2 (q.2-p.2) (by decide) (by omega) (by rw[jE];dsimp only;lia) (by rw[jE];dsimp only;lia)
  ·exact mk 7 (q.1-p.1) (by decide) (by omega) (by rw[lM];dsimp only;lia) (by rw[lM];dsimp only;lia)
  ·exact mk 0 (q.1-p.1) (by decide) (by omega) (by rw[jI];dsimp only;lia) (by rw[jI];dsimp only;lia)
  exact mk 1 (q.1-p.1) (by decide) (by omega) (by rw[lL];dsimp only;lia) (by rw[lL];dsimp only;lia)
structure Gdo (ps:List Pt):Prop where
 s:Spl ps
 n:npt ps<=160
theorem lZ(h:Spl ps/\npt ps<=160):Gdo ps:=⟨h.1,h.2⟩
theorem Ah{k:Nat}(h:Gdo ps)(hk:k<=ps.length):Gdo (ps.drop k++ps.take k):=⟨Bd h.s hk,by rw[xW (qw hk)];exact h.n⟩
theorem Bf(h:Gdo ps):Gdo ps.reverse:=⟨AB h.s,by rw[A5 h.s];exact h.n⟩
theorem Dp{r:Int}(h:Stp (ps++[(x,y)]) (x,y))(hr:0<=r)(hu:0<=u):Stp ((ps++[(x,y),(x+1+r,y)])++[(x+1+r,y+1+u)]) (x+1+r,y+1+u):=by have:=E7 h (a:=1+r) (b:=1+u) (by lia) (by lia);rw[g_ ps,<-Lv,<-Lv]at this;exact this
theorem Co(h:Stp (ps++[(x,y)]) (x,y))(hx:0<x)(hy:0<y)(x2:x<=20)(y2:y<=20):Gdo (ps++[(x,y),(0,y)]):=by have:=lZ (uX h hx hy x2 y2);rw[g_]at this;exact this
theorem Ef(h:d<8):((st8 d).1=-1\/(st8 d).1=0\/(st8 d).1=1)/\((st8 d).2=-1\/(st8 d).2=0\/(st8 d).2=1):=by have:=qo d h;lia
theorem btw{D p r:Int}(ha:a=-1\/a=0\/a=1)(h0:bd D p)(h1:bd D (p+a*m))(r0:0<=r)(r1:r<=m):bd D (p+a*r):=by obtain⟨x0,x1⟩:=h0;obtain⟨y0,y1⟩:=h1;rcases ha with rfl|rfl|rfl <;> exact⟨by lia,by lia⟩
theorem DR(h:Spl ps){D:Int}(hb:bdL D ps)(e:ps[i]?=some p):(∀k,Rfn (ps.headD (0,0)) (ps.drop (i+1)) k->Rfn (ps.headD (0,0)) (ps.drop i) (p::k))/\
  ∀r,0<r->r<far p (ps.getD ((i+1)%ps.length) (0,0))->bdP D (p.1+((ps.getD ((i+1)%ps.length) (0,0)).1-p.1)/far p (ps.getD ((i+1)%ps.length) (0,0))*r,p.2+((ps.getD ((i+1)%ps.length) (0,0)).2-p.2)/far p (ps.getD ((i+1)%ps.length) (0,0))*r)/\
   ∀k,Rfn (ps.headD (0,0)) (ps.drop (i+1)) k->Rfn (ps.headD (0,0)) (ps.drop i) (p::(p.1+((ps.getD ((i+1)%ps.length) (0,0)).1-p.1)/far p (ps.getD ((i+1)%ps.length) (0,0))*r,p.2+((ps.getD ((i+1)%ps.length) (0,0)).2-p.2)/far p (ps.getD ((i+1)%ps.length) (0,0))*r)::k):=by
 have hi:i<ps.length:=(c_.mp e).1;have l1:(i+1)%ps.length<ps.length:=Hl _ (by lia);have hp:ps.getD i (0,0)=p:=by rw[i_,e];rfl
 have dr:ps.drop i=p::ps.drop (i+1):=by rw[Ie hi];congr 1;rw[f' hi]at e;exact GY e
 have hn:(ps.drop (i+1)).headD (ps.headD (0,0))=ps.getD ((i+1)%ps.length) (0,0):=by
  by_cases c:i+1<ps.length
  ·rw[Ie c,Hj c,i_,f' c]
   rfl
  have c:i+1=ps.length:=by lia
  rw[c,Le,Jk];cases ps with
  |nil=>cases hi
  |cons a r=>rfl
 have ee:=eO (z:=(0,0)) hi;rw[hp]at ee;obtain⟨d,m,s⟩:=h.st _ (D_ ee);have hm:=mZ s;have bq:bdP D (ps.getD ((i+1)%ps.length) (0,0)):=by rw[i_,f' l1];exact cb hb (HB l1)
 have bp:bdP D p:=cb hb (D_ e);rw[dr];refine⟨λk g=>Rfn.keep g,λr r0 r1=>?_⟩;rw[<-hn]at s hm bq r1 ⊢;generalize hq:(ps.drop (i+1)).headD (ps.headD (0,0))=q at s hm bq r1 ⊢;rw[hm]at r1 ⊢;have z:m≠0:=JI s.mp;have eq:q=ak p d m:=s.eq;obtain⟨o1,o2⟩:=Ef s.dl;have e1:(q.1-p.1)/m=(st8 d).1:=by rw[eq];show(p.1+(st8 d).1*m-p.1)/m=_;rw[acl,IY _ z]
 have e2:(q.2-p.2)/m=(st8 d).2:=by rw[eq];show(p.2+(st8 d).2*m-p.2)/m=_;rw[acl,IY _ z]
 rw[e1,e2];rw[eq]at bq;exact⟨⟨btw o1 bp.1 bq.1 (by lia) (by lia),btw o2 bp.2 bq.2 (by lia) (by lia)⟩,λk g=>Rfn.put (by rw[hq];exact s) r0 r1 g⟩
theorem y4{g:α->T}{l:List α}{z:α}(h:0<l.length):atI (l.map g) (((i:Int)+1)%(l.length:Int))=some (g (l.getD ((i+1)%l.length) z)):=by have hi:(i+1)%l.length<l.length:=Hl _ h;have:=iy (xs:=l.map g) (j:=(i+1)%l.length) (by rw[y_,ky (z:=z) hi];rfl);rw[<-this];congr 1
theorem tW:∀{l acc:List (List Int)},(l.foldl (λS r=>if r∈S then S else r::S) acc).length<=acc.length+l.length/\((l.foldl (λS r=>if r∈S then S else r::S) acc).length=acc.length+l.length↔l.Nodup/\∀x∈l,x ∉ acc)
 | [],acc=>⟨e_ _,by
  constructor
  ·intro _;exact⟨JQ,λx m=>nomatch m⟩
  ·intro _;rfl⟩
 |r::l,acc=>by
  rw[Ll,f_];by_cases c:r∈acc
  ·rw[if_pos c];obtain⟨h1,_⟩:=tW (l:=l) (acc:=acc);refine⟨by lia,?_⟩;constructor
   ·intro z;lia
   rintro⟨_,z⟩;exact absurd c (z r (.head _))
  rw[if_neg c];obtain⟨h1,h2⟩:=tW (l:=l) (acc:=r::acc);rw[f_]at h1 h2;refine⟨by lia,?_⟩;rw[show acc.length+(l.length+1)=acc.length+1+l.length by lia,h2,kw];constructor
  ·rintro⟨a,b⟩;refine⟨⟨λm=>b r m (.head _),a⟩,λx m=>?_⟩;rcases m_.mp m with rfl|m
   ·exact c
   exact λz=>b x m (.tail _ z)
  rintro⟨⟨a,b⟩,d⟩;refine⟨b,λx m z=>?_⟩;rcases m_.mp z with rfl|z
  ·exact a m
  exact d x (.tail _ m) z
theorem DE{ks:List (List Int)}:(ddL ks).length=ks.length↔ks.Nodup:=by have:=(tW (l:=ks) (acc:=[])).2;rw[HG,Jg]at this;exact this.trans ⟨λh=>h.1,λh=>⟨h,λx _ z=>nomatch z⟩⟩
noncomputable def xk(p:Pt):List Int:=[p.1,p.2]
theorem zP(h:xk p=xk q):p=q:=by
 injection h with h1 h2
 injection h2 with h2
 exact Hr h1 h2
theorem z0{l:List Pt}:rowsOf (l.map ptP)=some (l.map xk):=by
 induction l with
 |nil=>rfl
 |cons p l ih=>
  rw[h_,h_];unfold ptP pt;rw[rowsOf];have ih:rowsOf (l.map λp=>T.tup [T.int p.1,T.int p.2])=some (l.map xk):=ih;rw[ih]
  rfl
theorem Aj{l:List Pt}:(l.map xk).Nodup↔l.Nodup:=by unfold Lm;rw[IJ];exact⟨λh=>h.imp λz e=>z (by rw[e]),λh=>h.imp λz e=>z (zP e)⟩
theorem cH{k:T->Prop}:vV [ptP p] k=k (.lst true [.int p.1,.int p.2]):=rfl
def fqT(f:Fp):T:=if f.1 then .lst true [.int f.2.1,.int f.2.2]else ptP f.2
theorem fz:er (fqT f)=fpT f:=by obtain⟨b,p⟩:=f;cases b <;> rfl
theorem cF{u:Bool}{fs:List Fp}:aX (hdT u fs)=true:=by rw[<-gx];exact aT _
theorem Bt{i:Int}(h0:0<=i)(h1:i<2):∃b:Bool,atI [ptP p,T.lst true [.int p.1,.int p.2]] i=some (fqT (b,p)):=by
 have:i=0\/i=1:=by lia
 rcases this with rfl|rfl
 ·exact⟨false,rfl⟩
 exact⟨true,rfl⟩
theorem By{fs:List Fp}{i:Int}(h0:0<=i)(h1:i<2):∃b:Bool,atI [T.lst false (fs.map fpT),T.tup (fs.map fpT)] i=some (hdT b fs):=by
 have:i=0\/i=1:=by lia
 rcases this with rfl|rfl
 ·exact⟨false,rfl⟩
 exact⟨true,rfl⟩
theorem Ag{n:Nat}(h:n<=ts.length):hW ts none (some (n:Int))=ts.take n:=by
 unfold hW;rw[HT.jf,HT.i7,Ip h]
 rfl
theorem Ao:fr p p<=4:=by unfold fr far;lia
theorem yy(i:Nat):(((ah ps).take i).flatMap aM).length<=npt ps:=by have e:=congrArg (λl=>(l.flatMap aM).length) (A' i (ah ps));rw[HF,b_]at e;unfold npt;lia
def Gd(t:T)(n:Nat):Prop:=isD t=true/\dpt (dt t)<=n
def GdL(ts:List T)(n:Nat):Prop:=qK ts=true/\i8 (dtL ts)<=n
theorem Ez{i:Int}{n:Nat}:Gd (.int i) n:=⟨rfl,by rw[dt,dpt.eq_def];exact Hq _⟩
theorem vy{n:Nat}:GdL [] n:=⟨rfl,by simp only[dtL,i8,Hq]⟩
theorem nW{n:Nat}(h:Gd t n)(r:GdL ts n):GdL (t::ts) n:=
 ⟨by rw[qK,h.1,r.1];rfl,by rw[dtL,i8];exact Nat.max_le.mpr ⟨h.2,r.2⟩⟩
theorem AO{g:α->T}{l:List α}{n:Nat}(h:∀x∈l,Gd (g x) n):GdL (l.map g) n:=by
 induction l with
 |nil=>exact vy
 |cons x l ih=>exact nW (h x (A_ ..)) (ih λy m=>h y (l_ _ m))
theorem Gg{o:Bool}{n:Nat}(h:GdL ts n):Gd (.lst o ts) (n+1):=
 ⟨by rw[isD];exact h.1,by rw[dt,dpt];exact Iy h.2⟩
theorem Gx{n:Nat}(h:GdL ts n):Gd (.tup ts) (n+1):=
 ⟨by rw[isD];exact h.1,by rw[dt,dpt];exact Iy h.2⟩
theorem Cz{o o':Bool}{k:T->Prop}(q:k (.bl true)):eqT (.lst o (ps.map ptP)) (.lst o' (ps.map ptP)) k:=by
 have g:∀o,Gd (.lst o (ps.map ptP)) 2:=λo=>Gg (AO λp _=>Gx (nW Ez (nW Ez vy)));refine⟨(g o).1,(g o').1,H_ (g o).2 (by decide),?_⟩;have e:dt (.lst o (ps.map ptP))=dt (.lst o' (ps.map ptP)):=by rw[dt,dt]
 rw[e,iZ];exact q
theorem Cb{fs:List Fp}:fs.map (λf=>ptP f.2)=(fs.map (·.2)).map ptP:=by rw[Hw];rfl
theorem BV(h:bdP 60 p):sm p:=by obtain⟨⟨a,b⟩,c,d⟩:=h;exact⟨by lia,by lia,by lia,by lia⟩
theorem DC(h:Bnt ps qs)(hb:bdL 50 ps):bdL 60 qs:=lT λx mx=>by obtain⟨p,mp,hf⟩:=h.near x mx;obtain⟨⟨a,b⟩,c,d⟩:=cb hb mp;unfold fr far at hf;exact⟨⟨by lia,by lia⟩,by omega,by lia⟩
theorem E2{K:LN}(h:Scr K t ns):er t=t/\isAny t=false:=by
 rcases h with rfl|⟨a,rfl,_⟩
 ·exact⟨by simp only[er,bT],rfl⟩
 exact⟨rfl,rfl⟩
theorem yF{c:Cells}{n:Nat}:cq (stT c n)=true:=by simp only[stT,cq,nE,aL,bj,Hb,J3]
theorem Ej:T.lst false (ps.map ptP)=hdT false (ps.map (Ls false)):=by
 show _=T.lst false ((ps.map (Ls false)).map fpT);rw[Hw]
 rfl
theorem AQ:(ps.map (Ls false)).map (·.2)=ps:=by rw[Hw];exact List.map_id' ps
theorem nX{fs:List Fp}(h:fs.all (λf=>decide (-9<=f.2.1/\f.2.1<=9/\-9<=f.2.2/\f.2.2<=9))=true):∀f∈fs,sm f.2:=λf m=>by obtain⟨a,b,c,d⟩:=of_decide_eq_true (Iz.mp h f m);exact⟨by lia,by lia,by lia,by lia⟩
noncomputable def mP:=And.intro @Mp.DG (@Mp.DQ)
noncomputable def mL:=@PL.aT
end Mp
local macro_rules | `(tactic| walk_at "go")=>do
 let l<-("!PL.iC !PL.fu !PL.iI !PL.dO !PL.gh !PL.fv !PL.dh !PL.fI !PL.dS !PL.dG !PL.cN !PL.dw !PL.cO !PL.dn !PL.dZ !PL.fJ !PL.eM !PL.cC !PL.eF !PL.d9 !PL.fL !PL.e6 !PL.dg !PL.dQ !PL.dE !PL.cj !PL.cp !PL.fo !PL.dF !PL.dP !PL.cJ !PL.da !PL.ck !PL.dN !PL.fB !PL.eK !PL.d7 !PL.gc !PL.e7 !PL.d3 !PL.iE !PL.eL !PL.cx !PL.dc !PL.cP !PL.dD !PL.fX !PL.fW !PL.gb !PL.fV !PL.d6 !PL.d4 !PL.d8 !PL.de !PL.eJ !PL.eC !PL.fH !PL.g9 !PL.fP !PL.fD !PL.fN !PL.fR !PL.fY !PL.cn !PL.d5 !PL.dB !PL.dU !PL.cD !PL.cw !PL.fE !PL.fG !PL.fM !PL.e9 !PL.cB !PL.gf !PL.fT !PL.fx !PL.iK !PL.fC !PL.b6 !PL.aW !PL.aZ !PL.fS PL.fO PL.dy PL.iH PL.iJ PL.bG PL.bV PL.b9 PL.dq PL.bT PL.df PL.b8 PL.b7 PL.aT PL.aL PL.bA PL.bj PL.bJ PL.eD PL.bN PL.cK PL.bD PL.bO PL.bI PL.dM PL.bM PL.eB PL.bC PL.er PL.erL PL.aX PL.aY PL.cq PL.bY PL.lend PL.back PL.outs PL.frA PL.lr h_ Il f_ HG a_ Jo Ii List.set_cons_zero JV Ij F_ Hx List.zipWith_cons_cons List.zipWith_nil_left List.zipWith_nil_right J2 JR J3 Hb Bool.and_self IE true_and and_true Jg Ji PySem.sizeLine_eq PL.Th.v if_true if_false Mp.eI Nat.reduceAdd Nat.reduceSub Nat.reduceLeDiff !PL.fq !PL.fF !PL.du !PL.cm Mp.gd Mp.cI Mp.bF Mp.bE !Mp.dI !Mp.dk !Mp.bH Mp.bP !Mp.dJ !Mp.dY Mp.cy Mp.br Mp.cG Mp.fg Mp.d0 Mp.iD Mp.aU Mp.fU Mp.cL Mp.bB Mp.bK !Mp.dH !Mp.eG Mp.mN Mp.iG !Mp.cv Mp.hU Mp.fw !Mp.dA !Mp.dC !PL.dX !PL.eA !Mp.cH Mp.fz Mp.gx Mp.bW Mp.cF Mp.bf Mp.cu !PL.bz !Mp.mP Mp.mL".splitOn " ").toArray.mapM λs=>let i:Lean.Ident:=Lean.mkIdent (s.replace "!" "").toName;if s.front=='!' then `(Lean.Parser.Tactic.simpLemma|↓$i:ident) else `(Lean.Parser.Tactic.simpLemma|$i:ident)
 `(tactic| simp only[$l,*])
local macro_rules | `(tactic| nofun)=>`(tactic| walk_at "go")
local macro_rules | `(tactic| walk_at "take")=>`(tactic| refine⟨_,_,_,rfl,by lia,by first|decide|lia,by first|decide|lia,?_⟩)
namespace Mp
open PySem L2 PL
def qa:FP:=λts k=>∃(p:Pt) (d:Nat) (m:Int),ts=[ptP p,.int d,.int m]/\d<8/\k (ptP (ak p d m)) ts
variable {f:LO}{fd:L6}
section
variable{P:LV}{w:L0}{K:LN}{mg:Str->Option LM}{base:LZ}
theorem om:FnScope ["corner","direction","many","step"] ["corner","direction","many"] (av lj):=⟨rfl,rfl,rfl,by rfl',rfl,by rfl',by rfl'⟩
theorem uv(F:Fun K "stepped" "stepped" lj f fd)(TX:Txt mg)(C_STEPS:Glb K mg "STEPS" qD) :FnOk P w K mg base CX0 1 f fd ["corner","direction","many"] (aK K 3 qa):=by refine bR F om [true,true,true] rfl (λcdv A outer s H E hr=>?_);have sc:=@om;refine⟨_,(ag (ay (i:=3) sc.nd (by rfl) (gV rfl) (by rfl) (aE (az hr (F6 C_STEPS (by rfl)) (ab 1)))) (aj (aI (aE (aw (aa (af aq (az hr (ab 0) ge_int) (af cY (az hr (ab 3) ge_int) (ab 2))) (aa (af aq (az hr (ab 0) ge_int) (af cY (az hr (ab 3) ge_int) (ab 2))) ae))))))),λts kk hl hp=>?_⟩;clear hl;obtain⟨p,d,m,rfl,hd,q⟩:=hp;nofun;refine aN (zt hd) ?_;have:=qo d hd;nofun;exact⟨.inl (by lia),.inl (by lia),q⟩
end
def jL:FP:=λts k=>∃(p q:Pt),ts=[ptP p,ptP q]/\k (mI p q) ts
section
variable{P:LV}{w:L0}{K:LN}{mg:Str->Option LM}{base:LZ}
theorem mn:FnScope ["one","other","many","direction"] ["one","other"] (av jO):=⟨rfl,rfl,rfl,by rfl',rfl,by rfl',by rfl'⟩
theorem sX(F:Fun K "straight" "straight" jO f fd)(TX:Txt mg)(C_STEPS:Glb K mg "STEPS" qD)(xz:Cal P w K mg base 1 "stepped" ["corner","direction","many"] (aK K 3 qa)):FnOk P w K mg base CX0 2 f fd ["one","other"] (aK K 2 jL):=by
 refine bR F mn [true,true] rfl (λcdv A outer s H E hr=>?_);have sc:=@mn;refine⟨_,(ag (ay (i:=2) sc.nd (by rfl) (gV rfl) (by rfl) (aE (ax (gY rfl) (by rfl) TX.max (by rfl') (aa (ax eP (by rfl) TX.abs (by rfl') (aa (af aD (az hr (ab 1) ge_int) (az hr (ab 0) ge_int)) ae)) (aa (ax eP (by rfl) TX.abs (by rfl') (aa (af aD (az hr (ab 1) ge_int) (az hr (ab 0) ge_int)) ae)) ae))))) (ag (cT (g6 (aP (bo hr) (ab 2) ge_int (aA _))) (aj (aI nQ)) cR) (ag (jQ MY (by rfl) (i4 (by rfl) TX.range (aa (aE (ax ba (by rfl) TX.len (by rfl') (aa (F6 C_STEPS (by rfl)) ae))) ae)) (aB (i:=3) sc.nd (by rfl) (gV rfl) (by rfl)) (aj (cT (g6 (aP (bo hr) (au xz hr (by rfl) (ai (ab 0) (ai (ab 3) (ai (ab 2) ar)))) (eY fj (by rfl) TX.tuple (by rfl') (aa (ab 1) ae)) (aA _))) (aj (aI (aE (aw (aa (ab 3) (aa (ab 2) ae)))))) cR))) (aj (aI nQ))))),λts kk hl hp=>?_⟩;clear hl;obtain⟨a,b,rfl,q⟩:=hp;unfold mI lead far at q;nofun;refine aJ (λh=>?_) (λh=>?_)
 ·nofun;rw[if_pos h]at q;exact q
 nofun;rw[if_neg h]at q;refine⟨by decide,ij (λi env=>(∀j,j<i->ak a j (far a b)≠b)/\∃z,env=[ptP a,ptP b,.int (far a b),z]) ⟨λj hj=>by lia,_,rfl⟩ ?_ ?_⟩
 ·rintro i t _ ⟨hb,z,rfl⟩ ei;have hi:i<8:=lS ei;have et:=yJ ei;subst et;nofun;refine⟨a,i,far a b,by rw[K4],hi,?_⟩;nofun;refine aJ (λh2=>?_) (λh2=>?_)
  ·nofun;have ef:(r_ 8).find? (λd=>decide (ak a d (far a b)=b))=some i:=by rw[List.find?_range_eq_some];exact⟨decide_eq_true h2,z_.mpr hi,λj hj=>by rw[decide_eq_false (hb j hj)];rfl⟩
   unfold far at ef ⊢;rw[ef]at q;rw[K4];exact q
  nofun;refine⟨λj hj=>?_,_,rfl⟩;rcases Je.mp hj with hj|rfl
  ·exact hb j hj
  exact h2
 rintro _ ⟨hb,z,rfl⟩;nofun;have ef:(r_ 8).find? (λd=>decide (ak a d (far a b)=b))=none:=by rw[List.find?_range_eq_none];intro j hj;rw[decide_eq_false (hb j (by rw[gZ];exact hj))];rfl
 unfold far at ef;rw[ef]at q;exact q
end
def m9:FP:=λts k=>∃t c,ts=[t]/\js t=some c/\k (.bl (decide (c=.int))) ts
section
variable{P:LV}{w:L0}{K:LN}{mg:Str->Option LM}{base:LZ}
theorem kM:FnScope ["thing"] ["thing"] (av jb):=⟨rfl,rfl,rfl,by rfl',rfl,by rfl',by rfl'⟩
theorem qL(F:Fun K "is_number" "is_number" jb f fd)(TX:Txt mg)  :FnOk P w K mg base CX0 1 f fd ["thing"] (aK K 1 m9):=by
 refine bR F kM [true] rfl (λcdv A outer s H E hr=>?_);have sc:=@kM;refine⟨_,(aj (aI (aE (gj (ax iu (by rfl) TX.isinstance (by rfl') (aa (ab 0) (aa (t6 (n:="int") (by rfl) TX.int (by rfl')) ae))) (k6 (uf (ax iu (by rfl) TX.isinstance (by rfl') (aa (ab 0) (aa (t6 (n:="bool") (by rfl) TX.bool (by rfl')) ae))))))))),λts kk hl hp=>?_⟩;clear hl;obtain⟨t,c,rfl,ht,q⟩:=hp;nofun;refine⟨fk ht,aN ht ?_⟩;nofun;refine ik (λh=>?_) (λh=>?_)
 ·nofun;refine⟨fk ht,aN ht ?_⟩;nofun;have e:(!isA c .bl)=decide (c=.int):=by cases c <;> first|rfl|exact absurd h (by decide)
  rw[e];exact q
 nofun;have e:false=decide (c=.int):=by cases c <;> first|rfl|exact absurd h (by decide)
 rw[e];exact q
end
def oB:FP:=λts k=>∃t c,ts=[t]/\js t=some c/\k (.bl (zZ c)) ts
section
variable{P:LV}{w:L0}{K:LN}{mg:Str->Option LM}{base:LZ}
theorem pB:FnScope ["thing"] ["thing"] (av oh):=⟨rfl,rfl,rfl,by rfl',rfl,by rfl',by rfl'⟩
theorem wF(F:Fun K "is_row" "is_row" oh f fd)(TX:Txt mg)  :FnOk P w K mg base CX0 1 f fd ["thing"] (aK K 1 oB):=by refine bR F pB [true] rfl (λcdv A outer s H E hr=>?_);have sc:=@pB;refine⟨_,(aj (aI (aE (ax iu (by rfl) TX.isinstance (by rfl') (aa (ab 0) (aa (aw (aa (t6 (n:="list") (by rfl) TX.list (by rfl')) (aa (t6 (n:="tuple") (by rfl) TX.tuple (by rfl')) ae))) ae)))))),λts kk hl hp=>?_⟩;clear hl;obtain⟨t,c,rfl,ht,q⟩:=hp;nofun;refine⟨fk ht,aN ht ?_⟩;nofun;exact q
end
def jA:FP:=λts k=>∃t n,ts=[t,.int (n:Nat)]/\Kd t/\(∀us,items t=some us->us.length<sizeLine)/\k (.bl (nums t n)) ts
section
variable{P:LV}{w:L0}{K:LN}{mg:Str->Option LM}{base:LZ}
theorem j8:FnScope ["thing","many"] ["thing","many"] (av gU):=⟨rfl,rfl,rfl,by rfl',rfl,by rfl',by rfl'⟩
theorem oz(F:Fun K "are_numbers" "are_numbers" gU f fd)(TX:Txt mg)  (sK:Cal P w K mg base 1 "is_number" ["thing"] (aK K 1 m9))(ul:Cal P w K mg base 1 "is_row" ["thing"] (aK K 1 oB)):FnOk P w K mg base CX0 2 f fd ["thing","many"] (aK K 2 jA):=by
 refine bR F j8 [true,true] rfl (λcdv A outer s H E hr=>?_);have sc:=@j8;have nd1:(["part"]:List Str).Nodup:=by rfl'
 refine⟨_,(aj (aI (aE (gj (au ul hr (by rfl) (ai (ab 0) ar)) (gj (fA (bo hr) (ax ba (by rfl) TX.len (by rfl') (aa (ab 0) ae)) (ab 1) (aA _)) (k6 (ax (lV rfl) (by rfl) TX.all (by rfl') (aa (eZ sc ["part"] [none] nd1 (by rfl') (gP (ab 0)) (λ_ _ _=>(aB (i:=0) nd1 (by rfl) (gV rfl) (by rfl) (hf:=(t_ rfl)))) (λ_ _ _=>dR) (λ_ _ _=>(au sK hr (by rfl) (ai (ab 0) ar)))) ae)))))))),λts kk hl hp=>?_⟩;clear hl;obtain⟨t,n,rfl,⟨⟨c,ht⟩,hu⟩,hz,q⟩:=hp;nofun;refine⟨fk ht,er t,c,rfl,by rw[bP];exact ht,?_⟩;nofun;have hr:=xw ht;refine ik (λh=>?_) (λh=>?_)
 ·rw[h]at hr;obtain⟨us,eu⟩:=HK.mp hr;have eu2:items (er t)=some (erL us):=by rw[xF,eu];rfl
  nofun;refine⟨fk ht,vg eu2 ?_⟩;nofun;have en:nums t n=(decide (us.length=n)&&us.all isI):=by unfold nums;rw[eu]
  rw[en]at q;refine aJ (λh2=>?_) (λh2=>?_)
  ·have h2:us.length=n:=by rw[gn]at h2;lia
   rw[decide_eq_true h2,Hb]at q;nofun;refine⟨fk ht,aN eu2 ?_⟩;nofun;refine AG (λu=>[.bl (isI u)]) (λie=>∃z,ie=[z]) (by rw[gn];exact hz us eu) ⟨_,rfl⟩ ?_ ?_
   ·rintro i u _ eu3 ⟨z,rfl⟩;obtain⟨u0,e0,rfl⟩:∃u0,us[i]?=some u0/\u=er u0:=by rw[jR]at eu3;exact gS eu3
    obtain⟨c0,hc0⟩:=hu us eu u0 (D_ e0);nofun;refine⟨fk hc0,er u0,c0,rfl,by rw[bP];exact hc0,?_⟩;nofun;refine⟨?_,_,rfl⟩;rw[xh eu3,yi];unfold isI;rw[hc0];congr 3;simp only[J5]
   rintro _ ⟨z,rfl⟩;nofun;have e:(HS isI (erL us)).all id=us.all isI:=by rw[jR,Hw,IL];congr 1;funext u;exact yi
   rw[e];exact q
  have h2:us.length≠n:=by rw[gn]at h2;lia
  rw[decide_eq_false h2,H0]at q;nofun;exact q
 rw[h]at hr;have en:nums t n=false:=by
  unfold nums;cases hi:items t with
  |none=>rfl
  |some us=>rw[hi]at hr;cases hr
 rw[en]at q;nofun;exact q
end
def kU:FP:=λts k=>∃t c fs,ts=[t]/\er t=hdT c fs/\isAny t=false/\fs.length<sizeLine/\∀z,k (.lst true ((fs.map (·.2)).map ptP)) [z]
section
variable{P:LV}{w:L0}{K:LN}{mg:Str->Option LM}{base:LZ}
theorem jB:FnScope ["outline"] ["outline"] (av i6):=⟨rfl,rfl,rfl,by rfl',rfl,by rfl',by rfl'⟩
theorem oM(F:Fun K "corners_of" "corners_of" i6 f fd)(TX:Txt mg)  :FnOk P w K mg base CX0 1 f fd ["outline"] (aK K 1 kU):=by
 refine bR F jB [true] rfl (λcdv A outer s H E hr=>?_);have sc:=@jB;have nd1:(["corner"]:List Str).Nodup:=by rfl'
 refine⟨_,(aj (aI (aE (eZ sc ["corner"] [none] nd1 (by rfl') (gP (ab 0)) (λ_ _ _=>(aB (i:=0) nd1 (by rfl) (gV rfl) (by rfl) (hf:=(t_ rfl)))) (λ_ _ _=>dR) (λ_ _ _=>(eY fj (by rfl) TX.tuple (by rfl') (aa (ab 0) ae))))))),λts kk hl hp=>?_⟩;clear hl;obtain⟨t,c,fs,rfl,et,ia,hz,q⟩:=hp;nofun;rw[et];refine⟨bW,aN bf ?_⟩;nofun;refine cE (by rw[a_];exact hz) (λi acc ie=>∃z,acc=(fs.take i).map (λf=>ptP f.2)/\ie=[z]) ⟨_,rfl,rfl⟩ ?_ ?_
 ·rintro i u _ _ ⟨z,rfl,rfl⟩ eu;obtain⟨f,ef,rfl⟩:=gS eu;nofun;exact⟨_,by rw[map_take ef],rfl⟩
 rintro _ _ ⟨z,rfl,rfl⟩;rw[a_,Hd];nofun;have e:fs.map (λf=>ptP f.2)=(fs.map (·.2)).map ptP:=by rw[Hw];rfl
 rw[e];exact q _
end
def ny:FP:=λts k=>∃t c fs,ts=[t]/\er t=hdT c fs/\isAny t=false/\fs.length<1000/\∀z,k (.lst true ((ah (fs.map (·.2))).map edT)) [z]
section
variable{P:LV}{w:L0}{K:LN}{mg:Str->Option LM}{base:LZ}
theorem mz:FnScope ["outline","corners"] ["outline"] (av jH):=⟨rfl,rfl,rfl,by rfl',rfl,by rfl',by rfl'⟩
theorem sE(F:Fun K "edges_of" "edges_of" jH f fd)(TX:Txt mg)  (rc:Cal P w K mg base 1 "corners_of" ["outline"] (aK K 1 kU)):FnOk P w K mg base CX0 2 f fd ["outline"] (aK K 1 ny):=by
 refine bR F mz [true] rfl (λcdv A outer s H E hr=>?_);have sc:=@mz;refine⟨_,(ag (ay (i:=1) sc.nd (by rfl) (gV rfl) (by rfl) (aE (au rc hr (by rfl) (ai (ab 0) ar)))) (aj (aI (aE (uO (by rfl) (by rfl) TX.list (by rfl) TX.zip (aa (ab 1) (aa (af aq (cA (ab 1) (cZ ge_int) eR) (cA (ab 1) eR (cZ ge_int))) ae))))))),λts kk hl hp=>?_⟩;clear hl;obtain⟨t,c,fs,rfl,et,ia,hz,q⟩:=hp;nofun;refine⟨by rw[et];exact bW,er t,c,fs,rfl,by rw[fg];exact et,by rw[et];exact bW,by rw[Mt];lia,λz=>?_⟩;have hz:(fs.map (·.2)).length<1000:=by rw[a_];exact hz
 generalize fs.map (·.2)=ps at *;nofun;rw[<-Hu,<-HD,vF,vF];have e:=xa ps;rw[<-Hu,<-HD]at e;refine⟨by rw[a_,a_,o_,q_];lia,by rw[b_,a_,a_,o_,q_];lia,?_,by rw[e];exact q _⟩;rw[<-p_,Ly,IL];exact bj _
end
def pj:FP:=λts k=>∃e c,ts=[edT e,ptP c]/\smE e/\sm c/\k (.int (iF e c)) ts
section
variable{P:LV}{w:L0}{K:LN}{mg:Str->Option LM}{base:LZ}
theorem nK:FnScope ["edge","corner","one","other"] ["edge","corner"] (av lE):=⟨rfl,rfl,rfl,by rfl',rfl,by rfl',by rfl'⟩
theorem ux(F:Fun K "side_of" "side_of" lE f fd)(TX:Txt mg)  :FnOk P w K mg base CX0 1 f fd ["edge","corner"] (aK K 2 pj):=by refine bR F nK [true,true] rfl (λcdv A outer s H E hr=>?_);have sc:=@nK;refine⟨_,(ag (ay (i:=2) sc.nd (by rfl) (gV rfl) (by rfl) (aE (az hr (ab 0) ge_int))) (ag (ay (i:=3) sc.nd (by rfl) (gV rfl) (by rfl) (aE (az hr (ab 0) ge_int))) (aj (aI (aE (af aD (af cY (af aD (az hr (ab 3) ge_int) (az hr (ab 2) ge_int)) (af aD (az hr (ab 1) ge_int) (az hr (ab 2) ge_int))) (af cY (af aD (az hr (ab 3) ge_int) (az hr (ab 2) ge_int)) (af aD (az hr (ab 1) ge_int) (az hr (ab 2) ge_int))))))))),λts kk hl hp=>?_⟩;clear hl;obtain⟨e,c,rfl,h,hc,q⟩:=hp;nofun;obtain⟨⟨a1,a2,a3,a4⟩,b1,b2,b3,b4⟩:=h;exact⟨.inl (by lia),.inl (by lia),q⟩
end
def jx:FP:=λts k=>∃e o,ts=[edT e,edT o]/\smE e/\smE o/\k (.bl (acr e o)) ts
section
variable{P:LV}{w:L0}{K:LN}{mg:Str->Option LM}{base:LZ}
theorem j4:FnScope ["edge","other"] ["edge","other"] (av gW):=⟨rfl,rfl,rfl,by rfl',rfl,by rfl',by rfl'⟩
theorem nL(F:Fun K "lies_across" "lies_across" gW f fd)(TX:Txt mg)  (wP:Cal P w K mg base 1 "side_of" ["edge","corner"] (aK K 2 pj)):FnOk P w K mg base CX0 2 f fd ["edge","other"] (aK K 2 jx):=by refine bR F j4 [true,true] rfl (λcdv A outer s H E hr=>?_);have sc:=@j4;refine⟨_,(aj (aI (aE (fA qT (af cY (au wP hr (by rfl) (ai (ab 0) (ai (az hr (ab 1) ge_int) ar))) (au wP hr (by rfl) (ai (ab 0) (ai (az hr (ab 1) ge_int) ar)))) ge_int (aA _))))),λts kk hl hp=>?_⟩;clear hl;obtain⟨e,o,rfl,h,ho,q⟩:=hp;nofun;refine⟨e,o.1,rfl,h,ho.1,?_⟩;nofun;refine⟨e,o.2,rfl,h,ho.2,?_⟩;nofun;exact⟨.inl (tm h ho.1),q⟩
end
def gX:FP:=λts k=>∃e o a,ts=[edT e,edT o,.int a]/\(a=0/\k (.bl (ovl e.1.1 e.2.1 o.1.1 o.2.1)) ts\/a=1/\k (.bl (ovl e.1.2 e.2.2 o.1.2 o.2.2)) ts)
section
variable{P:LV}{w:L0}{K:LN}{mg:Str->Option LM}{base:LZ}
theorem gE:FnScope ["edge","other","axis"] ["edge","other","axis"] (av eW):=⟨rfl,rfl,rfl,by rfl',rfl,by rfl',by rfl'⟩
theorem kH(F:Fun K "is_overlapping" "is_overlapping" eW f fd)(TX:Txt mg)  :FnOk P w K mg base CX0 1 f fd ["edge","other","axis"] (aK K 3 gX):=by
 refine bR F gE [true,true,true] rfl (λcdv A outer s H E hr=>?_);have sc:=@gE;refine⟨_,(aj (aI (aE (gj (fA qT (ax (jn rfl) (by rfl) TX.min (by rfl') (aa (az hr (az hr (ab 0) ge_int) (ab 2)) (aa (az hr (az hr (ab 0) ge_int) (ab 2)) ae))) (ax (gY rfl) (by rfl) TX.max (by rfl') (aa (az hr (az hr (ab 1) ge_int) (ab 2)) (aa (az hr (az hr (ab 1) ge_int) (ab 2)) ae))) (aA _)) (k6 (fA qT (ax (jn rfl) (by rfl) TX.min (by rfl') (aa (az hr (az hr (ab 1) ge_int) (ab 2)) (aa (az hr (az hr (ab 1) ge_int) (ab 2)) ae))) (ax (gY rfl) (by rfl) TX.max (by rfl') (aa (az hr (az hr (ab 0) ge_int) (ab 2)) (aa (az hr (az hr (ab 0) ge_int) (ab 2)) ae))) (aA _))))))),λts kk hl hp=>?_⟩;clear hl;obtain⟨e,o,a,rfl,⟨rfl,q⟩|⟨rfl,q⟩⟩:=hp
 all_goals
  nofun;unfold ovl at q;refine ik (λh=>?_) (λh=>?_)
  ·rw[h,Hb]at q;nofun;exact q
  rw[h,H0]at q;nofun;exact q
end
def kx:FP:=λts k=>∃e o,ts=[edT e,edT o]/\smE e/\smE o/\k (.bl (com e o)) ts
section
variable{P:LV}{w:L0}{K:LN}{mg:Str->Option LM}{base:LZ}
theorem jD:FnScope ["edge","other"] ["edge","other"] (av iw):=⟨rfl,rfl,rfl,by rfl',rfl,by rfl',by rfl'⟩
theorem pd(F:Fun K "has_common" "has_common" iw f fd)(TX:Txt mg)  (u8:Cal P w K mg base 1 "is_overlapping" ["edge","other","axis"] (aK K 3 gX))(v6:Cal P w K mg base 2 "lies_across" ["edge","other"] (aK K 2 jx)):FnOk P w K mg base CX0 3 f fd ["edge","other"] (aK K 2 kx):=by
 refine bR F jD [true,true] rfl (λcdv A outer s H E hr=>?_);have sc:=@jD;refine⟨_,(aj (aI (aE (gj (au u8 hr (by rfl) (ai (ab 0) (ai (ab 1) (ai ge_int ar)))) (gj (au u8 hr (by rfl) (ai (ab 0) (ai (ab 1) (ai ge_int ar)))) (gj (au v6 hr (by rfl) (ai (ab 0) (ai (ab 1) ar))) (k6 (au v6 hr (by rfl) (ai (ab 1) (ai (ab 0) ar)))))))))),λts kk hl hp=>?_⟩;clear hl;obtain⟨e,o,rfl,h,ho,q⟩:=hp;unfold com at q;nofun;refine⟨e,o,0,rfl,.inl ⟨rfl,?_⟩⟩;nofun;refine ik (λh1=>?_) (λh1=>?_)
 ·rw[h1,Hb]at q;nofun;refine⟨e,o,1,rfl,.inr ⟨rfl,?_⟩⟩;nofun;refine ik (λh2=>?_) (λh2=>?_)
  ·rw[h2,Hb]at q;nofun;refine⟨e,o,rfl,h,ho,?_⟩;nofun;refine ik (λh3=>?_) (λh3=>?_)
   ·rw[h3,Hb]at q;nofun;refine⟨o,e,rfl,ho,h,?_⟩;nofun;exact q
   rw[h3,H0]at q;nofun;exact q
  rw[h2,H0]at q;nofun;exact q
 rw[h1,H0]at q;nofun;exact q
end
def iB:FP:=λts k=>∃(o:Bool) (es:List Ed),ts=[.lst o (es.map edT)]/\es.length<sizeLine/\k (.bl (gF es)) ts
section
variable{P:LV}{w:L0}{K:LN}{mg:Str->Option LM}{base:LZ}
theorem hX:FnScope ["edges"] ["edges"] (av fy):=⟨rfl,rfl,rfl,by rfl',rfl,by rfl',by rfl'⟩
theorem lP(F:Fun K "goes_straight" "goes_straight" fy f fd)(TX:Txt mg)  (xL:Cal P w K mg base 2 "straight" ["one","other"] (aK K 2 jL)):FnOk P w K mg base CX0 3 f fd ["edges"] (aK K 1 iB):=by
 refine bR F hX [true] rfl (λcdv A outer s H E hr=>?_);have sc:=@hX;have nd1:(["one","other"]:List Str).Nodup:=by rfl'
 refine⟨_,(aj (aI (aE (ax (lV rfl) (by rfl) TX.all (by rfl') (aa (eZ sc ["one","other"] [none,none] nd1 (by rfl') (gP (ab 0)) (λ_ _ _=>(fZ (n:=2) (by rfl) (aF (aB (i:=0) nd1 (by rfl) (gV rfl) (by rfl) (hf:=(t_ rfl))) (aF (aB (i:=1) nd1 (by rfl) (gV rfl) (by rfl) (hf:=(t_ rfl))) eE)))) (λ_ _ _=>dR) (λ_ _ _=>(fA sJ (au xL hr (by rfl) (ai (ab 0) (ai (ab 1) ar))) nQ (aA _)))) ae))))),λts kk hl hp=>?_⟩;clear hl;obtain⟨o,es,rfl,hz,q⟩:=hp;nofun;refine cE (by rw[a_];exact hz) (λi acc ie=>∃z1 z2,acc=(es.take i).map (λe=>T.bl (lead e.1 e.2).isSome)/\ie=[z1,z2]) ⟨_,_,rfl,rfl⟩ ?_ ?_
 ·rintro i u _ _ ⟨z1,z2,rfl,rfl⟩ eu;obtain⟨e,ee,rfl⟩:=gS eu;nofun;refine⟨e.1,e.2,rfl,?_⟩;nofun;refine⟨wJ,_,_,?_,rfl⟩;rw[map_take ee,sA,Bool.not_not]
 rintro _ _ ⟨z1,z2,rfl,rfl⟩;rw[a_,Hd];nofun;rw[IL];exact q
end
def mG:FP:=λts k=>∃(o:Bool) (es:List Ed),ts=[.lst o (es.map edT)]/\es.length<sizeLine/\gF es=true/\k (.bl (ph (es.map cS))) ts
section
variable{P:LV}{w:L0}{K:LN}{mg:Str->Option LM}{base:LZ}
theorem kR:FnScope ["edges","ways"] ["edges"] (av jd):=⟨rfl,rfl,rfl,by rfl',rfl,by rfl',by rfl'⟩
theorem rJ(F:Fun K "goes_back" "goes_back" jd f fd)(TX:Txt mg)  (xL:Cal P w K mg base 2 "straight" ["one","other"] (aK K 2 jL)):FnOk P w K mg base CX0 3 f fd ["edges"] (aK K 1 mG):=by
 refine bR F kR [true] rfl (λcdv A outer s H E hr=>?_);have sc:=@kR;have nd1:(["one","other"]:List Str).Nodup:=by rfl'
 have nd2:(["at","way","ways"]:List Str).Nodup:=by rfl'
 refine⟨_,(ag (ay (i:=1) sc.nd (by rfl) (t_ rfl) (by rfl) (aE (eZ sc ["one","other"] [none,none] nd1 (by rfl') (gP (ab 0)) (λ_ _ _=>(fZ (n:=2) (by rfl) (aF (aB (i:=0) nd1 (by rfl) (gV rfl) (by rfl) (hf:=(t_ rfl))) (aF (aB (i:=1) nd1 (by rfl) (gV rfl) (by rfl) (hf:=(t_ rfl))) eE)))) (λ_ _ _=>dR) (λ_ _ _=>(az hr (au xL hr (by rfl) (ai (ab 0) (ai (ab 1) ar))) ge_int))))) (aj (aI (aE (ax (pI rfl) (by rfl) TX.any (by rfl') (aa (eZ sc ["at","way","ways"] [none,none,some 1] nd2 (by rfl') (kz (by rfl) TX.enumerate (aa (ab 1) ae)) (λ_ _ _=>(fZ (n:=2) (by rfl) (aF (aB (i:=0) nd2 (by rfl) (gV rfl) (by rfl) (hf:=(t_ rfl))) (aF (aB (i:=1) nd2 (by rfl) (gV rfl) (by rfl) (hf:=(t_ rfl))) eE)))) (λ_ _ _=>dR) (λ_ _ _=>(fA (bo hr) (af rQ (af aD (ab 1) (az hr (ab 2) (af aD (ab 0) ge_int))) ge_int) ge_int (aA _)))) ae)))))),λts kk hl hp=>?_⟩;clear hl;obtain⟨o,es,rfl,hz,hs,q⟩:=hp;nofun;refine cE (by rw[a_];exact hz) (λi acc ie=>∃z1 z2,acc=(es.take i).map (λe=>T.int (cS e:Nat))/\ie=[z1,z2]) ⟨_,_,rfl,rfl⟩ ?_ ?_
 ·rintro i u _ _ ⟨z1,z2,rfl,rfl⟩ eu;obtain⟨e,ee,rfl⟩:=gS eu;nofun;refine⟨e.1,e.2,rfl,?_⟩;have h1:(lead e.1 e.2).isSome=true:=Iz.mp hs e (D_ ee);obtain⟨d,hd⟩:=HK.mp h1;have hw:cS e=d:=by unfold cS;rw[hd];rfl
  have hl:mI e.1 e.2=.tup [.int (d:Int),.int (far e.1 e.2)]:=by unfold mI;rw[hd]
  rw[hl];nofun;exact⟨_,_,by rw[map_take ee,hw],rfl⟩
 rintro _ _ ⟨z1,z2,rfl,rfl⟩;rw[a_,Hd];nofun;refine cE (by rw[gv rfl];exact hz) (λi acc ie=>∃z1 z2,acc=(r_ i).map (λj=>T.bl (ot (es.map cS) j))/\ie=[z1,z2,.lst false (es.map λe=>T.int (cS e:Nat))]) ⟨_,_,rfl,rfl⟩ ?_ ?_
 ·rintro i u _ _ ⟨z1,z2,rfl,rfl⟩ eu;obtain⟨e,ee,rfl⟩:=kF rfl eu;have hi:i<es.length:=(c_.mp ee).1;nofun;have ea:=sf (g:=λ(n:Nat)=>T.int (n:Int)) (l:=es.map cS) (i:=i) (by rw[a_];exact hi) 0;rw[Hw]at ea;refine aN ea ?_;nofun;refine⟨by decide,_,_,?_,rfl⟩;rw[JK,p_];have eb:ot (es.map cS) i=decide (((cS e:Int)-((es.map cS).getD (eS es.length i) 0:Int))%8=4):=by unfold ot;rw[show(es.map cS).getD i 0=cS e by rw[i_,y_,ee];rfl,a_]
  rw[<-eb]
  rfl
 rintro _ _ ⟨z1,z2,rfl,rfl⟩;rw[gv rfl];nofun;rw[JF];unfold ph at q;rw[a_]at q;exact q
end
def ju:FP:=λts k=>∃(es:List Ed),ts=[.lst false (es.map edT)]/\0<es.length/\es.length<1000/\(∀e∈es,smE e)/\k (.bl (m7 es)) ts
section
variable{P:LV}{w:L0}{K:LN}{mg:Str->Option LM}{base:LZ}
theorem iO:FnScope ["edges","last","at","edge","beyond"] ["edges"] (av gT):=⟨rfl,rfl,rfl,by rfl',rfl,by rfl',by rfl'⟩
theorem nH(F:Fun K "is_touching" "is_touching" gT f fd)(TX:Txt mg)  (sB:Cal P w K mg base 3 "has_common" ["edge","other"] (aK K 2 kx)):FnOk P w K mg base CX0 4 f fd ["edges"] (aK K 1 ju):=by
 refine bR F iO [true] rfl (λcdv A outer s H E hr=>?_);have sc:=@iO;have nd1:(["other","edge"]:List Str).Nodup:=by rfl'
 refine⟨_,(ag (ay (i:=1) sc.nd (by rfl) (gV rfl) (by rfl) (aE (af aD (ax ba (by rfl) TX.len (by rfl') (aa (ab 0) ae)) ge_int))) (ag (jQ MY (by rfl) (kz (by rfl) TX.enumerate (aa (bc 0) ae)) (fZ (n:=2) (by rfl) (aF (aB (i:=2) sc.nd (by rfl) (gV rfl) (by rfl)) (aF (aB (i:=3) sc.nd (by rfl) (t_ rfl) (by rfl)) eE))) (gM (ay (i:=4) sc.nd (by rfl) (gV rfl) (by rfl) (aE (ge_if (aP (bo hr) (ab 2) ge_int (aA _)) (cA (ab 0) (cZ (af aq (ab 2) ge_int)) (cZ (ab 1))) (cA (ab 0) (cZ (af aq (ab 2) ge_int)) eR)))) (aj (cT (g6 (lG (ax (pI rfl) (by rfl) TX.any (by rfl') (aa (eZ sc ["other","edge"] [none,some 3] nd1 (by rfl') (gP (ab 4)) (λ_ _ _=>(aB (i:=0) nd1 (by rfl) (gV rfl) (by rfl) (hf:=(t_ rfl)))) (λ_ _ _=>dR) (λ_ _ _=>(au sB hr (by rfl) (ai (ab 1) (ai (ab 0) ar))))) ae)))) (aj (aI gI)) cR)))) (aj (aI gI)))),λts kk hl hp=>?_⟩;clear hl;obtain⟨es,rfl,h0,hz,hs,q⟩:=hp;nofun;refine ij (λi env=>(∀j,j<i->kY es j=false)/\∃z1 z2 z3,env=[.lst false (es.map edT),.int ((es.length:Int)-1),z1,z2,z3]) ⟨λj hj=>by lia,_,_,_,rfl⟩ ?_ ?_
 ·rintro i u _ ⟨hb,z1,z2,z3,rfl⟩ eu;obtain⟨e,ee,rfl⟩:=kF rfl eu;have hi:i<es.length:=(c_.mp ee).1;have e1:(es.length:Int)-1=((es.length-1:Nat):Int):=by lia
  have e2:(i:Int)+2=((i+2:Nat):Int):=by lia
  have se:smE e:=hs e (D_ ee);have bm:∀b∈beyond es i,b∈es:=λb m=>by
   unfold beyond at m;split at m
   ·exact HQ (HC m)
   exact HC m
  have bl:(beyond es i).length<=es.length:=by
   unfold beyond;split
   ·rw[o_,q_];lia
   rw[o_];omega
  nofun;refine iN (λenv=>∃o,env=[.lst false (es.map edT),.int ((es.length:Int)-1),.int (i:Int),edT e,.lst o ((beyond es i).map edT)]) ?_ ?_
  ·nofun;refine aJ (λh=>?_) (λh=>?_)
   ·have hi0:i=0:=by lia
    nofun;rw[e1,e2,Fy (by rw[a_];lia),<-HD,<-Hu,aL];refine⟨bj _,true,?_⟩;unfold beyond;rw[if_pos hi0,hi0]
   nofun;rw[e2,AK,<-Hu,aL];refine⟨bj _,true,?_⟩;unfold beyond;rw[if_neg (λz=>h (by rw[z];rfl))]
  rintro _ ⟨o,rfl⟩;nofun;refine cE (by rw[a_,Mt];lia) (λj acc ie=>∃z1,acc=((beyond es i).take j).map (λb=>T.bl (com e b))/\ie=[z1,edT e]) ⟨_,rfl,rfl⟩ ?_ ?_
  ·rintro j u _ _ ⟨z1,rfl,rfl⟩ eu;obtain⟨b,eb,rfl⟩:=gS eu;nofun;refine⟨e,b,rfl,se,hs b (bm b (D_ eb)),?_⟩;nofun;exact⟨_,by rw[map_take eb],rfl⟩
  rintro _ _ ⟨z1,rfl,rfl⟩;rw[a_,Hd];nofun;have et:kY es i=(beyond es i).any (com e):=by unfold kY;rw[ee]
  rw[JF];show jW ((beyond es i).any (com e)) (A:=_) (B:=_);rw[<-et];refine ik (λh=>?_) (λh=>?_)
  ·nofun;have:m7 es=true:=HM.mpr ⟨i,z_.mpr hi,h⟩;rw[this]at q;exact q
  nofun;refine⟨λj hj=>?_,_,_,_,rfl⟩;rcases Je.mp hj with hj|rfl
  ·exact hb j hj
  exact h
 rintro _ ⟨hb,z1,z2,z3,rfl⟩;rw[gv rfl]at hb;nofun;have:m7 es=false:=by
  unfold m7;rw[List.any_eq_false];intro j hj;rw[hb j (z_.mp hj)]
  decide
 rw[this]at q;exact q
end
def ib:FP:=λts k=>∃t c fs,ts=[t]/\er t=hdT c fs/\isAny t=false/\fs.length<1000/\(∀f∈fs,sm f.2)/\∀z,k (.bl (jt (fs.map (·.2)))) [z]
section
variable{P:LV}{w:L0}{K:LN}{mg:Str->Option LM}{base:LZ}
theorem jw:FnScope ["thing","edges"] ["thing"] (av iA):=⟨rfl,rfl,rfl,by rfl',rfl,by rfl',by rfl'⟩
theorem oY(F:Fun K "is_outline" "is_outline" iA f fd)(TX:Txt mg)  (ul:Cal P w K mg base 1 "is_row" ["thing"] (aK K 1 oB))(ls:Cal P w K mg base 2 "are_numbers" ["thing","many"] (aK K 2 jA))(re:Cal P w K mg base 2 "edges_of" ["outline"] (aK K 1 ny))(ss:Cal P w K mg base 3 "goes_straight" ["edges"] (aK K 1 iB))(sn:Cal P w K mg base 3 "goes_back" ["edges"] (aK K 1 mG))(ut:Cal P w K mg base 4 "is_touching" ["edges"] (aK K 1 ju)):FnOk P w K mg base CX0 5 f fd ["thing"] (aK K 1 ib):=by
 refine bR F jw [true] rfl (λcdv A outer s H E hr=>?_);have sc:=@jw;have nd1:(["part"]:List Str).Nodup:=by rfl'
 refine⟨_,(ag (cT (g6 (u6 (pY (oH (lG (au ul hr (by rfl) (ai (ab 0) ar)))) (pY (aP o8 (ax ba (by rfl) TX.len (by rfl') (aa (ab 0) ae)) ge_int (aA _)) (nG (oH (lG (ax (lV rfl) (by rfl) TX.all (by rfl') (aa (eZ sc ["part"] [none] nd1 (by rfl') (gP (ab 0)) (λ_ _ _=>(aB (i:=0) nd1 (by rfl) (gV rfl) (by rfl) (hf:=(t_ rfl)))) (λ_ _ _=>dR) (λ_ _ _=>(au ls hr (by rfl) (ai (ab 0) (ai ge_int ar))))) ae))))))))) (aj (aI gI)) cR) (ag (ay (i:=1) sc.nd (by rfl) (gV rfl) (by rfl) (aE (au re hr (by rfl) (ai (ab 0) ar)))) (aj (aI (aE (gj (au ss hr (by rfl) (ai (ab 1) ar)) (gj (uf (au sn hr (by rfl) (ai (ab 1) ar))) (k6 (uf (au ut hr (by rfl) (ai (ab 1) ar))))))))))),λts kk hl hp=>?_⟩;clear hl;obtain⟨t,c,fs,rfl,et,ia,hz,hs,q⟩:=hp;have ia2:isAny (er t)=false:=by rw[et];exact bW
 nofun;refine⟨ia2,er t,_,rfl,by rw[bP,<-bP,et];exact FU,?_⟩;nofun;refine vq CG ?_;nofun;refine⟨ia2,vg (by rw[et];exact bf) ?_⟩;nofun;refine aJ (λh2=>?_) (λh2=>?_)
 ·nofun;have e:jt (fs.map (·.2))=false:=by
   unfold jt;rw[a_,decide_eq_false (by lia)]
   rfl
  rw[<-e];exact q _
 have h3:3<=(fs.map (·.2)).length:=by rw[a_];lia
 nofun;refine⟨ia2,aN (by rw[et];exact bf) ?_⟩;nofun;refine cE (by rw[a_,Mt];lia) (λi acc ie=>∃z,acc=(fs.take i).map (λ_=>T.bl true)/\ie=[z]) ⟨_,rfl,rfl⟩ ?_ ?_
 ·rintro i u _ _ ⟨z,rfl,rfl⟩ eu;obtain⟨f,ef,rfl⟩:=gS eu;nofun;refine⟨fpT f,2,rfl,Fd,λvs ev=>by rw[nT]at ev;cases ev;show 2<sizeLine;rw[Mt];decide,?_⟩;nofun;rw[AF];exact⟨_,by rw[map_take ef],rfl⟩
 rintro _ _ ⟨z,rfl,rfl⟩;rw[a_,Hd];nofun;refine vq (Iz.mpr λx m=>by obtain⟨_,_,rfl⟩:=Ha.mp m;rfl) ?_;nofun;refine⟨by rw[et];exact bW,er t,c,fs,rfl,by rw[fg];exact et,by rw[et];exact bW,hz,λz=>?_⟩;have q:=q t;rw[<-yh h3]at q;have hs:∀p∈fs.map (·.2),sm p:=λp m=>by obtain⟨f,mf,rfl⟩:=Ha.mp m;exact hs f mf
 have lps:(fs.map (·.2)).length<1000:=by rw[a_];exact hz
 clear hz;generalize fs.map (·.2)=ps at *;have le:=eU ps;nofun;refine⟨false,ah ps,rfl,by rw[le,Mt];lia,?_⟩;unfold DY at q;nofun;refine ik (λg1=>?_) (λg1=>?_)
 ·rw[g1,Hb]at q;nofun;refine⟨false,ah ps,rfl,by rw[le,Mt];lia,g1,?_⟩;nofun;refine ik (λg2=>?_) (λg2=>?_)
  ·rw[g2,J2,H0]at q;nofun;exact q
  rw[g2,JR,Hb]at q;nofun;refine⟨ah ps,rfl,by lia,by lia,λe m=>⟨hs _ (pK m).1,hs _ (pK m).2⟩,?_⟩;nofun;exact q
 rw[g1,H0]at q;nofun;exact q
end
def C9:FP:=λts k=>∃x y w h,∃(o:Bool),∃a b c d,ts=[.int x,.int y,.int w,.int h,.lst o [.int a,.int b,.int c,.int d]]/\k (.lst true ((lQ x y w h a b c d).map ptP)) [.int x,.int y,.int w,.int h,.lst false [.int a,.int b,.int c,.int d]]
section
variable{P:LV}{w:L0}{K:LN}{mg:Str->Option LM}{base:LZ}
theorem yM:FnScope ["_law_x","_law_y","_law_wide","_law_high","_law_cuts","_law_a","_law_b","_law_c","_law_d","_law_corners"] ["_law_x","_law_y","_law_wide","_law_high","_law_cuts"] (av zF):=⟨rfl,rfl,rfl,by rfl',rfl,by rfl',by rfl'⟩
theorem CB(F:Fun K "_law_box" "_law_box" zF f fd)(TX:Txt mg)  :FnOk P w K mg base CX0 1 f fd ["_law_x","_law_y","_law_wide","_law_high","_law_cuts"] (aK K 5 C9):=by
 refine bR F yM [true,true,true,true,true] rfl (λcdv A outer s H E hr=>?_);have sc:=@yM;have nd1:(["_law_k","_law_corner","_law_corners"]:List Str).Nodup:=by rfl'
 refine⟨_,(ag (oy (bc 4) (v5 (n:=4) (by rfl) (aF (aB (i:=5) sc.nd (by rfl) (gV rfl) (by rfl)) (aF (aB (i:=6) sc.nd (by rfl) (gV rfl) (by rfl)) (aF (aB (i:=7) sc.nd (by rfl) (gV rfl) (by rfl)) (aF (aB (i:=8) sc.nd (by rfl) (gV rfl) (by rfl)) eE)))))) (ag (ay (i:=9) sc.nd (by rfl) (t_ rfl) (by rfl) (aE (bQ (aa (aw (aa (af aq (ab 0) (ab 5)) (aa (ab 1) ae))) (aa (aw (aa (af aD (af aq (ab 0) (ab 2)) (ab 6)) (aa (ab 1) ae))) (aa (aw (aa (af aq (ab 0) (ab 2)) (aa (af aq (ab 1) (ab 6)) ae))) (aa (aw (aa (af aq (ab 0) (ab 2)) (aa (af aD (af aq (ab 1) (ab 3)) (ab 7)) ae))) (aa (aw (aa (af aD (af aq (ab 0) (ab 2)) (ab 7)) (aa (af aq (ab 1) (ab 3)) ae))) ae)))))))) (ag (ay (i:=9) sc.nd (by rfl) (t_ rfl) (by rfl) (aE (af aq (ab 9) (bQ (aa (aw (aa (af aq (ab 0) (ab 8)) (aa (af aq (ab 1) (ab 3)) ae))) (aa (aw (aa (ab 0) (aa (af aD (af aq (ab 1) (ab 3)) (ab 8)) ae))) (aa (aw (aa (ab 0) (aa (af aq (ab 1) (ab 5)) ae))) ae))))))) (aj (aI (aE (eZ sc ["_law_k","_law_corner","_law_corners"] [none,none,some 9] nd1 (by rfl') (kz (by rfl) TX.enumerate (aa (ab 9) ae)) (λ_ _ _=>(v5 (n:=2) (by rfl) (aF (aB (i:=0) nd1 (by rfl) (gV rfl) (by rfl) (hf:=(t_ rfl))) (aF (aB (i:=1) nd1 (by rfl) (gV rfl) (by rfl) (hf:=(t_ rfl))) eE)))) (λ_ _ _=>(Ap (aP (qx hr) (ab 1) (az hr (ab 2) (af aD (ab 0) ge_int)) (aA _)))) (λ_ _ _=>(ab 1))))))))),λts kk hl hp=>?_⟩;clear hl;obtain⟨x,y,w,h,o,a,b,c,d,rfl,q⟩:=hp;nofun;have el:[T.tup [T.int (x+a),T.int y],T.tup [T.int (x+w-b),T.int y],T.tup [T.int (x+w),T.int (y+b)],T.tup [T.int (x+w),T.int (y+h-c)],T.tup [T.int (x+w-c),T.int (y+h)],T.tup [T.int (x+d),T.int (y+h)],T.tup [T.int x,T.int (y+h-d)],T.tup [T.int x,T.int (y+a)]]=(oV x y w h a b c d).map ptP:=rfl;rw[el];have hl:8=(oV x y w h a b c d).length:=rfl;have hp:(oV x y w h a b c d).getD ((oV x y w h a b c d).length-1) (0,0)=(x,y+a):=rfl;unfold lQ at q;generalize oV x y w h a b c d=ps at *;generalize (x,y+a)=p at *;refine cE (by rw[gv hl,<-hl];decide) (λi acc ie=>∃z1 z2,acc=(ddl p (ps.take i)).map ptP/\ie=[z1,z2,.lst false (ps.map ptP)]) ⟨_,_,rfl,rfl⟩ ?_ ?_
 ·rintro i u _ _ ⟨z1,z2,rfl,rfl⟩ eu;obtain⟨c,ec,rfl⟩:=kF hl eu;have hi:i<ps.length:=(c_.mp ec).1;nofun;refine aN (sf (g:=ptP) (l:=ps) hi (0,0)) ?_;nofun;rw[zi hp ec];refine aJ (λh=>?_) (λh=>?_)
  ·nofun;rw[if_neg h];exact⟨_,_,by rw[p_];rfl,rfl⟩
  nofun;rw[if_pos (Pe h),Hn];exact⟨_,_,rfl,rfl⟩
 rintro _ _ ⟨z1,z2,rfl,rfl⟩;rw[gv hl,Hd];nofun;exact q
end
def tF:FP:=λts k=>∃x y w h m,ts=[.int x,.int y,.int w,.int h,.int m]/\bd 30 x/\bd 30 y/\5<=w/\w<=14/\5<=h/\h<=14/\∀(ps:List Pt),0<ps.length->ps.length<=12->bdL 50 ps->Gdo ps->k (.lst true (ps.map ptP)) ts
section
variable{P:LV}{w:L0}{K:LN}{mg:Str->Option LM}{base:LZ}
theorem pQ:FnScope ["_law_x","_law_y","_law_wide","_law_high","_law_way","_law_u","_law_v","_law_rows","_law_p","_law_q"] ["_law_x","_law_y","_law_wide","_law_high","_law_way"] (av o9):=⟨rfl,rfl,rfl,by rfl',rfl,by rfl',by rfl'⟩
theorem wL(F:Fun K "_law_angled" "_law_angled" o9 f fd)(TX:Txt mg)  :FnOk P w K mg base CX0 1 f fd ["_law_x","_law_y","_law_wide","_law_high","_law_way"] (aK K 5 tF):=by
 refine bR F pQ [true,true,true,true,true] rfl (λcdv A outer s H E hr=>?_);have sc:=@pQ;have nd1:(["_law_one","_law_other","_law_y","_law_x"]:List Str).Nodup:=by rfl'
 refine⟨_,(ag (lq (i:=5) (j:=6) (by rfl) sc.nd (by rfl) (by rfl) (by decide) (by rfl) (by rfl) (by rfl) (by rfl) (aa (aE (af aq ge_int (af gm (ab 2) ge_int))) (aa (aE (af aq ge_int (af gm (ab 3) ge_int))) ae)) (by rfl)) (gM (cT (g6 (aP (bo hr) (ab 4) ge_int (aA _))) (aj (ay (i:=7) sc.nd (by rfl) (gV rfl) (by rfl) (aE (bQ (aa (aw (aa ge_int (aa ge_int ae))) (aa (aw (aa (ab 2) (aa ge_int ae))) (aa (aw (aa (ab 2) (aa (ab 6) ae))) (aa (aw (aa (ab 5) (aa (ab 6) ae))) (aa (aw (aa (ab 5) (aa (ab 3) ae))) (aa (aw (aa ge_int (aa (ab 3) ae))) ae)))))))))) (aj (cT (g6 (aP (bo hr) (ab 4) ge_int (aA _))) (aj (ay (i:=7) sc.nd (by rfl) (gV rfl) (by rfl) (aE (bQ (aa (aw (aa ge_int (aa ge_int ae))) (aa (aw (aa (ab 2) (aa ge_int ae))) (aa (aw (aa (ab 2) (aa (ab 3) ae))) (aa (aw (aa (af aD (ab 2) (ab 5)) (aa (ab 3) ae))) (aa (aw (aa (af aD (ab 2) (ab 5)) (aa (ab 6) ae))) (aa (aw (aa (ab 5) (aa (ab 6) ae))) (aa (aw (aa (ab 5) (aa (ab 3) ae))) (aa (aw (aa ge_int (aa (ab 3) ae))) ae)))))))))))) (ag (lq (i:=8) (j:=9) (by rfl) sc.nd (by rfl) (by rfl) (by decide) (by rfl) (by rfl) (by rfl) (by rfl) (aa (aE (af gm (ab 3) ge_int)) (aa (aE (af aD (ab 3) (af gm (ab 3) ge_int))) ae)) (by rfl)) (ag (ay (i:=7) sc.nd (by rfl) (gV rfl) (by rfl) (aE (bQ (aa (aw (aa ge_int (aa ge_int ae))) (aa (aw (aa (ab 5) (aa ge_int ae))) (aa (aw (aa (ab 5) (aa (ab 8) ae))) (aa (aw (aa (af aD (ab 2) (ab 5)) (aa (ab 8) ae))) (aa (aw (aa (af aD (ab 2) (ab 5)) (aa ge_int ae))) (aa (aw (aa (ab 2) (aa ge_int ae))) (aa (aw (aa (ab 2) (aa (ab 3) ae))) (aa (aw (aa (af aD (ab 2) (ab 5)) (aa (ab 3) ae))) ae))))))))))) (aj (ay (i:=7) sc.nd (by rfl) (gV rfl) (by rfl) (aE (af aq (ab 7) (bQ (aa (aw (aa (af aD (ab 2) (ab 5)) (aa (ab 9) ae))) (aa (aw (aa (ab 5) (aa (ab 9) ae))) (aa (aw (aa (ab 5) (aa (ab 3) ae))) (aa (aw (aa ge_int (aa (ab 3) ae))) ae)))))))))))))) (aj (aI (aE (eZ sc ["_law_one","_law_other","_law_y","_law_x"] [none,none,some 1,some 0] nd1 (by rfl') (gP (ab 7)) (λ_ _ _=>(fZ (n:=2) (by rfl) (aF (aB (i:=0) nd1 (by rfl) (gV rfl) (by rfl) (hf:=(t_ rfl))) (aF (aB (i:=1) nd1 (by rfl) (gV rfl) (by rfl) (hf:=(t_ rfl))) eE)))) (λ_ _ _=>dR) (λ_ _ _=>(aw (aa (af aq (ab 3) (ab 0)) (aa (af aq (ab 2) (ab 1)) ae)))))))))),λts kk hl hp=>?_⟩;clear hl;obtain⟨x,y,w,h,m,rfl,⟨x0,x1⟩,⟨y0,y1⟩,w0,w1,h0,h1,q⟩:=hp;nofun;refine⟨⟨by decide,by decide⟩,⟨by decide,by decide⟩,?_⟩;have b0:bd 20 0:=⟨by decide,by decide⟩;have bw:bd 20 w:=⟨by lia,by lia⟩;have bh:bd 20 h:=⟨by lia,by lia⟩;have bu:bd 20 (1+w/4):=⟨by lia,by lia⟩;have bv:bd 20 (1+h/3):=⟨by lia,by lia⟩;have bwu:bd 20 (w-(1+w/4)):=⟨by lia,by lia⟩;have bp:bd 20 (h/3):=⟨by lia,by lia⟩;have bq:bd 20 (h-h/3):=⟨by lia,by lia⟩;refine iN (λenv=>∃(rs:List Pt) (z8 z9:T),0<rs.length/\rs.length<=12/\bdL 20 rs/\Gdo (rs.map λp=>(x+p.1,y+p.2))/\env=[.int x,.int y,.int w,.int h,.int m,.int (1+w/4),.int (1+h/3),.lst true (rs.map ptP),z8,z9]) ?_ ?_
 ·nofun;refine aJ (λg=>?_) (λg=>?_)
  ·nofun;exact⟨[(0,0),(w,0),(w,1+h/3),(1+w/4,1+h/3),(1+w/4,h),(0,h)],_,_,Hh _,Ic rfl,⟨⟨b0,b0⟩,⟨bw,b0⟩,⟨bw,bv⟩,⟨bu,bv⟩,⟨bu,bh⟩,⟨b0,bh⟩,trivial⟩,lZ (F1 (by lia) (by lia) (by lia) (by lia) w1 h1),rfl⟩
  nofun;refine aJ (λg=>?_) (λg=>?_)
  ·nofun;exact⟨[(0,0),(w,0),(w,h),(w-(1+w/4),h),(w-(1+w/4),1+h/3),(1+w/4,1+h/3),(1+w/4,h),(0,h)],_,_,Hh _,Ic rfl,⟨⟨b0,b0⟩,⟨bw,b0⟩,⟨bw,bh⟩,⟨bwu,bh⟩,⟨bwu,bv⟩,⟨bu,bv⟩,⟨bu,bh⟩,⟨b0,bh⟩,trivial⟩,lZ (Fo (by lia) (by lia) (by lia) (by lia) (by lia) w1 h1),rfl⟩
  nofun;refine⟨⟨by decide,by decide⟩,⟨by decide,by decide⟩,?_⟩;exact⟨[(0,0),(1+w/4,0),(1+w/4,h/3),(w-(1+w/4),h/3),(w-(1+w/4),0),(w,0),(w,h),(w-(1+w/4),h),(w-(1+w/4),h-h/3),(1+w/4,h-h/3),(1+w/4,h),(0,h)],_,_,Hh _,Ic rfl,⟨⟨b0,b0⟩,⟨bu,b0⟩,⟨bu,bp⟩,⟨bwu,bp⟩,⟨bwu,b0⟩,⟨bw,b0⟩,⟨bw,bh⟩,⟨bwu,bh⟩,⟨bwu,bq⟩,⟨bu,bq⟩,⟨bu,bh⟩,⟨b0,bh⟩,trivial⟩,lZ (FC (by lia) (by lia) (by lia) (by lia) (by lia) (by lia) w1 h1),rfl⟩
 rintro _ ⟨rs,z8,z9,l0,l1,hb,hg,rfl⟩;nofun;refine cE (by rw[a_,Mt];lia) (λi acc ie=>∃z1 z2,acc=(rs.take i).map (λp=>ptP (x+p.1,y+p.2))/\ie=[z1,z2,.int y,.int x]) ⟨_,_,rfl,rfl⟩ ?_ ?_
 ·rintro i u _ _ ⟨z1,z2,rfl,rfl⟩ eu;obtain⟨p,ep,rfl⟩:=gS eu;nofun;exact⟨_,_,by rw[map_take ep];rfl,rfl⟩
 rintro _ _ ⟨z1,z2,rfl,rfl⟩;rw[a_,Hd];nofun;have e:rs.map (λp=>ptP (x+p.1,y+p.2))=(rs.map λp=>((x+p.1,y+p.2):Pt)).map ptP:=by rw[Hw];rfl
 rw[e];refine q _ (by rw[a_];exact l0) (by rw[a_];exact l1) (lT λp m=>?_) hg;obtain⟨r,mr,rfl⟩:=Ha.mp m;obtain⟨⟨r1,r2⟩,r3,r4⟩:=cb hb mr;exact⟨⟨by dsimp only;lia,by dsimp only;lia⟩,by dsimp only;lia,by dsimp only;lia⟩
end
def qp:FP:=λts k=>∃c n x y w h,ts=[stT c n,.int x,.int y,.int w,.int h]/\n<2 ^ 39/\bd 30 x/\bd 30 y/\5<=w/\w<=14/\5<=h/\h<=14/\∀(c':Cells) (n':Nat) (ps:List Pt),n<=n'->n'<=n+20->0<ps.length->ps.length<=12->bdL 50 ps->Gdo ps->k (.lst true (ps.map ptP)) [stT c' n',.int x,.int y,.int w,.int h]
section
variable{P:LV}{w:L0}{K:LN}{mg:Str->Option LM}{base:LZ}
theorem oC:FnScope ["_law_state","_law_x","_law_y","_law_wide","_law_high","_law_way","_law_most","_law_cuts","_law_corners","_law_least","_law_first"] ["_law_state","_law_x","_law_y","_law_wide","_law_high"] (av lJ):=⟨rfl,rfl,rfl,by rfl',rfl,by rfl',by rfl'⟩
theorem uu(F:Fun K "_law_outline" "_law_outline" lJ f fd)(TX:Txt mg)  (pp:Cal P w K mg base 1 "_law_box" ["_law_x","_law_y","_law_wide","_law_high","_law_cuts"] (aK K 5 C9))(ld:Cal P w K mg base 1 "_law_angled" ["_law_x","_law_y","_law_wide","_law_high","_law_way"] (aK K 5 tF))(zn:Cal P w K mg base 1 "_law_take" ["_law_state","_law_many"] (aK K 2 iq)):FnOk P w K mg base CX0 2 f fd ["_law_state","_law_x","_law_y","_law_wide","_law_high"] (aK K 5 qp):=by
 refine bR F oC [true,true,true,true,true] rfl (λcdv A outer s H E hr=>?_);have sc:=@oC;have nd1:(["_law_turn","_law_most","_law_state"]:List Str).Nodup:=by rfl'
 refine⟨_,(ag (ay (i:=5) sc.nd (by rfl) (gV rfl) (by rfl) (au zn hr (by rfl) (aH 0 (ai ge_int ar)))) (ag (ay (i:=6) sc.nd (by rfl) (t_ rfl) (by rfl) (aE (af gm (ax (jn rfl) (by rfl) TX.min (by rfl') (aa (ab 3) (aa (ab 4) ae))) ge_int))) (ag (ve sc (i:=7) ["_law_turn","_law_most","_law_state"] [none,some 6,some 0] nd1 (by rfl') (by rfl) (gV rfl) (by rfl) (i4 (by rfl) TX.range (aa ge_int ae)) (λ_ _ _=>(aB (i:=0) nd1 (by rfl) (gV rfl) (by rfl) (hf:=(t_ rfl)))) (λ_ _ _=>dR) (λ_ _ _=>(au zn hr (by rfl) (aH 2 (ai (az hr (aE (bQ (aa ge_int (aa ge_int (aa (af aq (ab 1) ge_int) ae))))) (au zn hr (by rfl) (aH 2 (ai ge_int ar)))) ar)))) (by rfl)) (ag (ay (i:=8) sc.nd (by rfl) (gV rfl) (by rfl) (aE (au pp hr (by rfl) (ai (ab 1) (ai (ab 2) (ai (ab 3) (ai (ab 4) (ai (ab 7) ar)))))))) (gM (cT (g6 (aP o8 (ab 5) ge_int (aA _))) (aj (ay (i:=8) sc.nd (by rfl) (gV rfl) (by rfl) (aE (au ld hr (by rfl) (ai (ab 1) (ai (ab 2) (ai (ab 3) (ai (ab 4) (ai (ab 5) ar))))))))) cR) (gM (cT (g6 (aP (bo hr) (ab 5) ge_int (aA _))) (ag (ay (i:=9) sc.nd (by rfl) (gV rfl) (by rfl) (aE (ax (jn rfl) (by rfl) TX.min (by rfl') (aa (ab 3) (aa (ab 4) ae))))) (aj (ay (i:=8) sc.nd (by rfl) (gV rfl) (by rfl) (aE (bQ (aa (aw (aa (ab 1) (aa (ab 2) ae))) (aa (aw (aa (af aq (ab 1) (ab 9)) (aa (ab 2) ae))) (aa (aw (aa (ab 1) (aa (af aq (ab 2) (ab 9)) ae))) ae)))))))) cR) (ag (ay (i:=10) sc.nd (by rfl) (gV rfl) (by rfl) (au zn hr (by rfl) (aH 0 (ai (aE (ax ba (by rfl) TX.len (by rfl') (aa (ab 8) ae))) ar)))) (ag (ay (i:=8) sc.nd (by rfl) (gV rfl) (by rfl) (aE (af aq (cA (ab 8) (cZ (ab 10)) eR) (cA (ab 8) eR (cZ (ab 10)))))) (gM (cT (aP (bo hr) (au zn hr (by rfl) (aH 0 (ai ge_int ar))) ge_int (aA _)) (aj (gG (y3 8 PySem.F.slot_list_reverse PySem.F.type_list_reverse sQ))) cR) (aj (aI (pX 8)))))))))))),λts kk hl hp=>?_⟩;clear hl;obtain⟨c,n,x,y,w,h,rfl,hn,⟨x0,x1⟩,⟨y0,y1⟩,w0,w1,h0,h1,q⟩:=hp;nofun;walk_at "take";intro way c1 a1 b1;nofun;refine⟨⟨by decide,by decide⟩,by decide,cE (by rw[gZ,Mt];decide) (λi acc ie=>∃c' n' cs z,n+1<=n'/\n'<=n+1+2*i/\acc=HS T.int cs/\cs.length=i/\(∀v∈cs,0<=v/\v<=min w h/2)/\ie=[z,.int (min w h/2),stT c' n']) ⟨c1,n+1,[],_,e_ _,by lia,rfl,rfl,(λ_ m=>by cases m),rfl⟩ ?_ ?_⟩
 ·rintro i t _ _ ⟨c',n',cs,z,l1,l2,rfl,hl,hv,rfl⟩ ei;have hi:i<4:=lS ei;nofun;walk_at "take";intro r c2 a2 b2;nofun;obtain⟨v,ev,v0,v1⟩:=qf (λv=>1<=v/\v<=min w h/2+1) (ns:=[1,2,min w h/2+1]) (i:=r) (by omega) (by show r<3;omega) (by intro v hv;simp only[m_,He,or_false]at hv;lia)
  refine aN ev ?_;nofun;walk_at "take";intro r2 c3 a3 b3;nofun;refine⟨c3,n'+1+1,cs++[r2],_,by lia,by lia,by rw[p_];rfl,by rw[b_,hl];rfl,λv m=>?_,rfl⟩;rcases C_.mp m with m|m
  ·exact hv v m
  rw[Hc.mp m];lia
 rintro _ _ ⟨c2,n2,cs,z,l1,l2,rfl,hl,hv,rfl⟩;rw[gZ]at l2 hl;obtain⟨a,b,c',d,rfl,ha,hb,hc,hd⟩:=four (P:=λv=>0<=v/\v<=min w h/2) hl hv;nofun;refine⟨x,y,w,h,false,a,b,c',d,rfl,?_⟩;have bx:bd 50 x:=wo ⟨x0,x1⟩ (by decide);have pg:Gdo (lQ x y w h a b c' d):=lZ (AR (M:=min w h/2) (by lia) (by lia) (by lia) (by lia) ha hb hc hd (sT (by lia)) w1 h1);have by_:bd 50 y:=wo ⟨y0,y1⟩ (by decide);have pb:bdL 50 (lQ x y w h a b c' d):=CQ bx by_ ⟨by lia,by lia⟩ ⟨by lia,by lia⟩ (by lia) (by lia) ha hb hc hd;have pl:(lQ x y w h a b c' d).length<=8:=Bw;have p0:0<(lQ x y w h a b c' d).length:=sT (by lia);generalize lQ x y w h a b c' d=ps at *;nofun;refine iN (λenv=>∃(ps:List Pt) (z9 z10:T),0<ps.length/\ps.length<=12/\bdL 50 ps/\Gdo ps/\env=[stT c2 n2,.int x,.int y,.int w,.int h,.int way,.int (min w h/2),.lst true [.int a,.int b,.int c',.int d],.lst true (ps.map ptP),z9,z10]) ?_ ?_
 ·nofun;refine aJ (λg=>?_) (λg=>?_)
  ·nofun;refine⟨x,y,w,h,way,rfl,⟨x0,x1⟩,⟨y0,y1⟩,w0,w1,h0,h1,λps' g1 g2 g3 g4=>?_⟩;nofun;exact⟨ps',_,_,g1,g2,g3,g4,rfl⟩
  nofun;exact⟨ps,_,_,p0,by lia,pb,pg,rfl⟩
 clear pb pl p0 pg ps;rintro _ ⟨ps,z9,z10,p0,pl,pb,pg,rfl⟩;refine iN (λenv=>∃(ps:List Pt) (z9 z10:T),0<ps.length/\ps.length<=12/\bdL 50 ps/\Gdo ps/\env=[stT c2 n2,.int x,.int y,.int w,.int h,.int way,.int (min w h/2),.lst true [.int a,.int b,.int c',.int d],.lst true (ps.map ptP),z9,z10]) ?_ ?_
 ·nofun;refine aJ (λg=>?_) (λg=>?_)
  ·nofun;exact⟨[(x,y),(x+min w h,y),(x,y+min w h)],_,_,Hh _,Ic rfl,E3 bx by_ ⟨by lia,by lia⟩ ⟨by lia,by lia⟩,lZ (Ar (by lia) (by lia)),rfl⟩
  nofun;exact⟨ps,_,_,p0,pl,pb,pg,rfl⟩
 clear pb pl p0 pg ps;rintro _ ⟨ps,z9,z10,p0,pl,pb,pg,rfl⟩;nofun;walk_at "take";intro first c3 a3 b3
 nofun;obtain⟨e1,e2⟩:=Fh (ts:=ps.map ptP) (m:=first) a3 (by rw[a_];exact b3);rw[e1,e2,<-Hu,<-HD,aL,aL,<-p_];have l1:(ps.drop first.toNat++ps.take first.toNat).length=ps.length:=by rw[b_,o_,q_];lia
 have g1:Gdo (ps.drop first.toNat++ps.take first.toNat):=Ah pg (by lia);have m1:bdL 50 (ps.drop first.toNat++ps.take first.toNat):=sF pb λp m=>(C_.mp m).elim HC HQ;refine⟨by rw[a_,a_,o_,q_];lia,by rw[show((ps.drop first.toNat).all λx=>cq (ptP x))=true from bj _,show((ps.take first.toNat).all λx=>cq (ptP x))=true from bj _];rfl,?_⟩;generalize ps.drop first.toNat++ps.take first.toNat=qs at *;refine iN (λenv=>∃(c4:Cells) (qs:List Pt),qs.length=ps.length/\bdL 50 qs/\Gdo qs/\env=[stT c4 (n2+1+1),.int x,.int y,.int w,.int h,.int way,.int (min w h/2),.lst true [.int a,.int b,.int c',.int d],.lst true (qs.map ptP),z9,.int first]) ?_ ?_
 ·nofun;walk_at "take";intro r c4 a4 b4;nofun;refine aJ (λg=>?_) (λg=>?_)
  ·nofun;exact⟨c4,qs.reverse,by rw[x_,l1],sF m1 λp m=>Jz.mp m,Bf g1,by rw[Lf]⟩
  nofun;exact⟨c4,qs,l1,m1,g1,rfl⟩
 rintro _ ⟨c4,qs,l2,m2,g2,rfl⟩;nofun;exact q c4 (n2+1+1) qs (by lia) (by lia) (by lia) (by lia) m2 g2
end
def hZ:FP:=λts k=>∃c n,ts=[stT c n]/\n<2 ^ 38/\∀(c':Cells) (n':Nat) (ps:List Pt),n<=n'->n'<=n+30->0<ps.length->ps.length<=12->bdL 50 ps->Gdo ps->k (.lst true (ps.map ptP)) [stT c' n']
section
variable{P:LV}{w:L0}{K:LN}{mg:Str->Option LM}{base:LZ}
theorem gJ:FnScope ["_law_state","_law_most","_law_x","_law_y"] ["_law_state"] (av eX):=⟨rfl,rfl,rfl,by rfl',rfl,by rfl',by rfl'⟩
theorem kO(F:Fun K "_law_placed_outline" "_law_placed_outline" eX f fd)(TX:Txt mg)  (wl:Cal P w K mg base 2 "_law_outline" ["_law_state","_law_x","_law_y","_law_wide","_law_high"] (aK K 5 qp))(zn:Cal P w K mg base 1 "_law_take" ["_law_state","_law_many"] (aK K 2 iq)):FnOk P w K mg base CX0 3 f fd ["_law_state"] (aK K 1 hZ):=by
 refine bR F gJ [true] rfl (λcdv A outer s H E hr=>?_);have sc:=@gJ;refine⟨_,(ag (ay (i:=1) sc.nd (by rfl) (gV rfl) (by rfl) (ge_if (aP (bo hr) (au zn hr (by rfl) (aH 0 (ai ge_int ar))) ge_int (aA _)) ge_int ge_int)) (ag (lq (i:=2) (j:=3) (by rfl) sc.nd (by rfl) (by rfl) (by decide) (by rfl) (by rfl) (by rfl) (by rfl) (aa (af aD (au zn hr (by rfl) (aH 0 (ai ge_int ar))) ge_int) (aa (af aD (au zn hr (by rfl) (aH 0 (ai ge_int ar))) ge_int) ae)) (by rfl)) (aj (aI (au wl hr (by rfl) (aH 0 (ai (bc 2) (ai (bc 3) (ai (af aq ge_int (au zn hr (by rfl) (aH 0 (ai (bc 1) ar)))) (ai (af aq ge_int (au zn hr (by rfl) (aH 0 (ai (bc 1) ar)))) ar)))))))))),λts kk hl hp=>?_⟩;clear hl;obtain⟨c,n,rfl,hn,q⟩:=hp;nofun;walk_at "take";intro r c1 a1 b1;nofun;refine aJ (λg=>?_) (λg=>?_)
 all_goals
  nofun;walk_at "take";intro x c2 a2 b2;nofun;walk_at "take";intro y c3 a3 b3;nofun;walk_at "take";intro w c4 a4 b4;nofun;walk_at "take";intro h c5 a5 b5;nofun;refine⟨c5,n+1+1+1+1+1,x-8,y-8,5+w,5+h,rfl,by lia,⟨by lia,by lia⟩,⟨by lia,by lia⟩,by lia,by lia,by lia,by lia,λc' n' ps l1 l2 p0 p1 pb pg=>?_⟩;nofun;exact q c' n' ps (by lia) (by lia) p0 p1 pb pg
end
def sC:FP:=λts k=>∃c n,ts=[stT c n]/\n<2 ^ 38/\∀(c':Cells) (n':Nat) (ps:List Pt),n<=n'->n'<=n+30->0<ps.length->ps.length<=30->bdL 50 ps->Gdo ps->k (.lst true (ps.map ptP)) [stT c' n']
section
variable{P:LV}{w:L0}{K:LN}{mg:Str->Option LM}{base:LZ}
theorem pT:FnScope ["_law_state","_law_many","_law_made","_law_turn","_law_x","_law_y"] ["_law_state"] (av nB):=⟨rfl,rfl,rfl,by rfl',rfl,by rfl',by rfl'⟩
theorem wU(F:Fun K "_law_stairs" "_law_stairs" nB f fd)(TX:Txt mg)  (zn:Cal P w K mg base 1 "_law_take" ["_law_state","_law_many"] (aK K 2 iq)):FnOk P w K mg base CX0 2 f fd ["_law_state"] (aK K 1 sC):=by
 refine bR F pT [true] rfl (λcdv A outer s H E hr=>?_);have sc:=@pT;refine⟨_,(ag (ay (i:=1) sc.nd (by rfl) (gV rfl) (by rfl) (af aq ge_int (au zn hr (by rfl) (aH 0 (ai ge_int ar))))) (ag (ay (i:=2) sc.nd (by rfl) (gV rfl) (by rfl) (aE (bQ (aa (aw (aa ge_int (aa ge_int ae))) ae)))) (ag (jQ MY (by rfl) (i4 (by rfl) TX.range (aa (bc 1) ae)) (aB (i:=3) sc.nd (by rfl) (gV rfl) (by rfl)) (ag (oy (aE (az hr (ab 2) (rT ge_int))) (fZ (n:=2) (by rfl) (aF (aB (i:=4) sc.nd (by rfl) (gV rfl) (by rfl)) (aF (aB (i:=5) sc.nd (by rfl) (gV rfl) (by rfl)) eE)))) (ag (ay (i:=2) sc.nd (by rfl) (gV rfl) (by rfl) (af aq (bc 2) (bQ (aa (aw (aa (af aq (aE (af aq (ab 4) ge_int)) (au zn hr (by rfl) (aH 0 (ai ge_int ar)))) (aa (bc 5) ae))) ae)))) (aj (ay (i:=2) sc.nd (by rfl) (gV rfl) (by rfl) (af aq (bc 2) (bQ (aa (aw (aa (aE (az hr (az hr (ab 2) (rT ge_int)) ge_int)) (aa (af aq (aE (af aq (ab 5) ge_int)) (au zn hr (by rfl) (aH 0 (ai ge_int ar)))) ae))) ae)))))))) (aj (aI (aE (af aq (ab 2) (bQ (aa (aw (aa ge_int (aa (az hr (az hr (ab 2) (rT ge_int)) ge_int) ae))) ae))))))))),λts kk hl hp=>?_⟩;clear hl;obtain⟨c,n,rfl,hn,q⟩:=hp;nofun;walk_at "take";intro many c1 a1 b1;nofun;refine⟨by lia,ij (λi env=>∃(c':Cells) (n':Nat) (ps:List Pt) (x y:Int) (z3 z4 z5:T),n<=n'/\n'<=n+1+2*i/\ps.length=2*i/\bdL 50 ps/\Stp (ps++[(x,y)]) (x,y)/\(0<i->0<x/\0<y)/\0<=x/\x<=2*i/\0<=y/\y<=2*i/\env=[stT c' n',.int (2+many),.lst true (ps.map ptP++[ptP (x,y)]),z3,z4,z5]) ⟨c1,n+1,[],0,0,_,_,_,by lia,by lia,rfl,trivial,Fw,(λz=>absurd z (HY 0)),by lia,by lia,by lia,by lia,rfl⟩ ?_ ?_⟩
 ·rintro i t _ ⟨c',n',ps,x,y,z3,z4,z5,l1,l2,lp,pb,sp,sq,x0,x1,y0,y1,rfl⟩ ei;have hi:=lS ei;nofun;refine aN (nN _ _) ?_;nofun;walk_at "take";intro r c2 a2 b2;nofun;refine⟨by simp only[b_,a_,f_,HG];lia,aN (nN _ _) ?_⟩;nofun;walk_at "take";intro r2 c3 a3 b3;nofun;refine⟨by simp only[b_,a_,f_,HG];lia,c3,n'+1+1,ps++[(x,y),(x+1+r,y)],x+1+r,y+1+r2,_,_,_,by lia,by lia,by rw[b_,lp];rfl,mW pb ⟨⟨⟨by dsimp only;lia,by dsimp only;lia⟩,by dsimp only;lia,by dsimp only;lia⟩,⟨⟨by dsimp only;lia,by dsimp only;lia⟩,by dsimp only;lia,by dsimp only;lia⟩,trivial⟩,Dp sp (by omega) (by omega),(λ_=>⟨by lia,by lia⟩),by lia,by lia,by lia,by lia,by simp only[p_,g_,h_,Il,F_,Hx];rfl⟩
 rintro _ ⟨c',n',ps,x,y,z3,z4,z5,l1,l2,lp,pb,sp,sq,x0,x1,y0,y1,rfl⟩;rw[gZ]at l2 lp x1 y1 sq;nofun;refine aN (nN _ _) ?_;nofun;refine⟨by simp only[b_,a_,f_,HG];lia,?_⟩;have e:HS (λx=>ptP x) ps++[ptP (x,y)]++[T.tup [T.int 0,T.int y]]=(ps++[(x,y),(0,y)]).map ptP:=by simp only[p_,g_,h_,Il,F_,Hx];rfl
 rw[e];refine q c' n' _ (by omega) (by lia) ?_ ?_ (mW pb ⟨⟨⟨by dsimp only;lia,by dsimp only;lia⟩,by dsimp only;lia,by dsimp only;lia⟩,⟨⟨by dsimp only;lia,by dsimp only;lia⟩,by dsimp only;lia,by dsimp only;lia⟩,trivial⟩) (Co sp (sq (by lia)).1 (sq (by lia)).2 (by lia) (by lia))
 all_goals simp only[b_,f_,HG];lia
end
def pz:FP:=λts k=>∃(c:Cells) (n:Nat) (o:Bool) (ps:List Pt),ts=[stT c n,.lst o (ps.map ptP)]/\n<2 ^ 38/\0<ps.length/\ps.length<=30/\bdL 50 ps/\Gdo ps/\∀(c':Cells) (n':Nat) (o':Bool) (qs:List Pt) (z:T),n<=n'->n'<=n+100->0<qs.length->qs.length<=30->bdL 50 qs->Gdo qs->k (.lst o' (qs.map ptP)) [stT c' n',z]
section
variable{P:LV}{w:L0}{K:LN}{mg:Str->Option LM}{base:LZ}
theorem ng:FnScope ["_law_state","_law_corners","_law_made","_law_k","_law_corner","_law_other","_law_across","_law_up","_law_many","_law_turn"] ["_law_state","_law_corners"] (av lH):=⟨rfl,rfl,rfl,by rfl',rfl,by rfl',by rfl'⟩
theorem ue(F:Fun K "_law_refined" "_law_refined" lH f fd)(TX:Txt mg)  (zn:Cal P w K mg base 1 "_law_take" ["_law_state","_law_many"] (aK K 2 iq)):FnOk P w K mg base CX0 2 f fd ["_law_state","_law_corners"] (aK K 2 pz):=by
 refine bR F ng [true,true] rfl (λcdv A outer s H E hr=>?_);have sc:=@ng;refine⟨_,(ag (ay (i:=2) sc.nd (by rfl) (gV rfl) (by rfl) (aE (bQ ae))) (ag (jQ MY (by rfl) (kz (by rfl) TX.enumerate (aa (bc 1) ae)) (fZ (n:=2) (by rfl) (aF (aB (i:=3) sc.nd (by rfl) (gV rfl) (by rfl)) (aF (aB (i:=4) sc.nd (by rfl) (gV rfl) (by rfl)) eE))) (ag (gG (i5 2 NK NL jZ (aa (bc 4) ae))) (ag (ay (i:=5) sc.nd (by rfl) (gV rfl) (by rfl) (aE (az hr (ab 1) (af rQ (af aq (ab 3) ge_int) (ax ba (by rfl) TX.len (by rfl') (aa (ab 1) ae)))))) (ag (lq (i:=6) (j:=7) (by rfl) sc.nd (by rfl) (by rfl) (by decide) (by rfl) (by rfl) (by rfl) (by rfl) (aa (aE (af aD (az hr (ab 5) ge_int) (az hr (ab 4) ge_int))) (aa (aE (af aD (az hr (ab 5) ge_int) (az hr (ab 4) ge_int))) ae)) (by rfl)) (ag (ay (i:=8) sc.nd (by rfl) (gV rfl) (by rfl) (aE (ax (gY rfl) (by rfl) TX.max (by rfl') (aa (ax eP (by rfl) TX.abs (by rfl') (aa (ab 6) ae)) (aa (ax eP (by rfl) TX.abs (by rfl') (aa (ab 7) ae)) ae))))) (aj (cT (u6 (uU (g6 (aP CF (ab 8) ge_int (aA _))) (uU (g6 (aP o8 (ax ba (by rfl) TX.len (by rfl') (aa (ab 1) ae)) ge_int (aA _))) (vE (aP (bo hr) (au zn hr (by rfl) (aH 0 (ai ge_int ar))) ge_int (aA _)))))) (ag (ay (i:=9) sc.nd (by rfl) (gV rfl) (by rfl) (af aq ge_int (au zn hr (by rfl) (aH 0 (ai (aE (af aD (ab 8) ge_int)) ar))))) (aj (gG (i5 2 NK NL jZ (aa (aE (aw (aa (af aq (az hr (ab 4) ge_int) (af cY (af gm (ab 6) (ab 8)) (ab 9))) (aa (af aq (az hr (ab 4) ge_int) (af cY (af gm (ab 7) (ab 8)) (ab 9))) ae)))) ae))))) cR))))))) (aj (aI (ge_if (g6 (aP qT (ax ba (by rfl) TX.len (by rfl') (aa (ab 2) ae)) ge_int (aA _))) (pX 2) (bc 1)))))),λts kk hl hp=>?_⟩;clear hl;obtain⟨c,n,o,ps,rfl,hn,l0,l1,hb,hg,q⟩:=hp;nofun;refine ij (λi env=>∃(c':Cells) (n':Nat) (qs:List Pt) (z3 z4 z5 z6 z7 z8 z9:T),n<=n'/\n'<=n+2*i/\i<=qs.length/\qs.length<=2*i/\bdL 50 qs/\(∀k,Rfn (ps.headD (0,0)) (ps.drop i) k->Rfn (ps.headD (0,0)) ps (qs++k))/\env=[stT c' n',.lst false (ps.map ptP),.lst true (qs.map ptP),z3,z4,z5,z6,z7,z8,z9]) ⟨c,n,[],_,_,_,_,_,_,_,e_ _,e_ _,e_ _,e_ _,trivial,(λk g=>g),rfl⟩ ?_ ?_
 ·rintro i t _ ⟨c',n',qs,z3,z4,z5,z6,z7,z8,z9,m1,m2,m3,m4,mb,mr,rfl⟩ ei;obtain⟨p,ep,rfl⟩:=kF rfl ei;have hi:i<ps.length:=(c_.mp ep).1;have ep':=y4 (g:=ptP) (l:=ps) (i:=i) (z:=(0,0)) l0;have mp':ps.getD ((i+1)%ps.length) (0,0)∈ps:=by rw[i_,f' (Hl _ l0)];exact HB _
  obtain⟨rk,rp⟩:=DR hg.s hb ep;unfold far at rp;generalize ps.getD ((i+1)%ps.length) (0,0)=p' at *;have bp:=cb hb (D_ ep);have bp':=cb hb mp';nofun;refine⟨by lia,by lia,aN ep' ?_⟩;obtain⟨⟨u1,u2⟩,u3,u4⟩:=id bp;obtain⟨⟨v1,v2⟩,v3,v4⟩:=id bp';have mb1:bdL 50 (qs++[p]):=mW mb ⟨bp,trivial⟩;have mr1:∀k,Rfn (ps.headD (0,0)) (ps.drop (i+1)) k->Rfn (ps.headD (0,0)) ps ((qs++[p])++k):=λk g=>by rw[g_];exact mr _ (rk k g)
  have skip:∀(c'':Cells) (n'':Nat) (w3 w4 w5 w6 w7 w8 w9:T),n<=n''->n''<=n+2*(i+1)->∃(c':Cells) (n':Nat) (qs':List Pt) (z3 z4 z5 z6 z7 z8 z9:T),n<=n'/\n'<=n+2*(i+1)/\i+1<=qs'.length/\qs'.length<=2*(i+1)/\bdL 50 qs'/\(∀k,Rfn (ps.headD (0,0)) (ps.drop (i+1)) k->Rfn (ps.headD (0,0)) ps (qs'++k))/\[stT c'' n'',.lst false (ps.map ptP),.lst true (qs.map ptP++[ptP p]),w3,w4,w5,w6,w7,w8,w9]=[stT c' n',.lst false (ps.map ptP),.lst true (qs'.map ptP),z3,z4,z5,z6,z7,z8,z9]:=λc'' n'' w3 w4 w5 w6 w7 w8 w9 g1 g2=>
   ⟨c'',n'',qs++[p],_,_,_,_,_,_,_,g1,g2,by rw[b_];show i+1<=qs.length+1;lia,by rw[b_];show qs.length+1<=_;lia,mb1,mr1,by rw[p_];rfl⟩
  nofun;refine aJ (λg1=>?_) (λg1=>?_)
  ·nofun;refine aJ (λg2=>?_) (λg2=>?_)
   ·nofun;walk_at "take";intro r c2 a2 b2;nofun;refine aJ (λg3=>?_) (λg3=>?_)
    ·nofun;walk_at "take";intro r2 c3 a3 b3;nofun;obtain⟨b5,r5⟩:=rp (1+r2) (by lia) (by lia);have hm:max ((p'.1-p.1).natAbs:Int) ((p'.2-p.2).natAbs:Int)<=600:=by lia
     generalize max ((p'.1-p.1).natAbs:Int) ((p'.2-p.2).natAbs:Int)=m at *;have w1:=BB (a:=p'.1-p.1) (b:=m) (c:=1+r2) ⟨by lia,by lia⟩ ⟨by lia,by lia⟩ (by lia);have w2:=BB (a:=p'.2-p.2) (b:=m) (c:=1+r2) ⟨by lia,by lia⟩ ⟨by lia,by lia⟩ (by lia);generalize (p'.1-p.1)/m*(1+r2)=s1 at *;generalize (p'.2-p.2)/m*(1+r2)=s2 at *;obtain⟨w3,w4⟩:=w1;obtain⟨w5,w6⟩:=w2;refine⟨⟨by lia,by lia⟩,.inr ⟨by lia,by lia⟩,⟨by lia,by lia⟩,.inr ⟨by lia,by lia⟩,by rw[b_,a_];show qs.length+1<_;lia,c3,n'+1+1,qs++[p]++[(p.1+s1,p.2+s2)],_,_,_,_,_,_,_,by lia,by lia,by rw[b_,b_];show i+1<=qs.length+1+1;lia,by rw[b_,b_];show qs.length+1+1<=_;lia,mW mb1 ⟨b5,trivial⟩,(λk g=>by rw[g_,g_];exact mr _ (r5 k g)),by rw[p_,p_];rfl⟩
    nofun;exact skip c2 (n'+1) _ _ _ _ _ _ _ (by lia) (by lia)
   nofun;exact skip c' n' _ _ _ _ _ _ _ (by omega) (by lia)
  nofun;exact skip c' n' _ _ _ _ _ _ _ (by omega) (by lia)
 rintro _ ⟨c',n',qs,z3,z4,z5,z6,z7,z8,z9,m1,m2,m3,m4,mb,mr,rfl⟩;rw[gv rfl]at m2 m3 m4 mr;have rf:=mr [] (by rw[Le];exact Rfn.nil);rw[Hn]at rf;nofun;refine aJ (λg1=>?_) (λg1=>?_)
 ·nofun;exact q c' n' true qs _ (by omega) (by lia) (by lia) (by lia) mb ⟨Bj hg.s rf,by rw[Ay hg.s rf];exact hg.n⟩
 nofun;exact q c' n' false ps _ (by omega) (by lia) l0 (by omega) hb hg
end
def jv:FP:=λts k=>∃c n,ts=[stT c n]/\n<2 ^ 37/\∀(c':Cells) (n':Nat) (o:Bool) (ps:List Pt),n<=n'->n'<=n+200->0<ps.length->ps.length<=30->bdL 50 ps->Gdo ps->k (.lst o (ps.map ptP)) [stT c' n']
section
variable{P:LV}{w:L0}{K:LN}{mg:Str->Option LM}{base:LZ}
theorem iP:FnScope ["_law_state","_law_way","_law_corners"] ["_law_state"] (av gQ):=⟨rfl,rfl,rfl,by rfl',rfl,by rfl',by rfl'⟩
theorem og(F:Fun K "_law_any_outline" "_law_any_outline" gQ f fd)(TX:Txt mg)  (zn:Cal P w K mg base 1 "_law_take" ["_law_state","_law_many"] (aK K 2 iq))(wn:Cal P w K mg base 3 "_law_placed_outline" ["_law_state"] (aK K 1 hZ))(ww:Cal P w K mg base 2 "_law_refined" ["_law_state","_law_corners"] (aK K 2 pz))(wT:Cal P w K mg base 2 "_law_stairs" ["_law_state"] (aK K 1 sC)):FnOk P w K mg base CX0 4 f fd ["_law_state"] (aK K 1 jv):=by
 refine bR F iP [true] rfl (λcdv A outer s H E hr=>?_);have sc:=@iP;refine⟨_,(ag (ay (i:=1) sc.nd (by rfl) (gV rfl) (by rfl) (au zn hr (by rfl) (aH 0 (ai ge_int ar)))) (gM (ay (i:=2) sc.nd (by rfl) (gV rfl) (by rfl) (ge_if (g6 (aP (bo hr) (ab 1) ge_int (aA _))) (au wT hr (by rfl) (aH 0 ar)) (au wn hr (by rfl) (aH 0 ar)))) (aj (aI (ge_if (g6 (aP o8 (ab 1) ge_int (aA _))) (au ww hr (by rfl) (aH 0 (ai (pX 2) ar))) (pX 2)))))),λts kk hl hp=>?_⟩;clear hl;obtain⟨c,n,rfl,hn,q⟩:=hp;nofun;walk_at "take";intro way c1 a1 b1;nofun;refine iN (λenv=>∃(c2:Cells) (n2:Nat) (ps:List Pt),n<=n2/\n2<=n+50/\0<ps.length/\ps.length<=30/\bdL 50 ps/\Gdo ps/\env=[stT c2 n2,.int way,.lst true (ps.map ptP)]) ?_ ?_
 ·nofun;refine aJ (λg=>?_) (λg=>?_)
  ·nofun;refine⟨c1,n+1,rfl,by lia,λc' n' ps l1 l2 p0 p1 pb pg=>?_⟩;nofun;exact⟨c',n',ps,by lia,by lia,p0,p1,pb,pg,rfl⟩
  nofun;refine⟨c1,n+1,rfl,by lia,λc' n' ps l1 l2 p0 p1 pb pg=>?_⟩;nofun;exact⟨c',n',ps,by lia,by lia,p0,by lia,pb,pg,rfl⟩
 rintro _ ⟨c2,n2,ps,l1,l2,p0,p1,pb,pg,rfl⟩;nofun;refine aJ (λg=>?_) (λg=>?_)
 ·nofun;refine⟨c2,n2,true,ps,rfl,by lia,p0,p1,pb,pg,λc' n' o qs z m1 m2 m3 m4 m5 m6=>?_⟩;nofun;exact q c' n' o qs (by lia) (by lia) m3 m4 m5 m6
 nofun;exact q c2 n2 true ps (by omega) (by lia) p0 (by omega) pb pg
end
def sY:FP:=λts k=>∃(o:Bool) (ps:List Pt),ts=[.lst o (ps.map ptP)]/\0<ps.length/\ps.length<=40/\bdL 60 ps/\npt ps<1000/\∀z,k (if gF (ah ps)then .lst true (((ah ps).flatMap aM).map ptP)else .non) [z]
section
variable{P:LV}{w:L0}{K:LN}{mg:Str->Option LM}{base:LZ}
theorem pV:FnScope ["_law_corners","_law_found","_law_k","_law_corner","_law_other","_law_across","_law_up","_law_many","_law_turn","_law_x","_law_y"] ["_law_corners"] (av n9):=⟨rfl,rfl,rfl,by rfl',rfl,by rfl',by rfl'⟩
theorem xI(F:Fun K "_law_points" "_law_points" n9 f fd)(TX:Txt mg)  :FnOk P w K mg base CX0 1 f fd ["_law_corners"] (aK K 1 sY):=by
 refine bR F pV [true] rfl (λcdv A outer s H E hr=>?_);have sc:=@pV;refine⟨_,(ag (ay (i:=1) sc.nd (by rfl) (gV rfl) (by rfl) (aE (bQ ae))) (ag (jQ MY (by rfl) (kz (by rfl) TX.enumerate (aa (bc 0) ae)) (fZ (n:=2) (by rfl) (aF (aB (i:=2) sc.nd (by rfl) (gV rfl) (by rfl)) (aF (aB (i:=3) sc.nd (by rfl) (gV rfl) (by rfl)) eE))) (ag (ay (i:=4) sc.nd (by rfl) (gV rfl) (by rfl) (aE (az hr (ab 0) (af rQ (af aq (ab 2) ge_int) (ax ba (by rfl) TX.len (by rfl') (aa (ab 0) ae)))))) (ag (lq (i:=5) (j:=6) (by rfl) sc.nd (by rfl) (by rfl) (by decide) (by rfl) (by rfl) (by rfl) (by rfl) (aa (aE (af aD (az hr (ab 4) ge_int) (az hr (ab 3) ge_int))) (aa (aE (af aD (az hr (ab 4) ge_int) (az hr (ab 3) ge_int))) ae)) (by rfl)) (ag (ay (i:=7) sc.nd (by rfl) (gV rfl) (by rfl) (aE (ax (gY rfl) (by rfl) TX.max (by rfl') (aa (ax eP (by rfl) TX.abs (by rfl') (aa (ab 5) ae)) (aa (ax eP (by rfl) TX.abs (by rfl') (aa (ab 6) ae)) ae))))) (ag (cT (g6 (u6 (pY (aP (bo hr) (ab 7) ge_int (aA _)) (nG (u6 (uU (aP (qx hr) (af cY (ab 5) (ab 6)) ge_int (aA _)) (vE (aP (qx hr) (ax eP (by rfl) TX.abs (by rfl') (aa (ab 5) ae)) (ax eP (by rfl) TX.abs (by rfl') (aa (ab 6) ae)) (aA _))))))))) (aj (aI nQ)) cR) (aj (jQ MY (by rfl) (i4 (by rfl) TX.range (aa (aE (af cY ge_int (ab 7))) ae)) (aB (i:=8) sc.nd (by rfl) (gV rfl) (by rfl)) (ag (lq (i:=9) (j:=10) (by rfl) sc.nd (by rfl) (by rfl) (by decide) (by rfl) (by rfl) (by rfl) (by rfl) (aa (aE (af cY (af gm (ab 5) (ab 7)) (ab 8))) (aa (aE (af cY (af gm (ab 6) (ab 7)) (ab 8))) ae)) (by rfl)) (aj (gG (i5 1 NK NL jZ (aa (aE (aw (aa (af aq (af cY ge_int (az hr (ab 3) ge_int)) (ab 9)) (aa (af aq (af cY ge_int (az hr (ab 3) ge_int)) (ab 10)) ae)))) ae)))))))))))) (aj (aI (pX 1))))),λts kk hl hp=>?_⟩;clear hl;obtain⟨o,ps,rfl,l0,l1,hb,hn,q⟩:=hp;nofun;refine ij (λi env=>gF ((ah ps).take i)=true/\∃z2 z3 z4 z5 z6 z7 z8 z9 z10:T,env=[.lst false (ps.map ptP),.lst true ((((ah ps).take i).flatMap aM).map ptP),z2,z3,z4,z5,z6,z7,z8,z9,z10]) ⟨rfl,_,_,_,_,_,_,_,_,_,rfl⟩ ?_ ?_
 ·rintro i t _ ⟨hg,z2,z3,z4,z5,z6,z7,z8,z9,z10,rfl⟩ ei;obtain⟨p,ep,rfl⟩:=kF rfl ei;have hi:i<ps.length:=(c_.mp ep).1;have ep':=y4 (g:=ptP) (l:=ps) (i:=i) (z:=(0,0)) l0;have mp':ps.getD ((i+1)%ps.length) (0,0)∈ps:=by rw[i_,f' (Hl _ l0)];exact HB _
  have ee:=eO (z:=(0,0)) hi;rw[show ps.getD i (0,0)=p by rw[i_,ep];rfl]at ee;generalize ps.getD ((i+1)%ps.length) (0,0)=p' at *;obtain⟨⟨u1,u2⟩,u3,u4⟩:=cb hb (D_ ep);obtain⟨⟨v1,v2⟩,v3,v4⟩:=cb hb mp';have le:=zA (p:=p) (q:=p');have no:(lead p p').isSome=false->kk .non [.lst false (ps.map ptP)]:=λz=>by
   have:gF (ah ps)=false:=by unfold gF;rw[List.all_eq_false];exact⟨_,D_ ee,by rw[z];exact B_⟩
   have q:=q (.lst false (ps.map ptP));rw[this,if_neg B_]at q;exact q
  unfold far at le;nofun;refine⟨by lia,aN ep' ?_⟩;nofun;refine aJ (λg1=>?_) (λg1=>?_)
  ·nofun;exact no (by rw[le,decide_eq_true g1];rfl)
  rw[decide_eq_false g1,KO]at le;nofun;refine⟨.inr ⟨by lia,by lia⟩,?_⟩;refine aJ (λg2=>?sa) (λg2=>?sb)
  case' sb=>
   nofun;refine aJ (λg3=>?sc) (λg3=>?sd)
   case sd=>
    nofun;exact no (by rw[le,decide_eq_true g2,decide_eq_true g3];rfl)
   case' sc=>
    nofun;have hs:(lead p p').isSome=true:=by rw[le,decide_eq_false (p:=((p'.1-p.1).natAbs:Int)≠((p'.2-p.2).natAbs:Int)) (λz=>z g3),Ln];rfl
    clear g2 g3;revert hs
  case' sa=>
   nofun;have hs:(lead p p').isSome=true:=by rw[le,decide_eq_false (λz=>z g2),H0];rfl
   clear g2;refine ?sb hs
  intro hs;have g':gF ((ah ps).take (i+1))=true:=by
   unfold gF at hg ⊢;rw[Iv,ee,Km,hg];show(true&&((lead p p').isSome&&true))=true;rw[hs]
   rfl
  have fm:far p p'=max ((p'.1-p.1).natAbs:Int) ((p'.2-p.2).natAbs:Int):=rfl;clear le no hs;generalize max ((p'.1-p.1).natAbs:Int) ((p'.2-p.2).natAbs:Int)=m at *;have hz:=yy (ps:=ps) i;have hm:0<=m/\m<=120:=by rw[<-fm];unfold far;lia
  have st:((ah ps).take (i+1)).flatMap aM=((ah ps).take i).flatMap aM++(r_ (2*m).toNat).map (λ(t:Nat)=>((2*p.1+(p'.1-p.1)/m*(t:Int),2*p.2+(p'.2-p.2)/m*(t:Int)):Pt)):=by rw[Iv,ee,HF];show _++(aM (p,p')++[])=_;rw[Hn];unfold aM;dsimp only;rw[fm]
  generalize ((ah ps).take i).flatMap aM=ac at *;refine⟨.inl ⟨by decide,by decide⟩,⟨by lia,by lia⟩,ij (λj env=>∃z8 z9 z10:T,env=[.lst false (ps.map ptP),.lst true ((ac++(r_ j).map (λ(t:Nat)=>((2*p.1+(p'.1-p.1)/m*(t:Int),2*p.2+(p'.2-p.2)/m*(t:Int)):Pt))).map ptP),.int (i:Int),ptP p,ptP p',.int (p'.1-p.1),.int (p'.2-p.2),.int m,z8,z9,z10]) ⟨_,_,_,by rw[List.range_zero,Il,Hn]⟩ ?_ ?_⟩
  ·rintro j t _ ⟨z8,z9,z10,rfl⟩ ej;have hj:=lS ej;have et:=yJ ej;subst et;nofun;have w1:=BB (a:=p'.1-p.1) (b:=m) (c:=(j:Int)) ⟨by lia,by lia⟩ ⟨by lia,by lia⟩ (by lia);have w2:=BB (a:=p'.2-p.2) (b:=m) (c:=(j:Int)) ⟨by lia,by lia⟩ ⟨by lia,by lia⟩ (by lia);rw[K4];obtain⟨w3,w4⟩:=w1;obtain⟨w5,w6⟩:=w2;refine⟨⟨by lia,by lia⟩,.inr ⟨by lia,by lia⟩,⟨by lia,by lia⟩,.inr ⟨by lia,by lia⟩,.inl ⟨by decide,by decide⟩,.inl ⟨by decide,by decide⟩,by rw[b_,a_,D'];lia,.int (j:Int),.int ((p'.1-p.1)/m*(j:Int)),.int ((p'.2-p.2)/m*(j:Int)),?_⟩;rw[JK,p_ (l₂:=[j]),<-g_,p_ (l₁:=ac++_)]
   rfl
  rintro _ ⟨z8,z9,z10,rfl⟩;rw[gZ];exact⟨g',.int (i:Int),ptP p,ptP p',.int (p'.1-p.1),.int (p'.2-p.2),.int m,z8,z9,z10,congrArg (λl=>[T.lst false (ps.map ptP),.lst true (l.map ptP),.int (i:Int),ptP p,ptP p',.int (p'.1-p.1),.int (p'.2-p.2),.int m,z8,z9,z10]) st.symm⟩
 rintro _ ⟨hg,z2,z3,z4,z5,z6,z7,z8,z9,z10,rfl⟩;rw[gv rfl,<-eU,Hd]at *;have q:=q (.lst false (ps.map ptP));rw[if_pos hg]at q;nofun;exact q
end
def jz:FP:=λts k=>∃(o:Bool) (ps:List Pt),ts=[.lst o (ps.map ptP)]/\0<ps.length/\ps.length<=40/\bdL 60 ps/\npt ps<1000/\∀z,k (.bl (jt ps)) [z]
section
variable{P:LV}{w:L0}{K:LN}{mg:Str->Option LM}{base:LZ}
theorem iR:FnScope ["_law_corners","_law_points_here"] ["_law_corners"] (av gO):=⟨rfl,rfl,rfl,by rfl',rfl,by rfl',by rfl'⟩
theorem nk(F:Fun K "_law_is_outline" "_law_is_outline" gO f fd)(TX:Txt mg)  (wp:Cal P w K mg base 1 "_law_points" ["_law_corners"] (aK K 1 sY)):FnOk P w K mg base CX0 2 f fd ["_law_corners"] (aK K 1 jz):=by
 refine bR F iR [true] rfl (λcdv A outer s H E hr=>?_);have sc:=@iR;refine⟨_,(ag (cT (g6 (aP o8 (ax ba (by rfl) TX.len (by rfl') (aa (ab 0) ae)) ge_int (aA _))) (aj (aI gI)) cR) (ag (ay (i:=1) sc.nd (by rfl) (gV rfl) (by rfl) (aE (au wp hr (by rfl) (ai (ab 0) ar)))) (aj (aI (aE (gj (fA sJ (ab 1) nQ (aA _)) (k6 (fA (bo hr) (uQ hr (by rfl) (by rfl) TX.len (by rfl) TX.set (ab 1)) (ax ba (by rfl) TX.len (by rfl') (aa (ab 1) ae)) (aA _))))))))),λts kk hl hp=>?_⟩;clear hl;obtain⟨o,ps,rfl,l0,l1,hb,hn,q⟩:=hp;nofun;refine aJ (λh=>?_) (λh=>?_)
 ·nofun;have e:jt ps=false:=by
   unfold jt;rw[decide_eq_false (by lia)]
   rfl
  rw[<-e];exact q _
 nofun;refine⟨false,ps,rfl,l0,l1,hb,hn,λz=>?_⟩;have q:=q (.lst o (ps.map ptP));unfold jt at q;rw[decide_eq_true (by lia),Hb]at q;cases hg:gF (ah ps)with
 |false=>
  rw[hg]at q;rw[if_neg B_];nofun;exact q
 |true=>
  rw[hg,Hb]at q;rw[if_pos rfl];nofun;rw[Ey];refine aN z0 ⟨by rw[a_];exact hn,?_⟩;nofun;rw[<-show decide ((ah ps).flatMap aM).Nodup=decide (((ddL (((ah ps).flatMap aM).map xk)).length:Int)=((ah ps).flatMap aM).length)from decide_eq_decide.mpr (by rw[<-Aj,<-DE,a_];lia)]
  exact q
end
def nC:FP:=λts k=>∃(c:Cells) (n:Nat) (o:Bool) (ps:List Pt),ts=[stT c n,.lst o (ps.map ptP)]/\n<2 ^ 37/\ps.length<=40/\∀(c':Cells) (n':Nat) (u:Bool) (fs:List Fp) z,n<=n'->n'<=n+50->fs.map (·.2)=ps->k (hdT u fs) [stT c' n',z]
section
variable{P:LV}{w:L0}{K:LN}{mg:Str->Option LM}{base:LZ}
theorem mB:FnScope ["_law_state","_law_corners","_law_some"] ["_law_state","_law_corners"] (av jV):=⟨rfl,rfl,rfl,by rfl',rfl,by rfl',by rfl'⟩
theorem sN(F:Fun K "_law_as_lists" "_law_as_lists" jV f fd)(TX:Txt mg)  (zn:Cal P w K mg base 1 "_law_take" ["_law_state","_law_many"] (aK K 2 iq)):FnOk P w K mg base CX0 2 f fd ["_law_state","_law_corners"] (aK K 2 nC):=by
 refine bR F mB [true,true] rfl (λcdv A outer s H E hr=>?_);have sc:=@mB;have nd1:(["_law_corner","_law_state"]:List Str).Nodup:=by rfl'
 refine⟨_,(ag (ve sc (i:=2) ["_law_corner","_law_state"] [none,some 0] nd1 (by rfl') (by rfl) (gV rfl) (by rfl) (gP (bc 1)) (λ_ _ _=>(aB (i:=0) nd1 (by rfl) (gV rfl) (by rfl) (hf:=(t_ rfl)))) (λ_ _ _=>dR) (λ_ _ _=>(az hr (bQ (aa (bc 0) (aa (aE (eY nu (by rfl) TX.list (by rfl') (aa (ab 0) ae))) ae))) (au zn hr (by rfl) (aH 1 (ai ge_int ar))))) (by rfl)) (aj (aI (az hr (bQ (aa (bc 2) (aa (eY fj (by rfl) TX.tuple (by rfl') (aa (bc 2) ae)) ae))) (au zn hr (by rfl) (aH 0 (ai ge_int ar))))))),λts kk hl hp=>?_⟩;clear hl;obtain⟨c,n,o,ps,rfl,hn,hl,q⟩:=hp;nofun;refine cE (by rw[a_,Mt];lia) (λi acc ie=>∃(c':Cells) (n':Nat) (fs:List Fp) (z1:T),n<=n'/\n'<=n+i/\fs.map (·.2)=ps.take i/\acc=fs.map fqT/\ie=[z1,stT c' n']) ⟨c,n,[],_,e_ _,e_ _,rfl,rfl,rfl⟩ ?_ ?_
 ·rintro i t _ _ ⟨c',n',fs,z1,m1,m2,ef,rfl,rfl⟩ ei;obtain⟨p,ep,rfl⟩:=gS ei;have hi:i<ps.length:=(c_.mp ep).1;nofun;walk_at "take";intro r c2 a2 b2;nofun;obtain⟨b,eb⟩:=Bt (p:=p) a2 b2;refine aN eb ?_;nofun;exact⟨c2,n'+1,fs++[(b,p)],_,by lia,by lia,by rw[p_,ef,Iv,ep];rfl,by rw[p_];rfl,rfl⟩
 rintro _ _ ⟨c',n',fs,z1,m1,m2,ef,rfl,rfl⟩;rw[a_]at ef m2;rw[Hd]at ef;nofun;walk_at "take";intro r c2 a2 b2;nofun;obtain⟨b,eb⟩:=By (fs:=fs) a2 b2;refine aN eb ?_;nofun;exact q c2 (n'+1) b fs _ (by lia) (by lia) ef
end
def yc:FP:=λts k=>∃(c:Cells) (n:Nat) (o:Bool) (ps:List Pt),ts=[stT c n,.lst o (ps.map ptP)]/\n<2 ^ 37/\ps.length<=30/\bdL 50 ps/\Gdo ps/\∀(c':Cells) (n':Nat) (u:Bool) (qs:List Pt) z,n<=n'->n'<=n+50->Bnt ps qs->k (.lst u (qs.map ptP)) [stT c' n',z]
section
variable{P:LV}{w:L0}{K:LN}{mg:Str->Option LM}{base:LZ}
theorem vG:FnScope ["_law_state","_law_corners","_law_at","_law_to","_law_x","_law_y","_law_way","_law_step","_law_more"] ["_law_state","_law_corners"] (av uG):=⟨rfl,rfl,rfl,by rfl',rfl,by rfl',by rfl'⟩
theorem BC(F:Fun K "_law_bent" "_law_bent" uG f fd)(TX:Txt mg)  (zn:Cal P w K mg base 1 "_law_take" ["_law_state","_law_many"] (aK K 2 iq)):FnOk P w K mg base CX0 2 f fd ["_law_state","_law_corners"] (aK K 2 yc):=by
 refine bR F vG [true,false] rfl (λcdv A outer s H E hr=>?_);have sc:=@vG;refine⟨_,(ag (ay (i:=1) sc.nd (by rfl) (gV rfl) (by rfl) (aE (eY nu (by rfl) TX.list (by rfl') (aa (ab 1) ae)))) (ag (ay (i:=2) sc.nd (by rfl) (gV rfl) (by rfl) (au zn hr (by rfl) (aH 0 (ai (aE (ax ba (by rfl) TX.len (by rfl') (aa (ab 1) ae))) ar)))) (ag (ay (i:=3) sc.nd (by rfl) (gV rfl) (by rfl) (au zn hr (by rfl) (aH 0 (ai (aE (ax ba (by rfl) TX.len (by rfl') (aa (ab 1) ae))) ar)))) (ag (oy (aE (az hr (ab 1) (ab 2))) (fZ (n:=2) (by rfl) (aF (aB (i:=4) sc.nd (by rfl) (gV rfl) (by rfl)) (aF (aB (i:=5) sc.nd (by rfl) (gV rfl) (by rfl)) eE)))) (ag (ay (i:=6) sc.nd (by rfl) (gV rfl) (by rfl) (au zn hr (by rfl) (aH 0 (ai ge_int ar)))) (gM (cT (g6 (aP (bo hr) (ab 6) ge_int (aA _))) (aj (oy (aE (aw (aa (az hr (ab 1) (ab 3)) (aa (az hr (ab 1) (ab 2)) ae)))) (fZ (n:=2) (by rfl) (aF (uB (i:=1) hr (bc 2)) (aF (uB (i:=1) hr (bc 3)) eE))))) (aj (cT (g6 (aP (bo hr) (ab 6) ge_int (aA _))) (aj (oy (aw (aa (af aD (af aq (bc 4) (au zn hr (by rfl) (aH 0 (ai ge_int ar)))) ge_int) (aa (af aD (af aq (bc 5) (au zn hr (by rfl) (aH 0 (ai ge_int ar)))) ge_int) ae))) (uB (i:=1) hr (bc 2)))) (aj (cT (g6 (aP (bo hr) (ab 6) ge_int (aA _))) (aj (gG (i5 1 NM NN jU (aa (bc 3) (aa (aE (az hr (ab 1) (ab 2))) ae))))) (aj (cT (g6 (aP (bo hr) (ab 6) ge_int (aA _))) (aj (gG (i5 1 PySem.F.slot_list_pop PySem.F.type_list_pop wQ (aa (bc 2) ae)))) (aj (cT (g6 (aP (bo hr) (ab 6) ge_int (aA _))) (ag (ay (i:=7) sc.nd (by rfl) (gV rfl) (by rfl) (af aD (au zn hr (by rfl) (aH 0 (ai ge_int ar))) ge_int)) (aj (gG (i5 1 NM NN jU (aa (aE (af aq (ab 2) ge_int)) (aa (aw (aa (aE (af aq (ab 4) (ab 7))) (aa (af aq (bc 5) (az hr (aE (bQ (aa ge_int (aa (rT ge_int) ae)))) (au zn hr (by rfl) (aH 0 (ai ge_int ar))))) ae))) ae)))))) (aj (cT (g6 (aP (bo hr) (ab 6) ge_int (aA _))) (aj (gG (i5 1 NM NN jU (aa (bc 3) (aa (aw (aa (af aD (af aq (bc 4) (au zn hr (by rfl) (aH 0 (ai ge_int ar)))) ge_int) (aa (af aD (af aq (bc 5) (au zn hr (by rfl) (aH 0 (ai ge_int ar)))) ge_int) ae))) ae))))) (aj (cT (g6 (aP (bo hr) (ab 6) ge_int (aA _))) (ag (ay (i:=8) sc.nd (by rfl) (gV rfl) (by rfl) (af aq ge_int (au zn hr (by rfl) (aH 0 (ai ge_int ar))))) (aj (ay (i:=1) sc.nd (by rfl) (gV rfl) (by rfl) (aE (af aq (af aq (cA (ab 1) eR (cZ (af aq (ab 2) ge_int))) (bQ (aa (aw (aa (af aq (ab 4) (ab 8)) (aa (af aD (ab 5) (ab 8)) ae))) (aa (aw (aa (ab 4) (aa (ab 5) ae))) ae)))) (cA (ab 1) (cZ (af aq (ab 2) ge_int)) eR)))))) (aj (ay (i:=1) sc.nd (by rfl) (gV rfl) (by rfl) (aE (af aq (cA (ab 1) eR (cZ (ab 2))) (u7 (by rfl) (by rfl) TX.list (by rfl) TX.reversed (cA (ab 1) (cZ (ab 2)) eR))))))))))))))))))) (aj (aI (pX 1))))))))),λts kk hl hp=>?_⟩;clear hl;obtain⟨c,n,o,ps,rfl,hn,hl,hb,hg,q⟩:=hp;have l3:=hg.s.len;nofun;walk_at "take";intro a c1 a1 b1;obtain⟨a,rfl⟩:=Jp a1;nofun;walk_at "take";intro b c2 a2 b2;obtain⟨b,rfl⟩:=Jp a2;have la:a<ps.length:=by lia
 have lb:b<ps.length:=by lia
 obtain⟨p,ep⟩:∃p,ps[a]?=some p:=⟨_,f' la⟩;nofun;refine aN (iy (by rw[y_,ep];rfl)) ?_;nofun;walk_at "take";intro w c3 a3 b3;have n0:=hg.n;have mp:p∈ps:=D_ ep;obtain⟨q',eq'⟩:∃q,ps[b]?=some q:=⟨_,f' lb⟩;have mq:=D_ eq';have atp:atI (ps.map ptP) (a:Int)=some (ptP p):=iy (by rw[y_,ep];rfl);have atq:atI (ps.map ptP) (b:Int)=some (ptP q'):=iy (by rw[y_,eq'];rfl);nofun;refine iN (λenv=>∃(c':Cells) (n':Nat) (u:Bool) (qs:List Pt) (z2 z3 z4 z5 z6 z7 z8:T),n<=n'/\n'<=n+50/\Bnt ps qs/\env=[stT c' n',.lst u (qs.map ptP),z2,z3,z4,z5,z6,z7,z8]) ?_ ?_
 ·nofun;refine aJ (λg=>?_) (λg=>?_)
  ·nofun;refine aN atq ?_;nofun;refine aN atp ?_;nofun;refine aN (qR la) ?_;nofun;refine aN (qR (by rw[F',a_];exact lb)) ?_;nofun;exact⟨c3,n+1+1+1,true,(ps.set a q').set b p,_,_,_,_,_,_,_,by lia,by lia,zr n0 la lb mp mq,by rw[Kf,Kf]⟩
  nofun;refine aJ (λg=>?_) (λg=>?_)
  ·nofun;walk_at "take";intro d c4 a4 b4;nofun;walk_at "take";intro e c5 a5 b5;nofun;refine aN (qR la) ?_;nofun;exact⟨c5,n+1+1+1+1+1,true,ps.set a (p.1+d-2,p.2+e-2),_,_,_,_,_,_,_,by lia,by lia,AA n0 la mp (by unfold fr far;dsimp only;lia),by rw[Kf];rfl⟩
  nofun;refine aJ (λg=>?_) (λg=>?_)
  ·nofun;refine aN atp ?_;nofun;rw[HR,<-HD,<-Hu];exact⟨⟨by omega,by lia,by lia⟩,c3,n+1+1+1,true,ps.take b++p::ps.drop b,_,_,_,_,_,_,_,by lia,by lia,rO n0 (A' b ps).symm mp Ao,by rw[p_,h_]⟩
  nofun;refine aJ (λg=>?_) (λg=>?_)
  ·nofun;refine⟨⟨by omega,by lia⟩,aN (by rw[HR,y_,ep];rfl) ?_⟩;nofun;rw[HR,List.eraseIdx_eq_take_drop_succ,<-HD,<-Hu];exact⟨c3,n+1+1+1,true,ps.take a++ps.drop (a+1),_,_,_,_,_,_,_,by lia,by lia,AS n0 la (by lia),by rw[p_]⟩
  nofun;refine aJ (λg=>?_) (λg=>?_)
  ·nofun;walk_at "take";intro d c4 a4 b4;nofun;walk_at "take";intro e c5 a5 b5;nofun;obtain⟨v,ev,v0,v1⟩:=qf (λv=>-1<=v/\v<=1) (ns:=[1,-1]) (i:=e) (by omega) (by show e<2;omega) (by intro v hv;simp only[m_,He,or_false]at hv;lia)
   refine aN ev ?_;nofun;rw[show((a:Int)+1).toNat=a+1 by lia,<-HD,<-Hu];exact⟨⟨by lia,by lia,by lia⟩,c5,n+1+1+1+1+1,true,ps.take (a+1)++(p.1+(d-1),p.2+v)::ps.drop (a+1),_,_,_,_,_,_,_,by lia,by lia,rO n0 (A' (a+1) ps).symm mp (by unfold fr far;dsimp only;omega),by rw[p_,h_];rfl⟩
  nofun;refine aJ (λg=>?_) (λg=>?_)
  ·nofun;walk_at "take";intro d c4 a4 b4;nofun;walk_at "take";intro e c5 a5 b5;nofun;rw[HR,<-HD,<-Hu];exact⟨⟨by omega,by lia,by lia⟩,c5,n+1+1+1+1+1,true,ps.take b++(p.1+d-4,p.2+e-4)::ps.drop b,_,_,_,_,_,_,_,by lia,by lia,rO n0 (A' b ps).symm mp (by unfold fr far;dsimp only;lia),by rw[p_,h_];rfl⟩
  nofun;refine aJ (λg=>?_) (λg=>?_)
  ·nofun;walk_at "take";intro d c4 a4 b4;nofun;have e1:(a:Int)+1=((a+1:Nat):Int):=rfl;rw[e1,AK,Ag (by rw[a_];lia),<-HD,<-Hu,aL,aL];exact⟨by rw[a_,q_];lia,by rw[b_,a_,a_,q_,o_];show min (a+1) ps.length+2+_<=_;lia,by rw[show((ps.take (a+1)).all λx=>cq (ptP x))=true from bj _,show((ps.drop (a+1)).all λx=>cq (ptP x))=true from bj _];rfl,c4,n+1+1+1+1,true,ps.take (a+1)++[(p.1+(1+d),p.2-(1+d)),p]++ps.drop (a+1),_,_,_,_,_,_,_,by lia,by lia,yt n0 mp (by unfold fr far;dsimp only;lia),by rw[p_,p_];rfl⟩
  nofun;rw[AK,Ag (by rw[a_];lia),<-HD,<-Hu,<-Lf,aL,aL];exact⟨by rw[a_,a_,x_,q_,o_];lia,by rw[show((ps.take a).all λx=>cq (ptP x))=true from bj _,show(((ps.drop a).reverse).all λx=>cq (ptP x))=true from bj _];rfl,c3,n+1+1+1,true,ps.take a++(ps.drop a).reverse,_,_,_,_,_,_,_,by lia,by lia,Bu n0 (by lia),by rw[p_]⟩
 rintro _ ⟨c',n',u,qs,z2,z3,z4,z5,z6,z7,z8,m1,m2,hB,rfl⟩;nofun;exact q c' n' u qs _ m1 m2 hB
end
def kN:FP:=λts k=>∃(c:Cells) (n:Nat) (o:Bool) (ps:List Pt),ts=[stT c n,.lst o (ps.map ptP)]/\n<2 ^ 37/\0<ps.length/\ps.length<=40/\bdL 60 ps/\npt ps<1000/\∀(c':Cells) (n':Nat) z,n<=n'->n'<=n+50->k (.bl true) [stT c' n',z]
section
variable{P:LV}{w:L0}{K:LN}{mg:Str->Option LM}{base:LZ}
theorem jy:FnScope ["_law_state","_law_corners","_law_handed","_law_kept","_law_found"] ["_law_state","_law_corners"] (av i9):=⟨rfl,rfl,rfl,by rfl',rfl,by rfl',by rfl'⟩
theorem oR(F:Fun K "_law_told_right" "_law_told_right" i9 f fd)(TX:Txt mg)  (tz:Cal P w K mg base 5 "is_outline" ["thing"] (aK K 1 ib))(wf:Cal P w K mg base 2 "_law_is_outline" ["_law_corners"] (aK K 1 jz))(np:Cal P w K mg base 2 "_law_as_lists" ["_law_state","_law_corners"] (aK K 2 nC)):FnOk P w K mg base CX0 6 f fd ["_law_state","_law_corners"] (aK K 2 kN):=by
 refine bR F jy [true,true] rfl (λcdv A outer s H E hr=>?_);have sc:=@jy;have nd1:(["_law_corner"]:List Str).Nodup:=by rfl'
 have nd2:(["_law_corner"]:List Str).Nodup:=by rfl'
 refine⟨_,(ag (ay (i:=2) sc.nd (by rfl) (gV rfl) (by rfl) (au np hr (by rfl) (aH 0 (ai (bc 1) ar)))) (ag (zQ sc (i:=3) ["_law_corner"] [none] nd1 (by rfl') (by rfl) (gV rfl) (by rfl) (gP (ab 2)) (λ_ _ _=>(aB (i:=0) nd1 (by rfl) (gV rfl) (by rfl) (hf:=(t_ rfl)))) (λ_ _ _=>dR) (λ_ _ _=>(eY fj (by rfl) TX.tuple (by rfl') (aa (ab 0) ae))) (by rfl)) (ag (ay (i:=4) sc.nd (by rfl) (gV rfl) (by rfl) (aE (au tz hr (by rfl) (ai (ab 2) ar)))) (ag (cT (g6 (u6 (pY (oH (lG (ax iu (by rfl) TX.isinstance (by rfl') (aa (ab 4) (aa (t6 (n:="bool") (by rfl) TX.bool (by rfl')) ae))))) (nG (aP (qx hr) (ab 4) (au wf hr (by rfl) (ai (ab 1) ar)) (aA _)))))) (aj (aI gI)) cR) (aj (aI (aE (fA (bo hr) (eZ sc ["_law_corner"] [none] nd2 (by rfl') (gP (ab 2)) (λ_ _ _=>(aB (i:=0) nd2 (by rfl) (gV rfl) (by rfl) (hf:=(t_ rfl)))) (λ_ _ _=>dR) (λ_ _ _=>(eY fj (by rfl) TX.tuple (by rfl') (aa (ab 0) ae)))) (ab 3) (aA _))))))))),λts kk hl hp=>?_⟩;clear hl;obtain⟨c,n,o,ps,rfl,hn,l0,l1,hb,hp,q⟩:=hp;nofun;refine⟨c,n,false,ps,rfl,hn,l1,λc' n' u fs z m1 m2 ef=>?_⟩;have lf:fs.length=ps.length:=by rw[<-ef,a_]
 have hs:∀f∈fs,sm f.2:=λf mf=>BV (cb hb (by rw[<-ef];exact List.mem_map_of_mem mf))
 nofun;refine cE (by rw[a_,Mt];lia) (λi acc ie=>∃z,acc=(fs.take i).map (λf=>ptP f.2)/\ie=[z]) ⟨_,rfl,rfl⟩ ?_ ?_
 ·rintro i t _ _ ⟨z,rfl,rfl⟩ ei;obtain⟨f,efi,rfl⟩:=gS ei;nofun;exact⟨_,by rw[map_take efi],rfl⟩
 rintro _ _ ⟨z,rfl,rfl⟩;rw[a_,Hd,Cb,ef];nofun;refine⟨hdT u fs,u,fs,rfl,gx,bW,by lia,hs,λz=>?_⟩;rw[ef];nofun;refine⟨λh=>absurd h (by decide),λ_=>?_⟩;nofun;refine⟨false,ps,rfl,l0,l1,hb,hp,λz=>?_⟩;nofun;refine aJ (λh=>?_) (λh=>absurd rfl h);nofun;refine cE (by rw[a_,Mt];lia) (λi acc ie=>∃z,acc=(fs.take i).map (λf=>ptP f.2)/\ie=[z]) ⟨_,rfl,rfl⟩ ?_ ?_
 ·rintro i t _ _ ⟨z,rfl,rfl⟩ ei;obtain⟨f,efi,rfl⟩:=gS ei;nofun;exact⟨_,by rw[map_take efi],rfl⟩
 rintro _ _ ⟨z,rfl,rfl⟩;rw[a_,Hd,Cb,ef];nofun;refine Cz ?_;nofun;exact q c' n' _ m1 m2
theorem yB:FnScope ["_law_script","_law_state","_law_turn","_law_corners","_law_crossed"] ["_law_script"] (av je):=⟨rfl,rfl,rfl,by rfl',rfl,by rfl',by rfl'⟩
theorem Dz(F:Fun K "law" "law" je f fd)(TX:Txt mg)  (tz:Cal P w K mg base 5 "is_outline" ["thing"] (aK K 1 ib))(nw:Cal P w K mg base 1 "_law_begin" ["_law_script"] (aK K 1 (qX K)))(li:Cal P w K mg base 4 "_law_any_outline" ["_law_state"] (aK K 1 jv))(pc:Cal P w K mg base 2 "_law_bent" ["_law_state","_law_corners"] (aK K 2 yc))(At:Cal P w K mg base 6 "_law_told_right" ["_law_state","_law_corners"] (aK K 2 kN)):FnOk P w K mg base CX0 7 f fd ["_law_script"] (aK K 1 (y6 K)):=by
 refine bR F yB [true] rfl (λcdv A outer s H E hr=>?_);have sc:=@yB;refine⟨_,(@gM _ _ _ _ _ _ (@ay _ _ _ _ _ 1 _ _ sc.nd (by rfl) (gV rfl) (by rfl) (@aE _ _ _ (@au _ _ _ _ _ _ _ _ _ _ _ _ nw hr (by rfl) (@ai _ _ _ _ _ (@ab _ _ 0 _ (by rfl) (by first|exact gV rfl|exact t_ (gV rfl)|exact t_ (t_ rfl)) (by decide) (by decide)) (@ar _) (by rfl)) (by lia) (by decide) (by rfl) (by rfl))) (by rfl) (by first|exact .inl rfl|exact .inr rfl)) (@ag _ _ _ _ _ _ (@jQ _ _ _ _ _ _ _ _ _ MY (by rfl) (@i4 _ _ _ _ _ _ (by rfl) TX.range (@aa _ _ _ _ _ (@ge_int _ _ _ _) (@ae _) (by rfl)) (by rfl)) (@aB _ _ _ 2 _ sc.nd (by rfl) (gV rfl) (by rfl) (by first|exact .inl rfl|exact .inr rfl)) (@ag _ _ _ _ _ _ (@ay _ _ _ _ _ 3 _ _ sc.nd (by rfl) (gV rfl) (by rfl) (@au _ _ _ _ _ _ _ _ _ _ _ _ li hr (by rfl) (@aH _ _ _ 1 _ _ (@ar _) (by rfl) (by first|exact gV rfl|exact t_ (gV rfl)|exact t_ (t_ rfl)) (by decide) (by decide) (by rfl)) (by lia) (by decide) (by rfl) (by rfl)) (by rfl) (by first|exact .inl rfl|exact .inr rfl)) (@ag _ _ _ _ _ _ (@cT _ _ _ _ _ _ _ _ _ (@u6 _ _ _ (@pY _ _ _ _ _ _ _ (@g6 _ _ _ (@aP _ _ _ _ _ _ _ _ oE (@au _ _ _ _ _ _ _ _ _ _ _ _ tz hr (by rfl) (@ai _ _ _ _ _ (@ab _ _ 3 _ (by rfl) (by first|exact gV rfl|exact t_ (gV rfl)|exact t_ (t_ rfl)) (by decide) (by decide)) (@ar _) (by rfl)) (by lia) (by decide) (by rfl) (by rfl)) (@gI _ _ _ _) (aA _))) (@nG _ _ _ _ (@oH _ _ _ _ (@lG _ _ _ (@au _ _ _ _ _ _ _ _ _ _ _ _ At hr (by rfl) (@aH _ _ _ 1 _ _ (@ai _ _ _ _ _ (@bc _ _ 3 _ (by rfl) (by first|exact gV rfl|exact t_ (gV rfl)|exact t_ (t_ rfl)) (by decide) (by decide)) (@ar _) (by rfl)) (by rfl) (by first|exact gV rfl|exact t_ (gV rfl)|exact t_ (t_ rfl)) (by decide) (by decide) (by rfl)) (by lia) (by decide) (by rfl) (by rfl)) (by intro _;rfl)))))) (@aj _ _ _ _ (@aI _ _ _ _ _ (@gI _ _ _ _))) (@cR _ _)) (@aj _ _ _ _ (@cT _ _ _ _ _ _ _ _ _ (@oH _ _ _ _ (@lG _ _ _ (@au _ _ _ _ _ _ _ _ _ _ _ _ At hr (by rfl) (@aH _ _ _ 1 _ _ (@ai _ _ _ _ _ (@au _ _ _ _ _ _ _ _ _ _ _ _ pc hr (by rfl) (@aH _ _ _ 1 _ _ (@aH _ _ _ 3 _ _ (@ar _) (by rfl) (by first|exact gV rfl|exact t_ (gV rfl)|exact t_ (t_ rfl)) (by decide) (by decide) (by rfl)) (by rfl) (by first|exact gV rfl|exact t_ (gV rfl)|exact t_ (t_ rfl)) (by decide) (by decide) (by rfl)) (by lia) (by decide) (by rfl) (by rfl)) (@ar _) (by rfl)) (by rfl) (by first|exact gV rfl|exact t_ (gV rfl)|exact t_ (t_ rfl)) (by decide) (by decide) (by rfl)) (by lia) (by decide) (by rfl) (by rfl)) (by intro _;rfl))) (@aj _ _ _ _ (@aI _ _ _ _ _ (@gI _ _ _ _))) (@cR _ _))))) (by intro _;rfl)) (@ag _ _ _ _ _ _ (@ay _ _ _ _ _ 4 _ _ sc.nd (by rfl) (gV rfl) (by rfl) (@aE _ _ _ (@bQ _ _ _ _ (@aa _ _ _ _ _ (@aw _ _ _ _ _ (@aa _ _ _ _ _ (@ge_int _ _ _ _) (@aa _ _ _ _ _ (@ge_int _ _ _ _) (@ae _) (by rfl)) (by rfl))) (@aa _ _ _ _ _ (@aw _ _ _ _ _ (@aa _ _ _ _ _ (@ge_int _ _ _ _) (@aa _ _ _ _ _ (@ge_int _ _ _ _) (@ae _) (by rfl)) (by rfl))) (@aa _ _ _ _ _ (@aw _ _ _ _ _ (@aa _ _ _ _ _ (@ge_int _ _ _ _) (@aa _ _ _ _ _ (@ge_int _ _ _ _) (@ae _) (by rfl)) (by rfl))) (@aa _ _ _ _ _ (@aw _ _ _ _ _ (@aa _ _ _ _ _ (@ge_int _ _ _ _) (@aa _ _ _ _ _ (@ge_int _ _ _ _) (@ae _) (by rfl)) (by rfl))) (@ae _) (by rfl)) (by rfl)) (by rfl)) (by rfl)))) (by rfl) (by first|exact .inl rfl|exact .inr rfl)) (@ag _ _ _ _ _ _ (@cT _ _ _ _ _ _ _ _ _ (@g6 _ _ _ (@u6 _ _ _ (@pY _ _ _ _ _ _ _ (@aP _ _ _ _ _ _ _ _ oE (@au _ _ _ _ _ _ _ _ _ _ _ _ tz hr (by rfl) (@ai _ _ _ _ _ (@bQ _ _ _ _ (@aa _ _ _ _ _ (@aw _ _ _ _ _ (@aa _ _ _ _ _ (@ge_int _ _ _ _) (@aa _ _ _ _ _ (@ge_int _ _ _ _) (@ae _) (by rfl)) (by rfl))) (@aa _ _ _ _ _ (@aw _ _ _ _ _ (@aa _ _ _ _ _ (@ge_int _ _ _ _) (@aa _ _ _ _ _ (@ge_int _ _ _ _) (@ae _) (by rfl)) (by rfl))) (@aa _ _ _ _ _ (@aw _ _ _ _ _ (@aa _ _ _ _ _ (@ge_int _ _ _ _) (@aa _ _ _ _ _ (@ge_int _ _ _ _) (@ae _) (by rfl)) (by rfl))) (@ae _) (by rfl)) (by rfl)) (by rfl))) (@ar _) (by rfl)) (by lia) (by decide) (by rfl) (by rfl)) (@gI _ _ _ _) (aA _)) (@nG _ _ _ _ (@aP _ _ _ _ _ _ _ _ oE (@au _ _ _ _ _ _ _ _ _ _ _ _ tz hr (by rfl) (@ai _ _ _ _ _ (@bQ _ _ _ _ (@aa _ _ _ _ _ (@aw _ _ _ _ _ (@aa _ _ _ _ _ (@ge_int _ _ _ _) (@aa _ _ _ _ _ (@ge_int _ _ _ _) (@ae _) (by rfl)) (by rfl))) (@aa _ _ _ _ _ (@aw _ _ _ _ _ (@aa _ _ _ _ _ (@ge_int _ _ _ _) (@aa _ _ _ _ _ (@ge_int _ _ _ _) (@ae _) (by rfl)) (by rfl))) (@aa _ _ _ _ _ (@aw _ _ _ _ _ (@aa _ _ _ _ _ (@ge_int _ _ _ _) (@aa _ _ _ _ _ (@ge_int _ _ _ _) (@ae _) (by rfl)) (by rfl))) (@ae _) (by rfl)) (by rfl)) (by rfl))) (@ar _) (by rfl)) (by lia) (by decide) (by rfl) (by rfl)) (@gI _ _ _ _) (aA _)))))) (@aj _ _ _ _ (@aI _ _ _ _ _ (@gI _ _ _ _))) (@cR _ _)) (@aj _ _ _ _ (@aI _ _ _ _ _ (@aE _ _ _ (@gj _ _ _ _ _ _ _ (@fA _ _ _ _ _ _ _ _ rH (@au _ _ _ _ _ _ _ _ _ _ _ _ tz hr (by rfl) (@ai _ _ _ _ _ (@ab _ _ 4 _ (by rfl) (by first|exact gV rfl|exact t_ (gV rfl)|exact t_ (t_ rfl)) (by decide) (by decide)) (@ar _) (by rfl)) (by lia) (by decide) (by rfl) (by rfl)) (@gI _ _ _ _) (aA _)) (@gj _ _ _ _ _ _ _ (@fA _ _ _ _ _ _ _ _ rH (@au _ _ _ _ _ _ _ _ _ _ _ _ tz hr (by rfl) (@ai _ _ _ _ _ (@cA _ _ _ _ _ _ _ _ _ (@ab _ _ 4 _ (by rfl) (by first|exact gV rfl|exact t_ (gV rfl)|exact t_ (t_ rfl)) (by decide) (by decide)) (@eR _) (@cZ _ _ _ (@ge_int _ _ _ _))) (@ar _) (by rfl)) (by lia) (by decide) (by rfl) (by rfl)) (@gI _ _ _ _) (aA _)) (@k6 _ _ _ _ _ (@fA _ _ _ _ _ _ _ _ rH (@au _ _ _ _ _ _ _ _ _ _ _ _ tz hr (by rfl) (@ai _ _ _ _ _ (@cA _ _ _ _ _ _ _ _ _ (@ab _ _ 4 _ (by rfl) (by first|exact gV rfl|exact t_ (gV rfl)|exact t_ (t_ rfl)) (by decide) (by decide)) (@eR _) (@cZ _ _ _ (@ge_int _ _ _ _))) (@ar _) (by rfl)) (by lia) (by decide) (by rfl) (by rfl)) (@gI _ _ _ _) (aA _)))))))))))),λts kk hl hp=>?_⟩;clear hl;obtain⟨t,ns,rfl,hs,hn,q⟩:=hp;refine iN (λenv=>∃z c,env=[z,stT c 0,.any,.any,.any]) ?_ ?_
 ·nofun;obtain⟨e,i⟩:=E2 hs;rw[e];exact⟨i,t,ns,rfl,hs,hn,λc=>⟨yF,_,c,rfl⟩⟩
 rintro _ ⟨z,c,rfl⟩;nofun;refine⟨by decide,ij (λi env=>∃(c:Cells) (n:Nat) (z2 z3 z4:T),n<=400*i/\env=[z,stT c n,z2,z3,z4]) ⟨c,0,_,_,_,by lia,rfl⟩ ?_ ?_⟩
 ·rintro i t _ ⟨c,n,z2,z3,z4,hn,rfl⟩ ei;have hi:i<4:=lS ei;nofun;refine⟨c,n,rfl,by lia,λc1 n1 o ps l1 l2 p0 p1 pb pg=>?_⟩;have p3:=pg.s.len;nofun;rw[Ej];refine⟨_,false,ps.map (Ls false),rfl,gx,bW,by rw[a_];lia,λf mf=>?_,λz=>?_⟩
  ·obtain⟨p,mp,rfl⟩:=Ha.mp mf;exact BV (xN (cb pb mp) (by decide))
  rw[AQ,Be pg.s];nofun;refine⟨λh=>absurd h (by decide),λ_=>?_⟩;nofun;refine⟨c1,n1,false,ps,rfl,by lia,p0,by lia,En pb (by decide),H_ pg.n (by decide),λc2 n2 z m1 m2=>?_⟩;nofun;refine⟨c2,n2,false,ps,rfl,by lia,p1,pb,pg,λc3 n3 u qs z m3 m4 hB=>?_⟩;nofun;refine⟨c3,n3,u,qs,rfl,by lia,hB.len.1,by have:=hB.len.2;lia,DC hB pb,hB.n,λc4 n4 z m5 m6=>?_⟩;nofun;exact⟨c4,n4,_,_,_,by lia,rfl⟩
 rintro _ ⟨c,n,z2,z3,z4,hn,rfl⟩;nofun;refine⟨_,false,[(false,(0,0)),(false,(2,0)),(false,(1,0))],rfl,rfl,rfl,by decide,nX rfl,λz=>?_⟩;rw[show jt ([(false,((0,0):Pt)),(false,(2,0)),(false,(1,0))].map (·.2))=false by rfl'];nofun;refine⟨λh=>absurd h (by decide),λ_=>?_⟩;nofun;refine⟨_,false,[(false,(1,0)),(false,(0,0)),(false,(2,0))],rfl,rfl,rfl,by decide,nX rfl,λz=>?_⟩;rw[show jt ([(false,((1,0):Pt)),(false,(0,0)),(false,(2,0))].map (·.2))=false by rfl'];nofun;refine⟨λh=>absurd h (by decide),λ_=>?_⟩;nofun;refine⟨_,false,[(false,(0,0)),(false,(1,1)),(false,(1,0)),(false,(0,1))],rfl,rfl,rfl,by decide,nX rfl,λz=>?_⟩;rw[show jt ([(false,((0,0):Pt)),(false,(1,1)),(false,(1,0)),(false,(0,1))].map (·.2))=false by rfl'];nofun;refine⟨λ_=>?_,λh=>absurd h (by decide)⟩;nofun;rw[show(3:Int)=((3:Nat):Int)from rfl,Ag (Ic rfl)];refine⟨_,false,[(false,(0,0)),(false,(1,1)),(false,(1,0))],rfl,rfl,rfl,by decide,nX rfl,λz=>?_⟩;rw[show jt ([(false,((0,0):Pt)),(false,(1,1)),(false,(1,0))].map (·.2))=true by rfl'];nofun;refine⟨λ_=>?_,λh=>absurd h (by decide)⟩;nofun;rw[show(2:Int)=((2:Nat):Int)from rfl,Ag (Ic rfl)];refine⟨_,false,[(false,(0,0)),(false,(1,1))],rfl,rfl,rfl,by decide,nX rfl,λz=>?_⟩;rw[show jt ([(false,((0,0):Pt)),(false,(1,1))].map (·.2))=false by rfl'];nofun;exact q _
end
variable {α:Type}
theorem ar0{P:List α->Prop}(h:P []):∀us:List α,us.length=0->P us:=λus e=>by
 cases us with
 |nil=>exact h
 |cons a r=>cases e
theorem ar1{P:List α->Prop}(h:∀a0,P [a0]):∀us:List α,us.length=1->P us:=λus e=>by
 cases us with
 |nil=>cases e
 |cons a0 r=>exact ar0 (P:=λr=>P (a0::r)) (h a0) r (HX e)
theorem ar2{P:List α->Prop}(h:∀a0 a1,P [a0,a1]):∀us:List α,us.length=2->P us:=λus e=>by
 cases us with
 |nil=>cases e
 |cons a0 r=>exact ar1 (P:=λr=>P (a0::r)) (h a0) r (HX e)
theorem ar3{P:List α->Prop}(h:∀a0 a1 a2,P [a0,a1,a2]):∀us:List α,us.length=3->P us:=λus e=>by
 cases us with
 |nil=>cases e
 |cons a0 r=>exact ar2 (P:=λr=>P (a0::r)) (h a0) r (HX e)
theorem ar4{P:List α->Prop}(h:∀a0 a1 a2 a3,P [a0,a1,a2,a3]):∀us:List α,us.length=4->P us:=λus e=>by
 cases us with
 |nil=>cases e
 |cons a0 r=>exact ar3 (P:=λr=>P (a0::r)) (h a0) r (HX e)
theorem ar5{P:List α->Prop}(h:∀a0 a1 a2 a3 a4,P [a0,a1,a2,a3,a4]):∀us:List α,us.length=5->P us:=λus e=>by
 cases us with
 |nil=>cases e
 |cons a0 r=>exact ar4 (P:=λr=>P (a0::r)) (h a0) r (HX e)
theorem walk{l:OT}{q:LV}{loose:List Str}{XP:(Str->Option LM)->LZ->Prop}{YP:L0->LZ->Prop}{d:DefRec}{K:OJ->LN}(hn:l.most=some 63)(hdf:d.params.defaults=[])
  (hY:∀(w:L0) (h:LZ),YP w h->(K w.params).In h)
  (F:∀(w:L0) (mg:Str->Option LM) (fa:LO) (h:LZ),(K w.params).In h->h.Ns Mx mg->mg d.name=some (.ref fa)->
   ∃fd:L6,(∀(s:LP) (u:LM),O2 s fd ⟨[u],[]⟩ [("_law_script",u)])/\∀base:LZ,(K w.params).In base->base.Ns Mx mg->FnOk l.prog w (K w.params) mg base CX0 7 fa fd ["_law_script"] (vt (K w.params))) :
  QP q loose XP YP l.row.toRowW d [] (λf vs=>Qg f vs):=
 L2.AM (n:=63) (k:=7) (x:="_law_script") (CX:=λ_=>CX0) (sp:=λw=>vt (K w.params)) hn (by decide) hdf ⟨rfl,by decide,by decide,rfl⟩ hY F (λ_ _ a ns hl _ hS=>⟨a,ns,rfl,hS,hl,λ_=>rfl⟩) λ_ _ _ _ _ z=>z
noncomputable def kd(P:OJ) (x:Str) (t:Tok) (v:LM):QI:=⟨PyData.keyHash P x,.str x t,v⟩
def kf(n:Str) (s:Md) (m:LM) (c:LO):Obj:=⟨.type "function",none,.func (MS n n (gL s) (f6 s) (av s) .none .none .none m none (.ref c) .none),#[]⟩
def KK(P:OJ):LN:=[(3,⟨.type "dict",none,.dict #[kd P "__name__" 165 (.str "law_millpath_k11_what_outlines_are" 329),kd P "__doc__" 166 (.none),kd P "__package__" 167 (.none),kd P "__loader__" 168 (.builtin "__main__.__loader__#opaque"),kd P "__spec__" 169 (.none),kd P "__annotations__" 170 (.ref 6),kd P "__builtins__" 171 (.ref 4),kd P "__file__" 173 (.str "/claim/cut.py" 172),kd P "__cached__" 174 (.none),kd P "STEPS" 211 (.ref 23),kd P "stepped" 221 (.ref 30),kd P "straight" 231 (.ref 37),kd P "is_number" 240 (.ref 44),kd P "is_row" 247 (.ref 51),kd P "are_numbers" 253 (.ref 56),kd P "is_outline" 261 (.ref 61),kd P "corners_of" 267 (.ref 66),kd P "edges_of" 275 (.ref 73),kd P "goes_straight" 281 (.ref 78),kd P "goes_back" 287 (.ref 83),kd P "is_touching" 293 (.ref 88),kd P "has_common" 301 (.ref 95),kd P "is_overlapping" 310 (.ref 102),kd P "lies_across" 318 (.ref 109),kd P "side_of" 328 (.ref 116),kd P "_law_box" 336 (.ref 121),kd P "_law_angled" 342 (.ref 126),kd P "_law_outline" 348 (.ref 131),kd P "_law_begin" 356 (.ref 138),kd P "_law_take" 369 (.ref 145),kd P "_law_placed_outline" 379 (.ref 152),kd P "_law_points" 396 (.ref 159),kd P "_law_is_outline" 404 (.ref 166),kd P "_law_refined" 420 (.ref 173),kd P "_law_stairs" 432 (.ref 180),kd P "_law_as_lists" 438 (.ref 185),kd P "_law_any_outline" 447 (.ref 192),kd P "_law_bent" 462 (.ref 199),kd P "_law_told_right" 468 (.ref 204),kd P "law" 479 (.ref 211)] 40,#[]⟩),(30,kf "stepped" lj (.str "millpath.corners" 187) 29),(29,⟨.type "code",none,.fields #[.str "stepped" 212,.str "stepped" 213,.str "/claim/cut.py" 214,.int (3) 0,.int (3) 0,.int (0) 0,.int (0) 0,.int (3) 0,.ref 24,.bool true,.int (181) 0,.ref 25,.none,.ref 26,.ref 27,.ref 28,.int (219) 0,.int (3) 0,.str "/claim/cut.py" 220],#[]⟩),(37,kf "straight" jO (.str "millpath.corners" 187) 36),(36,⟨.type "code",none,.fields #[.str "straight" 222,.str "straight" 223,.str "/claim/cut.py" 224,.int (6) 0,.int (2) 0,.int (0) 0,.int (0) 0,.int (3) 0,.ref 31,.bool true,.int (181) 0,.ref 32,.none,.ref 33,.ref 34,.ref 35,.int (229) 0,.int (6) 0,.str "/claim/cut.py" 230],#[]⟩),(44,kf "is_number" jb (.str "millpath.kinds" 232) 43),(43,⟨.type "code",none,.fields #[.str "is_number" 234,.str "is_number" 235,.str "/claim/cut.py" 236,.int (15) 0,.int (1) 0,.int (0) 0,.int (0) 0,.int (3) 0,.ref 38,.bool true,.int (181) 0,.ref 39,.none,.ref 40,.ref 41,.ref 42,.int (238) 0,.int (15) 0,.str "/claim/cut.py" 239],#[]⟩),(51,kf "is_row" oh (.str "millpath.kinds" 232) 50),(50,⟨.type "code",none,.fields #[.str "is_row" 241,.str "is_row" 242,.str "/claim/cut.py" 243,.int (17) 0,.int (1) 0,.int (0) 0,.int (0) 0,.int (3) 0,.ref 45,.bool true,.int (181) 0,.ref 46,.none,.ref 47,.ref 48,.ref 49,.int (245) 0,.int (17) 0,.str "/claim/cut.py" 246],#[]⟩),(56,kf "are_numbers" gU (.str "millpath.kinds" 232) 55),(55,⟨.type "code",none,.fields #[.str "are_numbers" 248,.str "are_numbers" 249,.str "/claim/cut.py" 250,.int (19) 0,.int (2) 0,.int (0) 0,.int (0) 0,.int (3) 0,.ref 52,.bool true,.int (181) 0,.ref 53,.none,.none,.none,.ref 54,.int (251) 0,.int (19) 0,.str "/claim/cut.py" 252],#[]⟩),(61,kf "is_outline" iA (.str "millpath.outlines" 254) 60),(60,⟨.type "code",none,.fields #[.str "is_outline" 256,.str "is_outline" 257,.str "/claim/cut.py" 258,.int (22) 0,.int (1) 0,.int (0) 0,.int (0) 0,.int (3) 0,.ref 57,.bool true,.int (181) 0,.ref 58,.none,.none,.none,.ref 59,.int (259) 0,.int (22) 0,.str "/claim/cut.py" 260],#[]⟩),(66,kf "corners_of" i6 (.str "millpath.outlines" 254) 65),(65,⟨.type "code",none,.fields #[.str "corners_of" 262,.str "corners_of" 263,.str "/claim/cut.py" 264,.int (27) 0,.int (1) 0,.int (0) 0,.int (0) 0,.int (3) 0,.ref 62,.bool true,.int (181) 0,.ref 63,.none,.none,.none,.ref 64,.int (265) 0,.int (27) 0,.str "/claim/cut.py" 266],#[]⟩),(73,kf "edges_of" jH (.str "millpath.outlines" 254) 72),(72,⟨.type "code",none,.fields #[.str "edges_of" 268,.str "edges_of" 269,.str "/claim/cut.py" 270,.int (29) 0,.int (1) 0,.int (0) 0,.int (0) 0,.int (3) 0,.ref 67,.bool true,.int (181) 0,.ref 68,.none,.ref 69,.ref 70,.ref 71,.int (273) 0,.int (29) 0,.str "/claim/cut.py" 274],#[]⟩),(78,kf "goes_straight" fy (.str "millpath.outlines" 254) 77),(77,⟨.type "code",none,.fields #[.str "goes_straight" 276,.str "goes_straight" 277,.str "/claim/cut.py" 278,.int (32) 0,.int (1) 0,.int (0) 0,.int (0) 0,.int (3) 0,.ref 74,.bool true,.int (181) 0,.ref 75,.none,.none,.none,.ref 76,.int (279) 0,.int (32) 0,.str "/claim/cut.py" 280],#[]⟩),(83,kf "goes_back" jd (.str "millpath.outlines" 254) 82),(82,⟨.type "code",none,.fields #[.str "goes_back" 282,.str "goes_back" 283,.str "/claim/cut.py" 284,.int (34) 0,.int (1) 0,.int (0) 0,.int (0) 0,.int (3) 0,.ref 79,.bool true,.int (181) 0,.ref 80,.none,.none,.none,.ref 81,.int (285) 0,.int (34) 0,.str "/claim/cut.py" 286],#[]⟩),(88,kf "is_touching" gT (.str "millpath.outlines" 254) 87),(87,⟨.type "code",none,.fields #[.str "is_touching" 288,.str "is_touching" 289,.str "/claim/cut.py" 290,.int (37) 0,.int (1) 0,.int (0) 0,.int (0) 0,.int (3) 0,.ref 84,.bool true,.int (181) 0,.ref 85,.none,.none,.none,.ref 86,.int (291) 0,.int (37) 0,.str "/claim/cut.py" 292],#[]⟩),(95,kf "has_common" iw (.str "millpath.outlines" 254) 94),(94,⟨.type "code",none,.fields #[.str "has_common" 294,.str "has_common" 295,.str "/claim/cut.py" 296,.int (44) 0,.int (2) 0,.int (0) 0,.int (0) 0,.int (3) 0,.ref 89,.bool true,.int (181) 0,.ref 90,.none,.ref 91,.ref 92,.ref 93,.int (299) 0,.int (44) 0,.str "/claim/cut.py" 300],#[]⟩),(102,kf "is_overlapping" eW (.str "millpath.outlines" 254) 101),(101,⟨.type "code",none,.fields #[.str "is_overlapping" 302,.str "is_overlapping" 303,.str "/claim/cut.py" 304,.int (46) 0,.int (3) 0,.int (0) 0,.int (0) 0,.int (3) 0,.ref 96,.bool true,.int (181) 0,.ref 97,.none,.ref 98,.ref 99,.ref 100,.int (308) 0,.int (46) 0,.str "/claim/cut.py" 309],#[]⟩),(109,kf "lies_across" gW (.str "millpath.outlines" 254) 108),(108,⟨.type "code",none,.fields #[.str "lies_across" 311,.str "lies_across" 312,.str "/claim/cut.py" 313,.int (48) 0,.int (2) 0,.int (0) 0,.int (0) 0,.int (3) 0,.ref 103,.bool true,.int (181) 0,.ref 104,.none,.ref 105,.ref 106,.ref 107,.int (316) 0,.int (48) 0,.str "/claim/cut.py" 317],#[]⟩),(116,kf "side_of" lE (.str "millpath.outlines" 254) 115),(115,⟨.type "code",none,.fields #[.str "side_of" 319,.str "side_of" 320,.str "/claim/cut.py" 321,.int (50) 0,.int (2) 0,.int (0) 0,.int (0) 0,.int (3) 0,.ref 110,.bool true,.int (181) 0,.ref 111,.none,.ref 112,.ref 113,.ref 114,.int (326) 0,.int (50) 0,.str "/claim/cut.py" 327],#[]⟩),(121,kf "_law_box" zF (.str "law_millpath_k11_what_outlines_are" 329) 120),(120,⟨.type "code",none,.fields #[.str "_law_box" 331,.str "_law_box" 332,.str "/claim/cut.py" 333,.int (55) 0,.int (5) 0,.int (0) 0,.int (0) 0,.int (3) 0,.ref 117,.bool true,.int (181) 0,.ref 118,.none,.none,.none,.ref 119,.int (334) 0,.int (55) 0,.str "/claim/cut.py" 335],#[]⟩),(126,kf "_law_angled" o9 (.str "law_millpath_k11_what_outlines_are" 329) 125),(125,⟨.type "code",none,.fields #[.str "_law_angled" 337,.str "_law_angled" 338,.str "/claim/cut.py" 339,.int (60) 0,.int (5) 0,.int (0) 0,.int (0) 0,.int (3) 0,.ref 122,.bool true,.int (181) 0,.ref 123,.none,.none,.none,.ref 124,.int (340) 0,.int (60) 0,.str "/claim/cut.py" 341],#[]⟩),(131,kf "_law_outline" lJ (.str "law_millpath_k11_what_outlines_are" 329) 130),(130,⟨.type "code",none,.fields #[.str "_law_outline" 343,.str "_law_outline" 344,.str "/claim/cut.py" 345,.int (71) 0,.int (5) 0,.int (0) 0,.int (0) 0,.int (3) 0,.ref 127,.bool true,.int (181) 0,.ref 128,.none,.none,.none,.ref 129,.int (346) 0,.int (71) 0,.str "/claim/cut.py" 347],#[]⟩),(138,kf "_law_begin" mY (.str "law_millpath_k11_what_outlines_are" 329) 137),(137,⟨.type "code",none,.fields #[.str "_law_begin" 349,.str "_law_begin" 350,.str "/claim/cut.py" 351,.int (86) 0,.int (1) 0,.int (0) 0,.int (0) 0,.int (3) 0,.ref 132,.bool true,.int (181) 0,.ref 133,.none,.ref 134,.ref 135,.ref 136,.int (354) 0,.int (86) 0,.str "/claim/cut.py" 355],#[]⟩),(145,kf "_law_take" qV (.str "law_millpath_k11_what_outlines_are" 329) 144),(144,⟨.type "code",none,.fields #[.str "_law_take" 357,.str "_law_take" 358,.str "/claim/cut.py" 359,.int (91) 0,.int (2) 0,.int (0) 0,.int (0) 0,.int (3) 0,.ref 139,.bool true,.int (181) 0,.ref 140,.none,.ref 141,.ref 142,.ref 143,.int (367) 0,.int (91) 0,.str "/claim/cut.py" 368],#[]⟩),(152,kf "_law_placed_outline" eX (.str "law_millpath_k11_what_outlines_are" 329) 151),(151,⟨.type "code",none,.fields #[.str "_law_placed_outline" 370,.str "_law_placed_outline" 371,.str "/claim/cut.py" 372,.int (102) 0,.int (1) 0,.int (0) 0,.int (0) 0,.int (3) 0,.ref 146,.bool true,.int (181) 0,.ref 147,.none,.ref 148,.ref 149,.ref 150,.int (377) 0,.int (102) 0,.str "/claim/cut.py" 378],#[]⟩),(159,kf "_law_points" n9 (.str "law_millpath_k11_what_outlines_are" 329) 158),(158,⟨.type "code",none,.fields #[.str "_law_points" 380,.str "_law_points" 381,.str "/claim/cut.py" 382,.int (106) 0,.int (1) 0,.int (0) 0,.int (0) 0,.int (3) 0,.ref 153,.bool true,.int (181) 0,.ref 154,.none,.ref 155,.ref 156,.ref 157,.int (394) 0,.int (106) 0,.str "/claim/cut.py" 395],#[]⟩),(166,kf "_law_is_outline" gO (.str "law_millpath_k11_what_outlines_are" 329) 165),(165,⟨.type "code",none,.fields #[.str "_law_is_outline" 397,.str "_law_is_outline" 398,.str "/claim/cut.py" 399,.int (118) 0,.int (1) 0,.int (0) 0,.int (0) 0,.int (3) 0,.ref 160,.bool true,.int (181) 0,.ref 161,.none,.ref 162,.ref 163,.ref 164,.int (402) 0,.int (118) 0,.str "/claim/cut.py" 403],#[]⟩),(173,kf "_law_refined" lH (.str "law_millpath_k11_what_outlines_are" 329) 172),(172,⟨.type "code",none,.fields #[.str "_law_refined" 405,.str "_law_refined" 406,.str "/claim/cut.py" 407,.int (123) 0,.int (2) 0,.int (0) 0,.int (0) 0,.int (3) 0,.ref 167,.bool true,.int (181) 0,.ref 168,.none,.ref 169,.ref 170,.ref 171,.int (418) 0,.int (123) 0,.str "/claim/cut.py" 419],#[]⟩),(180,kf "_law_stairs" nB (.str "law_millpath_k11_what_outlines_are" 329) 179),(179,⟨.type "code",none,.fields #[.str "_law_stairs" 421,.str "_law_stairs" 422,.str "/claim/cut.py" 423,.int (134) 0,.int (1) 0,.int (0) 0,.int (0) 0,.int (3) 0,.ref 174,.bool true,.int (181) 0,.ref 175,.none,.ref 176,.ref 177,.ref 178,.int (430) 0,.int (134) 0,.str "/claim/cut.py" 431],#[]⟩),(185,kf "_law_as_lists" jV (.str "law_millpath_k11_what_outlines_are" 329) 184),(184,⟨.type "code",none,.fields #[.str "_law_as_lists" 433,.str "_law_as_lists" 434,.str "/claim/cut.py" 435,.int (142) 0,.int (2) 0,.int (0) 0,.int (0) 0,.int (3) 0,.ref 181,.bool true,.int (181) 0,.ref 182,.none,.none,.none,.ref 183,.int (436) 0,.int (142) 0,.str "/claim/cut.py" 437],#[]⟩),(192,kf "_law_any_outline" gQ (.str "law_millpath_k11_what_outlines_are" 329) 191),(191,⟨.type "code",none,.fields #[.str "_law_any_outline" 439,.str "_law_any_outline" 440,.str "/claim/cut.py" 441,.int (145) 0,.int (1) 0,.int (0) 0,.int (0) 0,.int (3) 0,.ref 186,.bool true,.int (181) 0,.ref 187,.none,.ref 188,.ref 189,.ref 190,.int (445) 0,.int (145) 0,.str "/claim/cut.py" 446],#[]⟩),(199,kf "_law_bent" uG (.str "law_millpath_k11_what_outlines_are" 329) 198),(198,⟨.type "code",none,.fields #[.str "_law_bent" 448,.str "_law_bent" 449,.str "/claim/cut.py" 450,.int (149) 0,.int (2) 0,.int (0) 0,.int (0) 0,.int (3) 0,.ref 193,.bool true,.int (181) 0,.ref 194,.none,.ref 195,.ref 196,.ref 197,.int (460) 0,.int (149) 0,.str "/claim/cut.py" 461],#[]⟩),(204,kf "_law_told_right" i9 (.str "law_millpath_k11_what_outlines_are" 329) 203),(203,⟨.type "code",none,.fields #[.str "_law_told_right" 463,.str "_law_told_right" 464,.str "/claim/cut.py" 465,.int (174) 0,.int (2) 0,.int (0) 0,.int (0) 0,.int (3) 0,.ref 200,.bool true,.int (181) 0,.ref 201,.none,.none,.none,.ref 202,.int (466) 0,.int (174) 0,.str "/claim/cut.py" 467],#[]⟩),(211,kf "law" je (.str "law_millpath_k11_what_outlines_are" 329) 210),(210,⟨.type "code",none,.fields #[.str "law" 469,.str "law" 470,.str "/claim/cut.py" 471,.int (181) 0,.int (1) 0,.int (0) 0,.int (0) 0,.int (3) 0,.ref 205,.bool true,.int (181) 0,.ref 206,.none,.ref 207,.ref 208,.ref 209,.int (477) 0,.int (181) 0,.str "/claim/cut.py" 478],#[]⟩),(23,⟨.type "tuple",none,.seq #[.ref 15,.ref 16,.ref 17,.ref 18,.ref 19,.ref 20,.ref 21,.ref 22] 0,#[]⟩),(15,⟨.type "tuple",none,.seq #[.int (1) 189,.int (0) 190] 0,#[]⟩),(16,⟨.type "tuple",none,.seq #[.int (1) 191,.int (1) 192] 0,#[]⟩),(17,⟨.type "tuple",none,.seq #[.int (0) 193,.int (1) 194] 0,#[]⟩),(18,⟨.type "tuple",none,.seq #[.int (-1) 196,.int (1) 197] 0,#[]⟩),(19,⟨.type "tuple",none,.seq #[.int (-1) 199,.int (0) 200] 0,#[]⟩),(20,⟨.type "tuple",none,.seq #[.int (-1) 202,.int (-1) 204] 0,#[]⟩),(21,⟨.type "tuple",none,.seq #[.int (0) 205,.int (-1) 207] 0,#[]⟩),(22,⟨.type "tuple",none,.seq #[.int (1) 208,.int (-1) 210] 0,#[]⟩)]
noncomputable def kas:List LO:=[3,30,29,37,36,44,43,51,50,56,55,61,60,66,65,73,72,78,77,83,82,88,87,95,94,102,101,109,108,116,115,121,120,126,125,131,130,138,137,145,144,152,151,159,158,166,165,173,172,180,179,185,184,192,191,199,198,204,203,211,210,23,15,16,17,18,19,20,21,22]
theorem ud(P:OJ):kas=(KK P).map (·.1):=by kernel_rfl
noncomputable def VW:LV:=PySem.W.view PySem.Challenge.pw_millpath_k11_what_outlines_are [1,2,3,5,6,7,9,10,11,12,13,14,15,16,17,18,20,21,22,23,24,25,26,27,28,29,30,31,32,33,34]
noncomputable def DJ(s:Md):Pos:=match s with
 | .FunctionDef _ _ _ _ _ _ _ _ _ p=>p
 | _=>⟨0,0,0,0⟩
variable {mg:Str->Option LM}
theorem dfn{h:LZ}{P:OJ}{x:Str}{st:Md}{ps:List Str}(X:(KK P).In h)(G:h.Ns Mx mg)(f c:LO)(m:LM)(l:(KK P).lookup f=some (kf x st m c):=by kernel_rfl)(a:ON (KK P) Mx x=some (some (.ref f)):=by kernel_rfl)(cd:Oc (KK P) (.ref c) x=true:=by kernel_rfl)(kp:NO (KK P) (.ref f)=true:=by kernel_rfl)
  (hb:∀(kV doc pm:LM) (an:Option LO) (cdv ct:LM) (us:List LM),us.length=ps.length->Q6 (MS x x (gL st) (f6 st) (av st) .none kV doc pm an cdv ct) ⟨us,[]⟩=pure (ps.zip us):=by intro _ _ _ _ _ _ us;revert us;first|(apply ar1;intros;rfl)|(apply ar2;intros;rfl)|(apply ar3;intros;rfl)|(apply ar5;intros;rfl)):Dfn (KK P) mg x st ps:=⟨f,_,tU (st:=st) l cd kp,Pg X G a,(tU (st:=st) l cd kp).binds hb⟩
noncomputable def mo0:LM:=.str "millpath.corners" 187
noncomputable def mo1:LM:=.str "millpath.kinds" 232
noncomputable def mo2:LM:=.str "millpath.outlines" 254
noncomputable def mo3:LM:=.str "law_millpath_k11_what_outlines_are" 329
set_option maxHeartbeats 0 in
theorem all_mk{l:OT}{w:L0}{h:LZ}{fa:LO}(X:(KK w.params).In h)(G:h.Ns Mx mg)(hfa:mg "law"=some (.ref fa)):∃fd:L6,(∀(s:LP) (v:LM),O2 s fd ⟨[v],[]⟩ [("_law_script",v)])/\∀base:LZ,(KK w.params).In base->base.Ns Mx mg->FnOk l.prog w (KK w.params) mg base CX0 7 fa fd ["_law_script"] (vt (KK w.params)):=by
 have e:=hfa.symm.trans (Pg X G (show ON (KK w.params) Mx "law"=some (some (.ref 211)) by kernel_rfl));cases e;have z:∀{x:Str},ON (KK w.params) Mx x=some none->mg x=none:=λh=>PySem.W.mg_none_of X G h;have T:Txt mg:=⟨z (by kernel_rfl),z (by kernel_rfl),z (by kernel_rfl),z (by kernel_rfl),z (by kernel_rfl),z (by kernel_rfl),z (by kernel_rfl),z (by kernel_rfl),z (by kernel_rfl),z (by kernel_rfl),z (by kernel_rfl),z (by kernel_rfl),z (by kernel_rfl),z (by kernel_rfl),z (by kernel_rfl),z (by kernel_rfl),z (by kernel_rfl),z (by kernel_rfl),z (by kernel_rfl),z (by kernel_rfl),z (by kernel_rfl)⟩;have F:=tU (st:=je) (K:=KK w.params) (x:="law") (qual:="law") (f:=211) (oc:=.type "function") (od:=none) (an:=none) (osl:=#[]) (kV:=.none) (doc:=.none) (pm:=mo3) (cdv:=.ref 210) (ct:=.none) (by kernel_rfl) (by kernel_rfl) (by kernel_rfl);refine⟨MS "law" "law" (gL je) (f6 je) (av je) .none .none .none mo3 none (.ref 210) .none,λs v=>.of_eq rfl,λbase _ _=>?_⟩;have cl1:(KK w.params).lookup 23=some ⟨.type "tuple",none,.seq #[.ref 15,.ref 16,.ref 17,.ref 18,.ref 19,.ref 20,.ref 21,.ref 22] 0,#[]⟩:=by kernel_rfl
 have cl2:(KK w.params).lookup 15=some ⟨.type "tuple",none,.seq #[.int (1) 189,.int (0) 190] 0,#[]⟩:=by kernel_rfl
 have cl3:(KK w.params).lookup 16=some ⟨.type "tuple",none,.seq #[.int (1) 191,.int (1) 192] 0,#[]⟩:=by kernel_rfl
 have cl4:(KK w.params).lookup 17=some ⟨.type "tuple",none,.seq #[.int (0) 193,.int (1) 194] 0,#[]⟩:=by kernel_rfl
 have cl5:(KK w.params).lookup 18=some ⟨.type "tuple",none,.seq #[.int (-1) 196,.int (1) 197] 0,#[]⟩:=by kernel_rfl
 have cl6:(KK w.params).lookup 19=some ⟨.type "tuple",none,.seq #[.int (-1) 199,.int (0) 200] 0,#[]⟩:=by kernel_rfl
 have cl7:(KK w.params).lookup 20=some ⟨.type "tuple",none,.seq #[.int (-1) 202,.int (-1) 204] 0,#[]⟩:=by kernel_rfl
 have cl8:(KK w.params).lookup 21=some ⟨.type "tuple",none,.seq #[.int (0) 205,.int (-1) 207] 0,#[]⟩:=by kernel_rfl
 have cl9:(KK w.params).lookup 22=some ⟨.type "tuple",none,.seq #[.int (1) 208,.int (-1) 210] 0,#[]⟩:=by kernel_rfl
 have gt_STEPS:ON (KK w.params) Mx "STEPS"=some (some (.ref 23)):=by kernel_rfl
 have C_STEPS:Glb (KK w.params) mg "STEPS" qD:=⟨.ref 23,_,Pg X G gt_STEPS,rfl,λ_ _=>(.cst (.inr ⟨_,_,0,cl1,rfl,rfl,(by show 8<=sizeLine;decide),(.cons (show RelV (.ref 15) (.ref 15)from rfl) (.cons (show RelV (.ref 16) (.ref 16)from rfl) (.cons (show RelV (.ref 17) (.ref 17)from rfl) (.cons (show RelV (.ref 18) (.ref 18)from rfl) (.cons (show RelV (.ref 19) (.ref 19)from rfl) (.cons (show RelV (.ref 20) (.ref 20)from rfl) (.cons (show RelV (.ref 21) (.ref 21)from rfl) (.cons (show RelV (.ref 22) (.ref 22)from rfl) .nil))))))))⟩) (.cons rfl (.cst (.inr ⟨_,_,0,cl2,rfl,rfl,(by show 2<=sizeLine;decide),(.cons (show RelV (.int (1)) (.int (1) 189)from⟨_,rfl⟩) (.cons (show RelV (.int (0)) (.int (0) 190)from⟨_,rfl⟩) .nil))⟩) (.cons rfl .int (.cons rfl .int .nil))) (.cons rfl (.cst (.inr ⟨_,_,0,cl3,rfl,rfl,(by show 2<=sizeLine;decide),(.cons (show RelV (.int (1)) (.int (1) 191)from⟨_,rfl⟩) (.cons (show RelV (.int (1)) (.int (1) 192)from⟨_,rfl⟩) .nil))⟩) (.cons rfl .int (.cons rfl .int .nil))) (.cons rfl (.cst (.inr ⟨_,_,0,cl4,rfl,rfl,(by show 2<=sizeLine;decide),(.cons (show RelV (.int (0)) (.int (0) 193)from⟨_,rfl⟩) (.cons (show RelV (.int (1)) (.int (1) 194)from⟨_,rfl⟩) .nil))⟩) (.cons rfl .int (.cons rfl .int .nil))) (.cons rfl (.cst (.inr ⟨_,_,0,cl5,rfl,rfl,(by show 2<=sizeLine;decide),(.cons (show RelV (.int (-1)) (.int (-1) 196)from⟨_,rfl⟩) (.cons (show RelV (.int (1)) (.int (1) 197)from⟨_,rfl⟩) .nil))⟩) (.cons rfl .int (.cons rfl .int .nil))) (.cons rfl (.cst (.inr ⟨_,_,0,cl6,rfl,rfl,(by show 2<=sizeLine;decide),(.cons (show RelV (.int (-1)) (.int (-1) 199)from⟨_,rfl⟩) (.cons (show RelV (.int (0)) (.int (0) 200)from⟨_,rfl⟩) .nil))⟩) (.cons rfl .int (.cons rfl .int .nil))) (.cons rfl (.cst (.inr ⟨_,_,0,cl7,rfl,rfl,(by show 2<=sizeLine;decide),(.cons (show RelV (.int (-1)) (.int (-1) 202)from⟨_,rfl⟩) (.cons (show RelV (.int (-1)) (.int (-1) 204)from⟨_,rfl⟩) .nil))⟩) (.cons rfl .int (.cons rfl .int .nil))) (.cons rfl (.cst (.inr ⟨_,_,0,cl8,rfl,rfl,(by show 2<=sizeLine;decide),(.cons (show RelV (.int (0)) (.int (0) 205)from⟨_,rfl⟩) (.cons (show RelV (.int (-1)) (.int (-1) 207)from⟨_,rfl⟩) .nil))⟩) (.cons rfl .int (.cons rfl .int .nil))) (.cons rfl (.cst (.inr ⟨_,_,0,cl9,rfl,rfl,(by show 2<=sizeLine;decide),(.cons (show RelV (.int (1)) (.int (1) 208)from⟨_,rfl⟩) (.cons (show RelV (.int (-1)) (.int (-1) 210)from⟨_,rfl⟩) .nil))⟩) (.cons rfl .int (.cons rfl .int .nil))) .nil)))))))))⟩;have zn:Cal l.prog w (KK w.params) mg base 1 "_law_take" ["_law_state","_law_many"] (aK (KK w.params) 2 iq):=zB (dfn X G 145 144 mo3) T;have nw:Cal l.prog w (KK w.params) mg base 1 "_law_begin" ["_law_script"] (aK (KK w.params) 1 (qX (KK w.params))):=xA (dfn X G 138 137 mo3) T;have xz:=(dfn X G 30 29 mo0).cal (base:=base) (P:=l.prog) (w:=w) λ_ _ F=>uv F T C_STEPS;have xL:=(dfn X G 37 36 mo0).cal (base:=base) (P:=l.prog) (w:=w) λ_ _ F=>sX F T C_STEPS xz;have sK:=(dfn X G 44 43 mo1).cal (base:=base) (P:=l.prog) (w:=w) λ_ _ F=>qL F T;have ul:=(dfn X G 51 50 mo1).cal (base:=base) (P:=l.prog) (w:=w) λ_ _ F=>wF F T;have ls:=(dfn X G 56 55 mo1).cal (base:=base) (P:=l.prog) (w:=w) λ_ _ F=>oz F T sK ul;have rc:=(dfn X G 66 65 mo2).cal (base:=base) (P:=l.prog) (w:=w) λ_ _ F=>oM F T;have re:=(dfn X G 73 72 mo2).cal (base:=base) (P:=l.prog) (w:=w) λ_ _ F=>sE F T rc;have wP:=(dfn X G 116 115 mo2).cal (base:=base) (P:=l.prog) (w:=w) λ_ _ F=>ux F T;have v6:=(dfn X G 109 108 mo2).cal (base:=base) (P:=l.prog) (w:=w) λ_ _ F=>nL F T wP;have u8:=(dfn X G 102 101 mo2).cal (base:=base) (P:=l.prog) (w:=w) λ_ _ F=>kH F T;have sB:=(dfn X G 95 94 mo2).cal (base:=base) (P:=l.prog) (w:=w) λ_ _ F=>pd F T u8 v6;have ss:=(dfn X G 78 77 mo2).cal (base:=base) (P:=l.prog) (w:=w) λ_ _ F=>lP F T xL;have sn:=(dfn X G 83 82 mo2).cal (base:=base) (P:=l.prog) (w:=w) λ_ _ F=>rJ F T xL;have ut:=(dfn X G 88 87 mo2).cal (base:=base) (P:=l.prog) (w:=w) λ_ _ F=>nH F T sB;have tz:=(dfn X G 61 60 mo2).cal (base:=base) (P:=l.prog) (w:=w) λ_ _ F=>oY F T ul ls re ss sn ut;have pp:=(dfn X G 121 120 mo3).cal (base:=base) (P:=l.prog) (w:=w) λ_ _ F=>CB F T;have ld:=(dfn X G 126 125 mo3).cal (base:=base) (P:=l.prog) (w:=w) λ_ _ F=>wL F T;have wl:=(dfn X G 131 130 mo3).cal (base:=base) (P:=l.prog) (w:=w) λ_ _ F=>uu F T pp ld zn;have wn:=(dfn X G 152 151 mo3).cal (base:=base) (P:=l.prog) (w:=w) λ_ _ F=>kO F T wl zn;have wT:=(dfn X G 180 179 mo3).cal (base:=base) (P:=l.prog) (w:=w) λ_ _ F=>wU F T zn;have ww:=(dfn X G 173 172 mo3).cal (base:=base) (P:=l.prog) (w:=w) λ_ _ F=>ue F T zn;have li:=(dfn X G 192 191 mo3).cal (base:=base) (P:=l.prog) (w:=w) λ_ _ F=>og F T zn wn ww wT;have wp:=(dfn X G 159 158 mo3).cal (base:=base) (P:=l.prog) (w:=w) λ_ _ F=>xI F T;have wf:=(dfn X G 166 165 mo3).cal (base:=base) (P:=l.prog) (w:=w) λ_ _ F=>nk F T wp;have np:=(dfn X G 185 184 mo3).cal (base:=base) (P:=l.prog) (w:=w) λ_ _ F=>sN F T zn;have pc:=(dfn X G 199 198 mo3).cal (base:=base) (P:=l.prog) (w:=w) λ_ _ F=>BC F T zn;have At:=(dfn X G 204 203 mo3).cal (base:=base) (P:=l.prog) (w:=w) λ_ _ F=>oR F T tz wf np;exact DA (Dz F T tz nw li pc At)
end Mp
open PySem PySem.W PyProof.Rows
set_option maxRecDepth 100000 in
set_option maxHeartbeats 0 in
theorem Mp.CT:PySem.Challenge.rw_millpath_k11_what_outlines_are.wellSaid=true:=by kernel_rfl
set_option maxRecDepth 100000 in
theorem Mp.left:PySem.W.LeftO PySem.Challenge.rw_millpath_k11_what_outlines_are.row.prog Mp.VW [] (λs=>PySem.W.xlAt Mp.VW [] s&&PySem.W.recOk (PySem.Challenge.rw_millpath_k11_what_outlines_are.row.toRowW.records) s) (RW (Ph Mp.KK Mp.kas Mp.ud)) (RX (Ph Mp.KK Mp.kas Mp.ud)) 6000:=λw=>by kernel_rfl
set_option maxRecDepth 100000 in
set_option maxHeartbeats 0 in
theorem PySem.Challenge.cw_millpath_k11_what_outlines_are_holds : PySem.Challenge.rw_millpath_k11_what_outlines_are.Holds := by
 refine PySem.W.holds_law Mp.CT λCT=>?_;refine PySem.W.holds_open (r:=PySem.Challenge.rw_millpath_k11_what_outlines_are.row) (XP:=PySem.W.XL Mp.VW []) (YP:=RS (Ph Mp.KK Mp.kas Mp.ud)) (d:=⟨"law",L2.gL Mp.je,L2.f6 Mp.je,L2.av Mp.je,Mp.DJ Mp.je⟩) (kwd:=[]) Mp.left (R1 _) (RP _) (λs e=>PySem.W.xl_of s (KN.mp e).1) RY (by kernel_rfl) (by kernel_rfl) (by kernel_rfl) (λs e=>PySem.W.recFacts_of (KN.mp e).2) (by kernel_rfl) CT (by kernel_rfl) ⟨rfl,rfl,rfl,rfl,rfl,by rfl'⟩ ?hw ?hc
 case hw=>w_witness2
 case hc=>
  refine Mp.walk (l:=PySem.Challenge.rw_millpath_k11_what_outlines_are) rfl (by kernel_rfl) (λw h Y=>PySem.W.kIn_of Y) ?F
  case F=>
  intro w mg fa h KX G hmg;exact Mp.all_mk KX G hmg
