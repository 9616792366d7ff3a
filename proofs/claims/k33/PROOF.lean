import PyProof.Rows.All
import Wide.All
import OpenK.AllK
import Wide.FinOn
import Lean
import PyProof.EqAt
import PyProof.EqKinds
import PyProof.TupleCall
import PyProof.ZipIter
import PyProof.NeKinds
import PyProof.SeqI3
import PyProof.MaxThree
import PyProof.CompUse
import PyProof.DictFindH
import PyProof.DictRoadsH
import PyProof.TupleKey
import PyProof.DictWalks
import PyProof.AttrMissHeap
import KE.KDictOf
import KE.KDictList
import PyProof.Rows.SortRuns
import KE.KSortTup
import PyProof.ListRange
import KE.KUnpack
import PySem.Challenge.RW_millpath_k33_runs_round_rings
set_option Elab.async false
set_option linter.all false
set_option maxRecDepth 100000
open List renaming getElem?_eq_getElem->a_,length_map->b_,getElem?_eq_some_iff->e_,perm_middle->f_,map_cons->f',append_assoc->gV,length_append->g_,length_cons->h_,perm_append_comm_assoc->i',mem_append_right->k_,map_append->l_,mem_cons->m_,size_toArray->n_,mem_cons_of_mem->o_,Perm.trans->s_,mem_cons_self->t_,getElem?_map->w_,range->y_,mem_map->A_,length_take->A',map_congr_left->B',take_append_drop->C',mem_singleton->D',mem_append_left->E_,pairwise_append->F_,length_drop->F',mem_append->G_,nodup_cons->H_,length_set->I_,replicate->JA,map_map->JB,take_of_length_le->JC,Perm.append_left->JD,append_nil->JF,find?_cons->JG,cons_append->JH,length_range->JI,take_add_one->JJ,mem_of_getElem?->JK,getElem?_eq_none->JL,map->JO,not_mem_nil->JP,getElem?_range->JQ,Pairwise.sublist->JR,take_length->JT,length_replicate->JU,mem_filter->JV,length_reverse->JY,mem_map_of_mem->JZ,drop_eq_getElem_cons->J_,perm_append_comm->J',any_cons->Ka,map_nil->Kc,drop_of_length_le->Kd,getElem?_append_right->Ke,all_eq_true->Kf,getElem_mem->Kg,pairwise_cons->Ki,mem_iff_getElem?->Kj,mem_of_mem_take->Kl,Pairwise.imp_of_mem->Kn,cons.injEq->Ko,nil_append->Kq,reverse_cons->Kr,nodup_append->Ks,eq_nil_of_length_eq_zero->Ku,getElem?_cons_succ->Kv,replicate_succ->Kw,zip_cons_cons->Kx,getElem?_drop->Kz,length_singleton->KA,length_filter_le->KC,pairwise_map->KJ,getElem?_set_ne->KL,getElem?_append_left->KN,mem_iff_getElem->KO,extract_eq_drop_take->KP,mem_range->KQ,drop_zero->KR,filterMap_cons_some->KS,filterMap_cons_none->KU,any_eq_true->KW,getElem?_cons_zero->KZ,length_nil->K0,foldl_cons->K4,getElem?_take->K5,getElem?_set_self->K7,drop_eq_nil_of_le->K',take_sublist->La,drop_sublist->Lc,flatten_cons->Le,lookup_cons->Lf,mem_of_mem_drop->Lg,getD_eq_getElem?_getD->Lk,filterMap_cons->Ll,reverse_append->Ln,pairwise_iff_getElem->Lq,filter_append->Lv,set_eq_of_length_le->Lz,eq_of_mem_replicate->LA,drop_drop->LB,Pairwise.nil->LD,ext_getElem?->LF,find?_append->LH,append_eq_nil_iff->LJ,all_cons->LK,cons.inj->LN,mem_reverse->LO,countP_cons->LP,singleton_append->LR,all_map->LU,range_succ->LV,any_map->LY,drop_append_of_le_length->LZ,flatten_append->L3,nodup_nil->L4,length->L7,set_cons_succ->L_,find?_eq_none->L',map_singleton->Ma,map_replicate->Mb,take_add->Me,zipIdx_cons->Ml,set_set->Mr,find?_range_eq_none->Ms,filter_cons->Mt,find?_range_eq_some->Mu,pairwise_singleton->Mw,of_mem_zip->Mx,forIn_cons->My,all_append->MA,range_succ_eq_map->MB,Perm.append_right->MC,map_id->MD,filter->ME,flatten_singleton->MG,forIn_nil->MI,Perm.swap->MJ,Perm.cons->MK,reverse_reverse->ML,getElem_toArray->MO,replicate_succ'->MP,getLast?_concat->MQ,find?_singleton->MR,map_drop->MV,take_succ_cons->MW,length_pos_iff->MX,mem_filterMap->MY,filterMap_map->MZ,set_cons_zero->M1,filter_filter->M4,reverse_perm->M7,mapM_toArray->M8,filter_congr->M9,Pairwise.map->M_,drop_length->Ng,zipIdx_nil->Nh,zip_append->Nl,take_zero->Np,Perm->Nr,take_nil->Nu,map_take->Nv,map_set->NB,drop->NK,take->NL
open Nat renaming le_refl->c_,ne_of_lt->q_,le_trans->r_,lt_of_lt_of_le->v_,zero_le->B_,le_of_lt->Jz,lt_of_le_of_lt->JM,le_of_not_lt->JN,pos_of_ne_zero->Kh,sub_le->Km,lt_irrefl->Kt,succ.inj->Ky,min_eq_left->KD,one_pos->K9,min_eq_right->Lh,add_le_add_left->Lm,add_sub_cancel'->Lo,sub_lt_left_of_lt_add->Lp,ne_of_gt->Ls,le_of_eq->Lu,zero_add->Lw,lt_of_le_of_ne->Lx,add_zero->Ly,add_sub_cancel_left->LC,le_of_lt_succ->LG,add_assoc->LL,succ_le_succ->LQ,not_lt_zero->LW,le_sub_one_of_lt->LX,add_lt_add_left->L0,add_mul->L8,one_mul->L9,sub_lt->Mj,lt_trans->Mk,le_add_right->Mm,sub_self->Mn,max_eq_right->Mo,zero_mul->Mv,le_of_succ_le_succ->MF,sub_le_sub_right->MM,not_lt->MN,add_sub_assoc->M5,lt_succ_of_lt->M6,le_succ->M',lt_of_not_le->Nc,lt_succ_self->Nf,le_add_left->Ni,le_antisymm->Nj,mul_le_mul->Nq,sub_zero->Nz,succ_pos->NA,max_le->NI
open Int renaming eq_ofNat_of_zero_le->JW,toNat_natCast->JX,zero_add->KY,emod_lt_of_pos->K6,emod_nonneg->Lr,mul_one->L6,fdiv_eq_ediv_of_nonneg->Mc,fmod_eq_emod_of_nonneg->Md,le_min->Nm,natCast_mul->Nn,ediv_one->Ny,mul_add->NF,add_mul->NG,not_le->NJ
open Option renaming some.inj->x_,isSome_map->Mh,some.injEq->Mi,isSome_some->M0,getD_none->Na,getD_some->Nb,map->Nk,some->ND,any->NH
open Bool renaming false_ne_true->z_,and_eq_true->C_,false_eq_true->JS,eq_iff_iff->Kb,beq_eq_decide_eq->KG,true_and->KI,eq_false_iff->Lb,and_true->LM,not_false->L5,and_eq_true_iff->MT,not_true->MU,or_false->Nt
open Array renaming getElem?_toList->i_,length_toList->j_,getElem?_eq_getElem->u_,toList_append->JE,perm_iff_toList_perm->KH,getElem?_eq_none->K8,getElem?_extract->K_,toList_push->Ld,toList_extract->Li,toList_reverse->Lj,getElem?_eq_some_iff->Mf,toList_setIfInBounds->Mg,size_setIfInBounds->Mq,Perm.refl->Mz,size_extract->M3,toList_map->Nd,toList->Nw
open And renaming intro->d_
open Or renaming inl->p_,inr->D_
open Prod renaming ext->G',ext_iff->NC
namespace L2
open PySem PySem.Spec PyProof.Rows
abbrev Key:=Sum Int Str
def nI:Key->Value->Bool
 | .inl k,v=>Value.isInt k v
 | .inr x,v=>Value.isStrOf x v
def J7 (w:World):Key->Int
 | .inl k=>hashInt k
 | .inr x=>hashStr w x
theorem bJ:∀ {k:Key} {v:Value},nI k v=true->(∃ i t,k=Sum.inl i/\v=Value.int i t)\/(∃ x t,k=Sum.inr x/\v=Value.str x t)
 | .inl i,v,h=>by
  obtain⟨t,e⟩:=Value.isInt_shape (k:=i) (v:=v) h
  exact .inl ⟨i,t,rfl,e⟩
 | .inr x,v,h=>by
  obtain⟨t,e⟩:=Value.isStrOf_shape (x:=x) (v:=v) h
  exact .inr ⟨x,t,rfl,e⟩
theorem xB (i:Int)(t:Tok):nI (.inl i) (.int i t)=true:=by simp [nI,Value.isInt]
theorem wU (x:Str)(t:Tok):nI (.inr x) (.str x t)=true:=by simp [nI,Value.isStrOf]
theorem DW (a b:Int):decide ((Sum.inl a:Key)=Sum.inl b)=(a == b):=by
 by_cases e:a=b
 ·subst e;simp
 ·have h:¬ (Sum.inl a:Key)=Sum.inl b:=fun q=>e (Sum.inl.inj q)
  rw [decide_eq_false h]
  exact (beq_eq_false_iff_ne.mpr e).symm
theorem DV (a b:Str):decide ((Sum.inr a:Key)=Sum.inr b)=decide (a=b):=by
 by_cases e:a=b
 ·subst e;simp
 ·have h:¬ (Sum.inr a:Key)=Sum.inr b:=fun q=>e (Sum.inr.inj q)
  rw [decide_eq_false h,decide_eq_false e]
theorem Fp (a:Int)(b:Str):decide ((Sum.inl a:Key)=Sum.inr b)=false:=decide_eq_false (fun q=>nomatch q)
theorem F3 (a:Str)(b:Int):decide ((Sum.inr a:Key)=Sum.inl b)=false:=decide_eq_false (fun q=>nomatch q)
def bp (prog:Program)(w:World):PySem.KeyKind prog w Key where
 is:=nI
 hash:=J7 w
 inj:=fun v a b ha hb=>by
  rcases bJ ha with⟨i,t,rfl,rfl⟩ | ⟨x,t,rfl,rfl⟩
  ·rcases bJ hb with⟨j,u,rfl,e⟩ | ⟨y,u,rfl,e⟩
   ·injection e with e1 _;rw [e1]
   ·exact nomatch e
  ·rcases bJ hb with⟨j,u,rfl,e⟩ | ⟨y,u,rfl,e⟩
   ·exact nomatch e
   ·injection e with e1 _;rw [e1]
 byValue:=fun k v h=>by
  rcases bJ h with⟨i,t,rfl,rfl⟩ | ⟨x,t,rfl,rfl⟩ <;> rfl
 pyHash:=fun hv h=>by
  rcases bJ hv with⟨i,t,rfl,rfl⟩ | ⟨x,t,rfl,rfl⟩
  ·exact wpAny_pyHash_int h
  ·exact wpAny_pyHash_str h
 eqBool:=fun hu hv h=>by
  rcases bJ hu with⟨i,t,rfl,rfl⟩ | ⟨x,t,rfl,rfl⟩
  ·rcases bJ hv with⟨j,u,rfl,rfl⟩ | ⟨y,u,rfl,rfl⟩
   ·rw [DW] at h;exact wpAny_eqBool_int h
   ·rw [Fp] at h;exact SeqAt.EqAt.int_str i t y u _ _ _ _ h
  ·rcases bJ hv with⟨j,u,rfl,rfl⟩ | ⟨y,u,rfl,rfl⟩
   ·rw [F3] at h;exact SeqAt.EqAt.str_int x t j u _ _ _ _ h
   ·rw [DV] at h;exact wpAny_eqBool_str h
 «strs»:=fun k x t v h=>by
  rcases bJ h with⟨i,u,rfl,e⟩ | ⟨y,u,rfl,e⟩
  ·exact nomatch e
  ·injection e with e1 _
   subst e1
   cases v <;> rfl
theorem qU (prog:Program)(w:World)(i:Int)(t:Tok):(bp prog w).is (.inl i) (.int i t)=true:=xB i t
theorem rg (prog:Program)(w:World)(x:Str)(t:Tok):(bp prog w).is (.inr x) (.str x t)=true:=wU x t
end L2
namespace L2
open PySem PySem.Spec PyProof.Rows
inductive V where
 | non | bl (b:Bool) | int (i:Int) | str (x:Str) | byt (b:Array UInt8) | flt (b:UInt64) | ref (a:Addr) | ty (n:String)
 deriving DecidableEq
def RelV:V->Value->Prop
 | .non,u=>u=Value.none
 | .bl b,u=>u=Value.bool b
 | .int i,u=>∃ t,u=Value.int i t
 | .str x,u=>∃ t,u=Value.str x t
 | .byt b,u=>∃ t,u=Value.bytes b t
 | .flt b,u=>∃ t,u=Value.float b t
 | .ref a,u=>u=Value.ref a
 | .ty n,u=>u=Value.type n
abbrev Vals:List V->List Value->Prop:=Paired RelV
theorem Vals.length {xs:List V}{us:List Value}(r:Vals xs us):xs.length=us.length:=Paired.length r
theorem Vals.get:∀ {xs:List V} {us:List Value} {i:Nat} {x:V},Vals xs us->xs[i]?=some x->∃ u,us[i]?=some u/\RelV x u
 | _,_,_,_,.nil,e=>by simp at e
 | _,_,0,_,.cons r _,e=>by simp at e;subst e;exact⟨_,rfl,r⟩
 | _,_,i + 1,x,.cons _ t,e=>by
  obtain⟨u,h1,h2⟩:=Vals.get (i:=i) (x:=x) t (by simpa using e)
  exact⟨u,by simpa using h1,h2⟩
theorem Vals.set {x:V}{u:Value}(r:RelV x u):∀ {xs:List V} {us:List Value} (i:Nat),Vals xs us->Vals (xs.set i x) (us.set i u)
 | _,_,_,.nil=>.nil
 | _,_,0,.cons _ t=>.cons r t
 | _,_,i + 1,.cons q t=>.cons q (Vals.set r i t)
theorem Vals.append:∀ {xs ys:List V} {us ws:List Value},Vals xs us->Vals ys ws->Vals (xs++ys) (us++ws)
 | _,_,_,_,.nil,s=>s
 | _,_,_,_,.cons r t,s=>.cons r (Vals.append t s)
theorem Vals.take:∀ {xs:List V} {us:List Value} (n:Nat),Vals xs us->Vals (xs.take n) (us.take n)
 | _,_,0,_=>.nil
 | _,_,_ + 1,.nil=>.nil
 | _,_,n + 1,.cons r t=>.cons r (Vals.take n t)
theorem Vals.drop:∀ {xs:List V} {us:List Value} (n:Nat),Vals xs us->Vals (xs.drop n) (us.drop n)
 | _,_,0,r=>r
 | _,_,_ + 1,.nil=>.nil
 | _,_,n + 1,.cons _ t=>Vals.drop n t
def kY:Option V->Option Value->Prop
 | some v,some u=>RelV v u
 | none,none=>True
 | _,_=>False
def KV {κ:Type}:List (κ × V)->List (κ × Value)->Prop:=Paired fun (p:κ × V) (q:κ × Value)=>p.1=q.1/\RelV p.2 q.2
def kV:Key->V
 | .inl i=>.int i
 | .inr x=>.str x
inductive HO where
 | lst (xs:List V)
 | tup (xs:List V)
 | dK (kvs:List (Key × V)) | dT (kvs:List (List Key × V))
 | set (S:Int->Bool) (n:Nat)
 | ins (C dx:Addr) (fs:List (Str × V))
 | own (x:Addr)
 | xd (fs:List (Str × V))
 | met (f x:Addr)
 | rng (lo hi:Int)
 | frz (o:Obj) (u:HO)
 | tbl (ps:Array Value)
 | ext (φ:Heap->Prop)
abbrev Hp:=Addr->Option HO
def upd (H:Hp)(a:Addr)(o:HO):Hp:=fun b=>if b=a then some o else H b
theorem aF {H:Hp}{a:Addr}{o:HO}:upd H a o a=some o:=by unfold upd;rw [if_pos rfl]
theorem aD {H:Hp}{a b:Addr}{o:HO}(h:b≠a):upd H a o b=H b:=by unfold upd;rw [if_neg h]
theorem CK {H:Hp}{a:Addr}{o u:HO}:upd (upd H a o) a u=upd H a u:=by
 funext b;unfold upd;split <;> rfl
theorem DJ {H:Hp}{a b:Addr}{o u:HO}(h:H a=some o)(h':H b=some u)(d:o≠u):a≠b:=by
 intro e;subst e;rw [h] at h';exact d (x_ h')
theorem bA {H:Hp}{a b:Addr}{o:HO}(h:H a=some o)(h':H b=none):a≠b:=by
 intro e;subst e;rw [h] at h';cases h'
section
variable (P:Program)(w:World)
def bu (H:Hp)(h:Heap)(a:Addr):HO->Prop
 | .lst xs=>xs.length<=sizeLine/\∃ (its:List Value) (n:Nat),Vals xs its/\h.get? a=some { cls:=.type "list",data:=.seq its.toArray n }
 | .tup xs=>xs.length<=sizeLine/\∃ its:List Value,Vals xs its/\IsTup h a its.toArray
 | .dK kvs=>kvs.length<=sizeLine/\(a == sysModules)=false/\∃ vs,KV kvs vs/\h.DictOf (bp P w) a vs
 | .dT kvs=>kvs.length<=sizeLine/\(a == sysModules)=false/\∃ xs:List (List Key × Addr × Value),
   Paired (fun (p:List Key × V) (q:List Key × Addr × Value)=>p.1=q.1/\H q.2.1=some (.tup (p.1.map kV))/\RelV p.2 q.2.2) kvs xs/\
   ∃ o es ep,h.get? a=some o/\o.ExactDict/\o.data=.dict es ep/\es.toList=xs.map (entryOfKey (tupleKind (bp P w)))/\(xs.map (·.1)).Nodup
 | .set S n=>h.SetOf (intKind P w) a S n
 | .ins C dx fs=>H dx=some (.own a)/\fs.length<=1000/\dx≠a/\h.get? a=some (PySem.W.instObj C dx)/\
   ∃ mA,h.Ns1 dx mA/\(∀ f,kY (fs.lookup f) (mA f))/\PySem.Within mA (fs.map (·.1))
 | .own _=>∃ o,h.get? a=some o
 | .xd fs=>∃ mA,h.Ns1 a mA/\∀ f,kY (fs.lookup f) (mA f)
 | .rng lo hi=>∃ t u v,h.get? a=some { cls:=.type "range",data:=.fields #[.int lo t,.int hi u,.int 1 v] }
 | .frz o u=>h.get? a=some o/\bu H h a u
 | .tbl ps=>h.get? a=some { cls:=.none,data:=.fields ps }
 | .met f x=>h.get? a=some (PySem.W.methodObj (.ref f) (.ref x))
 | .ext φ=>φ h/\(∃ o,h.get? a=some o)/\∀ h1 h2:Heap,φ h1->(∀ o,h1.get? a=some o->h2.get? a=some o)->φ h2
def HOk (H:Hp)(h:Heap):Prop:=∀ a o,H a=some o->bu P w H h a o
end
section
variable {P:Program}{w:World}{H H':Hp}{h h':Heap}{a:Addr}{o:HO}
theorem bu.lt (x:bu P w H h a o):a < h.objs.size:=by
 cases o with
 | lst xs=>obtain⟨_,_,_,_,e⟩:=x;exact Heap.lt_size e
 | tup xs=>obtain⟨_,_,_,p⟩:=x;exact p.lt
 | dK kvs=>obtain⟨_,_,_,_,o,_,_,e,_⟩:=x;exact Heap.lt_size e
 | dT kvs=>obtain⟨_,_,_,_,o,_,_,e,_⟩:=x;exact Heap.lt_size e
 | set S n=>obtain⟨o,_,_,_,e,_⟩:=x;exact Heap.lt_size e
 | ins C dx fs=>obtain⟨_,_,_,e,_⟩:=x;exact Heap.lt_size e
 | own y=>obtain⟨_,e⟩:=x;exact Heap.lt_size e
 | xd fs=>obtain⟨_,⟨_,_,_,e,_⟩,_⟩:=x;exact Heap.lt_size e
 | rng lo hi=>obtain⟨_,_,_,e⟩:=x;exact Heap.lt_size e
 | frz ob u=>obtain⟨e,_⟩:=x;exact Heap.lt_size e
 | tbl ps=>exact Heap.lt_size (show h.get? a=some _ from x)
 | met f y=>exact Heap.lt_size (show h.get? a=some _ from x)
 | ext φ=>obtain⟨_,⟨_,e⟩,_⟩:=x;exact Heap.lt_size e
theorem Paired.Fx {α β:Type}{F G:α->β->Prop}:∀ {l₁:List α} {l₂:List β},Paired F l₁ l₂->(∀ a b,F a b->G a b)->Paired G l₁ l₂
 | _,_,.nil,_=>.nil
 | _,_,.cons r t,f=>.cons (f _ _ r) (Paired.Fx t f)
theorem bu.i5 (x:bu P w H h a o)(k:∀ b u,(b=a\/H b=some (.own a))->h.get? b=some u->h'.get? b=some u)
  (ho:∀ b,H b=some (.own a)->H' b=some (.own a)) (ht:∀ b xs,H b=some (.tup xs)->H' b=some (.tup xs)):bu P w H' h' a o:=by
 induction o with
 | lst xs=>obtain⟨z,its,n,r,e⟩:=x;exact⟨z,its,n,r,k _ _ (.inl rfl) e⟩
 | tup xs=>obtain⟨z,its,r,ob,e,c⟩:=x;exact⟨z,its,r,ob,k _ _ (.inl rfl) e,c⟩
 | dK kvs=>obtain⟨z,y,vs,r,ob,es,ep,e,c⟩:=x;exact⟨z,y,vs,r,ob,es,ep,k _ _ (.inl rfl) e,c⟩
 | dT kvs=>
  obtain⟨z,y,xs,r,ob,es,ep,e,c⟩:=x
  exact⟨z,y,xs,Paired.Fx r fun p q z=>⟨z.1,ht _ _ z.2.1,z.2.2⟩,ob,es,ep,k _ _ (.inl rfl) e,c⟩
 | set S n=>obtain⟨ob,es,ep,t,e,c⟩:=x;exact⟨ob,es,ep,t,k _ _ (.inl rfl) e,c⟩
 | ins C dx fs=>
  obtain⟨d,z,ne,e,mA,⟨od,es,ep,e2,c⟩,r⟩:=x
  exact⟨ho _ d,z,ne,k _ _ (.inl rfl) e,mA,⟨od,es,ep,k _ _ (.inr d) e2,c⟩,r⟩
 | own y=>obtain⟨ob,e⟩:=x;exact⟨ob,k _ _ (.inl rfl) e⟩
 | xd fs=>obtain⟨mA,⟨od,es,ep,e,c⟩,r⟩:=x;exact⟨mA,⟨od,es,ep,k _ _ (.inl rfl) e,c⟩,r⟩
 | rng lo hi=>obtain⟨t,u,v,e⟩:=x;exact⟨t,u,v,k _ _ (.inl rfl) e⟩
 | frz ob u ih=>obtain⟨e,q⟩:=x;exact⟨k _ _ (.inl rfl) e,ih q⟩
 | tbl ps=>
  have e:h.get? a=some { cls:=.none,data:=.fields ps }:=x
  show h'.get? a=some { cls:=.none,data:=.fields ps }
  exact k a _ (.inl rfl) e
 | met f y=>
  have e:h.get? a=some (PySem.W.methodObj (.ref f) (.ref y)):=x
  show h'.get? a=some (PySem.W.methodObj (.ref f) (.ref y))
  exact k a _ (.inl rfl) e
 | ext φ=>obtain⟨p,⟨o,e⟩,st⟩:=x;exact⟨st _ _ p fun o q=>k _ _ (.inl rfl) q,⟨o,k _ _ (.inl rfl) e⟩,st⟩
theorem HOk.lt (x:HOk P w H h)(e:H a=some o):a < h.objs.size:=(x a o e).lt
theorem HOk.fresh (x:HOk P w H h)(e:h.objs.size<=a):H a=none:=by
 cases q:H a with
 | none=>rfl
 | some u=>exact absurd (v_ (x.lt q) e) (Kt _)
theorem HOk.kept (x:HOk P w H h)(k:∀ b u,h.get? b=some u->h'.get? b=some u):HOk P w H h':=fun a o e=>
 (x a o e).i5 (fun b u _ q=>k b u q) (fun _ q=>q) fun _ _ q=>q
theorem HOk.laid (x:HOk P w H h)(k:∀ b u,h.get? b=some u->h'.get? b=some u)(hp:h.objs.size<=a)(new:bu P w (upd H a o) h' a o):HOk P w (upd H a o) h':=fun b u e=>by
 have hn:=x.fresh hp
 by_cases hb:b=a
 ·subst hb;rw [aF] at e;cases e;exact new
 ·rw [aD hb] at e
  exact (x b u e).i5 (fun c v _ q=>k c v q) (fun c q=>by rw [aD (bA q hn)];exact q) fun c xs q=>by rw [aD (bA q hn)];exact q
end
def Rd (H:Hp)(a:Addr)(u:HO):Prop:=H a=some u\/∃ o,H a=some (.frz o u)
theorem Rd.ok {P:Program}{w:World}{H:Hp}{h:Heap}{a:Addr}{u:HO}(r:Rd H a u)(x:HOk P w H h):bu P w H h a u:=by
 rcases r with r | ⟨o,r⟩
 ·exact x a u r
 ·obtain⟨_,q⟩:=x a _ r
  exact q
def Mut:Option HO->Prop
 | some (.lst _)=>True
 | some (.dK _)=>True
 | some (.dT _)=>True
 | some (.set _ _)=>True
 | some (.ins _ _ _)=>True
 | some (.ext _)=>True
 | _=>False
section
variable {P:Program}{w:World}{H:Hp}{h h':Heap}{x e:Addr}{o':HO}
theorem HOk.write (ok:HOk P w H h)(mu:Mut (H x))(he:e=x\/H e=some (.own x))(k:∀ b u,b≠e->h.get? b=some u->h'.get? b=some u)(heo:∃ u,h'.get? e=some u)
  (new:bu P w (upd H x o') h' x o'):HOk P w (upd H x o') h':=fun b u q=>by
 have nown:∀ c y,H c=some (.own y)->c≠x:=fun c y r z=>by subst z;rw [r] at mu;exact mu
 have ntup:∀ c xs,H c=some (.tup xs)->c≠x:=fun c xs r z=>by subst z;rw [r] at mu;exact mu
 by_cases hb:b=x
 ·subst hb;rw [aF] at q;cases q;exact new
 ·rw [aD hb] at q
  by_cases hbe:b=e
  ·have q':H b=some (.own x):=by
    rcases he with z | z
    ·exact absurd (hbe.trans z) hb
    ·rw [hbe];exact z
   rw [q] at q';cases q'
   obtain⟨v,hv⟩:=heo
   exact⟨v,by rw [hbe];exact hv⟩
  ·refine (ok b u q).i5 (fun c v hc r=>k c v ?_ r) (fun c r=>by rw [aD (nown c b r)];exact r) fun c xs r=>by rw [aD (ntup c xs r)];exact r
   rcases hc with rfl | hc
   ·exact hbe
   ·rintro rfl
    rcases he with z | z
    ·exact nown c b hc z
    ·rw [hc] at z;cases z;exact hb rfl
end
structure Un (fs ex:List Addr) (H H':Hp) (h h':Heap):Prop where
 keep:∀ b o,h.get? b=some o->H b=none->b ∉ fs->b ∉ ex->h'.get? b=some o
 slot:∀ b o,h.get? b=some o->H b=none->b∈fs->b ∉ ex->∃ sl,h'.get? b=some { o with slots:=sl }
 free:∀ b o,h.get? b=some o->H b=none->b ∉ ex->H' b=none
 there:∀ b o,h.get? b=some o->b ∉ ex->∃ o',h'.get? b=some o'
 tups:∀ b xs,H b=some (.tup xs)->H' b=some (.tup xs)
 frzs:∀ b o u,H b=some (.frz o u)->H' b=some (.frz o u)
 tbls:∀ b ps,H b=some (.tbl ps)->∃ more,H' b=some (.tbl (ps++more))
section
variable {fs fs' ex ex':List Addr}{H H1 H2:Hp}{h h1 h2 h':Heap}{a x e:Addr}{o:HO}
theorem Un.any (u:Un fs ex H H1 h h1){b:Addr}{ob:Obj}(q:h.get? b=some ob)(n:H b=none)(hx:b ∉ ex):∃ sl,h1.get? b=some { ob with slots:=sl }:=by
 by_cases hb:b∈fs
 ·exact u.slot b ob q n hb hx
 ·exact⟨ob.slots,u.keep b ob q n hb hx⟩
theorem Un.kept (k:∀ b u,h.get? b=some u->h'.get? b=some u):Un fs ex H H h h':=
 ⟨fun b ob q _ _ _=>k b ob q,fun b ob q _ _ _=>⟨ob.slots,k b ob q⟩,fun _ _ _ n _=>n,fun b ob q _=>⟨ob,k b ob q⟩,fun _ _ q=>q,fun _ _ _ q=>q,fun _ ps q=>⟨#[],by rw [q];simp⟩⟩
theorem Un.refl:Un fs ex H H h h:=Un.kept fun _ _ q=>q
theorem Un.laid (k:∀ b u,h.get? b=some u->h'.get? b=some u)(hp:h.objs.size<=a)(hn:H a=none):Un fs ex H (upd H a o) h h' where
 keep:=fun b u q _ _ _=>k b u q
 slot:=fun b u q _ _ _=>⟨u.slots,k b u q⟩
 free:=fun b u q n _=>by rw [aD (q_ (v_ (Heap.lt_size q) hp))];exact n
 there:=fun b u q _=>⟨u,k b u q⟩
 tups:=fun b xs q=>by rw [aD (bA q hn)];exact q
 frzs:=fun b u xs q=>by rw [aD (bA q hn)];exact q
 tbls:=fun b ps q=>⟨#[],by rw [aD (bA q hn),q];simp⟩
theorem Un.write (mu:Mut (H x))(he:e=x\/H e=some (.own x))(k:∀ b u,b≠e->h.get? b=some u->h'.get? b=some u)(heo:∃ u,h'.get? e=some u):Un fs ex H (upd H x o) h h':=by
 have hx:∀ b,H b=none->b≠x:=fun b n z=>by subst z;rw [n] at mu;exact mu
 have hb:∀ b,H b=none->b≠e:=fun b n z=>by
  subst z
  rcases he with r | r
  ·exact hx b n r
  ·rw [n] at r;cases r
 have hm:∀ b u,H b=some u->¬ Mut (some u)->b≠x:=fun b u q nm z=>by subst z;rw [q] at mu;exact nm mu
 refine⟨fun b u q n _ _=>k b u (hb b n) q,fun b u q n _ _=>⟨u.slots,k b u (hb b n) q⟩,fun b u q n _=>by rw [aD (hx b n)];exact n,fun b u q _=>?_,
  fun b xs q=>by rw [aD (hm b _ q fun z=>z)];exact q,fun b u xs q=>by rw [aD (hm b _ q fun z=>z)];exact q,fun b ps q=>⟨#[],by rw [aD (hm b _ q fun z=>z),q];simp⟩⟩
 by_cases hbe:b=e
 ·subst hbe;exact heo
 ·exact⟨u,k b u hbe q⟩
end
def trk (h:Heap)(H:Hp):List Addr:=(y_ h.objs.size).filter fun a=>(H a).isSome
def oG (h:Heap)(H:Hp):Heap:=PySem.W.hideAll h (trk h H)
theorem wc (h:Heap)(H:Hp):(oG h H).objs.size=h.objs.size:=PySem.W.hideAll_size _ _
theorem A9 {h:Heap}{H:Hp}{b:Addr}{o:Obj}(e:h.get? b=some o)(n:H b=none):(oG h H).get? b=some o:=
 PySem.W.hideAll_get _ e fun hm=>by
  have q:(H b).isSome=true:=(JV.mp hm).2
  rw [n] at q;simp at q
theorem Cd {h:Heap}{H:Hp}{b:Addr}{o:Obj}(e:(oG h H).get? b=some o):h.get? b=some o/\H b=none:=by
 have e':h.get? b=some o:=PySem.W.of_hideAll (trk h H) e
 refine⟨e',?_⟩
 cases q:H b with
 | none=>rfl
 | some x=>
  have hm:b∈trk h H:=JV.mpr ⟨KQ.mpr (Heap.lt_size e'),by simp [q]⟩
  have z:(oG h H).get? b=none:=PySem.W.hideAll_none (trk h H) hm
  rw [z] at e;cases e
def Cg (g h:Heap)(L:Addr):List (Addr × Obj):=(y_ h.objs.size).filterMap fun a=>if a=L\/(g.get? a).isSome=true then none else (h.get? a).map fun o=>(a,o)
def rest (g h:Heap)(L d:Addr):List (Addr × Obj):=(Cg g h L).filter fun p=>decide (p.1≠d)
end L2
namespace L2
open PySem PySem.Spec PyProof.Rows
structure Mod (K:PySem.W.Frag) (mg:Str->Option Value) (base:Heap):Prop where
 kin:K.In base
 glob:base.Ns mainGlobals mg
 blt:∃ mb,base.Ns builtinsNs mb/\∀ x:Str,x≠"__name__"->mb x=bootBuiltins x
 nolimit:base.NoLimit
structure Cx where
 prog:Program
 w:World
 K:PySem.W.Frag
 mg:Str->Option Value
 base:Heap
 A:Around
 N:List Str
 s₀:Shared
 H₀:Hp
 env:Env
 outer:List Env
 stack:List Env
 ex:List Addr
 fn:Str->Bool
 calm:Bool
 pn:List (Addr × Obj)
 xe:Value->Shared->Prop
def frs (l:List Env):List Addr:=l.filterMap (·.frame)
abbrev Cx.fs (X:Cx):List Addr:=frs X.outer
def Vis (sc:Scope)(x:Str):Prop:=sc.names.lookup x=some .local\/sc.names.lookup x=some .cell\/sc.names.lookup x=some .free
def Loc (sc:Scope)(x:Str):Prop:=sc.names.lookup x=some .local\/sc.names.lookup x=some .cell
def Look (env:Env)(h:Heap)(m:Str->Option Value)(x:Str)(u:Value):Prop:=
 (env.kindOf x=some .local/\m x=some u)\/((env.kindOf x=some .cell\/env.kindOf x=some .free)/\∃ c,env.cells.lookup x=some c/\h.IsCell c (some u))
structure Cx.Ok (X:Cx):Prop where
 mod:Mod X.K X.mg X.base
 kind:X.env.scope.kind=.function
 glob:X.env.globals=mainGlobals
 blt:X.env.builtins=builtinsNs
 above:X.s₀.heap.objs.size<=X.env.locals
 inj:∀ x y c,X.env.cells.lookup x=some c->X.env.cells.lookup y=some c->x=y
 has:∀ x,(X.env.kindOf x=some .cell\/X.env.kindOf x=some .free)->∃ c,X.env.cells.lookup x=some c
 cab:∀ x c,X.fn x=true->X.env.cells.lookup x=some c->X.s₀.heap.objs.size<=c
 hd:X.calm=true->X.A.handled=none
 frames:X.A.frames=some X.stack
 stk:X.stack=X.outer\/(X.stack=X.env::X.outer/\X.env.frame=some X.env.locals)
 exf:∀ b∈X.ex,b≠X.env.locals/\∀ x c,X.env.cells.lookup x=some c->c≠b
 bs:∀ b o,X.base.get? b=some o->X.s₀.heap.get? b=some o/\X.H₀ b=none
 bsz:X.base.objs.size<=X.s₀.heap.objs.size
 noex:∀ b o,X.base.get? b=some o->b ∉ X.ex
 exfs:∀ b∈X.ex,b ∉ X.fs
 m4:X.s₀.heap.FunFrames X.base X.outer
 frf:∀ b∈X.fs,X.H₀ b=none
structure Inv (X:Cx) (pins:List (Addr × Obj)) (σ:List (Option V)) (H:Hp) (s:Shared):Prop where
 ok:X.Ok
 os:s.os=X.s₀.os
 bare:AllBare s.gens
 base:Un X.fs X.ex X.H₀ H X.s₀.heap s.heap
 loc:∃ m,s.heap.Ns X.env.locals m/\∀ (i:Nat) (x:Str) (v:V),X.N[i]?=some x->σ[i]?=some (some v)->Vis X.env.scope x->∃ u,RelV v u/\Look X.env s.heap m x u
 cell:∀ x c,X.env.cells.lookup x=some c->∃ v,s.heap.IsCell c v
 free:H X.env.locals=none
 freeC:∀ x c,X.env.cells.lookup x=some c->H c=none
 pin:∀ p∈X.pn++pins,s.heap.get? p.1=some p.2/\H p.1=none/\p.1≠X.env.locals/\p.1 ∉ X.fs/\∀ v,p.2.data≠.cell v
 hok:HOk X.prog X.w H s.heap
 len:σ.length=X.N.length
section
variable {X:Cx}{pins:List (Addr × Obj)}{σ:List (Option V)}{H H':Hp}{s:Shared}{h':Heap}
theorem Cx.Ok.Jj (ok:X.Ok){b:Addr}{o:Obj}(e:X.base.get? b=some o):b ∉ X.fs:=fun hb=>by
 have:=(ok.m4.mem hb).1
 rw [e] at this;cases this
theorem Inv.bs (I:Inv X pins σ H s):∀ b o,X.base.get? b=some o->s.heap.get? b=some o/\H b=none:=fun b o e=>
 ⟨I.base.keep b o (I.ok.bs b o e).1 (I.ok.bs b o e).2 (I.ok.Jj e) (I.ok.noex b o e),I.base.free b o (I.ok.bs b o e).1 (I.ok.bs b o e).2 (I.ok.noex b o e)⟩
theorem Inv.bk (I:Inv X pins σ H s):∀ b o,X.base.get? b=some o->s.heap.get? b=some o:=fun b o e=>(I.bs b o e).1
theorem Inv.mod (I:Inv X pins σ H s):Mod X.K X.mg X.base:=I.ok.mod
theorem Inv.kIn (I:Inv X pins σ H s):X.K.In s.heap:=I.ok.mod.kin.keeps I.bk
theorem Inv.lt (I:Inv X pins σ H s):X.env.locals < s.heap.objs.size:=let ⟨_,hn,_⟩:=I.loc;hn.lt
theorem Inv.sz (I:Inv X pins σ H s):X.s₀.heap.objs.size<=s.heap.objs.size:=r_ I.ok.above (Jz I.lt)
theorem Inv.Ji (I:Inv X pins σ H s){a:Addr}(h:s.heap.objs.size<=a):a ∉ X.fs:=fun hb=>by
 obtain⟨_,o,ho,_⟩:=I.ok.m4.mem hb
 exact absurd (v_ (Heap.lt_size ho) (r_ I.sz h)) (Kt _)
theorem Inv.cne (I:Inv X pins σ H s):∀ x c,X.env.cells.lookup x=some c->c≠X.env.locals:=fun x c e z=>by
 obtain⟨v,o,ho,hd⟩:=I.cell x c e
 obtain⟨m,⟨o',es,ep,ho',hd',_⟩,_⟩:=I.loc
 rw [z,ho'] at ho;cases ho;rw [hd'] at hd;cases hd
theorem Inv.m4 (I:Inv X pins σ H s):s.heap.FunFrames X.base X.outer:=by
 have all:∀ (l:List Env),(∀ b∈frs l,b∈X.fs)->X.s₀.heap.FunFrames X.base l->s.heap.FunFrames X.base l:=by
  intro l
  induction l with
  | nil=>intro _ _;trivial
  | cons env r ih=>
   intro hs hl
   obtain⟨hk,⟨L,o,hf,hn,ho,hd⟩,hr⟩:=hl
   have hL:L∈X.fs:=hs L (by unfold frs;rw [Ll,hf];exact t_)
   obtain⟨sl,e⟩:=I.base.slot L o ho (I.ok.frf L hL) hL fun z=>I.ok.exfs L z hL
   exact⟨hk,⟨L,_,hf,hn,e,hd⟩,ih (fun b hb=>hs b (by unfold frs;rw [Ll,hf];exact o_ _ hb)) hr⟩
 exact all X.outer (fun _ hb=>hb) I.ok.m4
theorem Inv.stack (I:Inv X pins σ H s):s.heap.FunFrames X.base X.stack:=by
 rcases I.ok.stk with e | ⟨e,hf⟩
 ·rw [e];exact I.m4
 ·rw [e]
  obtain⟨m,hn,_⟩:=I.loc
  refine .cons (by rw [I.ok.kind];decide) hf hn ?_ I.m4
  exact Heap.get?_none_of_le (r_ I.ok.bsz I.ok.above)
theorem Inv.tX (I:Inv X pins σ H s):∀ b∈frs X.stack,b∈X.env.locals::X.fs:=fun b hb=>by
 rcases I.ok.stk with e | ⟨e,hf⟩
 ·rw [e] at hb;exact o_ _ hb
 ·rw [e] at hb
  unfold frs at hb
  rw [Ll,hf] at hb
  exact hb
theorem Inv.uf (I:Inv X pins σ H s):∀ b∈frs X.stack,H b=none:=fun b hb=>by
 rcases m_.mp (I.tX b hb) with e | hb
 ·rw [e];exact I.free
 ·obtain⟨_,o,ho,_⟩:=I.ok.m4.mem hb
  exact I.base.free b o ho (I.ok.frf b hb) fun z=>I.ok.exfs b z hb
theorem Inv.step {g':Array GenState}{t':Nat}{d':Drawn}{ch:List Addr}(I:Inv X pins σ H s)
  (hch:∀ b∈ch,(b∈X.ex\/X.s₀.heap.objs.size<=b)/\b≠X.env.locals/\(∀ x c,X.env.cells.lookup x=some c->c≠b)/\∀ p∈X.pn++pins,p.1≠b)
  (keep:∀ b o,b≠X.env.locals->b ∉ X.fs->b ∉ ch->s.heap.get? b=some o->H b=none->h'.get? b=some o)
  (slot:∀ b o,b≠X.env.locals->b∈X.fs->b ∉ ch->s.heap.get? b=some o->H b=none->∃ sl,h'.get? b=some { o with slots:=sl }) (free:∀ b o,b ∉ ch->s.heap.get? b=some o->H b=none->H' b=none)
  (there:∀ b o,b ∉ ch->s.heap.get? b=some o->∃ o',h'.get? b=some o')
  (tups:∀ b xs,H b=some (.tup xs)->H' b=some (.tup xs)) (frzs:∀ b o u,H b=some (.frz o u)->H' b=some (.frz o u)) (tbls:∀ b ps,H b=some (.tbl ps)->∃ more,H' b=some (.tbl (ps++more)))
  (ns:∀ m,s.heap.Ns X.env.locals m->h'.Ns X.env.locals m) (hok:HOk X.prog X.w H' h') (hg:AllBare g') :
  Inv X pins σ H' { s with heap:=h',gens:=g',drawn:=d',toks:=t' }:=by
 have neL:∀ b o,X.s₀.heap.get? b=some o->b≠X.env.locals:=fun b o e=>q_ (v_ (Heap.lt_size e) I.ok.above)
 have neC:∀ b o,X.s₀.heap.get? b=some o->b ∉ X.ex->b ∉ ch:=fun b o e hx hb=>by
  rcases (hch b hb).1 with z | z
  ·exact hx z
  ·exact absurd (v_ (Heap.lt_size e) z) (Kt _)
 have cellK:∀ x c,X.env.cells.lookup x=some c->∀ v,s.heap.IsCell c v->h'.IsCell c v:=fun x c e v ⟨o,ho,hd⟩=>by
  have nch:c ∉ ch:=fun z=>(hch c z).2.2.1 x c e rfl
  by_cases hc:c∈X.fs
  ·obtain⟨sl,q⟩:=slot c o (I.cne x c e) hc nch ho (I.freeC x c e)
   exact⟨_,q,hd⟩
  ·exact⟨o,keep c o (I.cne x c e) hc nch ho (I.freeC x c e),hd⟩
 refine⟨I.ok,I.os,hg,⟨fun b o e n hb hx=>?_,fun b o e n hb hx=>?_,fun b o e n hx=>?_,fun b o e hx=>?_,fun b xs e=>tups b xs (I.base.tups b xs e),fun b o xs e=>frzs b o xs (I.base.frzs b o xs e),fun b ps e=>?_⟩,?_,fun x c e=>?_,?_,fun x c e=>?_,fun p hp=>?_,hok,I.len⟩
 ·exact keep b o (neL b o e) hb (neC b o e hx) (I.base.keep b o e n hb hx) (I.base.free b o e n hx)
 ·obtain⟨sl,e1⟩:=I.base.slot b o e n hb hx
  obtain⟨sl',e2⟩:=slot b _ (neL b o e) hb (neC b o e hx) e1 (I.base.free b o e n hx)
  exact⟨sl',e2⟩
 ·obtain⟨o',e1⟩:=I.base.there b o e hx
  exact free b o' (neC b o e hx) e1 (I.base.free b o e n hx)
 ·obtain⟨o',e1⟩:=I.base.there b o e hx
  exact there b o' (neC b o e hx) e1
 ·obtain⟨m1,e1⟩:=I.base.tbls b ps e
  obtain⟨m2,e2⟩:=tbls b _ e1
  exact⟨m1++m2,by rw [e2,Array.append_assoc]⟩
 ·obtain⟨m,hn,hl⟩:=I.loc
  refine⟨m,ns m hn,fun i x v e1 e2 e3=>?_⟩
  obtain⟨u,r,l⟩:=hl i x v e1 e2 e3
  refine⟨u,r,?_⟩
  rcases l with l | ⟨k,c,e,z⟩
  ·exact .inl l
  ·exact .inr ⟨k,c,e,cellK x c e _ z⟩
 ·obtain⟨v,z⟩:=I.cell x c e
  exact⟨v,cellK x c e v z⟩
 ·obtain⟨m,⟨o,_,_,ho,_⟩,_⟩:=I.loc
  exact free _ o (fun z=>(hch _ z).2.1 rfl) ho I.free
 ·obtain⟨v,o,ho,hd⟩:=I.cell x c e
  exact free c o (fun z=>(hch c z).2.2.1 x c e rfl) ho (I.freeC x c e)
 ·obtain⟨e,n,ne,nf,d⟩:=I.pin p hp
  have nch:p.1 ∉ ch:=fun z=>(hch p.1 z).2.2.2 p hp rfl
  exact⟨keep p.1 p.2 ne nf nch e n,free p.1 p.2 nch e n,ne,nf,d⟩
theorem Inv.un {t':Nat}(I:Inv X pins σ H s)(u:Un X.fs [] H H' s.heap h')(hok:HOk X.prog X.w H' h'):Inv X pins σ H' { s with heap:=h',toks:=t' }:=by
 obtain⟨m,⟨o,es,ep,ho,r⟩,_⟩:=id I.loc
 obtain⟨sl,hL⟩:=u.any ho I.free (by simp)
 exact I.step (g':=s.gens) (d':=s.drawn) (ch:=[]) (fun _ z=>nomatch z) (fun b o _ hb _ e n=>u.keep b o e n hb (by simp)) (fun b o _ hb _ e n=>u.slot b o e n hb (by simp)) (fun b o _ e n=>u.free b o e n (by simp)) (fun b o _ e=>u.there b o e (by simp)) u.tups u.frzs u.tbls (fun m' hm=>by
  obtain⟨o',es',ep',ho',r'⟩:=hm
  rw [ho] at ho';cases ho'
  exact⟨_,es',ep',hL,r'⟩) hok I.bare
theorem Inv.call {g':Array GenState}{t':Nat}{d':Drawn}{ch:List Addr}(I:Inv X pins σ H s)(u:Un (frs X.stack) ch H H' s.heap h')(hok:HOk X.prog X.w H' h')(hg:AllBare g')
  (hch:∀ b∈ch,(b∈X.ex\/X.s₀.heap.objs.size<=b)/\b≠X.env.locals/\(∀ x c,X.env.cells.lookup x=some c->c≠b)/\∀ p∈X.pn++pins,p.1≠b) :
  Inv X pins σ H' { s with heap:=h',gens:=g',drawn:=d',toks:=t' }:=by
 obtain⟨m,⟨o,es,ep,ho,r⟩,_⟩:=id I.loc
 obtain⟨sl,hL⟩:=u.any ho I.free fun z=>(hch _ z).2.1 rfl
 exact I.step (ch:=ch) hch (fun b o hL hb hc e n=>u.keep b o e n (fun z=>(m_.mp (I.tX b z)).elim hL hb) hc) (fun b o _ _ hc e n=>u.any e n hc) (fun b o hc e n=>u.free b o e n hc) (fun b o hc e=>u.there b o e hc) u.tups u.frzs u.tbls (fun m' hm=>by
  obtain⟨o',es',ep',ho',r'⟩:=hm
  rw [ho] at ho';cases ho'
  exact⟨_,es',ep',hL,r'⟩) hok hg
theorem Inv.turned {t':Nat}{it:Addr}(I:Inv X pins σ H s)(k:∀ b o,b≠it->s.heap.get? b=some o->h'.get? b=some o)(hn:H it=none)(hL:it≠X.env.locals)
  (h1:it∈X.ex\/X.s₀.heap.objs.size<=it) (h2:∀ x c,X.env.cells.lookup x=some c->c≠it) (h3:∀ p∈X.pn++pins,p.1≠it):Inv X pins σ H { s with heap:=h',toks:=t' }:=by
 have nit:∀ b u,H b=some u->b≠it:=fun b u e z=>by rw [z,hn] at e;cases e
 refine I.step (g':=s.gens) (d':=s.drawn) (ch:=[it]) (fun b hb=>?_) (fun b o _ _ hc e _=>k b o (fun z=>hc (by simp [z])) e) (fun b o _ _ hc e _=>⟨o.slots,k b o (fun z=>hc (by simp [z])) e⟩) (fun _ _ _ _ n=>n)
  (fun b o hc e=>⟨o,k b o (fun z=>hc (by simp [z])) e⟩) (fun _ _ e=>e) (fun _ _ _ e=>e) (fun b ps e=>⟨#[],by rw [e];simp⟩) (fun m hm=>?_) (fun b u e=>?_) I.bare
 ·have e:b=it:=by simpa using hb
  subst e
  exact⟨h1,hL,h2,h3⟩
 ·obtain⟨o,es,ep,ho,r⟩:=hm
  exact⟨o,es,ep,k _ o (Ne.symm hL) ho,r⟩
 ·refine (I.hok b u e).i5 (fun c v hc q=>k c v ?_ q) (fun _ q=>q) fun _ _ q=>q
  rcases hc with z | z
  ·rw [z];exact nit b u e
  ·exact nit c _ z
theorem Inv.tok (I:Inv X pins σ H s)(t:Nat):Inv X pins σ H { s with toks:=t }:=I.un (h':=s.heap) (t':=t) Un.refl I.hok
theorem Inv.kept {t':Nat}(I:Inv X pins σ H s)(k:∀ b u,s.heap.get? b=some u->h'.get? b=some u):Inv X pins σ H { s with heap:=h',toks:=t' }:=I.un (Un.kept k) (I.hok.kept k)
theorem Inv.laid {a:Addr}{o:HO}{t':Nat}(I:Inv X pins σ H s)(k:∀ b u,s.heap.get? b=some u->h'.get? b=some u)(hp:s.heap.objs.size<=a)(new:bu X.prog X.w (upd H a o) h' a o) :
  Inv X pins σ (upd H a o) { s with heap:=h',toks:=t' }:=I.un (Un.laid k hp (I.hok.fresh hp)) (I.hok.laid k hp new)
theorem Inv.write {x e:Addr}{o:HO}{t':Nat}(I:Inv X pins σ H s)(mu:Mut (H x))(he:e=x\/H e=some (.own x))(k:∀ b u,b≠e->s.heap.get? b=some u->h'.get? b=some u)(heo:∃ u,h'.get? e=some u)
  (new:bu X.prog X.w (upd H x o) h' x o):Inv X pins σ (upd H x o) { s with heap:=h',toks:=t' }:=I.un (Un.write mu he k heo) (I.hok.write mu he k heo new)
theorem Inv.vn {pins':List (Addr × Obj)}(I:Inv X pins σ H s)(h:∀ p∈pins',s.heap.get? p.1=some p.2/\H p.1=none/\p.1≠X.env.locals/\p.1 ∉ X.fs/\∀ v,p.2.data≠.cell v):Inv X pins' σ H s:=
 ⟨I.ok,I.os,I.bare,I.base,I.loc,I.cell,I.free,I.freeC,fun p hp=>(G_.mp hp).elim (fun z=>I.pin p (E_ _ z)) (h p),I.hok,I.len⟩
theorem sE {N:List Str}(hN:N.Nodup){i j:Nat}{x:Str}(a:N[i]?=some x)(b:N[j]?=some x):i=j:=by
 obtain⟨h1,e1⟩:=e_.mp a
 obtain⟨h2,e2⟩:=e_.mp b
 exact (List.getElem_inj hN).mp (e1.trans e2.symm)
theorem nX {M:Model}{A:Around}{E:Value->Shared->Prop}{i:Nat}{x:Str}{v:V}{u:Value}{Q:Unit->Shared->Prop}(I:Inv X pins σ H s)(hN:X.N.Nodup)(hi:X.N[i]?=some x)(hx:Loc X.env.scope x)(r:RelV v u)
  (h:∀ s',Inv X pins (σ.set i (some v)) H s'->(∃ a,Heap.SameBut a s.heap s'.heap/\(a=X.env.locals\/X.env.cells.lookup x=some a))->Q () s') (hf:X.fn x=true\/X.env.scope.names.lookup x=some .local:=by first | exact .inl rfl | exact .inr rfl | assumption):wpAny M A (storeName X.env x u) Q E s:=by
 obtain⟨m,hn,hl⟩:=id I.loc
 have hcls:(X.env.scope.kind == .class || (X.env.scope.kind == .module && X.env.locals != X.env.globals))=false:=by rw [I.ok.kind];rfl
 have hiσ:i < σ.length:=by rw [I.len];exact (e_.mp hi).1
 have cne:=I.cne
 have tracked:∀ {a:Addr} {h':Heap},(∃ o,s.heap.get? a=some o/\H a=none)->Heap.SameBut a s.heap h'->HOk X.prog X.w H h':=fun {a h'} ha hs b ob e=>by
  obtain⟨_,_,hfree⟩:=ha
  refine (I.hok b ob e).i5 (fun c w' hc q=>(hs.2 c ?_).trans q) (fun _ q=>q) fun _ _ q=>q
  rintro rfl
  rcases hc with rfl | hc
  ·rw [hfree] at e;cases e
  ·rw [hfree] at hc;cases hc
 rcases hx with hk | hk
 ·refine wpAny_storeName_local hk hn (fun h' hn' hs=>?_) hcls
  obtain⟨oL,_,_,hoL,_⟩:=id hn
  refine h _ ⟨I.ok,I.os,I.bare,⟨fun b o e n hb hx=>?_,fun b o e n hb hx=>?_,I.base.free,fun b o e hx=>?_,I.base.tups,I.base.frzs,I.base.tbls⟩,⟨_,hn',fun j y v' e1 e2 e3=>?_⟩,fun y c e=>?_,I.free,I.freeC,fun p hp=>?_,tracked ⟨oL,hoL,I.free⟩ hs,by simpa using I.len⟩ ⟨_,hs,.inl rfl⟩
  ·exact (hs.2 b (q_ (v_ (Heap.lt_size e) I.ok.above))).trans (I.base.keep b o e n hb hx)
  ·obtain⟨sl,e1⟩:=I.base.slot b o e n hb hx
   exact⟨sl,(hs.2 b (q_ (v_ (Heap.lt_size e) I.ok.above))).trans e1⟩
  ·obtain⟨o',e1⟩:=I.base.there b o e hx
   exact⟨o',(hs.2 b (q_ (v_ (Heap.lt_size e) I.ok.above))).trans e1⟩
  ·by_cases hj:j=i
   ·subst hj
    rw [hi] at e1;cases e1
    rw [K7 hiσ] at e2
    cases e2
    exact⟨u,r,.inl ⟨hk,by simp⟩⟩
   ·rw [KL (Ne.symm hj)] at e2
    obtain⟨u',r',q⟩:=hl j y v' e1 e2 e3
    refine⟨u',r',?_⟩
    rcases q with⟨k,e⟩ | ⟨k,c,e,z⟩
    ·refine .inl ⟨k,?_⟩
     have:y≠x:=fun e=>hj (sE hN e1 (e ▸ hi))
     simp [this,e]
    ·exact .inr ⟨k,c,e,z.sameBut hs (cne y c e)⟩
  ·obtain⟨w',z⟩:=I.cell y c e
   exact⟨w',z.sameBut hs (cne y c e)⟩
  ·obtain⟨e,n,ne,nf,d⟩:=I.pin p hp
   exact⟨(hs.2 p.1 ne).trans e,n,ne,nf,d⟩
 ·have hfn:X.fn x=true:=by
   rcases hf with z | z
   ·exact z
   ·rw [z] at hk;cases hk
  obtain⟨c,hc⟩:=I.ok.has x (.inl hk)
  obtain⟨w',z⟩:=I.cell x c hc
  refine wpAny_storeName_cell I.ok.kind hk hc z (fun h' hc' hs=>?_)
  obtain⟨oc,hoc,hocd⟩:=id z
  refine h { s with heap:=h' } ⟨I.ok,I.os,I.bare,⟨fun b o e n hb hx=>?_,fun b o e n hb hx=>?_,I.base.free,fun b o e hx=>?_,I.base.tups,I.base.frzs,I.base.tbls⟩,⟨m,hn.sameBut hs (Ne.symm (cne x c hc)),fun j y v' e1 e2 e3=>?_⟩,fun y c' e=>?_,I.free,I.freeC,fun p hp=>?_,tracked ⟨oc,hoc,I.freeC x c hc⟩ hs,by simpa using I.len⟩ ⟨c,hs,.inr hc⟩
  ·exact (hs.2 b (q_ (v_ (Heap.lt_size e) (I.ok.cab x c hfn hc)))).trans (I.base.keep b o e n hb hx)
  ·obtain⟨sl,e1⟩:=I.base.slot b o e n hb hx
   exact⟨sl,(hs.2 b (q_ (v_ (Heap.lt_size e) (I.ok.cab x c hfn hc)))).trans e1⟩
  ·obtain⟨o',e1⟩:=I.base.there b o e hx
   exact⟨o',(hs.2 b (q_ (v_ (Heap.lt_size e) (I.ok.cab x c hfn hc)))).trans e1⟩
  ·by_cases hj:j=i
   ·subst hj
    rw [hi] at e1;cases e1
    rw [K7 hiσ] at e2
    cases e2
    exact⟨u,r,.inr ⟨.inl hk,c,hc,hc'⟩⟩
   ·rw [KL (Ne.symm hj)] at e2
    obtain⟨u',r',q⟩:=hl j y v' e1 e2 e3
    refine⟨u',r',?_⟩
    rcases q with q | ⟨k,c',e,z'⟩
    ·exact .inl q
    ·refine .inr ⟨k,c',e,z'.sameBut hs ?_⟩
     rintro rfl
     exact hj (sE hN e1 (I.ok.inj _ _ _ e hc ▸ hi))
  ·by_cases hcc:c'=c
   ·subst hcc;exact⟨_,hc'⟩
   ·obtain⟨w2,z2⟩:=I.cell y c' e
    exact⟨w2,z2.sameBut hs hcc⟩
  ·obtain⟨e,n,ne,nf,d⟩:=I.pin p hp
   refine⟨(hs.2 p.1 ?_).trans e,n,ne,nf,d⟩
   intro q
   rw [q,hoc] at e
   have q':oc=p.2:=x_ e
   exact d w' (by rw [<-q'];exact hocd)
theorem mZ {M:Model}{A:Around}{E:Value->Shared->Prop}{i:Nat}{x:Str}{v:V}{u:Value}{Q:Unit->Shared->Prop}(I:Inv X pins σ H s)(hN:X.N.Nodup)(hi:X.N[i]?=some x)(hx:Loc X.env.scope x)(r:RelV v u)
  (h:∀ s',Inv X pins (σ.set i (some v)) H s'->Q () s') (hf:X.fn x=true\/X.env.scope.names.lookup x=some .local:=by first | exact .inl rfl | exact .inr rfl | assumption):wpAny M A (storeName X.env x u) Q E s:=
 nX I hN hi hx r (fun s' I' _=>h s' I') hf
theorem Inv.Di {s':Shared}{ch:List Addr}(I:Inv X pins σ H s)(ho:s'.os=s.os)(u:Un (frs X.stack) ch H H' s.heap s'.heap)(hok:HOk X.prog X.w H' s'.heap)(hg:AllBare s'.gens)
  (hch:∀ b∈ch,(b∈X.ex\/X.s₀.heap.objs.size<=b)/\b≠X.env.locals/\(∀ x c,X.env.cells.lookup x=some c->c≠b)/\∀ p∈X.pn++pins,p.1≠b):Inv X pins σ H' s':=by
 obtain⟨h',g',d',t',o'⟩:=s'
 have e:o'=s.os:=ho
 subst e
 exact I.call (g':=g') (t':=t') (d':=d') u hok hg hch
end
abbrev XK:=Value->Option Addr->Hp->Prop
abbrev St:=List (Option V)
abbrev VK:=V->Hp->Prop
abbrev TE:=St->Hp->VK->Prop
abbrev TT:=St->Hp->(Bool->Hp->Prop)->Prop
abbrev TA:=St->Hp->(List V->Hp->Prop)->Prop
structure Ends where
 nx:St->Hp->Prop
 rt:VK
 bk:St->Hp->Prop:=fun _ _=>False
 ct:St->Hp->Prop:=fun _ _=>False
abbrev TS:=Ends->St->Hp->Prop
def EP (X:Cx)(pins:List (Addr × Obj))(σ:St)(Q:VK)(u:Value)(s':Shared):Prop:=∃ v H',Inv X pins σ H' s'/\RelV v u/\Q v H'
def TP (X:Cx)(pins:List (Addr × Obj))(σ:St)(Q:Bool->Hp->Prop)(b:Bool)(s':Shared):Prop:=∃ H',Inv X pins σ H' s'/\Q b H'
def AP (X:Cx)(pins:List (Addr × Obj))(σ:St)(Q:List V->Hp->Prop)(us:List Value)(s':Shared):Prop:=∃ vs H',Inv X pins σ H' s'/\Vals vs us/\Q vs H'
def SP (X:Cx)(pins:List (Addr × Obj))(D:Ends)(f:Flow)(s':Shared):Prop:=
 match f with
 | .next=>∃ σ' H',Inv X pins σ' H' s'/\D.nx σ' H'
 | .brk=>∃ σ' H',Inv X pins σ' H' s'/\D.bk σ' H'
 | .cont=>∃ σ' H',Inv X pins σ' H' s'/\D.ct σ' H'
 | .ret u=>∃ v σ' H',Inv X pins σ' H' s'/\RelV v u/\D.rt v H'
def PE (X:Cx)(e:Expr)(t:TE):Prop:=
 ∀ (pins:List (Addr × Obj)) (s:Shared) (σ:St) (H:Hp) (Q:VK),Inv X pins σ H s->t σ H Q->wpAny (model X.prog X.w) X.A (eval e X.env) (EP X pins σ Q) X.xe s
def PT (X:Cx)(e:Expr)(t:TT):Prop:=
 ∀ (pins:List (Addr × Obj)) (s:Shared) (σ:St) (H:Hp) (Q:Bool->Hp->Prop),Inv X pins σ H s->t σ H Q->wpAny (model X.prog X.w) X.A (isTrue e X.env (eval e X.env)) (TP X pins σ Q) X.xe s
def PW (X:Cx)(e:Expr)(t:TT):Prop:=
 ∀ (whole:Sem Value) (pins:List (Addr × Obj)) (s:Shared) (σ:St) (H:Hp) (Q:Bool->Hp->Prop),Inv X pins σ H s->t σ H Q->wpAny (model X.prog X.w) X.A (isTrue e X.env whole) (TP X pins σ Q) X.xe s
theorem PW.pt {X:Cx}{e:Expr}{t:TT}(h:PW X e t):PT X e t:=h _
def PA (X:Cx)(es:List Expr)(t:TA):Prop:=
 ∀ (pos:Pos) (pins:List (Addr × Obj)) (s:Shared) (σ:St) (H:Hp) (Q:List V->Hp->Prop),Inv X pins σ H s->t σ H Q->wpAny (model X.prog X.w) X.A (spliced (backTo pos (starEach es X.env))) (AP X pins σ Q) X.xe s
def PS (X:Cx)(st:Stmt)(t:TS):Prop:=
 ∀ (pins:List (Addr × Obj)) (s:Shared) (σ:St) (H:Hp) (D:Ends),Inv X pins σ H s->t D σ H->wpAny (model X.prog X.w) X.A (exec st X.env) (SP X pins D) X.xe s
def PSs (X:Cx)(st:List Stmt)(t:TS):Prop:=
 ∀ (pins:List (Addr × Obj)) (s:Shared) (σ:St) (H:Hp) (D:Ends),Inv X pins σ H s->t D σ H->wpAny (model X.prog X.w) X.A (execs st X.env) (SP X pins D) X.xe s
theorem thn {α:Type}{t:Sem α}{Q Q':α->Shared->Prop}{M:Model}{A:Around}{E:Value->Shared->Prop}{s:Shared}(h:wpAny M A t Q E s)(hQ:∀ a s,Q a s->Q' a s):wpAny M A t Q' E s:=wpAny_mono h hQ fun _ _ x=>x
end L2
namespace L2
open PySem PySem.Spec PyProof.Rows
section
variable {X:Cx}
def Al (i:Nat):TE:=fun σ H Q=>∃ v,σ[i]?=some (some v)/\Q v H
def tC (v:V):TE:=fun _ H Q=>Q v H
theorem fO {i:Nat}{x:Str}{pos:Pos}(hN:X.N[i]?=some x)(hv:Vis X.env.scope x)(hd:(x == ("__debug__":Str))=false:=by decide)(hcd:(x == ("__classdict__":Str))=false:=by decide):PE X (.Name x pos) (Al i):=by
 intro pins s σ H Q I h
 obtain⟨v,e,h⟩:=h
 obtain⟨m,hn,hl⟩:=I.loc
 obtain⟨u,r,l⟩:=hl i x v hN e hv
 have fin:EP X pins σ Q u s:=⟨v,H,I,r,h⟩
 rcases l with⟨hk,hm⟩ | ⟨hk,c,hc,hcell⟩
 ·exact wpAny_Name (wpAny_loadName_local I.ok.kind hk hn hm fin) hd
 ·rcases hk with hk | hk
  ·exact wpAny_Name (wpAny_loadName_cell I.ok.kind hk hc hcell fin) hd
  ·exact wpAny_Name (wpAny_loadName_free I.ok.kind hk hc hcell fin hcd) hd
theorem cM {i j pos}:PE X (.Constant (.int i) j pos) (tC (.int i)):=fun _ _ _ H _ I h=>wpAny_Constant_int ⟨.int i,H,I.tok _,⟨_,rfl⟩,h⟩
theorem yd {b j pos}:PE X (.Constant (.bool b) j pos) (tC (.bl b)):=fun _ _ _ H _ I h=>Constant_bool ⟨.bl b,H,I,rfl,h⟩
theorem EG {j pos}:PE X (.Constant .none j pos) (tC .non):=fun _ _ _ H _ I h=>Constant_none ⟨.non,H,I,rfl,h⟩
theorem iy {x j pos}:PE X (.Constant (.str x) j pos) (tC (.str x)):=fun _ _ _ H _ I h=>Calls.Constant_str ⟨.str x,H,I.tok _,⟨_,rfl⟩,h⟩
def Gl (X:Cx)(x:Str):Prop:=X.env.kindOf x=some .globalImplicit
theorem oX {E:Value->Shared->Prop}{pins:List (Addr × Obj)}{s:Shared}{σ:St}{H:Hp}{x:Str}{u:Value}{pos:Pos}{Q:Value->Shared->Prop}(I:Inv X pins σ H s)(hg:Gl X x)(hm:X.mg x=some u)(h:Q u s)
  (hd:(x == ("__debug__":Str))=false:=by decide):wpAny (model X.prog X.w) X.A (eval (.Name x pos) X.env) Q E s:=
 Calls.Name_function_global I.ok.kind hg (Calls.loadGlobal_global (by rw [I.ok.glob];exact I.mod.glob.keeps I.bk) hm h) hd
theorem eX {E:Value->Shared->Prop}{pins:List (Addr × Obj)}{s:Shared}{σ:St}{H:Hp}{x:Str}{u:Value}{pos:Pos}{Q:Value->Shared->Prop}(I:Inv X pins σ H s)(hg:Gl X x)(hm:X.mg x=none)(hv:bootBuiltins x=some u)(h:Q u s)
  (hn:x≠"__name__":=by decide) (hd:(x == ("__debug__":Str))=false:=by decide):wpAny (model X.prog X.w) X.A (eval (.Name x pos) X.env) Q E s:=by
 obtain⟨mb,h1,h2⟩:=I.mod.blt
 exact Calls.Name_function_global I.ok.kind hg (Calls.loadGlobal_builtin (by rw [I.ok.glob];exact I.mod.glob.keeps I.bk) hm (by rw [I.ok.blt];exact h1.keeps I.bk) ((h2 x hn).trans hv) h) hd
theorem Ci {x:Str}{v:V}{u:Value}{pos:Pos}(hg:Gl X x)(hm:X.mg x=some u)(r:RelV v u)(hd:(x == ("__debug__":Str))=false:=by decide):PE X (.Name x pos) (tC v):=
 fun _ _ _ H _ I h=>oX I hg hm ⟨v,H,I,r,h⟩ hd
theorem dE {x:Str}{v:V}{u:Value}{pos:Pos}(hg:Gl X x)(hm:X.mg x=none)(hv:bootBuiltins x=some u)(r:RelV v u)(hn:x≠"__name__":=by decide)(hd:(x == ("__debug__":Str))=false:=by decide):PE X (.Name x pos) (tC v):=
 fun _ _ _ H _ I h=>eX I hg hm hv ⟨v,H,I,r,h⟩ hn hd
variable {a b:Expr}{ta tb:TE}{pos:Pos}
def PC (X:Cx)(op:CmpOp)(a b:Expr)(t:TE):Prop:=
 ∀ (pins:List (Addr × Obj)) (s:Shared) (σ:St) (H:Hp) (Q:VK),Inv X pins σ H s->t σ H Q->
  wpAny (model X.prog X.w) X.A (eval a X.env) (fun v s₁=>wpAny (model X.prog X.w) X.A (eval b X.env) (fun u s₂=>wpAny (model X.prog X.w) X.A (compareOp op v u) (EP X pins σ Q) X.xe s₂) X.xe s₁) X.xe s
theorem qD (b:Expr){op:CmpOp}(h:op≠.In)(h2:op≠.NotIn):behindInMarks op b=false:=by
 have e1:(op == CmpOp.In)=false:=by cases op <;> first | rfl | exact absurd rfl h
 have e2:(op == CmpOp.NotIn)=false:=by cases op <;> first | rfl | exact absurd rfl h2
 cases b <;> simp [behindInMarks,e1,e2]
def J0 (ta:TE):TE:=fun σ H Q=>ta σ H fun x H1=>Q (.bl (decide (x=.non))) H1
theorem RelV.zW {x:V}{v:Value}(r:RelV x v):(v == Value.none)=decide (x=.non):=by
 cases x with
 | non=>cases r;rfl
 | bl _=>cases r;rfl
 | int _=>obtain⟨t,rfl⟩:=r;rfl
 | str _=>obtain⟨t,rfl⟩:=r;rfl
 | byt _=>obtain⟨t,rfl⟩:=r;rfl
 | flt _=>obtain⟨t,rfl⟩:=r;rfl
 | ref _=>cases r;rfl
 | ty _=>cases r;rfl
theorem yE {j pos'}(ha:PE X a ta):PC X .Is a (.Constant .none j pos') (J0 ta):=by
 intro pins s σ H Q I h
 refine thn (ha pins s σ H _ I h) ?_
 rintro v s1 ⟨x,H1,I1,r1,q1⟩
 exact Constant_none (is_none_gen ⟨.bl _,H1,I1,by rw [r1.zW];rfl,q1⟩)
def tB (t:TE):TT:=fun σ H Q=>t σ H fun x H1=>∃ c,x=.bl c/\Q c H1
theorem EK {op:CmpOp}{t:TE}(h:PC X op a b t)(h1:behindInMarks op b=false:=by first | exact qD _ (by decide) (by decide) | rfl):PE X (.Compare a [op] [b] pos) t:=fun pins s σ H Q I hw=>wpAny_Compare1 (h pins s σ H Q I hw) h1
theorem Eu {op:CmpOp}{t:TE}(h:PC X op a b t)(h1:behindInMarks op b=false:=by first | exact qD _ (by decide) (by decide) | rfl):PT X (.Compare a [op] [b] pos) (tB t):=by
 intro pins s σ H Q I hw
 refine wpAny_isTrue_Compare1 (thn (h pins s σ H _ I hw) fun v s1 h1=>thn h1 fun u s2 h2=>thn h2 fun c s3 ⟨x,H1,I1,r1,q1⟩=>?_) h1
 obtain⟨d,rfl,q⟩:=q1
 cases r1
 exact wpAny_truthy_bool ⟨H1,I1,q⟩
theorem qe {e:Expr}{t:TE}(h:PE X e t)(he:∀ whole,isTrue e X.env whole=(do let v <-whole;standAt e.pos;holding [v] (truthy v)):=by intro _;rfl):PT X e (tB t):=by
 intro pins s σ H Q I hw
 refine isTrue_plain (thn (h pins s σ H _ I hw) fun v s1 ⟨x,H1,I1,r1,q1⟩=>?_) (he _)
 obtain⟨d,rfl,q⟩:=q1
 cases r1
 exact wpAny_truthy_bool ⟨H1,I1,q⟩
variable {tA tB':TT}{rest:List Expr}
def IY (t u:TT):TT:=fun σ H Q=>t σ H fun c H1=>if c=true then u σ H1 Q else Q false H1
def tOr (t u:TT):TT:=fun σ H Q=>t σ H fun c H1=>if c=true then Q true H1 else u σ H1 Q
def J3 (t:TT):TT:=fun σ H Q=>t σ H fun c H1=>Q (!c) H1
theorem B3 (ha:PT X a tA):PW X (.BoolOp .And [a] pos) tA:=by
 intro wh pins s σ H Q I h
 refine isTrue_and (thn (ha pins s σ H Q I h) fun c s1 e=>?_)
 cases c with
 | true=>exact isTrue_and_nil e
 | false=>exact e
theorem zS (ha:PT X a tA):PW X (.BoolOp .Or [a] pos) tA:=by
 intro wh pins s σ H Q I h
 refine isTrue_or (thn (ha pins s σ H Q I h) fun c s1 e=>?_)
 cases c with
 | false=>exact isTrue_or_nil e
 | true=>exact e
theorem EH (ha:PT X a tA)(hb:PW X (.BoolOp .And (b::rest) pos) tB'):PW X (.BoolOp .And (a::b::rest) pos) (IY tA tB'):=by
 intro wh pins s σ H Q I h
 refine isTrue_and (thn (ha pins s σ H _ I h) ?_)
 rintro c s1 ⟨H1,I1,q1⟩
 cases c with
 | true=>exact hb wh pins s1 σ H1 Q I1 q1
 | false=>exact⟨H1,I1,q1⟩
theorem DO (ha:PT X a tA)(hb:PW X (.BoolOp .Or (b::rest) pos) tB'):PW X (.BoolOp .Or (a::b::rest) pos) (tOr tA tB'):=by
 intro wh pins s σ H Q I h
 refine isTrue_or (thn (ha pins s σ H _ I h) ?_)
 rintro c s1 ⟨H1,I1,q1⟩
 cases c with
 | true=>exact⟨H1,I1,q1⟩
 | false=>exact hb wh pins s1 σ H1 Q I1 q1
theorem F1 (ha:PT X a tA):PT X (.UnaryOp .Not a pos) (J3 tA):=by
 intro pins s σ H Q I h
 exact isTrue_not (ha pins s σ H (fun c H1=>Q (!c) H1) I h)
def GY (ta tb:TE):TE:=fun σ H Q=>ta σ H fun x H1=>∃ c,x=.bl c/\if c=true then tb σ H1 Q else Q (.bl false) H1
def Gm (ta:TE):TE:=fun σ H Q=>ta σ H fun x H1=>∃ c,x=.bl c/\Q (.bl (!c)) H1
theorem zu {op}{t:TE}(h:PE X a t):PE X (.BoolOp op [a] pos) t:=fun pins s σ H Q I hw=>BoolOp_one (h pins s σ H Q I hw)
theorem tZ (ha:PE X a ta)(hb:PE X (.BoolOp .And (b::rest) pos) tb):PE X (.BoolOp .And (a::b::rest) pos) (GY ta tb):=by
 intro pins s σ H Q I h
 refine BoolOp_and (thn (ha pins s σ H _ I h) ?_)
 rintro v s1 ⟨x,H1,I1,r1,q1⟩
 obtain⟨c,rfl,q1⟩:=q1
 cases r1
 refine wpAny_truthy_bool ?_
 cases c with
 | true=>exact hb pins s1 σ H1 Q I1 q1
 | false=>exact⟨.bl false,H1,I1,rfl,q1⟩
theorem EZ (ha:PE X a ta):PE X (.UnaryOp .Not a pos) (Gm ta):=by
 intro pins s σ H Q I h
 refine UnaryOp_ (thn (ha pins s σ H _ I h) ?_)
 rintro v s1 ⟨x,H1,I1,r1,q1⟩
 obtain⟨c,rfl,q1⟩:=q1
 cases r1
 exact not_of (wpAny_truthy_bool ⟨.bl (!c),H1,I1,rfl,q1⟩)
def tIf (t:TT)(ta tb:TE):TE:=fun σ H Q=>t σ H fun c H1=>if c=true then ta σ H1 Q else tb σ H1 Q
theorem yP {c:Expr}(hc:PT X c tA)(ha:PE X a ta)(hb:PE X b tb):PE X (.IfExp c a b pos) (tIf tA ta tb):=by
 intro pins s σ H Q I h
 refine wpAny_IfExp (thn (hc pins s σ H _ I h) ?_)
 rintro d s1 ⟨H1,I1,q1⟩
 cases d with
 | true=>exact ha pins s1 σ H1 Q I1 q1
 | false=>exact hb pins s1 σ H1 Q I1 q1
end
end L2
namespace L2
open PySem PySem.Spec PyProof.Rows
def SqL (K:PySem.W.Frag)(H:Hp)(a:Addr)(xs:List V):Prop:=
 Rd H a (.lst xs)\/
  ∃ (o:Obj) (its:Array Value) (n:Nat),K.lookup a=some o/\o.cls=.type "list"/\o.dict=none/\o.data=.seq its n/\its.size<=sizeLine/\Vals xs its.toList
def SqT (K:PySem.W.Frag)(H:Hp)(a:Addr)(xs:List V):Prop:=
 Rd H a (.tup xs)\/
  ∃ (o:Obj) (its:Array Value) (n:Nat),K.lookup a=some o/\o.cls=.type "tuple"/\o.data=.seq its n/\its.size<=sizeLine/\Vals xs its.toList
def Ju:Value->Option V
 | .none=>some .non
 | .bool b=>some (.bl b)
 | .int i _=>some (.int i)
 | .str x _=>some (.str x)
 | .bytes b _=>some (.byt b)
 | .float b _=>some (.flt b)
 | .ref a=>some (.ref a)
 | .type n=>some (.ty n)
 | _=>none
theorem RelV.abs {x:V}{u:Value}(r:RelV x u):Ju u=some x:=by
 cases x with
 | non=>cases r;rfl
 | bl _=>cases r;rfl
 | int _=>obtain⟨t,rfl⟩:=r;rfl
 | str _=>obtain⟨t,rfl⟩:=r;rfl
 | byt _=>obtain⟨t,rfl⟩:=r;rfl
 | flt _=>obtain⟨t,rfl⟩:=r;rfl
 | ref _=>cases r;rfl
 | ty _=>cases r;rfl
theorem RelV.inj {x y:V}{u:Value}(r:RelV x u)(q:RelV y u):x=y:=x_ (r.abs.symm.trans q.abs)
theorem Vals.inj:∀ {xs ys:List V} {us:List Value},Vals xs us->Vals ys us->xs=ys
 | _,_,_,.nil,.nil=>rfl
 | _,_,_,.cons r t,.cons r' t'=>by rw [r.inj r',Vals.inj t t']
section
variable {X:Cx}{pins:List (Addr × Obj)}{σ:St}{H:Hp}{s:Shared}{a:Addr}{xs ys:List V}
theorem SqL.of {K:PySem.W.Frag}(h:H a=some (.lst xs)):SqL K H a xs:=.inl (.inl h)
theorem SqT.of {K:PySem.W.Frag}(h:H a=some (.tup xs)):SqT K H a xs:=.inl (.inl h)
theorem Inv.list (I:Inv X pins σ H s)(h:SqL X.K H a xs):∃ its:List Value,Vals xs its/\PlainL s.heap a its.toArray/\xs.length<=sizeLine:=by
 rcases h with h | ⟨o,its,n,hk,hc,hd,hs,hz,r⟩
 ·obtain⟨z,its,n,r,e⟩:=h.ok I.hok
  exact⟨its,r,⟨_,n,e,rfl,rfl,rfl⟩,z⟩
 ·refine⟨its.toList,r,⟨o,n,I.kIn a o hk,hc,hd,by simpa using hs⟩,?_⟩
  have e:=r.length
  simp only [j_] at e
  lia
theorem Inv.tuple (I:Inv X pins σ H s)(h:SqT X.K H a xs):∃ its:List Value,Vals xs its/\IsTup s.heap a its.toArray/\xs.length<=sizeLine:=by
 rcases h with h | ⟨o,its,n,hk,hc,hs,hz,r⟩
 ·obtain⟨z,its,r,p⟩:=h.ok I.hok
  exact⟨its,r,p,z⟩
 ·refine⟨its.toList,r,⟨o,I.kIn a o hk,hc,n,by simpa using hs⟩,?_⟩
  have e:=r.length
  simp only [j_] at e
  lia
theorem Inv.lM (I:Inv X pins σ H s)(h:SqL X.K H a xs)(h':SqL X.K H a ys):xs=ys:=by
 obtain⟨its,r,⟨o,n,e,_,_,d⟩,_⟩:=I.list h
 obtain⟨its',r',⟨o',n',e',_,_,d'⟩,_⟩:=I.list h'
 rw [e] at e';cases e'
 rw [d] at d'
 injection d' with d1 _
 have:its=its':=by simpa using congrArg Nw d1
 subst this
 exact r.inj r'
theorem Inv.hV (I:Inv X pins σ H s)(h:SqT X.K H a xs)(h':SqT X.K H a ys):xs=ys:=by
 obtain⟨its,r,⟨o,e,_,n,d⟩,_⟩:=I.tuple h
 obtain⟨its',r',⟨o',e',_,n',d'⟩,_⟩:=I.tuple h'
 rw [e] at e';cases e'
 rw [d] at d'
 injection d' with d1 _
 have:its=its':=by simpa using congrArg Nw d1
 subst this
 exact r.inj r'
end
abbrev Cx.ny (X:Cx)(E:Value->Shared->Prop):Cx:={ X with xe:=E }
abbrev Cx.nox (X:Cx):Cx:=X.ny fun _ _=>False
theorem Cx.Ok.ny {X:Cx}(ok:X.Ok)(E:Value->Shared->Prop):(X.ny E).Ok:=
 ⟨ok.mod,ok.kind,ok.glob,ok.blt,ok.above,ok.inj,ok.has,ok.cab,ok.hd,ok.frames,ok.stk,ok.exf,ok.bs,ok.bsz,ok.noex,ok.exfs,ok.m4,ok.frf⟩
theorem Cx.Ok.gu {X:Cx}{E:Value->Shared->Prop}(ok:(X.ny E).Ok):X.Ok:=
 ⟨ok.mod,ok.kind,ok.glob,ok.blt,ok.above,ok.inj,ok.has,ok.cab,ok.hd,ok.frames,ok.stk,ok.exf,ok.bs,ok.bsz,ok.noex,ok.exfs,ok.m4,ok.frf⟩
section
variable {X:Cx}{pins:List (Addr × Obj)}{σ:St}{H:Hp}{s:Shared}{E:Value->Shared->Prop}
theorem Inv.ny (I:Inv X pins σ H s)(E:Value->Shared->Prop):Inv (X.ny E) pins σ H s:=⟨I.ok.ny E,I.os,I.bare,I.base,I.loc,I.cell,I.free,I.freeC,I.pin,I.hok,I.len⟩
theorem Inv.gu (I:Inv (X.ny E) pins σ H s):Inv X pins σ H s:=⟨I.ok.gu,I.os,I.bare,I.base,I.loc,I.cell,I.free,I.freeC,I.pin,I.hok,I.len⟩
theorem SP.gu {D:Ends}{f:Flow}{s':Shared}(h:SP (X.ny E) pins D f s'):SP X pins D f s':=by
 cases f with
 | next=>obtain⟨σ',H',I,q⟩:=h;exact⟨σ',H',I.gu,q⟩
 | brk=>obtain⟨σ',H',I,q⟩:=h;exact⟨σ',H',I.gu,q⟩
 | cont=>obtain⟨σ',H',I,q⟩:=h;exact⟨σ',H',I.gu,q⟩
 | ret u=>obtain⟨v,σ',H',I,r,q⟩:=h;exact⟨v,σ',H',I.gu,r,q⟩
theorem PSs.nox {st:List Stmt}{t:TS}(h:PSs X.nox st t):PSs X st t:=fun pins s σ H D I hw=>
 wpAny_mono (h pins s σ H D (I.ny _) hw) (fun _ _ q=>q.gu) fun _ _ z=>False.elim z
end
section
variable {X:Cx}{st:Stmt}{rest:List Stmt}{t u:TS}{e:Expr}{te:TE}{pos:Pos}
def IH:TS:=fun D σ H=>D.nx σ H
def Je (t u:TS):TS:=fun D σ H=>t { D with nx:=u D } σ H
theorem e9:PSs X [] IH:=fun _ _ σ H _ I h=>wpAny_execs_nil ⟨σ,H,I,h⟩
theorem aR (h1:PS X st t)(h2:PSs X rest u):PSs X (st::rest) (Je t u):=by
 intro pins s σ H D I h
 refine wpAny_execs_cons (thn (h1 pins s σ H { D with nx:=u D } I h) fun f s1 q=>?_)
 cases f with
 | next=>
  obtain⟨σ',H',I',q⟩:=q
  exact h2 pins s1 σ' H' D I' q
 | ret v=>exact q
 | brk=>exact q
 | cont=>exact q
theorem dB (h1:PS X st t):PSs X [st] t:=by
 intro pins s σ H D I h
 refine wpAny_execs_cons (thn (h1 pins s σ H D I h) fun f s1 q=>?_)
 cases f with
 | next=>exact wpAny_execs_nil q
 | ret v=>exact q
 | brk=>exact q
 | cont=>exact q
theorem Inv.quiet {pins:List (Addr × Obj)}{σ:St}{H:Hp}{s:Shared}(I:Inv X pins σ H s):interactive X.env=false:=by simp [interactive,I.ok.kind]
def Hm (te:TE):TS:=fun D σ H=>te σ H fun _ H1=>D.nx σ H1
theorem BI (he:PE X e te)(hs:swapsWith e none pos.line X.env=pure false:=by rfl):PS X (.Expr e pos) (Hm te):=by
 intro pins s σ H D I h
 exact wpAny_Expr_any (thn (he pins s σ H _ I h) fun v s1 ⟨x,H1,I1,r1,q1⟩=>⟨σ,H1,I1,q1⟩) I.quiet hs
def J4 (te:TE):TS:=fun D σ H=>te σ H D.rt
theorem eW (he:PE X e te):PS X (.Return (some e) pos) (J4 te):=by
 intro pins s σ H D I h
 exact wpAny_Return_some (thn (he pins s σ H _ I h) fun v s1 ⟨x,H1,I1,r1,q1⟩=>⟨x,σ,H1,I1,r1,q1⟩)
def Jq (c:TT)(t u:TS):TS:=fun D σ H=>c σ H fun b H1=>if b=true then t D σ H1 else u D σ H1
theorem jf {c:Expr}{a b:List Stmt}{tc:TT}(hc:PT X c tc)(ha:PSs X a t)(hb:PSs X b u):PS X (.If c a b pos) (Jq tc t u):=by
 intro pins s σ H D I h
 refine wpAny_If (thn (hc pins s σ H _ I h) ?_)
 rintro d s1 ⟨H1,I1,q1⟩
 cases d with
 | true=>exact ha pins s1 σ H1 D I1 q1
 | false=>exact hb pins s1 σ H1 D I1 q1
def FA:TS:=fun _ _ _=>False
theorem wa {sts:List Stmt}:PSs X sts FA:=fun _ _ _ _ _ _ h=>h.elim
end
abbrev TG:=V->St->Hp->(St->Hp->Prop)->Prop
abbrev TGs:=List V->St->Hp->(St->Hp->Prop)->Prop
def PG (X:Cx)(target:Expr)(t:TG):Prop:=
 ∀ (pins:List (Addr × Obj)) (s:Shared) (σ:St) (H:Hp) (v:V) (u:Value) (Q:St->Hp->Prop),Inv X pins σ H s->RelV v u->t v σ H Q->
  wpAny (model X.prog X.w) X.A (assign target X.env u) (fun _ s'=>∃ σ' H',Inv X pins σ' H' s'/\Q σ' H') X.xe s
def PGs (X:Cx)(ts:List Expr)(t:TGs):Prop:=
 ∀ (pins:List (Addr × Obj)) (s:Shared) (σ:St) (H:Hp) (vs:List V) (us:List Value) (Q:St->Hp->Prop),Inv X pins σ H s->Vals vs us->t vs σ H Q->
  wpAny (model X.prog X.w) X.A (assignInOrder ((assignEach ts X.env).map (·.2)) us) (fun _ s'=>∃ σ' H',Inv X pins σ' H' s'/\Q σ' H') X.xe s
abbrev Bc:=V->V->V->Hp->(Hp->Prop)->Prop
def sT (X:Cx)(t:Bc):Prop:=
 ∀ (pins:List (Addr × Obj)) (s:Shared) (σ:St) (H:Hp) (o i v:V) (ov iv u:Value) (Q:Hp->Prop),Inv X pins σ H s->RelV o ov->RelV i iv->RelV v u->t o i v H Q->
  wpAny (model X.prog X.w) X.A (setItem ov iv u) (fun _ s'=>∃ H',Inv X pins σ H' s'/\Q H') X.xe s
abbrev TIp:=V->V->Hp->VK->Prop
def PIp (X:Cx)(op:Operator)(t:TIp):Prop:=
 ∀ (pins:List (Addr × Obj)) (s:Shared) (σ:St) (H:Hp) (x y:V) (v u:Value) (Q:VK),Inv X pins σ H s->RelV x v->RelV y u->t x y H Q->
  wpAny (model X.prog X.w) X.A (inplaceOp op v u) (EP X pins σ Q) X.xe s
section
variable {X:Cx}{pos:Pos}
def uv (i:Nat):TG:=fun v σ H Q=>Q (σ.set i (some v)) H
theorem lj {i:Nat}{x:Str}(hN:X.N.Nodup)(hi:X.N[i]?=some x)(hx:Loc X.env.scope x)(hf:X.fn x=true\/X.env.scope.names.lookup x=some .local:=by first | exact .inl rfl | exact .inr rfl | assumption):PG X (.Name x pos) (uv i):=by
 intro pins s σ H v u Q I r h
 exact wpAny_assign_Name (mZ I hN hi hx r (fun s' I'=>⟨_,H,I',h⟩) hf)
def IW:TGs:=fun vs σ H Q=>vs=[]/\Q σ H
def IQ (t:TG)(u:TGs):TGs:=fun vs σ H Q=>∃ v r,vs=v::r/\t v σ H fun σ' H'=>u r σ' H' Q
theorem p9:PGs X [] IW:=by
 intro pins s σ H vs us Q I r h
 obtain⟨e,h⟩:=h
 subst e
 cases r
 exact assignInOrder_nil ⟨σ,H,I,h⟩
theorem gR {e:Expr}{es:List Expr}{t:TG}{u:TGs}(h1:PG X e t)(h2:PGs X es u)
  (hs:(assignEach (e::es) X.env).map (·.2)=assign e X.env::(assignEach es X.env).map (·.2):=by rfl):PGs X (e::es) (IQ t u):=by
 intro pins s σ H vs us Q I r h
 obtain⟨v,vr,e1,h⟩:=h
 subst e1
 cases r with
 | cons r rr=>
  rw [hs]
  refine assignInOrder_cons (thn (h1 pins s σ H _ _ _ I r h) ?_)
  rintro _ s1 ⟨σ1,H1,I1,q1⟩
  exact h2 pins s1 σ1 H1 _ _ Q I1 rr q1
def J8 (K:PySem.W.Frag)(n:Nat)(t:TGs):TG:=fun v σ H Q=>∃ a xs,v=.ref a/\SqT K H a xs/\xs.length=n/\t xs σ H Q
theorem tQ {es:List Expr}{k:Nat}{t:TGs}{n:Nat}(hc:X.calm=true)(h:PGs X es t)
  (hn:(assignEach es X.env).length=n:=by rfl) (hst:(assignEach es X.env).findIdx? (·.1)=none:=by rfl):PG X (.Tuple es k pos) (J8 X.K n t):=by
 intro pins s σ H v u Q I r hw
 obtain⟨a,xs,e1,hq,hl,hw⟩:=hw
 subst e1
 cases r
 obtain⟨its,rv,ht,hz⟩:=I.tuple hq
 refine assign_Tuple_tuple (I.ok.hd hc) ht (by simp [hn,<-hl,rv.length]) hst fun h' hx=>?_
 have I1:Inv X pins σ H { s with heap:=h' }:=I.kept (t':=s.toks) fun b o e=>hx b o (q_ (Heap.lt_size e)) e
 exact h pins _ σ H xs _ Q I1 (by simpa using rv) hw
def Jx (to ti:TE)(t:Bc):TG:=fun v σ H Q=>to σ H fun o H1=>ti σ H1 fun i H2=>t o i v H2 fun H3=>Q σ H3
theorem zP {o i:Expr}{to ti:TE}{t:Bc}(ho:PE X o to)(hi:PE X i ti)(hs:sT X t)
  (ha:∀ v,assign (.Subscript o i pos) X.env v=(do
   let ov <-holding [v] (eval o X.env)
   let iv <-holding [v,ov] (eval i X.env)
   standAt pos
   holding [v,ov,iv] (setItem ov iv v)
   release [v,ov,iv] []):=by intro _;rfl):PG X (.Subscript o i pos) (Jx to ti t):=by
 intro pins s σ H v u Q I r h
 rw [ha]
 refine wpAny_bind (wpAny_holding (thn (ho pins s σ H _ I h) ?_))
 rintro ov s1 ⟨x,H1,I1,r1,q1⟩
 refine wpAny_bind (wpAny_holding (thn (hi pins s1 σ H1 _ I1 q1) ?_))
 rintro iv s2 ⟨y,H2,I2,r2,q2⟩
 refine wpAny_bind (wpAny_standAt (wpAny_bind (wpAny_holding (thn (hs pins s2 σ H2 x y v ov iv u _ I2 r1 r2 r q2) ?_))))
 rintro _ s3 ⟨H3,I3,q3⟩
 exact wpAny_release ⟨σ,H3,I3,q3⟩
def CU (te:TE)(g:TG):TS:=fun D σ H=>te σ H fun x H1=>g x σ H1 D.nx
theorem AG {tg e:Expr}{te:TE}{g:TG}(he:PE X e te)(hg:PG X tg g)(hs:swapsWithSole [tg] e pos.line X.env=pure false:=by rfl)(hw:swappedStores [tg] e X.env=pure none:=by rfl)
  (h1:(assignEach [tg] X.env).map (·.2)=[assign tg X.env]:=by rfl):PS X (.Assign [tg] e pos) (CU te g):=by
 intro pins s σ H D I h
 refine wpAny_Assign_stores (thn (he pins s σ H _ I h) fun v s1 ⟨x,H1,I1,r1,q1⟩=>?_) hs hw
 rw [h1]
 exact thn (hg pins s1 σ H1 x v _ I1 r1 q1) fun _ s2 q=>q
theorem gK {i:Nat}{x:Str}{e:Expr}{te:TE}{pos':Pos}(hN:X.N.Nodup)(hi:X.N[i]?=some x)(hx:Loc X.env.scope x)(he:PE X e te)(hs:swapsWith e (some (.Name x pos')) pos.line X.env=pure false:=by rfl)(hf:X.fn x=true\/X.env.scope.names.lookup x=some .local:=by first | exact .inl rfl | exact .inr rfl | assumption) :
  PS X (.Assign [.Name x pos'] e pos) (CU te (uv i)):=by
 intro pins s σ H D I h
 refine wpAny_Assign_Name (thn (he pins s σ H _ I h) fun v s1 ⟨y,H1,I1,r1,q1⟩=>?_) hs
 exact mZ I1 hN hi hx r1 (fun s2 I2=>⟨_,H1,I2,q1⟩) hf
def IX (i:Nat)(te:TE)(ti:TIp):TS:=fun D σ H=>∃ x,σ[i]?=some (some x)/\te σ H fun y H1=>ti x y H1 fun z H2=>D.nx (σ.set i (some z)) H2
theorem FG {i:Nat}{x:Str}{e:Expr}{te:TE}{op:Operator}{ti:TIp}{pos':Pos}(hN:X.N.Nodup)(hi:X.N[i]?=some x)(hx:Loc X.env.scope x)(he:PE X e te)(ho:PIp X op ti)(hf:X.fn x=true\/X.env.scope.names.lookup x=some .local:=by first | exact .inl rfl | exact .inr rfl | assumption) :
  PS X (.AugAssign (.Name x pos') op e pos) (IX i te ti):=by
 intro pins s σ H D I h
 obtain⟨v,e1,h⟩:=h
 obtain⟨m,hn,hl⟩:=I.loc
 have vis:Vis X.env.scope x:=by rcases hx with k | k;exact .inl k;exact .inr (.inl k)
 obtain⟨u,r,l⟩:=hl i x v hi e1 vis
 refine wpAny_AugAssign_Name ?_
 have go:wpAny (model X.prog X.w) X.A (eval e X.env) (fun w s₂=>wpAny (model X.prog X.w) X.A (inplaceOp op u w) (fun r s₃=>wpAny (model X.prog X.w) X.A (storeName X.env x r) (fun _=>SP X pins D .next) X.xe s₃) X.xe s₂) X.xe s:=by
  refine thn (he pins s σ H _ I h) ?_
  rintro w s1 ⟨y,H1,I1,r1,q1⟩
  refine thn (ho pins s1 σ H1 v y u w _ I1 r r1 q1) ?_
  rintro z s2 ⟨zv,H2,I2,r2,q2⟩
  exact mZ I2 hN hi hx r2 (fun s3 I3=>⟨_,H2,I3,q2⟩) hf
 rcases l with⟨hk,hm⟩ | ⟨hk,c,hc,hcell⟩
 ·exact wpAny_loadName_local I.ok.kind hk hn hm go
 ·rcases hk with hk | hk
  ·exact wpAny_loadName_cell I.ok.kind hk hc hcell go
  ·rcases hx with k | k
   ·have:X.env.scope.names.lookup x=some .free:=hk
    rw [k] at this;cases this
   ·have:X.env.scope.names.lookup x=some .free:=hk
    rw [k] at this;cases this
def ipI (f:Int->Int->Int):TIp:=fun x y H Q=>∃ i j,x=.int i/\y=.int j/\Q (.int (f i j)) H
theorem Fd:PIp X .Add (ipI fun i j=>i + j):=by
 intro pins s σ H x y v u Q I r1 r2 h
 obtain⟨i,j,e1,e2,q⟩:=h
 subst e1;subst e2
 obtain⟨t,rfl⟩:=r1
 obtain⟨t',rfl⟩:=r2
 exact iadd_int ⟨.int _,H,I.tok _,⟨_,rfl⟩,q⟩
end
section
variable {X:Cx}{pos:Pos}
def F8 (c:TT)(tb:TS):TS:=fun D σ H=>∃ W:Nat->St->Hp->Prop,(∃ m,W m σ H)/\∀ m σ H,W m σ H->
 c σ H fun b H1=>if b=true then ∃ N:St->Hp->Prop,(∀ σ' H',N σ' H'->∃ m',m' < m/\W m' σ' H')/\tb { D with nx:=N,ct:=N,bk:=D.nx } σ H1 else D.nx σ H1
theorem AM {c:Expr}{body:List Stmt}{tc:TT}{tb:TS}(hp:PassesOwn (model X.prog X.w) X.A X.env X.xe)(hc:PT X c tc)(hb:PSs X body tb):PS X (.While c body [] pos) (F8 tc tb):=by
 intro pins s σ H D I h
 obtain⟨W,⟨m0,w0⟩,turn⟩:=h
 refine wpAny_While (codeAny_whileLoop (fun n s'=>∃ σ' H',Inv X pins σ' H' s'/\W n σ' H') ?_ m0 ⟨σ,H,I,w0⟩)
 rintro n s1 ⟨σ1,H1,I1,w1⟩
 refine wpAny_passesOwn hp (thn (hc pins s1 σ1 H1 _ I1 (turn n σ1 H1 w1)) ?_)
 rintro b s2 ⟨H2,I2,q2⟩
 cases b with
 | true=>
  obtain⟨N,hN,q2⟩:=q2
  rw [if_pos rfl]
  refine wpAny_passesOwn hp (thn (hb pins s2 σ1 H2 _ I2 q2) fun f s3 q3=>?_)
  cases f with
  | next=>
   obtain⟨σ3,H3,I3,n3⟩:=q3
   obtain⟨m',hm,w3⟩:=hN σ3 H3 n3
   exact⟨m',hm,σ3,H3,I3,w3⟩
  | cont=>
   obtain⟨σ3,H3,I3,n3⟩:=q3
   obtain⟨m',hm,w3⟩:=hN σ3 H3 n3
   exact⟨m',hm,σ3,H3,I3,w3⟩
  | brk=>exact q3
  | ret v=>exact q3
 | false=>
  rw [if_neg z_]
  exact wpAny_execs_nil ⟨σ1,H2,I2,q2⟩
end
structure It where
 go:Nat->Hp->Prop
 yld:Nat->Hp->V->Hp->Prop
 stop:Nat->Hp->Prop
def iX (X:Cx)(pins:List (Addr × Obj))(H:Hp)(b:Addr):Prop:=
 H b=none/\b≠X.env.locals/\b ∉ X.fs/\(b∈X.ex\/X.s₀.heap.objs.size<=b)/\(∀ x c,X.env.cells.lookup x=some c->c≠b)/\∀ p∈X.pn++pins,p.1≠b
theorem Inv.rV {X:Cx}{pins:List (Addr × Obj)}{σ:St}{H H':Hp}{s:Shared}{b:Addr}(I:Inv X pins σ H s)(hb:s.heap.objs.size<=b)(hn:H' b=none):iX X pins H' b:=by
 refine⟨hn,Ls (v_ I.lt hb),I.Ji hb,.inr (r_ I.sz hb),fun x c e z=>?_,fun p hp z=>?_⟩
 ·obtain⟨v,q⟩:=I.cell x c e
  exact absurd (v_ q.lt (by rw [z];exact hb)) (Kt _)
 ·exact absurd (v_ (Heap.lt_size (I.pin p hp).1) (by rw [z];exact hb)) (Kt _)
structure Turn (P:Program) (w:World) (K:PySem.W.Frag) (tg:Expr) (J:It) (fp:List Addr) (it:Addr) (tn:Nat->Heap->Prop):Prop where
 mem:it∈fp
 obj:∀ i h,tn i h->∀ b∈fp,∃ o,h.get? b=some o/\∀ v,o.data≠.cell v
 keep:∀ i h h',tn i h->(∀ b∈fp,∀ o,h.get? b=some o->h'.get? b=some o)->tn i h'
 item:∀ (X:Cx),X.prog=P->X.w=w->X.K=K->X.calm=true->∀ (i:Nat) (pins:List (Addr × Obj)) (s:Shared) (σ:St) (H:Hp) (E:Value->Shared->Prop),Inv X pins σ H s->(∀ b∈fp,iX X pins H b)->tn i s.heap->J.go i H->
  wpAny (model P w) X.A (pyNext (.ref it)) (fun r s1=>∃ u,r=some u/\
   wpAny (model P w) X.A (letOwnedTupleGo tg (.ref it) u) (fun _ s2=>∃ x H',Inv X pins σ H' s2/\RelV x u/\J.yld i H x H'/\tn (i + 1) s2.heap/\∀ b∈fp,H' b=none) E s1) E s
 done:∀ (X:Cx),X.prog=P->X.w=w->X.K=K->X.calm=true->∀ (i:Nat) (pins:List (Addr × Obj)) (s:Shared) (σ:St) (H:Hp) (E:Value->Shared->Prop),Inv X pins σ H s->(∀ b∈fp,iX X pins H b)->tn i s.heap->J.stop i H->
  wpAny (model P w) X.A (pyNext (.ref it)) (fun r s1=>r=none/\Inv X pins σ H s1) E s
 self:∀ (A:Around) (i:Nat) (s:Shared) (Q:Value->Shared->Prop) (E:Value->Shared->Prop),tn i s.heap->Q (.ref it) s->wpAny (model P w) A (pyIter (.ref it)) Q E s
abbrev TI:=St->Hp->(It->Hp->Prop)->Prop
def PIE (X:Cx)(pins:List (Addr × Obj))(σ:St)(tg:Expr)(R:It->Hp->Prop)(itv:Value)(s2:Shared):Prop:=
 ∃ (it:Addr) (fp:List Addr) (tn:Nat->Heap->Prop) (J:It) (H':Hp),itv=.ref it/\Inv X pins σ H' s2/\Turn X.prog X.w X.K tg J fp it tn/\tn 0 s2.heap/\(∀ b∈fp,iX X pins H' b)/\R J H'
def PI (X:Cx)(tg iter:Expr)(wi:TI):Prop:=
 ∀ (pins:List (Addr × Obj)) (s:Shared) (σ:St) (H:Hp) (R:It->Hp->Prop),Inv X pins σ H s->wi σ H R->
  wpAny (model X.prog X.w) X.A (eval iter X.env) (fun v s1=>wpAny (model X.prog X.w) X.A (pyIter v) (PIE X pins σ tg R) X.xe s1) X.xe s
theorem ur {M:Model}{A:Around}{E:Value->Shared->Prop}{s:Shared}{tg:Expr}{it:Addr}{u:Value}{o:Obj}{n:String}{vs:Array Value}{Q:Unit->Shared->Prop}(ho:s.heap.get? it=some o)(hc:o.cls=.type n)(hd:o.data=.fields vs)
    (hn:["enumerate","zip","dict_itemiterator","dict_reverseitemiterator","odict_iterator","itertools.zip_longest","itertools.pairwise"].contains n=false) (hQ:Q () s):wpAny M A (letOwnedTupleGo tg (.ref it) u) Q E s:=by
  unfold letOwnedTupleGo
  cases tg <;> first
    | exact wpAny_pure hQ
    | (cases u <;> first
        | exact wpAny_pure hQ
        | (refine wpAny_bind (wpAny_load ho ?_)
           rw [hc,hd]
           show wpAny M A (if (["enumerate","zip","dict_itemiterator","dict_reverseitemiterator","odict_iterator","itertools.zip_longest","itertools.pairwise"].contains n && vs[0]? == some (rawInt _))=true then _ else _) Q E s
           rw [if_neg (by intro h;rw [hn,Bool.false_and] at h;cases h)]
           exact wpAny_pure hQ))
def Itl (K:PySem.W.Frag)(a:Addr):It:=
 ⟨fun i H=>∃ xs x,SqL K H a xs/\xs[i]?=some x,fun i H x H'=>H'=H/\∀ xs,SqL K H a xs->xs[i]?=some x,fun i H=>∃ xs,SqL K H a xs/\xs.length<=i⟩
def Itt (K:PySem.W.Frag)(a:Addr):It:=
 ⟨fun i H=>∃ xs x,SqT K H a xs/\xs[i]?=some x,fun i H x H'=>H'=H/\∀ xs,SqT K H a xs->xs[i]?=some x,fun i H=>∃ xs,SqT K H a xs/\xs.length<=i⟩
def Itr (lo:Int)(n:Nat):It:=⟨fun i _=>i < n,fun i H x H'=>H'=H/\x=.int (lo + i),fun i _=>n<=i⟩
theorem wx {P:Program}{w:World}{K:PySem.W.Frag}{tg:Expr}(a it:Addr):Turn P w K tg (Itl K a) [it] it (fun i h=>h.IsListIter it a i) where
 mem:=by simp
 obj:=fun i h st b hb=>by
  have e:b=it:=by simpa using hb
  subst e
  obtain⟨o,e,c,d⟩:=st
  exact⟨o,e,fun v z=>by rw [d] at z;cases z⟩
 keep:=fun i h h' st k=>st.at fun o e=>k it (by simp) o e
 item:=by
  intro X hP hw hK hc i pins s σ H E I hf st hg
  subst hP hw hK
  obtain⟨xs,x,hq,hx⟩:=hg
  obtain⟨its,rv,p,hz⟩:=I.list hq
  obtain⟨u,hu,ru⟩:=rv.get hx
  obtain⟨f0,f1,f2,f3,f4,f5⟩:=hf it (by simp)
  refine wpAny_pyNext_list_item st p.isList (x:=u) (by simpa using hu) fun h' st' sb=>?_
  have I1:Inv X pins σ H { s with heap:=h' }:=I.turned (t':=s.toks) (fun b o hb e=>(sb.2 b hb).trans e) f0 f1 f3 f4 f5
  obtain⟨o,e,c,d⟩:=id st'
  exact⟨u,rfl,ur (s:={ s with heap:=h' }) e c d (by decide) ⟨x,H,I1,ru,⟨rfl,fun ys hy=>by rw [I.lM hy hq];exact hx⟩,st',fun b hb=>(hf b hb).1⟩⟩
 done:=by
  intro X hP hw hK hc i pins s σ H E I hf st hg
  subst hP hw hK
  obtain⟨xs,hq,hx⟩:=hg
  obtain⟨its,rv,p,hz⟩:=I.list hq
  obtain⟨f0,f1,f2,f3,f4,f5⟩:=hf it (by simp)
  have hl:=rv.length
  exact wpAny_pyNext_list_end (I.ok.hd hc) st p.isList (by simp;lia) fun h' eb=>⟨rfl,I.turned (t':=s.toks) (fun b o hb e=>eb b o hb e) f0 f1 f3 f4 f5⟩
 self:=fun _ _ _ _ _ st h=>wpAny_pyIter_listiter st h
theorem sM {P:Program}{w:World}{K:PySem.W.Frag}{tg:Expr}(a it:Addr):Turn P w K tg (Itt K a) [it] it (fun i h=>h.IsTupleIter it a i) where
 mem:=by simp
 obj:=fun i h st b hb=>by
  have e:b=it:=by simpa using hb
  subst e
  obtain⟨o,e,c,d⟩:=st
  exact⟨o,e,fun v z=>by rw [d] at z;cases z⟩
 keep:=fun i h h' st k=>st.at fun o e=>k it (by simp) o e
 item:=by
  intro X hP hw hK hc i pins s σ H E I hf st hg
  subst hP hw hK
  obtain⟨xs,x,hq,hx⟩:=hg
  obtain⟨its,rv,p,hz⟩:=I.tuple hq
  obtain⟨u,hu,ru⟩:=rv.get hx
  obtain⟨f0,f1,f2,f3,f4,f5⟩:=hf it (by simp)
  refine wpAny_pyNext_tuple_item st (show s.heap.IsTuple a its.toArray from p) (x:=u) (by simpa using hu) fun h' st' sb=>?_
  have I1:Inv X pins σ H { s with heap:=h' }:=I.turned (t':=s.toks) (fun b o hb e=>(sb.2 b hb).trans e) f0 f1 f3 f4 f5
  obtain⟨o,e,c,d⟩:=id st'
  exact⟨u,rfl,ur (s:={ s with heap:=h' }) e c d (by decide) ⟨x,H,I1,ru,⟨rfl,fun ys hy=>by rw [I.hV hy hq];exact hx⟩,st',fun b hb=>(hf b hb).1⟩⟩
 done:=by
  intro X hP hw hK hc i pins s σ H E I hf st hg
  subst hP hw hK
  obtain⟨xs,hq,hx⟩:=hg
  obtain⟨its,rv,p,hz⟩:=I.tuple hq
  obtain⟨f0,f1,f2,f3,f4,f5⟩:=hf it (by simp)
  have hl:=rv.length
  exact wpAny_pyNext_tuple_end (I.ok.hd hc) st (show s.heap.IsTuple a its.toArray from p) (by simp;lia) fun h' eb=>⟨rfl,I.turned (t':=s.toks) (fun b o hb e=>eb b o hb e) f0 f1 f3 f4 f5⟩
 self:=fun _ _ _ _ _ st h=>wpAny_pyIter_tupleiter st h
theorem u0 {P:Program}{w:World}{K:PySem.W.Frag}{tg:Expr}(it:Addr)(lo:Int)(n:Nat):Turn P w K tg (Itr lo n) [it] it (fun i h=>IsRangeIter h it (lo + (i:Nat) * 1) ((n:Int) - (i:Nat)) 1) where
 mem:=by simp
 obj:=fun i h st b hb=>by
  have e:b=it:=by simpa using hb
  subst e
  exact⟨_,st,fun v z=>by
   have z':Data.fields _=Data.cell v:=z
   cases z'⟩
 keep:=fun i h h' st k=>k it (by simp) _ st
 item:=by
  intro X hP hw hK hc i pins s σ H E I hf st hg
  subst hP hw hK
  obtain⟨f0,f1,f2,f3,f4,f5⟩:=hf it (by simp)
  have W:=Walks.range (prog:=X.prog) (w:=X.w) (I.ok.hd hc) it lo 1 n
  refine W.item i s _ _ hg st fun v h' tk hv st' kk=>?_
  obtain⟨t,rfl⟩:=hv
  have I1:Inv X pins σ H { s with heap:=h',toks:=tk }:=I.turned (fun b o hb e=>kk b o (by simpa using hb) e) f0 f1 f3 f4 f5
  refine⟨_,rfl,ur (s:={ s with heap:=h',toks:=tk }) (n:="range_iterator") st' rfl rfl (by decide) ⟨.int (lo + i),H,I1,⟨t,?_⟩,⟨rfl,rfl⟩,st',fun b hb=>(hf b hb).1⟩⟩
  rw [L6]
 done:=by
  intro X hP hw hK hc i pins s σ H E I hf st hg
  subst hP hw hK
  obtain⟨f0,f1,f2,f3,f4,f5⟩:=hf it (by simp)
  exact wpAny_pyNext_range_end (I.ok.hd hc) st (by have:n<=i:=hg;lia) fun h' eb=>⟨rfl,I.turned (t':=s.toks) (fun b o hb e=>eb b o hb e) f0 f1 f3 f4 f5⟩
 self:=fun _ _ _ _ _ st h=>wpAny_pyIter_rangeiter st h
end L2
namespace L2
open PySem PySem.Spec PyProof.Rows
section
variable {X:Cx}{tg:Expr}
theorem rA {pins:List (Addr × Obj)}{σ:St}{H:Hp}{s:Shared}{R:It->Hp->Prop}{E:Value->Shared->Prop}{lo hi:Int}{t u v:Tok}{tk:Nat}(I:Inv X pins σ H s)(h1:-(2 ^ 62)<=lo)(h2:lo < 2 ^ 62)(h3:-(2 ^ 62)<=hi)(h4:hi < 2 ^ 62)
  (q:R (Itr lo (hi - lo).toNat) H):wpAny (model X.prog X.w) X.A (pyIter (.ref s.heap.objs.size)) (PIE X pins σ tg R) E { s with heap:=s.heap.push { cls:=.type "range",data:=.fields #[.int lo t,.int hi u,.int 1 v] },toks:=tk }:=by
 refine wpAny_pyIter_range (IsRange.new ..) (small_one h1 h2 h3 h4) ?_
 have I1:Inv X pins σ H { s with heap:=s.heap.push { cls:=.type "range",data:=.fields #[.int lo t,.int hi u,.int 1 v] },toks:=tk }:=I.kept fun b o e=>Heap.get?_push_of_some _ e
 refine⟨(s.heap.push { cls:=.type "range",data:=.fields #[.int lo t,.int hi u,.int 1 v] }).objs.size,[(s.heap.push { cls:=.type "range",data:=.fields #[.int lo t,.int hi u,.int 1 v] }).objs.size],_,_,H,rfl,
  I1.kept (t':=tk) fun b o e=>Heap.get?_push_of_some _ e,u0 _ lo (hi - lo).toNat,?_,fun b hb=>?_,q⟩
 ·have e1:lo + ((0:Nat):Int) * 1=lo:=by simp
  have e2:(((hi - lo).toNat:Nat):Int) - ((0:Nat):Int)=Builtin.Range.rangeSize lo hi 1:=by rw [rangeSize_one];split <;> lia
  show IsRangeIter _ _ (lo + ((0:Nat):Int) * 1) ((((hi - lo).toNat:Nat):Int) - ((0:Nat):Int)) 1
  rw [e1,e2]
  exact Heap.get?_push_size _ rfl
 ·have e:b=(s.heap.push { cls:=.type "range",data:=.fields #[.int lo t,.int hi u,.int 1 v] }).objs.size:=by simpa using hb
  subst e
  exact I1.rV (c_ _) (I1.hok.fresh (c_ _))
def Ht (ta:TA):TI:=fun σ H R=>ta σ H fun vs H1=>∃ j:Int,vs=[.int j]/\-(2 ^ 62)<=j/\j < 2 ^ 62/\R (Itr 0 j.toNat) H1
def Gy (ta:TA):TI:=fun σ H R=>ta σ H fun vs H1=>∃ i j:Int,vs=[.int i,.int j]/\(-(2 ^ 62)<=i/\i < 2 ^ 62/\-(2 ^ 62)<=j/\j < 2 ^ 62)/\R (Itr i (j - i).toNat) H1
theorem xr {a:Expr}{ta:TA}{p pos:Pos}(hg:Gl X "range")(hm:X.mg "range"=none)(ha:PA X [a] ta)(hs:starEach [a] X.env=[(false,eval a X.env)]:=by rfl):PI X tg (.Call (.Name "range" p) [a] [] pos) (Ht ta):=by
 intro pins s σ H R I h
 refine Call_ (eX I hg hm boot_range (PyProof.Rows.callWith_type1 (thn (ha pos pins s σ H _ I h) fun us s1 ⟨vs,H1,I1,r1,q1⟩=>?_) hs rfl))
 obtain⟨j,e,q1,q2,q⟩:=q1
 subst e
 cases r1 with
 | cons r rr=>
  cases rr
  obtain⟨t,rfl⟩:=r
  exact call_range_1 (rA I1 (by lia) (by lia) q1 q2 (by simpa using q))
theorem wM {a b:Expr}{ta:TA}{p pos:Pos}(hg:Gl X "range")(hm:X.mg "range"=none)(ha:PA X [a,b] ta)(hs:starEach [a,b] X.env=[(false,eval a X.env),(false,eval b X.env)]:=by rfl)(hs2:starEach [b] X.env=[(false,eval b X.env)]:=by rfl) :
  PI X tg (.Call (.Name "range" p) [a,b] [] pos) (Gy ta):=by
 intro pins s σ H R I h
 refine Call_ (eX I hg hm boot_range (PyProof.Rows.callWith_type1 (thn (ha pos pins s σ H _ I h) fun us s1 ⟨vs,H1,I1,r1,q1⟩=>?_) (by rw [hs,hs2]) (by rw [hs2];rfl)))
 obtain⟨i,j,e,⟨q1,q2,q3,q4⟩,q⟩:=q1
 subst e
 cases r1 with
 | cons r rr=>
  cases rr with
  | cons r' rr=>
   cases rr
   obtain⟨t,rfl⟩:=r
   obtain⟨t',rfl⟩:=r'
   exact call_range_2 (rA I1 q1 q2 q3 q4 q)
def Jr (wi:TI)(g:TG)(tb:TS):TS:=fun D σ H=>wi σ H fun J H1=>∃ W:Nat->Nat->St->Hp->Prop,(∃ m,W 0 m σ H1)/\∀ i m σ H,W i m σ H->
 (J.stop i H/\D.nx σ H)\/(J.go i H/\∃ N:St->Hp->Prop,(∀ σ' H',N σ' H'->∃ m',m' < m/\W (i + 1) m' σ' H')/\∀ x H',J.yld i H x H'->g x σ H' fun σ2 H2=>tb { D with nx:=N,ct:=N,bk:=D.nx } σ2 H2)
def k8 (fp:List Addr)(h:Heap):List (Addr × Obj):=fp.filterMap fun b=>(h.get? b).map fun o=>(b,o)
theorem dJ {fp:List Addr}{h:Heap}{b:Addr}{o:Obj}(hb:b∈fp)(e:h.get? b=some o):(b,o)∈k8 fp h:=MY.mpr ⟨b,hb,by rw [e];rfl⟩
theorem xw {fp:List Addr}{h:Heap}{p:Addr × Obj}(hp:p∈k8 fp h):p.1∈fp/\h.get? p.1=some p.2:=by
 obtain⟨b,hb,e⟩:=MY.mp hp
 cases q:h.get? b with
 | none=>rw [q] at e;cases e
 | some o=>
  rw [q] at e
  have e':(b,o)=p:=x_ e
  subst e'
  exact⟨hb,q⟩
theorem Inv.pinned {pins:List (Addr × Obj)}{σ:St}{H:Hp}{s:Shared}{fp:List Addr}(I:Inv X pins σ H s)(hf:∀ b∈fp,iX X pins H b)(ho:∀ b∈fp,∃ o,s.heap.get? b=some o/\∀ v,o.data≠.cell v):Inv X (pins++k8 fp s.heap) σ H s:=
 I.vn fun p hp=>(G_.mp hp).elim (fun z=>I.pin p (k_ _ z)) fun z=>by
  obtain⟨hb,e⟩:=xw z
  obtain⟨f0,f1,f2,_⟩:=hf p.1 hb
  obtain⟨o,e',d⟩:=ho p.1 hb
  rw [e] at e';cases e'
  exact⟨e,f0,f1,f2,d⟩
theorem Inv.gU {pins pl:List (Addr × Obj)}{σ:St}{H:Hp}{s:Shared}(I:Inv X (pins++pl) σ H s):Inv X pins σ H s:=I.vn fun p hp=>I.pin p (k_ _ (E_ _ hp))
theorem FR {iter:Expr}{body:List Stmt}{wi:TI}{g:TG}{tb:TS}{pos:Pos}(hp:PassesOwn (model X.prog X.w) X.A X.env X.xe)(hc:X.calm=true)(hi:PI X tg iter wi)(hg:PG X tg g)(hb:PSs X body tb)
  (hs:∀ x,foldedSetIterable iter X.env x=pure x:=by intro _;rfl):PS X (.For tg iter body [] pos) (Jr wi g tb):=by
 intro pins s σ H D I h
 refine wpAny_For (thn (hi pins s σ H _ I h) fun v s1 h1=>thn h1 fun itv s2 h2=>?_) hs
 obtain⟨it,fp,tn,J,H2,e,I2,T,st2,f2,W,⟨m0,w0⟩,turn⟩:=h2
 subst e
 have stat:∀ {H':Hp},(∀ b∈fp,H' b=none)->∀ b∈fp,iX X pins H' b:=fun hn b hb=>⟨hn b hb,(f2 b hb).2⟩
 refine codeAny_forLoop_any (fun n s'=>∃ i σ' H',Inv X pins σ' H' s'/\tn i s'.heap/\(∀ b∈fp,H' b=none)/\W i n σ' H') ?_ m0 ⟨0,σ,H2,I2,st2,fun b hb=>(f2 b hb).1,w0⟩
 rintro n s3 ⟨i,σ3,H3,I3,st3,fr3,w3⟩
 rcases turn i n σ3 H3 w3 with⟨stop,qn⟩ | ⟨go,N,hN,step⟩
 ·refine wpAny_passesOwn hp (thn (T.done X rfl rfl rfl hc i pins s3 σ3 H3 X.xe I3 (stat fr3) st3 stop) ?_)
  rintro r s4 ⟨hr,I4⟩
  subst hr
  exact wpAny_execs_nil ⟨σ3,H3,I4,qn⟩
 ·refine wpAny_passesOwn hp (thn (T.item X rfl rfl rfl hc i pins s3 σ3 H3 X.xe I3 (stat fr3) st3 go) ?_)
  rintro r s4 ⟨u,hr,h4⟩
  subst hr
  refine wpAny_passesOwn hp (thn h4 ?_)
  rintro _ s5 ⟨x,H5,I5,r5,y5,st5,fr5⟩
  have I5':=I5.pinned (stat fr5) (T.obj _ _ st5)
  refine wpAny_passesOwn hp (thn (hg _ s5 σ3 H5 x u _ I5' r5 (step x H5 y5)) ?_)
  rintro _ s6 ⟨σ6,H6,I6,q6⟩
  refine wpAny_passesOwn hp (thn (hb _ s6 σ6 H6 _ I6 q6) fun f s7 q7=>?_)
  have again:∀ {σ7:St} {H7:Hp},Inv X (pins++k8 fp s5.heap) σ7 H7 s7->N σ7 H7->∃ m,m < n/\∃ i σ' H',Inv X pins σ' H' s7/\tn i s7.heap/\(∀ b∈fp,H' b=none)/\W i m σ' H':=fun {σ7 H7} I7 n7=>by
   obtain⟨m',hm,w7⟩:=hN σ7 H7 n7
   refine⟨m',hm,i + 1,σ7,H7,I7.gU,T.keep _ _ _ st5 fun b hb o e=>(I7.pin (b,o) (k_ _ (k_ _ (dJ hb e)))).1,fun b hb=>?_,w7⟩
   obtain⟨o,e,d⟩:=T.obj _ _ st5 b hb
   exact (I7.pin (b,o) (k_ _ (k_ _ (dJ hb e)))).2.1
  cases f with
  | next=>obtain⟨σ7,H7,I7,n7⟩:=q7;exact again I7 n7
  | cont=>obtain⟨σ7,H7,I7,n7⟩:=q7;exact again I7 n7
  | brk=>obtain⟨σ7,H7,I7,q7⟩:=q7;exact⟨σ7,H7,I7.gU,q7⟩
  | ret v=>obtain⟨x7,σ7,H7,I7,r7,q7⟩:=q7;exact⟨x7,σ7,H7,I7.gU,r7,q7⟩
end
end L2
namespace L2
open PySem PySem.Spec PyProof.Rows
abbrev R2:=V->V->Hp->VK->Prop
def OpR (X:Cx)(f:Value->Value->Sem Value)(r:R2):Prop:=
 ∀ (pins:List (Addr × Obj)) (s:Shared) (σ:St) (H:Hp) (x y:V) (v u:Value) (Q:VK),Inv X pins σ H s->RelV x v->RelV y u->r x y H Q->
  wpAny (model X.prog X.w) X.A (f v u) (EP X pins σ Q) X.xe s
def UnR (X:Cx)(f:Value->Sem Value)(r:V->Hp->VK->Prop):Prop:=
 ∀ (pins:List (Addr × Obj)) (s:Shared) (σ:St) (H:Hp) (x:V) (v:Value) (Q:VK),Inv X pins σ H s->RelV x v->r x H Q->
  wpAny (model X.prog X.w) X.A (f v) (EP X pins σ Q) X.xe s
def bE (X:Cx)(f:Value)(r:List V->Hp->VK->Prop):Prop:=
 ∀ (pins:List (Addr × Obj)) (s:Shared) (σ:St) (H:Hp) (xs:List V) (us:List Value) (Q:VK),Inv X pins σ H s->Vals xs us->r xs H Q->
  wpAny (model X.prog X.w) X.A (call f us) (EP X pins σ Q) X.xe s
def Jt (X:Cx)(r:V->Hp->(Bool->Hp->Prop)->Prop):Prop:=
 ∀ (pins:List (Addr × Obj)) (s:Shared) (σ:St) (H:Hp) (x:V) (v:Value) (Q:Bool->Hp->Prop),Inv X pins σ H s->RelV x v->r x H Q->
  wpAny (model X.prog X.w) X.A (truthy v) (TP X pins σ Q) X.xe s
def tOp (r:R2)(ta tb:TE):TE:=fun σ H Q=>ta σ H fun x H1=>tb σ H1 fun y H2=>r x y H2 Q
def tUn (r:V->Hp->VK->Prop)(ta:TE):TE:=fun σ H Q=>ta σ H fun x H1=>r x H1 Q
def rI (C:Int->Int->Prop)(g:Int->Int->V):R2:=fun x y H Q=>∃ i j,x=.int i/\y=.int j/\C i j/\Q (g i j) H
def rI0 (g:Int->Int->V):R2:=fun x y H Q=>∃ i j,x=.int i/\y=.int j/\Q (g i j) H
def rU (g:Int->V):V->Hp->VK->Prop:=fun x H Q=>∃ i,x=.int i/\Q (g i) H
section
variable {X:Cx}{a b c:Expr}{ta tb tc:TE}{pos:Pos}
theorem Gb (ha:PE X a ta)(hb:PE X b tb){pins:List (Addr × Obj)}{s:Shared}{σ:St}{H:Hp}{R:V->V->Hp->Prop}(I:Inv X pins σ H s)
  (h:ta σ H fun x H1=>tb σ H1 fun y H2=>R x y H2) {Q:Value->Shared->Prop} {f:Value->Value->Sem Value}
  (hf:∀ v u s2 x y H2,Inv X pins σ H2 s2->RelV x v->RelV y u->R x y H2->wpAny (model X.prog X.w) X.A (f v u) Q X.xe s2) :
  wpAny (model X.prog X.w) X.A (eval a X.env) (fun v s₁=>wpAny (model X.prog X.w) X.A (eval b X.env) (fun u s₂=>wpAny (model X.prog X.w) X.A (f v u) Q X.xe s₂) X.xe s₁) X.xe s:=by
 refine thn (ha pins s σ H _ I h) ?_
 rintro v s1 ⟨x,H1,I1,r1,q1⟩
 refine thn (hb pins s1 σ H1 _ I1 q1) ?_
 rintro u s2 ⟨y,H2,I2,r2,q2⟩
 exact hf v u s2 x y H2 I2 r1 r2 q2
theorem de {op:Operator}{r:R2}(ho:OpR X (binaryOp op) r)(ha:PE X a ta)(hb:PE X b tb):PE X (.BinOp a op b pos) (tOp r ta tb):=by
 intro pins s σ H Q I h
 exact wpAny_BinOp (Gb ha hb I h fun v u s2 x y H2 I2 rx ry q=>ho pins s2 σ H2 x y v u Q I2 rx ry q)
theorem HV {op:UnaryOp}{r:V->Hp->VK->Prop}(ho:UnR X (unaryOp op) r)(ha:PE X a ta):PE X (.UnaryOp op a pos) (tUn r ta):=by
 intro pins s σ H Q I h
 exact UnaryOp_ (thn (ha pins s σ H _ I h) fun v s1 ⟨x,H1,I1,r1,q1⟩=>ho pins s1 σ H1 x v Q I1 r1 q1)
theorem opI {f:Value->Value->Sem Value}{C:Int->Int->Prop}{g:Int->Int->Int}
  (rule:∀ (i j:Int) (t u:Tok) (s:Shared) (Q:Value->Shared->Prop) (E:Value->Shared->Prop),C i j->Q (.int (g i j) s.toks) { s with toks:=s.toks + 1 }->wpAny (model X.prog X.w) X.A (f (.int i t) (.int j u)) Q E s) :
  OpR X f (rI C fun i j=>.int (g i j)):=by
 intro pins s σ H x y v u Q I rx ry h
 obtain⟨i,j,rfl,rfl,hc,q⟩:=h
 obtain⟨t,rfl⟩:=rx
 obtain⟨t',rfl⟩:=ry
 exact rule i j t t' s _ _ hc ⟨.int (g i j),H,I.tok _,⟨_,rfl⟩,q⟩
theorem IP {f:Value->Value->Sem Value}{g:Int->Int->Int}
  (rule:∀ (i j:Int) (t u:Tok) (s:Shared) (Q:Value->Shared->Prop) (E:Value->Shared->Prop),Q (.int (g i j) s.toks) { s with toks:=s.toks + 1 }->wpAny (model X.prog X.w) X.A (f (.int i t) (.int j u)) Q E s) :
  OpR X f (rI0 fun i j=>.int (g i j)):=by
 intro pins s σ H x y v u Q I rx ry h
 obtain⟨i,j,rfl,rfl,q⟩:=h
 obtain⟨t,rfl⟩:=rx
 obtain⟨t',rfl⟩:=ry
 exact rule i j t t' s _ _ ⟨.int (g i j),H,I.tok _,⟨_,rfl⟩,q⟩
theorem B2 {f:Value->Value->Sem Value}{g:Int->Int->Bool}
  (rule:∀ (i j:Int) (t u:Tok) (s:Shared) (Q:Value->Shared->Prop) (E:Value->Shared->Prop),Q (.bool (g i j)) s->wpAny (model X.prog X.w) X.A (f (.int i t) (.int j u)) Q E s) :
  OpR X f (rI0 fun i j=>.bl (g i j)):=by
 intro pins s σ H x y v u Q I rx ry h
 obtain⟨i,j,rfl,rfl,q⟩:=h
 obtain⟨t,rfl⟩:=rx
 obtain⟨t',rfl⟩:=ry
 exact rule i j t t' s _ _ ⟨.bl (g i j),H,I,rfl,q⟩
def zq (i j:Int):Prop:=0 < j/\j < 1073741824
def Js (i j:Int):Prop:=0<=j/\j<=1000000/\i.natAbs < 2 ^ 64
def w6 (i j:Int):Prop:=(-(2 ^ 64) < i/\i < 2 ^ 64)\/(-(2 ^ 64) < j/\j < 2 ^ 64)
theorem w6.ok {i j:Int}(h:w6 i j):IntMulOk i j:=by
 rcases h with⟨h1,h2⟩ | ⟨h1,h2⟩
 ·exact .of_left (intBits_le_64 h1 h2)
 ·exact .of_right (intBits_le_64 h1 h2)
theorem lP:OpR X (binaryOp .Add) (rI0 fun i j=>.int (i + j)):=IP fun _ _ _ _ _ _ _ q=>add_int q
theorem Fj:OpR X (binaryOp .Sub) (rI0 fun i j=>.int (i - j)):=IP fun _ _ _ _ _ _ _ q=>sub_int q
theorem iE:OpR X (binaryOp .Mult) (rI w6 fun i j=>.int (i * j)):=opI fun _ _ _ _ _ _ _ hc q=>mul_int q hc.ok
theorem um:OpR X (binaryOp .FloorDiv) (rI zq fun i j=>.int (i / j)):=opI fun i j _ _ _ _ _ hc q=>by
 have h1:(0:Int) < j:=hc.1
 have h2:j < 1073741824:=hc.2
 exact floordiv_int (by lia) (by rw [Mc i (by lia)];exact q) (.inl (PyProof.noPylong_small (by lia)))
theorem iA:OpR X (binaryOp .Mod) (rI (fun _ j=>0 < j) fun i j=>.int (i % j)):=opI fun i j _ _ _ _ _ hc q=>by
 have h1:(0:Int) < j:=hc
 exact mod_int' (by lia) (by rw [Md i (by lia)];exact q)
theorem Gh:OpR X (binaryOp .Pow) (rI Js fun i j=>.int (i ^ j.toNat)):=opI fun _ _ _ _ _ _ _ hc q=>pow_int_small hc.1 hc.2.1 hc.2.2 q
theorem unI {f:Value->Sem Value}{g:Int->Int}
  (rule:∀ (i:Int) (t:Tok) (s:Shared) (Q:Value->Shared->Prop) (E:Value->Shared->Prop),Q (.int (g i) s.toks) { s with toks:=s.toks + 1 }->wpAny (model X.prog X.w) X.A (f (.int i t)) Q E s) :
  UnR X f (rU fun i=>.int (g i)):=by
 intro pins s σ H x v Q I rx h
 obtain⟨i,rfl,q⟩:=h
 obtain⟨t,rfl⟩:=rx
 exact rule i t s _ _ ⟨.int (g i),H,I.tok _,⟨_,rfl⟩,q⟩
theorem F5:UnR X (unaryOp .USub) (rU fun i=>.int (-i)):=unI fun _ _ _ _ _ q=>neg_int q
end
def GU:V->V->Bool
 | .non,.non=>true | .non,.int _=>true | .int _,.non=>true | .non,.bl _=>true | .bl _,.non=>true | .non,.str _=>true | .str _,.non=>true
 | .int _,.int _=>true | .bl _,.bl _=>true | .str _,.str _=>true | .byt _,.byt _=>true
 | .int _,.str _=>true | .str _,.int _=>true | .bl _,.str _=>true | .str _,.bl _=>true
 | _,_=>false
def rEq:R2:=fun x y H Q=>GU x y=true/\Q (.bl (decide (x=y))) H
def rNe:R2:=fun x y H Q=>GU x y=true/\Q (.bl (!decide (x=y))) H
theorem uG {i j:Int}:decide (V.int i=V.int j)=(i == j):=by
 rw [Kb]
 simp
theorem zl {i j:Bool}:decide (V.bl i=V.bl j)=(i == j):=by
 rw [Kb]
 simp
theorem vg {i j:Str}:decide (V.str i=V.str j)=(i == j):=by
 rw [Kb]
 simp
theorem ve {i j:Array UInt8}:decide (V.byt i=V.byt j)=(i.toList == j.toList):=by
 rw [Kb]
 cases i
 cases j
 simp
section
variable {X:Cx}{a b c:Expr}{ta tb tc:TE}{pos:Pos}
theorem aK {pins:List (Addr × Obj)}{σ:St}{H:Hp}{s:Shared}{Q:VK}{k k':Bool}(I:Inv X pins σ H s)(q:Q (.bl k) H)(e:k=k'):EP X pins σ Q (.bool k') s:=by
 subst e
 exact⟨.bl k,H,I,rfl,q⟩
theorem Ds:OpR X (compareOp .Eq) rEq:=by
 intro pins s σ H x y v u Q I rx ry h
 obtain⟨hs,q⟩:=h
 cases x with
 | non=>
  cases rx
  cases y with
  | non=>cases ry;exact PySem.EqNone.eq_none_none (aK I q (by simp))
  | bl j=>cases ry;exact PySem.EqNone.eq_none_bool (aK I q (by simp))
  | int j=>obtain⟨t',rfl⟩:=ry;exact PySem.EqNone.eq_none_int (aK I q (by simp))
  | str j=>obtain⟨t',rfl⟩:=ry;exact PySem.EqNone.eq_none_str (aK I q (by simp))
  | _=>exact absurd (show false=true from hs) z_
 | bl i=>
  cases rx
  cases y with
  | non=>cases ry;exact PySem.EqNone.eq_bool_none (aK I q (by simp))
  | bl j=>cases ry;exact eq_bool (aK I q zl)
  | str j=>obtain⟨t',rfl⟩:=ry;exact PySem.EqMixed.eq_bool_str (aK I q (by simp))
  | _=>exact absurd (show false=true from hs) z_
 | int i=>
  obtain⟨t,rfl⟩:=rx
  cases y with
  | non=>cases ry;exact PySem.EqNone.eq_int_none (aK I q (by simp))
  | int j=>obtain⟨t',rfl⟩:=ry;exact eq_int (aK I q uG)
  | str j=>obtain⟨t',rfl⟩:=ry;exact PySem.EqMixed.eq_int_str (aK I q (by simp))
  | _=>exact absurd (show false=true from hs) z_
 | str i=>
  obtain⟨t,rfl⟩:=rx
  cases y with
  | non=>cases ry;exact PySem.EqNone.eq_str_none (aK I q (by simp))
  | bl j=>cases ry;exact PySem.EqMixed.eq_str_bool (aK I q (by simp))
  | int j=>obtain⟨t',rfl⟩:=ry;exact PySem.EqMixed.eq_str_int (aK I q (by simp))
  | str j=>obtain⟨t',rfl⟩:=ry;exact eq_str (aK I q vg)
  | _=>exact absurd (show false=true from hs) z_
 | byt i=>
  obtain⟨t,rfl⟩:=rx
  cases y with
  | byt j=>obtain⟨t',rfl⟩:=ry;exact PySem.W.eq_bytes (aK I q ve)
  | _=>exact absurd (show false=true from hs) z_
 | _=>cases y <;> exact absurd (show false=true from hs) z_
theorem zt:OpR X (compareOp .NotEq) rNe:=by
 intro pins s σ H x y v u Q I rx ry h
 obtain⟨hs,q⟩:=h
 cases x with
 | non=>
  cases rx
  cases y with
  | non=>cases ry;exact PySem.EqNone.ne_none_none (aK I q (by simp))
  | bl j=>cases ry;exact PySem.EqNone.ne_none_bool (aK I q (by simp))
  | int j=>obtain⟨t',rfl⟩:=ry;exact PySem.EqNone.ne_none_int (aK I q (by simp))
  | str j=>obtain⟨t',rfl⟩:=ry;exact PySem.EqNone.ne_none_str (aK I q (by simp))
  | _=>exact absurd (show false=true from hs) z_
 | bl i=>
  cases rx
  cases y with
  | non=>cases ry;exact PySem.EqNone.ne_bool_none (aK I q (by simp))
  | bl j=>cases ry;exact ne_bool (aK I q (congrArg not zl))
  | str j=>obtain⟨t',rfl⟩:=ry;exact PySem.EqMixed.ne_bool_str (aK I q (by simp))
  | _=>exact absurd (show false=true from hs) z_
 | int i=>
  obtain⟨t,rfl⟩:=rx
  cases y with
  | non=>cases ry;exact PySem.EqNone.ne_int_none (aK I q (by simp))
  | int j=>obtain⟨t',rfl⟩:=ry;exact ne_int (aK I q (congrArg not uG))
  | str j=>obtain⟨t',rfl⟩:=ry;exact PySem.EqMixed.ne_int_str (aK I q (by simp))
  | _=>exact absurd (show false=true from hs) z_
 | str i=>
  obtain⟨t,rfl⟩:=rx
  cases y with
  | non=>cases ry;exact PySem.EqNone.ne_str_none (aK I q (by simp))
  | bl j=>cases ry;exact PySem.EqMixed.ne_str_bool (aK I q (by simp))
  | int j=>obtain⟨t',rfl⟩:=ry;exact PySem.EqMixed.ne_str_int (aK I q (by simp))
  | str j=>obtain⟨t',rfl⟩:=ry;exact ne_str (aK I q (congrArg not vg))
  | _=>exact absurd (show false=true from hs) z_
 | byt i=>
  obtain⟨t,rfl⟩:=rx
  cases y with
  | byt j=>obtain⟨t',rfl⟩:=ry;exact PySem.W.ne_bytes (aK I q (congrArg not ve))
  | _=>exact absurd (show false=true from hs) z_
 | _=>cases y <;> exact absurd (show false=true from hs) z_
theorem Ir:OpR X (compareOp .Lt) (rI0 fun i j=>.bl (decide (i < j))):=B2 fun _ _ _ _ _ _ _ q=>lt_int q
theorem Iq:OpR X (compareOp .LtE) (rI0 fun i j=>.bl (decide (i<=j))):=B2 fun _ _ _ _ _ _ _ q=>le_int q
theorem II:OpR X (compareOp .Gt) (rI0 fun i j=>.bl (decide (j < i))):=B2 fun _ _ _ _ _ _ _ q=>gt_int q
theorem HL:OpR X (compareOp .GtE) (rI0 fun i j=>.bl (decide (j<=i))):=B2 fun _ _ _ _ _ _ _ q=>ge_int q
theorem vY:OpR X (compareOp .In) (fun x y H Q=>∃ i j,x=.str i/\y=.str j/\Q (.bl (!(Builtin.Str.occurrences j i 0 j.length 1).isEmpty)) H):=by
 intro pins s σ H x y v u Q I rx ry h
 obtain⟨i,j,rfl,rfl,q⟩:=h
 obtain⟨t,rfl⟩:=rx
 obtain⟨t',rfl⟩:=ry
 exact in_str (aK I q rfl)
theorem D3:OpR X (compareOp .IsNot) (fun x y H Q=>y=.non/\Q (.bl (!decide (x=.non))) H):=by
 intro pins s σ H x y v u Q I rx ry h
 obtain⟨rfl,q⟩:=h
 cases ry
 refine isnot_none_gen (aK I q ?_)
 cases x <;> first
  | (cases rx;rfl)
  | (obtain⟨t,rfl⟩:=rx;rfl)
theorem aQ (b:Expr){op:CmpOp}(h:op≠.In:=by decide)(h2:op≠.NotIn:=by decide):behindInMarks op b=false:=by
 have e1:(op == CmpOp.In)=false:=by cases op <;> first | rfl | exact absurd rfl h
 have e2:(op == CmpOp.NotIn)=false:=by cases op <;> first | rfl | exact absurd rfl h2
 cases b <;> simp [behindInMarks,e1,e2]
theorem pQ {op:CmpOp}{r:R2}(ho:OpR X (compareOp op) r)(ha:PE X a ta)(hb:PE X b tb)(hm:behindInMarks op b=false):PE X (.Compare a [op] [b] pos) (tOp r ta tb):=by
 intro pins s σ H Q I h
 exact wpAny_Compare1 (Gb ha hb I h fun v u s2 x y H2 I2 rx ry q=>ho pins s2 σ H2 x y v u Q I2 rx ry q) hm
def Dh (t:TE):TT:=fun σ H Q=>t σ H fun x H'=>∃ k,x=.bl k/\Q k H'
theorem hE {op:CmpOp}{r:R2}(ho:OpR X (compareOp op) r)(ha:PE X a ta)(hb:PE X b tb)(hm:behindInMarks op b=false):PT X (.Compare a [op] [b] pos) (Dh (tOp r ta tb)):=by
 intro pins s σ H Q I h
 refine wpAny_isTrue_Compare1 (thn (ha pins s σ H _ I h) fun v s1 ⟨x,H1,I1,r1,q1⟩=>thn (hb pins s1 σ H1 _ I1 q1) fun u s2 ⟨y,H2,I2,r2,q2⟩=>
  thn (ho pins s2 σ H2 x y v u _ I2 r1 r2 q2) fun c s3 ⟨z,H3,I3,r3,k,e,q3⟩=>?_) hm
 subst e
 cases r3
 exact wpAny_truthy_bool ⟨H3,I3,q3⟩
def EC (K:PySem.W.Frag)(x:V)(H:Hp)(k:Bool):Prop:=
 match x with
 | .non=>k=false
 | .bl b=>k=b
 | .int i=>k=(i != 0)
 | .str y=>y.length<=sizeLine/\k=((y.length:Int) != 0)
 | .byt y=>y.size<=sizeLine/\k=((y.size:Int) != 0)
 | .ref p=>(∃ xs,SqL K H p xs/\k=!xs.isEmpty)\/(∃ xs,SqT K H p xs/\k=!xs.isEmpty)\/∃ kvs,H p=some (.dK kvs)/\k=!kvs.isEmpty
 | _=>False
theorem sG {κ:Type}{kvs:List (κ × V)}{vs:List (κ × Value)}(r:KV kvs vs):(!vs.isEmpty)=!kvs.isEmpty:=by
 cases r <;> rfl
theorem mI {xs:List V}{its:List Value}(r:Vals xs its):(!its.toArray.isEmpty)=!xs.isEmpty:=by
 cases r <;> simp
theorem iH:(sizeLine:Nat) < 2 ^ 63:=by rw [sizeLine_eq];decide
theorem Fb:Jt X (fun x H Q=>∃ k,EC X.K x H k/\Q k H):=by
 intro pins s σ H x v Q I rx h
 obtain⟨k,e,q⟩:=h
 have hl:=iH
 have hs:sizeLine=16777216:=sizeLine_eq
 cases x with
 | non=>
  cases rx
  have e':k=false:=e
  subst e'
  exact truthy_none ⟨H,I,q⟩
 | bl b=>
  cases rx
  have e':k=b:=e
  subst e'
  exact wpAny_truthy_bool ⟨H,I,q⟩
 | int i=>
  obtain⟨t,rfl⟩:=rx
  have e':k=(i != 0):=e
  subst e'
  exact PySem.P.truthy_int ⟨H,I,q⟩
 | str y=>
  obtain⟨t,rfl⟩:=rx
  obtain⟨hy,e'⟩:y.length<=sizeLine/\k=((y.length:Int) != 0):=e
  subst e'
  exact PySem.P.truthy_str (by lia) ⟨H,I.tok _,q⟩
 | byt y=>
  obtain⟨t,rfl⟩:=rx
  obtain⟨hy,e'⟩:y.size<=sizeLine/\k=((y.size:Int) != 0):=e
  subst e'
  exact PySem.W.truthy_bytes (by lia) ⟨H,I.tok _,q⟩
 | ref p=>
  cases rx
  have e':(∃ xs,SqL X.K H p xs/\k=!xs.isEmpty)\/(∃ xs,SqT X.K H p xs/\k=!xs.isEmpty)\/∃ kvs,H p=some (.dK kvs)/\k=!kvs.isEmpty:=e
  rcases e' with⟨xs,hx,e'⟩ | ⟨xs,hx,e'⟩ | ⟨kvs,hx,e'⟩
  ·subst e'
   obtain⟨its,r,pl,hz⟩:=I.list hx
   have hlen:=r.length
   exact wpAny_truthy_list pl.isList (by simp only [n_];lia) ⟨H,I.tok _,by rw [mI r];exact q⟩
  ·subst e'
   obtain⟨its,r,pl,hz⟩:=I.tuple hx
   have hlen:=r.length
   exact truthy_tuple pl (by simp only [n_];lia) ⟨H,I.tok _,by rw [mI r];exact q⟩
  ·subst e'
   obtain⟨hz,hS,vs,r,m⟩:kvs.length<=sizeLine/\(p == sysModules)=false/\∃ vs,KV kvs vs/\s.heap.DictOf (bp X.prog X.w) p vs:=I.hok p _ hx
   have hlen:kvs.length=vs.length:=Paired.length r
   exact wpAny_truthy_dict hS m (by lia) ⟨H,I.tok _,by rw [sG r];exact q⟩
 | _=>exact (show False from e).elim
theorem y6 (ha:PE X a ta)(he:∀ whole,isTrue a X.env whole=(do let v <-whole;standAt a.pos;holding [v] (truthy v))) :
  PT X a (fun σ H Q=>ta σ H fun x H'=>∃ k,EC X.K x H' k/\Q k H'):=by
 intro pins s σ H Q I h
 exact isTrue_plain (thn (ha pins s σ H _ I h) fun v s1 ⟨x,H1,I1,r1,q1⟩=>Fb pins s1 σ H1 x v Q I1 r1 q1) (he _)
theorem tG:OpR X (binaryOp .Add) (fun x y H Q=>∃ i j,x=.str i/\y=.str j/\i.length + j.length<=sizeLine/\Q (.str (i++j)) H):=by
 intro pins s σ H x y v u Q I rx ry h
 obtain⟨i,j,rfl,rfl,hz,q⟩:=h
 obtain⟨t,rfl⟩:=rx
 obtain⟨t',rfl⟩:=ry
 exact add_str (fun t' tk=>⟨.str (i++j),H,I.tok _,⟨_,rfl⟩,q⟩) hz
theorem vals1 {x:V}{us:List Value}(r:Vals [x] us):∃ u,us=[u]/\RelV x u:=by
 cases r with
 | cons r1 r2=>cases r2;exact⟨_,rfl,r1⟩
theorem vals2 {x y:V}{us:List Value}(r:Vals [x,y] us):∃ u w',us=[u,w']/\RelV x u/\RelV y w':=by
 cases r with
 | cons r1 r2=>
  cases r2 with
  | cons r3 r4=>cases r4;exact⟨_,_,rfl,r1,r3⟩
theorem y9:bE X (.builtin "abs") (fun xs H Q=>∃ i,xs=[.int i]/\Q (.int (if i < 0 then -i else i)) H):=by
 intro pins s σ H xs us Q I r h
 obtain⟨i,rfl,q⟩:=h
 obtain⟨u,rfl,t,rfl⟩:=vals1 r
 exact call_abs_int fun u tk=>⟨.int (if i < 0 then -i else i),H,I.tok _,⟨_,rfl⟩,q⟩
theorem wk (hc:X.calm=true):bE X (.builtin "max") (fun xs H Q=>∃ i j,xs=[.int i,.int j]/\Q (.int (if j > i then j else i)) H):=by
 intro pins s σ H xs us Q I r h
 obtain⟨i,j,rfl,q⟩:=h
 obtain⟨u,w',rfl,⟨t,rfl⟩,⟨t',rfl⟩⟩:=vals2 r
 refine max_two_ints (I.ok.hd hc) fun h' tk k=>⟨_,H,I.kept k,?_,q⟩
 by_cases hj:j > i
 ·rw [if_pos hj,if_pos hj];exact⟨_,rfl⟩
 ·rw [if_neg hj,if_neg hj];exact⟨_,rfl⟩
theorem xF (hc:X.calm=true):bE X (.builtin "min") (fun xs H Q=>∃ i j,xs=[.int i,.int j]/\Q (.int (if j < i then j else i)) H):=by
 intro pins s σ H xs us Q I r h
 obtain⟨i,j,rfl,q⟩:=h
 obtain⟨u,w',rfl,⟨t,rfl⟩,⟨t',rfl⟩⟩:=vals2 r
 refine min_two_ints (I.ok.hd hc) fun h' tk k=>⟨_,H,I.kept k,?_,q⟩
 by_cases hj:j < i
 ·rw [if_pos hj,if_pos hj];exact⟨_,rfl⟩
 ·rw [if_neg hj,if_neg hj];exact⟨_,rfl⟩
theorem oA:bE X (.type "int") (fun xs H Q=>(∃ i,xs=[.int i]/\Q (.int i) H)\/∃ k,xs=[.bl k]/\Q (.int (if k then 1 else 0)) H):=by
 intro pins s σ H xs us Q I r h
 rcases h with⟨i,rfl,q⟩ | ⟨k,rfl,q⟩
 ·obtain⟨u,rfl,t,rfl⟩:=vals1 r
  exact call_int_int ⟨.int i,H,I,⟨_,rfl⟩,q⟩
 ·obtain⟨u,rfl,r1⟩:=vals1 r
  cases r1
  exact call_int_bool ⟨.int (if k then 1 else 0),H,I.tok _,⟨_,rfl⟩,q⟩
theorem rD:bE X (.builtin "divmod") (fun xs H Q=>∃ i j,xs=[.int i,.int j]/\zq i j/\∀ p,H p=none->Q (.ref p) (upd H p (.tup [.int (i / j),.int (i % j)]))):=by
 intro pins s σ H xs us Q I r h
 obtain⟨i,j,rfl,⟨h1,h2⟩,q⟩:=h
 obtain⟨u,w',rfl,⟨t,rfl⟩,⟨t',rfl⟩⟩:=vals2 r
 refine divmod_int (by lia) ?_ (.inl (PyProof.noPylong_small (by lia)))
 rw [Mc i (by lia),Md i (by lia)]
 have hn:H s.heap.objs.size=none:=I.hok.fresh (c_ _)
 refine⟨.ref s.heap.objs.size,_,?_,rfl,q _ hn⟩
 refine I.laid (fun b o e=>Heap.get?_push_of_some _ e) (c_ _) ⟨by simp only [h_,K0];rw [sizeLine_eq];decide,[.int (i / j) s.toks,.int (i % j) (s.toks + 1)],.cons ⟨_,rfl⟩ (.cons ⟨_,rfl⟩ .nil),?_⟩
 exact⟨_,Heap.get?_push_size s.heap rfl,rfl,0,rfl⟩
end
end L2
namespace L2
open PySem PySem.Spec PyProof.Rows
theorem kY.some_of {v:V}{o:Option Value}(r:kY (some v) o):∃ u,o=some u/\RelV v u:=by
 cases o with
 | none=>exact (show False from r).elim
 | some u=>exact⟨u,rfl,r⟩
end L2
namespace L2
open PySem PySem.Spec PyProof.Rows
structure Room (k:Nat) (A:Around):Prop where
 hd:A.handled=none
 dp:A.depth + 3 * k + 5 < recursionLimit
 un:A.units + 16 * k + 200 < cLine
 gs:A.guards=some []
theorem Room.mono {j k:Nat}{A:Around}(r:Room k A)(h:j<=k):Room j A:=⟨r.hd,by have:=r.dp;lia,by have:=r.un;lia,r.gs⟩
theorem Room.deeper {k:Nat}{A:Around}(r:Room (k + 1) A)(env:Env):Room k (A.deeper env):=
 ⟨r.hd,by have:=r.dp;show A.depth + 1 + 3 * k + 5 < _;lia,by have:=r.un;show A.units + 3 + 16 * k + 200 < _;lia,r.gs⟩
theorem Room.depth {k:Nat}{A:Around}(r:Room k A):A.depth < recursionLimit:=by have:=r.dp;lia
theorem Room.units {k:Nat}{A:Around}(r:Room k A):A.units + 64 < cLine:=by have:=r.un;lia
def HJ:TA:=fun _ H Q=>Q [] H
def Hj (ta:TE)(tr:TA):TA:=fun σ H Q=>ta σ H fun x H1=>tr σ H1 fun xs H2=>Q (x::xs) H2
section
variable {X:Cx}{e:Expr}{es:List Expr}{te:TE}{t:TA}{pos:Pos}
theorem bC:PA X [] HJ:=fun _ _ _ _ H Q I h=>Calls.spliced_nil ⟨[],H,I,.nil,h⟩
theorem av (ha:PE X e te)(hr:PA X es t)(hs:starEach (e::es) X.env=(false,eval e X.env)::starEach es X.env:=by rfl):PA X (e::es) (Hj te t):=by
 intro pos pins s σ H Q I h
 rw [hs]
 show wpAny _ _ (spliced ((false,eval e X.env)::backTo pos (starEach es X.env))) _ _ s
 refine Calls.spliced_cons (thn (ha pins s σ H _ I h) ?_)
 rintro u s1 ⟨x,H1,I1,r1,q1⟩
 exact thn (hr pos pins s1 σ H1 _ I1 q1) fun us s2 ⟨xs,H2,I2,r2,q2⟩=>⟨x::xs,H2,I2,.cons r1 r2,q2⟩
def Jk (t:TA):TE:=fun σ H Q=>t σ H fun xs H1=>xs.length<=sizeLine/\∀ p,H1 p=none->Q (.ref p) (upd H1 p (.lst xs))
theorem xP (h:PA X es t):PE X (.List es pos) (Jk t):=by
 intro pins s σ H Q I hq
 refine wpAny_List_spliced (thn (h pos pins s σ H _ I hq) fun us s1 ⟨xs,H1,I1,r,z,q⟩=>⟨by rw [<-r.length];exact z,?_⟩)
 have hf:H1 s1.heap.objs.size=none:=I1.hok.fresh (c_ _)
 refine⟨.ref s1.heap.objs.size,upd H1 s1.heap.objs.size (.lst xs),I1.laid (t':=s1.toks) (fun b u e=>Heap.get?_push_of_some _ e) (c_ _) ?_,rfl,q _ hf⟩
 exact⟨z,us,0,r,Heap.get?_push_size _ rfl⟩
end
abbrev Sp:=List V->Hp->VK->XK->Prop
abbrev CXT:=List Env->Hp->Shared->XK->Value->Shared->Prop
structure Env0 (P:Program) (w:World) (K:PySem.W.Frag) (mg:Str->Option Value) (base:Heap) (A:Around) (outer:List Env) (s:Shared) (H:Hp):Prop where
 frames:A.frames=some outer
 mod:Mod K mg base
 bs:∀ b o,base.get? b=some o->s.heap.get? b=some o/\H b=none
 bsz:base.objs.size<=s.heap.objs.size
 m4:s.heap.FunFrames base outer
 frf:∀ b∈frs outer,H b=none
 hok:HOk P w H s.heap
 bare:AllBare s.gens
def CE (outer:List Env)(P:Program)(w:World)(H:Hp)(s:Shared)(Q:VK)(u:Value)(s':Shared):Prop:=
 ∃ v H',s'.os=s.os/\AllBare s'.gens/\Un (frs outer) [] H H' s.heap s'.heap/\HOk P w H' s'.heap/\RelV v u/\Q v H'
def CR (CX:CXT)(outer:List Env)(P:Program)(w:World)(H:Hp)(s:Shared)(Q:VK)(E:XK)(r:Result)(s':Shared):Prop:=
 match r with
 | .ok (.ret u)=>CE outer P w H s Q u s'
 | .ok _=>False
 | .error e=>CX outer H s E e s'
structure FnOk (P:Program) (w:World) (K:PySem.W.Frag) (mg:Str->Option Value) (base:Heap) (CX:CXT) (k:Nat) (f:Addr) (fd:FuncData) (ps:List Str) (sp:Sp):Prop where
 len:∀ vs H Q E,sp vs H Q E->vs.length=ps.length
 run:∀ (A:Around) (outer:List Env) (s:Shared) (H:Hp) (args:Args) (us:List Value) (vs:List V) (Q:VK) (E:XK),Room k A->Env0 P w K mg base A outer s H->BindsTo s fd args (ps.zip us)->Vals vs us->sp vs H Q E->
  codeAny (model P w) A (.call (.ref f) args) (CR CX outer P w H s Q E) s
theorem FnOk.imp {P:Program}{w:World}{K:PySem.W.Frag}{mg:Str->Option Value}{base:Heap}{CX:CXT}{k:Nat}{f:Addr}{fd:FuncData}{ps:List Str}{sp sp':Sp}(F:FnOk P w K mg base CX k f fd ps sp)
  (h:∀ vs H Q E,sp' vs H Q E->sp vs H Q E):FnOk P w K mg base CX k f fd ps sp':=
 ⟨fun vs H Q E q=>F.len vs H Q E (h _ _ _ _ q),fun A outer s H args us vs Q E hr he hb hv hs=>F.run A outer s H args us vs Q E hr he hb hv (h _ _ _ _ hs)⟩
section
variable {X:Cx}{pins:List (Addr × Obj)}{σ:St}{H:Hp}{s s':Shared}
theorem Inv.Jg (I:Inv X pins σ H s):Env0 X.prog X.w X.K X.mg X.base X.A X.stack s H:=
 ⟨I.ok.frames,I.ok.mod,I.bs,r_ I.ok.bsz I.sz,I.stack,I.uf,I.hok,I.bare⟩
theorem Inv.after {Q:VK}{u:Value}(I:Inv X pins σ H s)(h:CE X.stack X.prog X.w H s Q u s'):EP X pins σ Q u s':=by
 obtain⟨v,H',os,bare,un,hok,r,q⟩:=h
 obtain⟨hh,g,d,t,os'⟩:=s'
 obtain rfl:os'=s.os:=os
 exact⟨v,H',I.call (h':=hh) (g':=g) (d':=d) (t':=t) (ch:=[]) un hok bare (fun b z=>absurd z (by simp)),r,q⟩
end
def uB (sp:Sp)(dvs:List V)(E:XK)(t:TA):TE:=fun σ H Q=>t σ H fun vs H1=>sp (vs++dvs) H1 Q E
def Binds (K:PySem.W.Frag)(fd:FuncData)(ps:List Str)(ds:List Value):Prop:=
 ∀ (s:Shared) (us:List Value),K.In s.heap->(us++ds).length=ps.length->BindsTo s fd ⟨us,[]⟩ (ps.zip (us++ds))
theorem Binds.all {K:PySem.W.Frag}{fd:FuncData}{ps:List Str}(h:∀ us:List Value,us.length=ps.length->bindArgs fd ⟨us,[]⟩=pure (ps.zip us)):Binds K fd ps []:=fun s us _ hl=>by
 rw [JF] at hl ⊢
 exact .of_eq (h us hl)
def Passes (CX:CXT)(X:Cx)(E:XK):Prop:=∀ (pins:List (Addr × Obj)) (σ:St) (H:Hp) (s:Shared) (e:Value) (s':Shared),Inv X pins σ H s->CX X.stack H s E e s'->X.xe e s'
section
variable {X:Cx}{CX:CXT}{k:Nat}{f C:Addr}{fd:FuncData}{ps:List Str}{sp:Sp}{dvs:List V}{ds:List Value}{E:XK}{x m:Str}{p pos apos:Pos}{e o:Expr}{es:List Expr}{ta:TE}{t:TA}
theorem A8 {pins:List (Addr × Obj)}{σ:St}{H:Hp}{s:Shared}{Q:VK}{us:List Value}{vs:List V}(F:FnOk X.prog X.w X.K X.mg X.base CX k f fd ps sp)(hr:Room k X.A)(hb:Binds X.K fd ps ds)(hd:Vals dvs ds)(hx:Passes CX X E)
  (I:Inv X pins σ H s) (r:Vals vs us) (h:sp (vs++dvs) H Q E):wpAny (model X.prog X.w) X.A (call (.ref f) us) (EP X pins σ Q) X.xe s:=by
 have r2:Vals (vs++dvs) (us++ds):=r.append hd
 have hl:(us++ds).length=ps.length:=by rw [<-r2.length];exact F.len _ _ _ _ h
 refine wpAny_call (codeAny_mono (F.run X.A X.stack s H ⟨us,[]⟩ (us++ds) (vs++dvs) Q E hr I.Jg (hb s us I.kIn hl) r2 h) fun r s' hq=>?_)
 cases r with
 | error e=>exact hx pins σ H s e s' I hq
 | ok fl=>
  cases fl with
  | ret u=>exact I.after hq
  | next=>exact False.elim hq
  | brk=>exact False.elim hq
  | cont=>exact False.elim hq
theorem BZ (F:FnOk X.prog X.w X.K X.mg X.base CX k f fd ps sp)(hr:Room k X.A)(hg:Gl X x)(hm:X.mg x=some (.ref f))(hk:PySem.W.keepIn X.K (.ref f)=true)(hb:Binds X.K fd ps ds)(hd:Vals dvs ds)(hx:Passes CX X E)
  (ha:PA X (e::es) t) (hdb:(x == ("__debug__":Str))=false:=by decide) (he:starEach (e::es) X.env=(false,eval e X.env)::starEach es X.env:=by rfl) (hpl:(backTo pos (starEach es X.env)).any (·.1)=false:=by rfl) :
  PE X (.Call (.Name x p) (e::es) [] pos) (uB sp dvs E t):=by
 intro pins s σ H Q I h
 refine wpAny_Call_Name_kw (oX I hg hm ?_ hdb)
 refine PySem.W.callWith_K (h₀:=X.base) I.ok.mod.kin hk (thn (ha pos pins s σ H _ I h) fun us s1 ⟨vs,H1,I1,r,q⟩=>⟨I1.kIn,?_⟩) he hpl
 exact A8 F hr hb hd hx I1 r q
theorem yU (F:FnOk X.prog X.w X.K X.mg X.base CX k f fd ps sp)(hr:Room k X.A)(hg:Gl X x)(hm:X.mg x=some (.ref f))(hk:PySem.W.keepIn X.K (.ref f)=true)(hb:Binds X.K fd ps ds)(hd:Vals dvs ds)(hx:Passes CX X E)
  (hdb:(x == ("__debug__":Str))=false:=by decide):PE X (.Call (.Name x p) [] [] pos) (uB sp dvs E HJ):=by
 intro pins s σ H Q I h
 refine wpAny_Call_Name_kw (oX I hg hm ?_ hdb)
 exact PySem.W.callWith_K0 I.kIn hk (A8 (us:=[]) F hr hb hd hx I .nil h)
end
structure FnScope (N P:List Str) (sc:Scope):Prop where
 kind:sc.kind=.function
 co:sc.isCoroutine=false
 gen:sc.isGenerator=false
 nd:N.Nodup
 pre:N.take P.length=P
 par:∀ x∈P,sc.names.lookup x=some .local\/sc.names.lookup x=some .cell
 nofree:∀ y∈sc.names,y.2≠.free
theorem oz {kindOf:Str->Option NameKind}{x:Str}:∀ {binds:List (Str × Value)} {m:Str->Option Value},(∀ v,(x,v) ∉ binds)->bindL kindOf binds m x=m x
 | [],_,_=>rfl
 | (n,v)::r,m,h=>by
  unfold bindL
  rw [oz fun w hw=>h w (o_ _ hw)]
  split
  ·have:x≠n:=by rintro rfl;exact h v t_
   simp [this]
  ·rfl
theorem nG {kindOf:Str->Option NameKind}{x:Str}:∀ {binds:List (Str × Value)} {m:Str->Option Value},(∀ v,(x,v) ∉ binds)->bindC kindOf binds m x=m x
 | [],_,_=>rfl
 | (n,v)::r,m,h=>by
  unfold bindC
  rw [nG fun w hw=>h w (o_ _ hw)]
  split
  ·rfl
  ·have:x≠n:=by rintro rfl;exact h v t_
   simp [this]
theorem nL {kindOf:Str->Option NameKind}{x:Str}{v:Value}:∀ {P:List Str} {vs:List Value} {i:Nat} {m:Str->Option Value},P.Nodup->P[i]?=some x->vs[i]?=some v->kindOf x=some .local->
  bindL kindOf (P.zip vs) m x=some v
 | [],_,_,_,_,h,_,_=>by simp at h
 | _::_,[],_,_,_,_,h,_=>by simp at h
 | p::P,w::vs,0,m,nd,h1,h2,hk=>by
  simp at h1 h2;subst h1;subst h2
  show bindL kindOf ((p,w)::P.zip vs) m p=_
  unfold bindL
  rw [oz fun v hv=>(H_.mp nd).1 (Mx hv).1,if_pos hk]
  simp
 | p::P,w::vs,i + 1,m,nd,h1,h2,hk=>by
  show bindL kindOf ((p,w)::P.zip vs) m x=_
  unfold bindL
  exact nL (i:=i) (H_.mp nd).2 (by simpa using h1) (by simpa using h2) hk
theorem og {kindOf:Str->Option NameKind}{x:Str}{v:Value}:∀ {P:List Str} {vs:List Value} {i:Nat} {m:Str->Option Value},P.Nodup->P[i]?=some x->vs[i]?=some v->kindOf x≠some .local->
  bindC kindOf (P.zip vs) m x=some v
 | [],_,_,_,_,h,_,_=>by simp at h
 | _::_,[],_,_,_,_,h,_=>by simp at h
 | p::P,w::vs,0,m,nd,h1,h2,hk=>by
  simp at h1 h2;subst h1;subst h2
  show bindC kindOf ((p,w)::P.zip vs) m p=_
  unfold bindC
  rw [nG fun v hv=>(H_.mp nd).1 (Mx hv).1,if_neg hk]
  simp
 | p::P,w::vs,i + 1,m,nd,h1,h2,hk=>by
  show bindC kindOf ((p,w)::P.zip vs) m x=_
  unfold bindC
  exact og (i:=i) (H_.mp nd).2 (by simpa using h1) (by simpa using h2) hk
def start (N:List Str)(vs:List V):St:=vs.map some++JA (N.length - vs.length) none
def tR (CX:CXT)(P:Program)(w:World)(K:PySem.W.Frag)(mg:Str->Option Value)(base:Heap)(N:List Str)(qual:Str)(scope:Scope)(f:Addr)(cd:Value)(A:Around)(outer:List Env)(s:Shared)(H:Hp)(E:XK):Cx where
 prog:=P
 w:=w
 K:=K
 mg:=mg
 base:=base
 A:=A.deeper (envOfC qual scope s.heap.objs.size f cd)
 N:=N
 s₀:=s
 H₀:=H
 env:=envOfC qual scope s.heap.objs.size f cd
 outer:=outer
 stack:=envOfC qual scope s.heap.objs.size f cd::outer
 ex:=[]
 calm:=true
 fn:=fun _=>true
 pn:=[]
 xe:=fun e s'=>wpAny (model P w) (A.deeper (envOfC qual scope s.heap.objs.size f cd)) (leaving (envOfC qual scope s.heap.objs.size f cd) e) (fun _ s''=>CX outer H s E e s'') (fun e' s''=>CX outer H s E e' s'') s'
theorem qp {sc:Scope}{n:Nat}{x:Str}(h:sc.names.lookup x=some .cell):∃ c,(cellsFrom n sc.names []).lookup x=some c:=by
 have q:=PySem.W.cellsFrom_some sc.names n [] (.inl h)
 exact Option.isSome_iff_exists.mp q
theorem xJ {CX:CXT}{P:Program}{w:World}{K:PySem.W.Frag}{mg:Str->Option Value}{base:Heap}{N ps:List Str}{qual:Str}{scope:Scope}{f:Addr}{cd:Value}{A:Around}{outer:List Env}{s s1:Shared}{H:Hp}{E:XK}{us:List Value}{vs:List V}
  (S:FnScope N ps scope) (hd:A.handled=none) (e0:Env0 P w K mg base A outer s H) (hl:vs.length=ps.length) (r:Vals vs us)
  (x:InCallC s s.heap.objs.size (bindL (envOfC qual scope s.heap.objs.size f cd).kindOf (ps.zip us) fun _=>none) (cellsFrom (s.heap.objs.size + 1) scope.names []) (bindC (envOfC qual scope s.heap.objs.size f cd).kindOf (ps.zip us) fun _=>none) s1) :
  Inv (tR CX P w K mg base N qual scope f cd A outer s H E) [] (start N vs) H s1:=by
 have hpl:ps.length<=N.length:=by have:=congrArg L7 S.pre;rw [A'] at this;lia
 obtain⟨h1,tk,rfl,hk⟩:=x.done
 have noA:∀ b:Addr,b ∉ (tR CX P w K mg base N qual scope f cd A outer s H E).ex:=fun b z=>absurd (show b∈([]:List Addr) from z) (by simp)
 refine⟨⟨e0.mod,S.kind,rfl,rfl,c_ _,fun y z c h1 h2=>?_,fun y hy=>?_,fun y c _ h=>?_,fun _=>hd,Around.frames_deeper e0.frames,.inr ⟨rfl,rfl⟩,fun b z=>absurd z (noA b),e0.bs,e0.bsz,fun b _ _=>noA b,fun b z=>absurd z (noA b),e0.m4,e0.frf⟩,
  rfl,e0.bare,Un.kept hk,⟨_,x.toInCall.ns,fun i y v h1 h2 h3=>?_⟩,fun y c h=>⟨_,x.cell y c h⟩,e0.hok.fresh (c_ _),fun y c h=>?_,fun p hp=>absurd (show p∈([]:List (Addr × Obj)) from hp) (by simp),e0.hok.kept hk,?_⟩
 ·exact name_of_addr x.apart (PySem.mem_of_lookup h1) (PySem.mem_of_lookup h2)
 ·have hy:scope.names.lookup y=some .cell\/scope.names.lookup y=some .free:=hy
  rcases hy with hy | hy
  ·exact qp hy
  ·exact absurd rfl (S.nofree _ (PySem.mem_of_lookup hy))
 ·exact Jz (x.above y c (PySem.mem_of_lookup h))
 ·have hi:i < vs.length:=by
   unfold start at h2
   by_cases hi:i < vs.length
   ·exact hi
   ·rw [Ke (by simpa using hi)] at h2
    rw [List.getElem?_replicate] at h2
    split at h2 <;> cases h2
  have ha:vs[i]?=some v:=by
   unfold start at h2
   rw [KN (by simpa using hi),w_] at h2
   cases e:vs[i]? with
   | none=>rw [e] at h2;cases h2
   | some a=>rw [e] at h2;cases h2;rfl
  obtain⟨u,hu,rv⟩:=r.get ha
  have hp:ps[i]?=some y:=by
   rw [<-S.pre,List.getElem?_take_of_lt (by lia)];exact h1
  have ndP:ps.Nodup:=by rw [<-S.pre];exact S.nd.sublist (La _ _)
  refine⟨u,rv,?_⟩
  rcases S.par y (JK hp) with k | k
  ·exact .inl ⟨k,nL ndP hp hu k⟩
  ·obtain⟨c,e⟩:=qp (n:=s.heap.objs.size + 1) k
   refine .inr ⟨.inl k,c,e,?_⟩
   have q:=x.cell y c e
   rw [og ndP hp hu (by show scope.names.lookup y≠_;rw [k];decide)] at q
   exact q
 ·exact e0.hok.fresh (Jz (x.above y c (PySem.mem_of_lookup h)))
 ·unfold start
  show _=N.length
  rw [g_,b_,JU]
  lia
theorem Io {CX:CXT}{P:Program}{w:World}{K:PySem.W.Frag}{mg:Str->Option Value}{base:Heap}{k:Nat}{f:Addr}{name qual:Str}{params:Arguments}{body:List Stmt}{scope:Scope}{dV kV doc pm cdv ct oc:Value}{an od:Option Addr}
  {osl:Array (Option Value)} {N ps:List Str} {sp:Sp} (lk:K.lookup f=some ⟨oc,od,.func (PySem.W.fnOf name qual params body scope dV kV doc pm an cdv ct),osl⟩) (hcd:PySem.W.codeIn K cdv qual=true) (S:FnScope N ps scope)
  (len:∀ vs H Q E,sp vs H Q E->vs.length=ps.length)
  (hbody:∀ (A:Around) (outer:List Env) (s:Shared) (H:Hp) (vs:List V) (Q:VK) (E:XK),Room k (A.deeper (envOfC qual scope s.heap.objs.size f cdv))->sp vs H Q E->
   ∃ t,PSs (tR CX P w K mg base N qual scope f cdv A outer s H E) body t/\t { nx:=fun _ H'=>Q .non H',rt:=Q } (start N vs) H) :
  FnOk P w K mg base CX (k + 1) f (PySem.W.fnOf name qual params body scope dV kV doc pm an cdv ct) ps sp:=by
 refine⟨len,fun A outer s H args us vs Q E hr e0 hb r hsp=>?_⟩
 have hl:=len _ _ _ _ hsp
 have KX:K.In s.heap:=e0.mod.kin.keeps fun b o e=>(e0.bs b o e).1
 have lim:s.heap.NoLimit:=e0.mod.nolimit.keeps fun b o e=>(e0.bs b o e).1
 have hkind:∀ y∈ps.zip us,scope.names.lookup y.1=some .local\/(scope.names.lookup y.1=some .cell/\((cellsFrom (s.heap.objs.size + 1) scope.names []).lookup y.1).isSome=true):=fun ⟨n,v⟩ hy=>by
  rcases S.par n (Mx hy).1 with q | q
  ·exact .inl q
  ·exact .inr ⟨q,PySem.W.cellsFrom_some _ _ _ (.inl q)⟩
 refine codeAny_call_function hr.depth (KX _ _ lk) rfl S.co S.gen rfl (PySem.W.codeRec_of KX hcd) (hb _ _ _ _ ?_)
 refine wpAny_newFunctionEnv_cells S.kind hkind fun env he s1 x=>?_
 subst he
 refine⟨lim.keeps x.toInCall.keep,codeAny_func ?_⟩
 obtain⟨t,ht,hq⟩:=hbody A outer s H vs Q E (hr.deeper _) hsp
 have I:Inv (tR CX P w K mg base N qual scope f cdv A outer s H E) [] (start N vs) H s1:=xJ S hr.hd e0 hl r x
 refine wpAny_mono (ht [] s1 (start N vs) H _ I hq) (fun fl s' hs=>?_) fun e s' hs=>hs
 have fin:∀ {σ':St} {H':Hp} {v:V} {u:Value},Inv (tR CX P w K mg base N qual scope f cdv A outer s H E) [] σ' H' s'->RelV v u->Q v H'->CE outer P w H s Q u s':=
  fun {σ' H' v u} J rv q=>⟨v,H',J.os,J.bare,J.base,J.hok,rv,q⟩
 cases fl with
 | ret u=>
  obtain⟨v,σ',H',J,rv,q⟩:=hs
  exact fin J rv q
 | next=>
  obtain⟨σ',H',J,q⟩:=hs
  exact fin (v:=V.non) (u:=Value.none) J rfl q
 | brk=>
  obtain⟨_,_,_,q⟩:=hs
  exact False.elim q
 | cont=>
  obtain⟨_,_,_,q⟩:=hs
  exact False.elim q
end L2
namespace L2
open PySem PySem.Spec PyProof.Rows
section
variable {X:Cx}{x:Str}{p pos:Pos}{e:Expr}{es:List Expr}{t:TA}{id T:String}{r:List V->Hp->VK->Prop}
def tCB (r:List V->Hp->VK->Prop)(t:TA):TE:=fun σ H Q=>t σ H fun vs H1=>r vs H1 Q
theorem aX (hc:bE X (.builtin id) r)(hg:Gl X x)(hm:X.mg x=none)(hv:bootBuiltins x=some (.builtin id))(ha:PA X (e::es) t)(hn:x≠"__name__":=by decide)(hdb:(x == ("__debug__":Str))=false:=by decide)
  (he:starEach (e::es) X.env=(false,eval e X.env)::starEach es X.env:=by rfl) (hpl:(backTo pos (starEach es X.env)).any (·.1)=false:=by rfl):PE X (.Call (.Name x p) (e::es) [] pos) (tCB r t):=by
 intro pins s σ H Q I h
 refine wpAny_Call_Name_kw (eX I hg hm hv ?_ hn hdb)
 exact PyProof.Rows.callWith_builtin1 (thn (ha pos pins s σ H _ I h) fun us s1 ⟨vs,H1,I1,r1,q1⟩=>hc pins s1 σ H1 vs us Q I1 r1 q1) he hpl
theorem nN (hc:bE X (.type T) r)(hg:Gl X x)(hm:X.mg x=none)(hv:bootBuiltins x=some (.type T))(ha:PA X (e::es) t)(hn:x≠"__name__":=by decide)(hdb:(x == ("__debug__":Str))=false:=by decide)
  (he:starEach (e::es) X.env=(false,eval e X.env)::starEach es X.env:=by rfl) (hpl:(backTo pos (starEach es X.env)).any (·.1)=false:=by rfl):PE X (.Call (.Name x p) (e::es) [] pos) (tCB r t):=by
 intro pins s σ H Q I h
 refine wpAny_Call_Name_kw (eX I hg hm hv ?_ hn hdb)
 exact PyProof.Rows.callWith_type1 (thn (ha pos pins s σ H _ I h) fun us s1 ⟨vs,H1,I1,r1,q1⟩=>hc pins s1 σ H1 vs us Q I1 r1 q1) he hpl
end
end L2
namespace HT
open PySem PyProof.Rows
section
variable {prog:Program}{w:World}{A:Around}{E:Value->Shared->Prop}{s:Shared}
theorem Cm {t b:Addr}{vs ws:List Value}{Q:Value->Shared->Prop}(ht:IsTup s.heap t vs.toArray)(hb:IsTup s.heap b ws.toArray)(hv:vs≠[])
  (h1:ws=[]->Q (.ref t) s) (h2:ws≠[]->Q (.ref s.heap.objs.size) { s with heap:=s.heap.push { cls:=.type "tuple",data:=.seq (vs++ws).toArray } })
  (hsz:vs.length + ws.length<=sizeLine):wpAny (model prog w) A (binaryOp .Add (.ref t) (.ref b)) Q E s:=by
 obtain⟨⟨cls,dd,data,sl⟩,ho,hc,n,hd⟩:=id ht
 obtain⟨⟨cls2,dd2,data2,sl2⟩,ho2,hc2,n2,hd2⟩:=id hb
 simp only at hc hd hc2 hd2
 subst hc hd hc2 hd2
 have e:vs.toArray++ws.toArray=(vs++ws).toArray:=by simp
 by_cases hw:ws=[]
 ·exact concat_meets ⟨_,ho,rfl⟩ ⟨_,ho2,rfl⟩ noFill_tuple_add seq_tuple_add PySem.F.slot_tuple_add PySem.F.entry_tuple_add (PySem.F.args_tuple_add_2 _ _)
   (tuple_addW1 t b vs.toArray ws.toArray n n2 dd dd2 sl sl2 (by simpa using hv) (by simp [hw])) ⟨ho,ho2,h1 hw⟩
 ·refine concat_meets ⟨_,ho,rfl⟩ ⟨_,ho2,rfl⟩ noFill_tuple_add seq_tuple_add PySem.F.slot_tuple_add PySem.F.entry_tuple_add (PySem.F.args_tuple_add_2 _ _)
   (tuple_addW2 t b vs.toArray ws.toArray n n2 dd dd2 sl sl2 (by simpa using hv) (by simpa using hw) (by rw [n_,n_];exact hsz)) ⟨ho,ho2,?_⟩
  rw [e]
  exact h2 hw
def sIx (n d:Nat):Option Int->Nat
 | none=>d
 | some v=>if v < 0 then (v + (n:Int)).toNat else min v.toNat n
theorem je (n d:Nat):sIx n d none=d:=rfl
theorem l4 (n d k:Nat):sIx n d (some (k:Int))=min k n:=by
 show (if (k:Int) < 0 then ((k:Int) + (n:Int)).toNat else min (k:Int).toNat n)=min k n
 rw [if_neg (by lia),JX]
theorem FE (n d:Nat)(hd:d<=n)(o:Option Int):sIx n d o<=n:=by
 cases o with
 | none=>exact hd
 | some v=>
  show (if v < 0 then (v + (n:Int)).toNat else min v.toNat n)<=n
  by_cases hv:v < 0
  ·rw [if_pos hv];lia
  ·rw [if_neg hv];exact Nat.min_le_right _ _
theorem uR (v:Int)(n d:Nat):(if v < 0 then max (v + (n:Int)) 0 else min v (n:Int))=((sIx n d (some v):Nat):Int):=by
 show (if v < 0 then max (v + (n:Int)) 0 else min v (n:Int))=(((if v < 0 then (v + (n:Int)).toNat else min v.toNat n):Nat):Int)
 by_cases hv:v < 0
 ·simp only [if_pos hv];lia
 ·simp only [if_neg hv];lia
theorem tq (lo hi:Option Int)(n:Nat):Builtin.Slice.sliceAdjust lo hi 1 (n:Int)=(((sIx n 0 lo:Nat):Int),((sIx n n hi:Nat):Int)):=by
 have h1:¬ ((1:Int) < 0):=by lia
 unfold Builtin.Slice.sliceAdjust
 simp only [h1,if_false]
 refine G' ?_ ?_
 ·cases lo with
  | none=>rfl
  | some v=>exact uR v n 0
 ·cases hi with
  | none=>rfl
  | some v=>exact uR v n n
theorem tu (i j:Nat):Builtin.Slice.slicePlaces (i:Int) (j:Int) 1=j - i:=by
 unfold Builtin.Slice.slicePlaces
 have h1:(1:Int) > 0:=by lia
 simp only [h1,if_true,Ny]
 split <;> lia
theorem n9 {v:Value}{o:Option Int}{Q:Option Int->Shared->Prop}(p:IsPart v o)(h:Q o s):wpAny (model prog w) A (Builtin.Slice.slicePartIndex v) Q E s:=by
 cases p with
 | none=>exact slicePart_none h
 | int i t=>exact slicePart_int h
theorem kx {sl:Addr}{vl vu:Value}{lo hi:Option Int}{n:Nat}{Q:Int × Int × Nat->Shared->Prop}(hs:s.heap.IsSliceOf sl vl vu .none)(pl:IsPart vl lo)(pu:IsPart vu hi)
  (h:Q (((sIx n 0 lo:Nat):Int),1,sIx n n hi - sIx n 0 lo) s):wpAny (model prog w) A (Builtin.Slice.sliceApplied (.ref sl) (pure (n:Int))) Q E s:=by
 obtain⟨os,hos,hcs,hds⟩:=id hs
 unfold Builtin.Slice.sliceApplied Builtin.Slice.sliceFields
 refine wpAny_bind (wpAny_bind (wpAny_field hos hds (x:=vl) rfl (wpAny_bind (wpAny_field hos hds (x:=vu) rfl (wpAny_bind (wpAny_field hos hds (x:=.none) rfl (wpAny_pure ?_)))))))
 refine wpAny_bind (slicePart_none ?_)
 show wpAny _ _ (if ((1:Int) == 0)=true then _ else _) _ _ s
 rw [if_neg (by decide)]
 refine wpAny_bind (n9 pl (wpAny_bind (n9 pu (wpAny_bind (wpAny_pure ?_)))))
 show wpAny _ _ (match Builtin.Slice.sliceAdjust lo hi 1 (n:Int) with | (lo,hi)=>pure (lo,(1:Int),Builtin.Slice.slicePlaces lo hi 1)) _ _ s
 rw [tq lo hi n]
 show wpAny _ _ (pure (((sIx n 0 lo:Nat):Int),(1:Int),Builtin.Slice.slicePlaces ((sIx n 0 lo:Nat):Int) ((sIx n n hi:Nat):Int) 1)) _ _ s
 rw [tu]
 exact wpAny_pure h
theorem yC (xs:Array Value)(i k:Nat):((y_ k).filterMap fun (m:Nat)=>xs[((i:Int) + (m:Int) * 1).toNat]?).toArray=((xs.toList.drop i).take k).toArray:=by
 have e:(fun (m:Nat)=>xs[((i:Int) + (m:Int) * 1).toNat]?)=fun m=>xs[i + m]?:=by
  funext m
  have:((i:Int) + (m:Int) * 1).toNat=i + m:=by lia
  rw [this]
 rw [e]
 have:=pick_run xs i k
 rw [MZ] at this
 have e2:((fun x=>xs[x]?) ∘ fun x=>i + x)=fun m=>xs[i + m]?:=rfl
 rw [e2] at this
 rw [this]
theorem jq {t sl:Addr}{items:Array Value}{vl vu:Value}{lo hi:Option Int}{Q:Value->Shared->Prop}(ht:IsTup s.heap t items)(hs:s.heap.IsSliceOf sl vl vu .none)(pl:IsPart vl lo)(pu:IsPart vu hi)
  (hw:¬ (sIx items.size 0 lo=0/\sIx items.size items.size hi=items.size))
  (h:Q (.ref s.heap.objs.size) { s with heap:=s.heap.push { cls:=.type "tuple",data:=.seq ((items.toList.drop (sIx items.size 0 lo)).take (sIx items.size items.size hi - sIx items.size 0 lo)).toArray } })
  (hsz:items.size<=sizeLine):wpAny (model prog w) A (getItem (.ref t) (.ref sl)) Q E s:=by
 have htake:sizeOk (.seq ((items.toList.drop (sIx items.size 0 lo)).take (sIx items.size items.size hi - sIx items.size 0 lo)).toArray):=by
  show ((items.toList.drop (sIx items.size 0 lo)).take (sIx items.size items.size hi - sIx items.size 0 lo)).toArray.size<=sizeLine
  rw [n_,A',F',j_]
  omega
 have hj:sIx items.size items.size hi<=items.size:=FE _ _ (c_ _) hi
 obtain⟨os,hos,hcs,hds⟩:=id hs
 have hTs:s.TypeIs (.ref sl) "slice":=⟨os,hos,hcs⟩
 unfold getItem
 try with_reducible refine wpAny_holding ?_
 first | refine wpAny_bind (wpAny_pure ?_) | skip
 refine wpAny_bind (wpAny_sequenceKey ht.typeIs (by decide) ?_)
 refine wpAny_bind (wpAny_callSpecial?_slot (name:=Str.ofString "__getitem__") ht.typeIs PyProof.Rows.slot_tuple_getitem
  (wpAny_call_entry PyProof.Rows.slot_tuple_getitem ht.typeIs entry_tuple_getitem ?_ (args_tuple_getitem _ _)))
 show wpAny _ _ (Builtin.Tuple.tupleItemsOf (.ref t) >>= _) _ _ s
 refine wpAny_bind (tupleItemsOf_ ht ?_)
 refine wpAny_bind (wpAny_typeOf hTs ?_)
 rw [if_pos (by decide)]
 refine wpAny_bind (kx hs pl pu ?_)
 have hno:¬ ((((sIx items.size 0 lo:Nat):Int) == 0 && (1:Int) == 1 && (sIx items.size items.size hi - sIx items.size 0 lo) == items.size)=true):=by
  intro q
  rw [C_,C_] at q
  have q1:((sIx items.size 0 lo:Nat):Int)=0:=eq_of_beq q.1.1
  have q2:sIx items.size items.size hi - sIx items.size 0 lo=items.size:=eq_of_beq q.2
  exact hw ⟨by lia,by lia⟩
 show wpAny _ _ (if (((sIx items.size 0 lo:Nat):Int) == 0 && (1:Int) == 1 && (sIx items.size items.size hi - sIx items.size 0 lo) == items.size)=true then _ else _) _ _ s
 rw [if_neg hno,yC]
 first
  | exact wpAny_bind (m:=Builtin.Tuple.tupleExact _) (wpAny_newObj_type (wpAny_pure ⟨_,rfl,wpAny_pure h⟩) htake)
  | exact wpAny_bind (m:=Builtin.Tuple.tupleExact _) (wpAny_newObj_type (wpAny_bind (wpAny_pure (wpAny_pure ⟨_,rfl,wpAny_pure h⟩))) htake)
  | exact wpAny_bind (wpAny_bind (m:=Builtin.Tuple.tupleExact _) (wpAny_newObj_type (wpAny_pure (wpAny_pure ⟨_,rfl,wpAny_pure h⟩)) htake))
  | exact wpAny_bind (wpAny_bind (m:=Builtin.Tuple.tupleExact _) (wpAny_newObj_type (wpAny_pure ⟨_,rfl,wpAny_pure h⟩) htake))
end
end HT
namespace L2
open PySem PySem.Spec PyProof.Rows
abbrev TO:=St->Hp->(Option Int->Hp->Prop)->Prop
def PO (X:Cx)(e:Option Expr)(t:TO):Prop:=
 ∀ (pins:List (Addr × Obj)) (s:Shared) (σ:St) (H:Hp) (Q:Option Int->Hp->Prop),Inv X pins σ H s->t σ H Q->
  wpAny (model X.prog X.w) X.A (evalPart e X.env) (fun u s'=>∃ o H',Inv X pins σ H' s'/\IsPart u o/\Q o H') X.xe s
def C9:TO:=fun _ H Q=>Q none H
def Ha (t:TE):TO:=fun σ H Q=>t σ H fun x H1=>∃ i,x=.int i/\Q (some i) H1
theorem intsAre_of {ns:List Int}:∀ {us:List Value},Vals (ns.map V.int) us->IntsAre us ns:=by
 induction ns with
 | nil=>intro us r;rw [Kc] at r;cases r;exact .nil
 | cons n ns ih=>
  intro us r
  rw [f'] at r
  cases r with
  | cons r1 r2=>
   obtain⟨t,e⟩:=r1
   subst e
   exact .cons n t (ih r2)
section
variable {X:Cx}{e:Expr}{te:TE}{lo hi:Option Expr}{tl th:TO}{pos p2:Pos}
theorem uC:PO X none C9:=by
 intro pins s σ H Q I h
 rw [evalPart_none]
 exact wpAny_pure ⟨none,H,I,.none,h⟩
theorem uU (h:PE X e te):PO X (some e) (Ha te):=by
 intro pins s σ H Q I hw
 rw [evalPart_some]
 refine thn (h pins s σ H _ I hw) ?_
 rintro u s1 ⟨x,H1,I1,r1,q1⟩
 obtain⟨i,rfl,q⟩:=q1
 obtain⟨t,rfl⟩:=r1
 exact⟨some i,H1,I1,.int i t,q⟩
def SlR (X:Cx)(r:V->Option Int->Option Int->Hp->VK->Prop):Prop:=
 ∀ (pins:List (Addr × Obj)) (s:Shared) (σ:St) (H:Hp) (x:V) (v vl vu:Value) (lo hi:Option Int) (sl:Addr) (Q:VK),Inv X pins σ H s->RelV x v->s.heap.IsSliceOf sl vl vu .none->IsPart vl lo->IsPart vu hi->r x lo hi H Q->
  ∃ T id,typeLookup (.type T) "__getitem__"=pure (some (.builtin id))/\s.TypeIs v T/\wpAny (model X.prog X.w) X.A (getItem v (.ref sl)) (EP X pins σ Q) X.xe s
def tSl (r:V->Option Int->Option Int->Hp->VK->Prop)(te:TE)(tl th:TO):TE:=fun σ H Q=>te σ H fun x H1=>tl σ H1 fun l H2=>th σ H2 fun u H3=>r x l u H3 Q
theorem qM {r:V->Option Int->Option Int->Hp->VK->Prop}(hr:SlR X r)(he:PE X e te)(hl:PO X lo tl)(hu:PO X hi th):PE X (.Subscript e (.Slice lo hi none p2) pos) (tSl r te tl th):=by
 intro pins s σ H Q I h
 refine Subscript_ (thn (he pins s σ H _ I h) ?_)
 rintro v s1 ⟨x,H1,I1,r1,q1⟩
 refine wpAny_Slice (thn (hl pins s1 σ H1 _ I1 q1) fun vl s2 ⟨l,H2,I2,pl,q2⟩=>thn (hu pins s2 σ H2 _ I2 q2) ?_)
 rintro vu s3 ⟨u,H3,I3,pu,q3⟩
 rw [evalPart_none]
 refine wpAny_pure ?_
 have I4:Inv X pins σ H3 { s3 with heap:=s3.heap.push { cls:=.type "slice",data:=.fields #[vl,vu,.none] } }:=I3.kept (t':=s3.toks) fun b ob q=>Heap.get?_push_of_some _ q
 obtain⟨T,id,hT,ht,hg⟩:=hr pins { s3 with heap:=s3.heap.push { cls:=.type "slice",data:=.fields #[vl,vu,.none] } } σ H3 x v vl vu l u s3.heap.objs.size Q I4 r1 (Heap.IsSliceOf.new ..) pl pu q3
 show wpAny (model X.prog X.w) X.A (subscriptTail e (.Slice lo hi none p2) v (.ref s3.heap.objs.size)) (EP X pins σ Q) X.xe { s3 with heap:=s3.heap.push { cls:=.type "slice",data:=.fields #[vl,vu,.none] } }
 exact tail_any (ops:=[.ref s3.heap.objs.size,v]) ht hT hg (by with_unfolding_all rfl)
def gM (xs:List V)(lo hi:Option Int):List V:=(xs.drop (HT.sIx xs.length 0 lo)).take (HT.sIx xs.length xs.length hi - HT.sIx xs.length 0 lo)
theorem kN (xs:List V)(lo hi:Option Int):(gM xs lo hi).length<=xs.length:=by
 unfold gM
 rw [A',F']
 lia
def Jp (K:PySem.W.Frag):V->Option Int->Option Int->Hp->VK->Prop:=fun x lo hi H Q=>∃ a xs,x=.ref a/\SqT K H a xs/\
 ¬ (HT.sIx xs.length 0 lo=0/\HT.sIx xs.length xs.length hi=xs.length)/\∀ p,H p=none->Q (.ref p) (upd H p (.tup (gM xs lo hi)))
theorem Et:SlR X (Jp X.K):=by
 intro pins s σ H x v vl vu lo hi sl Q I rx hs pl pu h
 obtain⟨a,xs,rfl,hx,hw,q⟩:=h
 cases rx
 obtain⟨its,r,ht,hz⟩:=I.tuple hx
 have hlen:its.toArray.size=xs.length:=by rw [n_];exact r.length.symm
 refine⟨"tuple",_,PyProof.Rows.slot_tuple_getitem.lookup,ht.typeIs,?_⟩
 refine HT.jq ht hs pl pu (by rw [hlen];exact hw) ?_ (by rw [hlen];exact hz)
 rw [hlen]
 refine⟨.ref s.heap.objs.size,_,I.laid (t':=s.toks) (o:=.tup (gM xs lo hi)) (fun b ob q=>Heap.get?_push_of_some _ q) (c_ _) ?_,rfl,q _ (I.hok.fresh (c_ _))⟩
 exact⟨r_ (kN xs lo hi) hz,_,(r.drop (HT.sIx xs.length 0 lo)).take (HT.sIx xs.length xs.length hi - HT.sIx xs.length 0 lo),IsTup.new _ _⟩
def Hu (K:PySem.W.Frag):R2:=fun x y H Q=>∃ a b xs ys,x=.ref a/\y=.ref b/\SqT K H a xs/\SqT K H b ys/\xs≠[]/\xs.length + ys.length<=sizeLine/\
 (ys=[]->Q (.ref a) H)/\(ys≠[]->∀ p,H p=none->Q (.ref p) (upd H p (.tup (xs++ys))))
theorem Vals.oV {xs:List V}{us:List Value}(r:Vals xs us):us=[]↔xs=[]:=by
 cases r with
 | nil=>simp
 | cons _ _=>simp
theorem CD:OpR X (binaryOp .Add) (Hu X.K):=by
 intro pins s σ H x y v u Q I rx ry h
 obtain⟨a,b,xs,ys,rfl,rfl,ha,hb,hx,hz,q1,q2⟩:=h
 cases rx
 cases ry
 obtain⟨its,r1,p1,_⟩:=I.tuple ha
 obtain⟨its2,r2,p2,_⟩:=I.tuple hb
 refine HT.Cm p1 p2 (fun z=>hx (r1.oV.mp z)) (fun z=>⟨.ref a,H,I,rfl,q1 (r2.oV.mp z)⟩) (fun z=>?_) (by rw [<-r1.length,<-r2.length];exact hz)
 refine⟨.ref s.heap.objs.size,_,I.laid (t':=s.toks) (o:=.tup (xs++ys)) (fun b ob q=>Heap.get?_push_of_some _ q) (c_ _) ?_,rfl,q2 (fun w=>z (r2.oV.mpr w)) _ (I.hok.fresh (c_ _))⟩
 exact⟨by rw [g_];exact hz,_,r1.append r2,IsTup.new _ _⟩
theorem kP:bE X (.type "tuple") (fun xs H Q=>∃ a ys,xs=[.ref a]/\SqT X.K H a ys/\Q (.ref a) H):=by
 intro pins s σ H xs us Q I r h
 obtain⟨a,ys,rfl,ha,q⟩:=h
 obtain⟨u,rfl,ru⟩:=vals1 r
 cases ru
 obtain⟨its,_,p1,_⟩:=I.tuple ha
 exact call_tuple_same (items:=its.toArray) p1 ⟨.ref a,H,I,rfl,q⟩
end
end L2
namespace L2
open PySem PySem.Spec PyProof.Rows
def ixN (n:Nat)(i:Int):Option Nat:=if 0<=i then (if i < n then some i.toNat else none) else if -(n:Int)<=i then some (i + n).toNat else none
def atI {α:Type}(xs:List α)(i:Int):Option α:=(ixN xs.length i).bind fun j=>xs[j]?
theorem pY {n:Nat}{i:Int}{j:Nat}(h:ixN n i=some j):seqIndex? i n=some j/\j < n/\-(n:Int)<=i/\i < n:=by
 unfold ixN at h
 by_cases h0:0<=i
 ·rw [if_pos h0] at h
  by_cases h1:i < n
  ·rw [if_pos h1] at h
   have e:i.toNat=j:=x_ h
   exact⟨by rw [seqIndex_of h0 h1,e],by lia,by lia,h1⟩
  ·rw [if_neg h1] at h;cases h
 ·rw [if_neg h0] at h
  by_cases h1:-(n:Int)<=i
  ·rw [if_pos h1] at h
   have e:(i + n).toNat=j:=x_ h
   exact⟨by rw [seqIndex_neg (by lia) h1,e],by lia,h1,by lia⟩
  ·rw [if_neg h1] at h;cases h
theorem oM {α:Type}{xs:List α}{i:Int}{v:α}(h:atI xs i=some v):∃ j,seqIndex? i xs.length=some j/\xs[j]?=some v/\j < xs.length/\-(xs.length:Int)<=i/\i < xs.length:=by
 unfold atI at h
 cases e:ixN xs.length i with
 | none=>rw [e] at h;cases h
 | some j=>
  rw [e] at h
  obtain⟨h1,h2,h3,h4⟩:=pY e
  exact⟨j,h1,h,h2,h3,h4⟩
theorem lh {α:Type}{xs:List α}{j:Nat}{v:α}(h:xs[j]?=some v):atI xs (j:Int)=some v:=by
 have hj:j < xs.length:=(e_.mp h).1
 have e:ixN xs.length (j:Int)=some j:=by
  unfold ixN
  rw [if_pos (by lia),if_pos (by lia)];simp
 unfold atI;rw [e];exact h
theorem n6 {α:Type}(xs:List α)(v:α):atI (xs++[v]) (-1)=some v:=by
 have hl:(xs++[v]).length=xs.length + 1:=by simp
 have e:ixN (xs++[v]).length (-1)=some xs.length:=by
  unfold ixN
  rw [hl,if_neg (by decide),if_pos (by lia)]
  congr 1
  lia
 unfold atI
 rw [e]
 show (xs++[v])[xs.length]?=some v
 simp
def oH (b:Expr):Prop:=∀ o i,subscripted b false o i=operate [o,i] (getItem o i)
def IxR (X:Cx)(r:R2):Prop:=
 ∀ (value slice:Expr) (pins:List (Addr × Obj)) (s:Shared) (σ:St) (H:Hp) (x y:V) (v u:Value) (Q:VK),Inv X pins σ H s->RelV x v->RelV y u->r x y H Q->
  subscripted slice false v u=operate [v,u] (getItem v u)->wpAny (model X.prog X.w) X.A (subscriptTail value slice v u) (EP X pins σ Q) X.xe s
def MtR (X:Cx)(id:String)(r:V->List V->Hp->VK->Prop):Prop:=
 ∀ (pins:List (Addr × Obj)) (s:Shared) (σ:St) (H:Hp) (x:V) (xs:List V) (v:Value) (us:List Value) (Q:VK),Inv X pins σ H s->RelV x v->Vals xs us->r x xs H Q->
  wpAny (model X.prog X.w) X.A (call (.builtin id) (v::us)) (EP X pins σ Q) X.xe s
section
variable {X:Cx}{a b:Expr}{ta tb:TE}{pos:Pos}
theorem IxR.or {r r':R2}(h:IxR X r)(h':IxR X r'):IxR X (fun x y H Q=>r x y H Q\/r' x y H Q):=by
 intro value slice pins s σ H x y v u Q I rx ry q hs
 rcases q with q | q
 ·exact h value slice pins s σ H x y v u Q I rx ry q hs
 ·exact h' value slice pins s σ H x y v u Q I rx ry q hs
theorem AN {r:R2}(hr:IxR X r)(ha:PE X a ta)(hb:PE X b tb)(hs:oH b):PE X (.Subscript a b pos) (tOp r ta tb):=by
 intro pins s σ H Q I h
 exact Subscript_ (Gb ha hb I h fun v u s2 x y H2 I2 rx ry q=>hr a b pins s2 σ H2 x y v u Q I2 rx ry q (hs _ _))
def EB (K:PySem.W.Frag):R2:=fun x y H Q=>∃ p xs i v,x=.ref p/\y=.int i/\SqL K H p xs/\atI xs i=some v/\Q v H
def Iu (K:PySem.W.Frag):R2:=fun x y H Q=>∃ p xs i v,x=.ref p/\y=.int i/\SqT K H p xs/\atI xs i=some v/\Q v H
def HK:R2:=fun x y H Q=>∃ z i c,x=.str z/\y=.int i/\z.length<=sizeLine/\atI z.cps.toList i=some c/\Q (.str ⟨#[c]⟩) H
theorem qd:IxR X (EB X.K):=by
 intro value slice pins s σ H x y v u Q I rx ry h hs
 obtain⟨p,xs,i,z,rfl,rfl,hq,he,q⟩:=h
 cases rx
 obtain⟨t,rfl⟩:=ry
 obtain⟨its,r,pl,hz⟩:=I.list hq
 obtain⟨j,h1,h2,h3,h4,h5⟩:=oM he
 obtain⟨w,ew,rw'⟩:=r.get h2
 have hl:=r.length
 have hn:=iH
 have fin:EP X pins σ Q w s:=⟨z,H,I,rw',q⟩
 by_cases h0:0<=i
 ·have hj:i.toNat=j:=by
   rw [seqIndex_of h0 h5] at h1
   exact x_ h1
  exact item_listR pl.isList h0 (by lia) (by rw [hj];simpa using ew) fin hs
 ·have hj:(i + (its.toArray.size:Int)).toNat=j:=by
   rw [seqIndex_neg (by lia) h4] at h1
   rw [n_,<-hl]
   exact x_ h1
  exact subscriptTail_builtinR (x:=w) pl.isList.typeIs slot_list_getitem.lookup
   (wpAny_getItem_list_neg (Q:=fun r s'=>r=w/\EP X pins σ Q r s') pl.isList (by lia) (by rw [n_] <;> lia) (by lia) (by rw [hj];simpa using ew) ⟨rfl,fin⟩) hs
theorem EU:IxR X (Iu X.K):=by
 intro value slice pins s σ H x y v u Q I rx ry h hs
 obtain⟨p,xs,i,z,rfl,rfl,hq,he,q⟩:=h
 cases rx
 obtain⟨t,rfl⟩:=ry
 obtain⟨its,r,pl,hz⟩:=I.tuple hq
 obtain⟨j,h1,h2,h3,h4,h5⟩:=oM he
 obtain⟨w,ew,rw'⟩:=r.get h2
 have hl:=r.length
 have hn:=iH
 have fin:EP X pins σ Q w s:=⟨z,H,I,rw',q⟩
 exact subscriptTail_builtinR (x:=w) pl.typeIs slot_tuple_getitem.lookup
  (getItem_tuple (j:=j) (Q:=fun r s'=>r=w/\EP X pins σ Q r s') pl (by lia) (by lia) (by rw [n_,<-hl];exact h1) (by simpa using ew) ⟨rfl,fin⟩) hs
theorem AD:IxR X HK:=by
 intro value slice pins s σ H x y v u Q I rx ry h hs
 obtain⟨z,i,c,rfl,rfl,hz,he,q⟩:=h
 obtain⟨t,rfl⟩:=rx
 obtain⟨t',rfl⟩:=ry
 obtain⟨j,h1,h2,h3,h4,h5⟩:=oM he
 have hl:z.cps.toList.length=z.length:=by simp [Str.length]
 rw [hl] at h1 h4 h5
 have hn:=iH
 exact tail_any (typeIs_str s z t) slot_str_getitem.lookup (getItem_str (c:=c) (by
  have e1:decide (i < -(2 ^ 63:Int))=false:=decide_eq_false (by lia)
  have e2:decide (i>=2 ^ 63)=false:=decide_eq_false (by lia)
  rw [e1,e2,Nt]) (by rw [h1];simpa using h2) ⟨.str ⟨#[c]⟩,H,I.tok _,⟨_,rfl⟩,q⟩) hs
def rIx (K:PySem.W.Frag):R2:=fun x y H Q=>EB K x y H Q\/Iu K x y H Q\/HK x y H Q
theorem Ec:IxR X (rIx X.K):=qd.or (EU.or AD)
theorem t5 (its:List Value)(n j:Nat)(u:Value):Obj.mapSeq (·.setIfInBounds j u) { cls:=.type "list",data:=.seq its.toArray n }={ cls:=.type "list",data:=.seq (its.set j u).toArray n }:=by
 simp [Obj.mapSeq]
theorem Inv.lst {pins:List (Addr × Obj)}{σ:St}{H:Hp}{s:Shared}{p:Addr}{xs:List V}(I:Inv X pins σ H s)(h:H p=some (.lst xs)) :
  ∃ (its:List Value) (n:Nat),Vals xs its/\s.heap.get? p=some { cls:=.type "list",data:=.seq its.toArray n }/\xs.length<=sizeLine:=by
 obtain⟨z,its,n,r,e⟩:=I.hok p _ h
 exact⟨its,n,r,e,z⟩
theorem Inv.Fh {pins:List (Addr × Obj)}{σ:St}{H:Hp}{s:Shared}{p:Addr}{xs ys:List V}{its its':List Value}{n n':Nat}{f:Obj->Obj}(I:Inv X pins σ H s)(h:H p=some (.lst xs))
  (ho:s.heap.get? p=some { cls:=.type "list",data:=.seq its.toArray n }) (hf:f { cls:=.type "list",data:=.seq its.toArray n }={ cls:=.type "list",data:=.seq its'.toArray n' }) (r:Vals ys its') (hz:ys.length<=sizeLine) (t:Nat) :
  Inv X pins σ (upd H p (.lst ys)) { s with heap:=s.heap.update p f,toks:=t }:=by
 have e:(s.heap.update p f).get? p=some { cls:=.type "list",data:=.seq its'.toArray n' }:=by
  rw [Heap.get?_update_self f ho (by rw [hf] <;> rfl),hf]
 refine I.write (x:=p) (e:=p) (by rw [h];trivial) (.inl rfl) (fun b u hb q=>(Heap.get?_update_other _ _ (Ne.symm hb)).trans q) ⟨_,e⟩ ?_
 exact⟨hz,its',n',r,e⟩
def HY:V->V->V->Hp->(Hp->Prop)->Prop:=fun o i v H Q=>∃ p xs k j,o=.ref p/\i=.int k/\H p=some (.lst xs)/\ixN xs.length k=some j/\Q (upd H p (.lst (xs.set j v)))
theorem set_list:sT X HY:=by
 intro pins s σ H o i v ov iv u Q I ro ri rv h
 obtain⟨p,xs,k,j,rfl,rfl,hp,hj,q⟩:=h
 cases ro
 obtain⟨t,rfl⟩:=ri
 obtain⟨its,n,r,ho,hz⟩:=I.lst hp
 obtain⟨h1,h2,h3,h4⟩:=pY hj
 have hl:=r.length
 have hn:=iH
 have I':Inv X pins σ (upd H p (.lst (xs.set j v))) { s with heap:=s.heap.update p (Obj.mapSeq (·.setIfInBounds j u)) }:=
  I.Fh hp ho (t5 its n j u) (r.set rv j) (by rw [I_];exact hz) s.toks
 by_cases h0:0<=k
 ·have hk:k.toNat=j:=by
   rw [seqIndex_of h0 h4] at h1
   exact x_ h1
  exact PySem.W.ki_setAt ho h0 (by lia) (by rw [n_,<-hl];exact h4) (by rw [hk];exact⟨_,I',q⟩)
 ·have hk:(k + (its.toArray.size:Int)).toNat=j:=by
   rw [seqIndex_neg (by lia) h3] at h1
   rw [n_,<-hl]
   exact x_ h1
  exact PySem.W.ki_setBack ho (by lia) (by rw [n_,<-hl];exact h3) (by lia) (by rw [hk];exact⟨_,I',q⟩)
theorem oU (lo hi:Option Int)(n:Nat):(sliceBounds lo hi none n).1=((HT.sIx n 0 lo:Nat):Int)/\(sliceBounds lo hi none n).2.1=((HT.sIx n n hi:Nat):Int)/\(sliceBounds lo hi none n).2.2=1:=by
 refine⟨?_,?_,rfl⟩
 ·cases lo with
  | none=>simp [sliceBounds,HT.sIx]
  | some i=>
   simp only [sliceBounds,HT.sIx,Na,show (1:Int) > 0 by decide,if_true]
   by_cases h:i < 0
   ·simp only [h,if_true] <;> lia
   ·simp only [h,if_false] <;> lia
 ·cases hi with
  | none=>simp [sliceBounds,HT.sIx]
  | some i=>
   simp only [sliceBounds,HT.sIx,Na,show (1:Int) > 0 by decide,if_true]
   by_cases h:i < 0
   ·simp only [h,if_true] <;> lia
   ·simp only [h,if_false] <;> lia
theorem nu (its:List Value)(lo hi:Option Int):slicePick its.toArray lo hi none=((its.drop (HT.sIx its.length 0 lo)).take (HT.sIx its.length its.length hi - HT.sIx its.length 0 lo)).toArray:=by
 obtain⟨h1,h2,h3⟩:=oU lo hi its.toArray.size
 unfold slicePick
 rw [h1,h2,h3]
 simp only [sliceRange_one,pick_run,n_] <;> rfl
def Jf (K:PySem.W.Frag):V->Option Int->Option Int->Hp->VK->Prop:=fun x lo hi H Q=>∃ a xs,x=.ref a/\SqL K H a xs/\∀ p,H p=none->Q (.ref p) (upd H p (.lst (gM xs lo hi)))
theorem vq:SlR X (Jf X.K):=by
 intro pins s σ H x v vl vu lo hi sl Q I rx hs pl pu h
 obtain⟨a,xs,rfl,hx,q⟩:=h
 cases rx
 obtain⟨its,r,ht,hz⟩:=I.list hx
 have hlen:=r.length
 refine⟨"list",_,slot_list_getitem.lookup,ht.isList.typeIs,?_⟩
 refine wpAny_getItem_list_slice ht.isList hs pl pu .none (by simp) ?_ (by rw [n_] <;> lia)
 rw [nu,<-hlen]
 refine⟨.ref s.heap.objs.size,_,I.laid (t':=s.toks) (o:=.lst (gM xs lo hi)) (fun b ob q=>Heap.get?_push_of_some _ q) (c_ _) ?_,rfl,q _ (I.hok.fresh (c_ _))⟩
 exact⟨r_ (kN xs lo hi) hz,_,0,(r.drop (HT.sIx xs.length 0 lo)).take (HT.sIx xs.length xs.length hi - HT.sIx xs.length 0 lo),Heap.get?_push_size _ rfl⟩
theorem pz:OpR X (compareOp .NotIn) (fun x y H Q=>∃ i j,x=.str i/\y=.str j/\Q (.bl (!(!(Builtin.Str.occurrences j i 0 j.length 1).isEmpty))) H):=by
 intro pins s σ H x y v u Q I rx ry h
 obtain⟨i,j,rfl,rfl,q⟩:=h
 obtain⟨t,rfl⟩:=rx
 obtain⟨t',rfl⟩:=ry
 exact notIn_str ⟨.bl _,H,I,rfl,q⟩
theorem e7:bE X (.builtin "len") (fun xs H Q=>∃ p ys,xs=[.ref p]/\(SqL X.K H p ys\/SqT X.K H p ys)/\Q (.int ys.length) H):=by
 intro pins s σ H xs us Q I r h
 obtain⟨p,ys,rfl,hq,q⟩:=h
 obtain⟨u,rfl,rx⟩:=vals1 r
 cases rx
 have hn:=iH
 rcases hq with hq | hq
 ·obtain⟨its,r',pl,hz⟩:=I.list hq
  have hlen:=r'.length
  exact Calls.call_len_list pl.isList (by simp only [n_] <;> lia) ⟨.int ys.length,H,I.tok _,⟨s.toks + 1,by rw [n_,hlen]⟩,q⟩
 ·obtain⟨its,r',pl,hz⟩:=I.tuple hq
  have hlen:=r'.length
  exact len_tuple pl (by simp only [n_] <;> lia) ⟨.int ys.length,H,I.tok _,⟨s.toks + 1,by rw [n_,hlen]⟩,q⟩
theorem oE:bE X (.builtin "len") (fun xs H Q=>∃ z,xs=[.str z]/\z.length<=sizeLine/\Q (.int z.length) H):=by
 intro pins s σ H xs us Q I r h
 obtain⟨z,rfl,hz,q⟩:=h
 obtain⟨u,rfl,t,rfl⟩:=vals1 r
 have hn:=iH
 exact len_str (by lia) ⟨.int z.length,H,I.tok _,⟨_,rfl⟩,q⟩
theorem oN:bE X (.type "list") (fun xs H Q=>∃ p ys,xs=[.ref p]/\(SqL X.K H p ys\/SqT X.K H p ys)/\∀ l,H l=none->Q (.ref l) (upd H l (.lst ys))):=by
 intro pins s σ H xs us Q I r h
 obtain⟨p,ys,rfl,hq,q⟩:=h
 obtain⟨u,rfl,rx⟩:=vals1 r
 cases rx
 have fin:∀ (its:List Value),Vals ys its->ys.length<=sizeLine->∀ (h':Heap) (c':Nat),(∀ b o',s.heap.get? b=some o'->h'.get? b=some o')->
   h'.get? s.heap.objs.size=some { cls:=.type "list",dict:=none,data:=.seq its.toArray c',slots:=#[] }->EP X pins σ Q (.ref s.heap.objs.size) { s with heap:=h' }:=fun its r' hz h' c' kp e=>
  ⟨.ref s.heap.objs.size,_,I.laid (t':=s.toks) kp (c_ _) (show bu X.prog X.w _ h' _ (.lst ys) from ⟨hz,its,c',r',e⟩),rfl,q _ (I.hok.fresh (c_ _))⟩
 rcases hq with hq | hq
 ·obtain⟨its,r',pl,hz⟩:=I.list hq
  have hlen:=r'.length
  obtain⟨o,ho,hc,n,hd⟩:=pl.isList
  exact call_list_seq p (.inl rfl) ho hc hd (fun h' c' kp e=>fin its r' hz h' c' kp e) (by simp only [n_] <;> lia)
 ·obtain⟨its,r',pl,hz⟩:=I.tuple hq
  have hlen:=r'.length
  obtain⟨o,ho,hc,n,hd⟩:=pl
  exact call_list_seq p (.inr rfl) ho hc hd (fun h' c' kp e=>fin its r' hz h' c' kp e) (by simp only [n_] <;> lia)
theorem nA:bE X (.type "tuple") (fun xs H Q=>∃ p ys,xs=[.ref p]/\((SqL X.K H p ys/\∀ l,H l=none->Q (.ref l) (upd H l (.tup ys)))\/(SqT X.K H p ys/\Q (.ref p) H))):=by
 intro pins s σ H xs us Q I r h
 obtain⟨p,ys,rfl,h⟩:=h
 obtain⟨u,rfl,rx⟩:=vals1 r
 cases rx
 rcases h with⟨hq,q⟩ | ⟨hq,q⟩
 ·obtain⟨its,r',pl,hz⟩:=I.list hq
  have hlen:=r'.length
  refine call_tuple_list pl.isList (fun h' kp=>?_) (by simp only [n_] <;> lia)
  have I1:Inv X pins σ H { s with heap:=h' }:=I.kept (t':=s.toks) kp
  have I2:Inv X pins σ (upd H h'.objs.size (.tup ys)) { s with heap:=h'.push { cls:=.type "tuple",data:=.seq its.toArray } }:=
   I1.laid (t':=s.toks) (fun b o e=>Heap.get?_push_of_some _ e) (c_ _) (show bu X.prog X.w _ _ _ (.tup ys) from ⟨hz,its,r',IsTup.new _ _⟩)
  exact⟨.ref h'.objs.size,_,I2,rfl,q _ (I1.hok.fresh (c_ _))⟩
 ·obtain⟨its,r',pl,hz⟩:=I.tuple hq
  exact call_tuple_same pl ⟨.ref p,H,I,rfl,q⟩
def tyV (K:PySem.W.Frag)(T:String)(x:V)(H:Hp):Prop:=match x with
 | .str _=>T="str"
 | .int _=>T="int"
 | .ref p=>(T="list"/\∃ xs,SqL K H p xs)\/(T="tuple"/\∃ o,K.lookup p=some o/\o.cls=.type "tuple"/\o.dict=none)\/
   (T="dict"/\((∃ kvs,H p=some (.dK kvs))\/∃ kvs,H p=some (.dT kvs)))\/(T="set"/\∃ S n,H p=some (.set S n))
 | _=>False
theorem E9 {pins:List (Addr × Obj)}{σ:St}{H:Hp}{s:Shared}{T:String}{x:V}{v:Value}(I:Inv X pins σ H s)(r:RelV x v)(ty:tyV X.K T x H) :
  s.TypeIs v T/\∀ a,v=.ref a->∃ ob,s.heap.get? a=some ob/\ob.dict=none:=by
 cases x with
 | str z=>
  obtain⟨t,rfl⟩:=r
  cases (show T="str" from ty)
  exact⟨typeIs_str s z t,fun _ e=>nomatch e⟩
 | int i=>
  obtain⟨t,rfl⟩:=r
  cases (show T="int" from ty)
  exact⟨typeIs_int s i t,fun _ e=>nomatch e⟩
 | ref p=>
  cases r
  rcases ty with⟨rfl,xs,hq⟩ | ⟨rfl,o,hk,hc,hd⟩ | ⟨rfl,hk⟩ | ⟨rfl,S,n,hk⟩
  ·obtain⟨its,_,pl,_⟩:=I.list hq
   refine⟨pl.isList.typeIs,fun a e=>?_⟩
   cases e
   obtain⟨o,n,e,c,hd,_⟩:=pl
   exact⟨o,e,hd⟩
  ·refine⟨⟨o,I.kIn p o hk,hc⟩,fun a e=>?_⟩
   cases e
   exact⟨o,I.kIn _ o hk,hd⟩
  ·have z:∃ o,s.heap.get? p=some o/\o.ExactDict:=by
    rcases hk with⟨kvs,hk⟩ | ⟨kvs,hk⟩
    ·obtain⟨_,_,_,_,o,_,_,e,ex,_⟩:=I.hok p _ hk
     exact⟨o,e,ex⟩
    ·obtain⟨_,_,_,_,o,_,_,e,ex,_⟩:=I.hok p _ hk
     exact⟨o,e,ex⟩
   obtain⟨o,e,ex⟩:=z
   refine⟨⟨o,e,ex.1⟩,fun a e2=>?_⟩
   cases e2
   exact⟨o,e,ex.2.1⟩
  ·obtain⟨o,_,_,_,e,ex,_⟩:=I.hok p _ hk
   refine⟨⟨o,e,ex.1⟩,fun a e2=>?_⟩
   cases e2
   exact⟨o,e,ex.2.1⟩
 | _=>exact False.elim ty
def tBM (K:PySem.W.Frag)(T:String)(r:V->List V->Hp->VK->Prop)(to:TE)(t:TA):TE:=fun σ H Q=>to σ H fun x H1=>tyV K T x H1/\t σ H1 fun xs H2=>r x xs H2 Q
variable {o e:Expr}{es:List Expr}{to:TE}{t:TA}{name:Str}{apos cpos:Pos}{T id:String}{r:V->List V->Hp->VK->Prop}
theorem zE (pa:PlainAttrs T)(slot:Slot T name id)(hty:typeOf (.builtin id)=pure (.type "method_descriptor"))(hm:MtR X id r)(ho:PE X o to)(ha:PA X (e::es) t)
  (hbase:attributeBase o name X.env (eval o X.env)=eval o X.env:=by rfl)
  (hfew:((backTo cpos (starEach (e::es) X.env)).all (fun x=>!x.1) && (backToKw cpos (keywordEach [] X.env)).all (fun x=>x.1.isSome)
   && decide ((e::es).length + ([]:List Keyword).length + (if ([]:List Keyword).isEmpty then 0 else 1) < 30))=true:=by rfl)
  (hline:(apos.endLine == cpos.line)=true:=by rfl) (hs:starEach (e::es) X.env=(false,eval e X.env)::starEach es X.env:=by rfl) (hplain:(backTo cpos (starEach es X.env)).any (·.1)=false:=by rfl) :
  PE X (.Call (.Attribute o name apos) (e::es) [] cpos) (tBM X.K T r to t):=by
 intro pins s σ H Q I h
 refine wpAny_Call_method_late hbase hfew hline rfl (thn (ho pins s σ H _ I h) ?_)
 rintro v s1 ⟨x,H1,I1,r1,ty,q1⟩
 obtain⟨h1,h2⟩:=E9 I1 r1 ty
 refine⟨T,id,pa,slot,hty,h1,h2,?_⟩
 have hA:=ha cpos pins s1 σ H1 _ I1 q1
 rw [hs] at hA ⊢
 refine Calls.callWith_builtin (by show (false || (backTo cpos (starEach es X.env)).any (·.1))=false;rw [hplain] <;> rfl) (Calls.evalArgs_plain ?_)
 exact thn hA fun us s2 ⟨vs,H2,I2,r2,q2⟩=>hm pins s2 σ H2 x vs v us Q I2 r1 r2 q2
end
end L2
namespace L2
open PySem PySem.Spec PyProof.Rows
def MtM (X:Cx)(id:String)(r:V->List V->Hp->VK->Prop):Prop:=
 ∀ (pins:List (Addr × Obj)) (s:Shared) (σ:St) (H:Hp) (x:V) (xs:List V) (v:Value) (us:List Value) (Q:VK),Inv X pins σ H s->RelV x v->Vals xs us->r x xs H Q->
  wpAny (model X.prog X.w) X.A (call (.builtin id) (v::us)) (EP X pins σ Q) X.xe s
theorem Vals.one:∀ {x:V} {us:List Value},Vals [x] us->∃ u,us=[u]/\RelV x u
 | _,_,.cons r .nil=>⟨_,rfl,r⟩
theorem Vals.two:∀ {x y:V} {us:List Value},Vals [x,y] us->∃ u v,us=[u,v]/\RelV x u/\RelV y v
 | _,_,_,.cons r (.cons q .nil)=>⟨_,_,rfl,r,q⟩
section
variable {X:Cx}{pins:List (Addr × Obj)}{σ:St}{H:Hp}{s:Shared}{l b:Addr}{xs ys zs:List V}
theorem Inv.Jw {its its':List Value}{n:Nat}{f:Array Value->Array Value}{t':Nat}(I:Inv X pins σ H s)(hH:H l=some (.lst xs))
  (e:s.heap.get? l=some { cls:=.type "list",data:=.seq its.toArray n }) (hf:f its.toArray=its'.toArray) (hv:Vals ys its') (hz:ys.length<=sizeLine) :
  Inv X pins σ (upd H l (.lst ys)) { s with heap:=s.heap.update l (Obj.mapSeq f),toks:=t' }:=by
 have q:=PySem.IsL.update e f
 rw [hf] at q
 refine I.write (x:=l) (e:=l) (by rw [hH];exact trivial) (.inl rfl) (fun b' u hb hu=>(Heap.get?_update_other s.heap (Obj.mapSeq f) (Ne.symm hb)).trans hu) ⟨_,q⟩ ?_
 exact⟨hz,its',_,hv,q⟩
theorem Inv.Jc {its:List Value}{t':Nat}(I:Inv X pins σ H s)(hv:Vals ys its)(hz:ys.length<=sizeLine) :
  Inv X pins σ (upd H s.heap.objs.size (.lst ys)) { s with heap:=s.heap.push { cls:=.type "list",data:=.seq its.toArray },toks:=t' }:=
 I.laid (fun _ _ q=>Heap.get?_push_of_some _ q) (c_ _) ⟨hz,its,0,hv,Heap.get?_push_size _ rfl⟩
theorem Inv.fresh (I:Inv X pins σ H s):H s.heap.objs.size=none:=I.hok.fresh (c_ _)
theorem Inv.Gp (I:Inv X pins σ H s)(hH:H l=some (.lst xs)):xs.length<=sizeLine/\∃ (its:List Value) (n:Nat),Vals xs its/\xs.length=its.length/\s.heap.get? l=some { cls:=.type "list",data:=.seq its.toArray n }:=by
 obtain⟨z,its,n,r,e⟩:=I.hok l _ hH
 exact⟨z,its,n,r,r.length,e⟩
end
section
variable {X:Cx}
def C5:V->List V->Hp->VK->Prop:=fun x vs H Q=>∃ l xs y,x=.ref l/\vs=[y]/\H l=some (.lst xs)/\xs.length < sizeLine/\Q .non (upd H l (.lst (xs++[y])))
theorem jK:MtM X "list.append" C5:=by
 intro pins s σ H x vs v us Q I rx rv h
 obtain⟨l,xs,y,rfl,rfl,hH,hz,q⟩:=h
 cases rx
 obtain⟨u,rfl,ru⟩:=rv.one
 obtain⟨z,its,n,r,hl,e⟩:=I.Gp hH
 refine call_meets F.slot_list_append ⟨_,e,rfl⟩ F.entry_list_append (F.args_list_append_2 _ _) (PySem.list_append l its.toArray n u (by rw [n_];lia)) ⟨e,?_⟩
 refine⟨.non,_,I.Jw (its':=its++[u]) hH e (by simp) (r.append (.cons ru .nil)) ?_,rfl,q⟩
 rw [g_,KA]
 lia
end
end L2
namespace L2
open PySem PySem.Spec PyProof.Rows
section
variable {κ:Type}[DecidableEq κ]
def dP (kvs:List (κ × V))(k:κ):Option V:=(kvs.find? fun kv=>decide (kv.1=k)).map (·.2)
def putK (kvs:List (κ × V))(k:κ)(v:V):List (κ × V):=
 if (kvs.any fun kv=>decide (kv.1=k))=true then kvs.map (fun kv=>if kv.1=k then (kv.1,v) else kv) else kvs++[(k,v)]
theorem lQ {p:κ × V}{r:List (κ × V)}{k:κ}(e:p.1=k):dP (p::r) k=some p.2:=by simp [dP,JG,e]
theorem n5 {p:κ × V}{r:List (κ × V)}{k:κ}(e:¬ p.1=k):dP (p::r) k=dP r k:=by simp [dP,JG,e]
theorem jg (k:κ):∀ kvs:List (κ × V),(kvs.any fun kv=>decide (kv.1=k))=(dP kvs k).isSome
 | []=>rfl
 | p::r=>by
  rw [Ka]
  by_cases e:p.1=k
  ·simp only [lQ e,decide_eq_true e,Bool.true_or,M0]
  ·rw [n5 e,decide_eq_false e,Bool.false_or];exact jg k r
theorem eM (kvs:List (κ × V))(k:κ)(v:V):(putK kvs k v).length<=kvs.length + 1:=by
 unfold putK
 split
 ·rw [b_];lia
 ·rw [g_,h_,K0];lia
theorem rO {kvs:List (κ × V)}{k:κ}(v:V)(h:dP kvs k=none):putK kvs k v=kvs++[(k,v)]:=by
 unfold putK
 rw [jg,h]
 exact if_neg (by decide)
theorem kY.f9 {o:Option V}{u:Option Value}(r:kY o u):o.isSome=u.isSome:=by
 cases o with
 | none=>cases u with
  | none=>rfl
  | some _=>exact (show False from r).elim
 | some _=>cases u with
  | none=>exact (show False from r).elim
  | some _=>rfl
theorem kY.getD {o:Option V}{u:Option Value}{d:V}{d':Value}(r:kY o u)(rd:RelV d d'):RelV (o.getD d) (u.getD d'):=by
 cases o with
 | none=>cases u with
  | none=>exact rd
  | some _=>exact (show False from r).elim
 | some _=>cases u with
  | none=>exact (show False from r).elim
  | some _=>exact r
theorem KV.val {kvs:List (κ × V)}{vs:List (κ × Value)}(r:KV kvs vs)(k:κ):kY (dP kvs k) (valueAt vs k):=by
 unfold KV at r
 induction r with
 | nil=>exact True.intro
 | @cons p q ps qs h t ih=>
  obtain⟨h1,h2⟩:=h
  by_cases e:p.1=k
  ·have e':q.1=k:=h1.symm.trans e
   have b:valueAt (q::qs) k=some q.2:=by simp [valueAt,JG,e']
   rw [lQ e,b];exact h2
  ·have e':¬ q.1=k:=fun z=>e (h1.trans z)
   have b:valueAt (q::qs) k=valueAt qs k:=by simp [valueAt,JG,e']
   rw [n5 e,b];exact ih
theorem KV.any {kvs:List (κ × V)}{vs:List (κ × Value)}(r:KV kvs vs)(k:κ):(kvs.any fun kv=>decide (kv.1=k))=vs.any fun kv=>decide (kv.1=k):=by
 unfold KV at r
 induction r with
 | nil=>rfl
 | cons h t ih=>rw [Ka,Ka,ih,h.1]
theorem KV.FQ {kvs:List (κ × V)}{vs:List (κ × Value)}(r:KV kvs vs)(k:κ){y:V}{u:Value}(ry:RelV y u) :
  KV (kvs.map fun kv=>if kv.1=k then (kv.1,y) else kv) (vs.map fun kv=>if kv.1=k then (kv.1,u) else kv):=by
 unfold KV at r ⊢
 induction r with
 | nil=>exact .nil
 | @cons p q ps qs h t ih=>
  rw [f',f']
  refine .cons ?_ ih
  obtain⟨h1,h2⟩:=h
  by_cases e:p.1=k
  ·rw [if_pos e,if_pos (h1.symm.trans e)];exact⟨h1,ry⟩
  ·rw [if_neg e,if_neg (fun z=>e (h1.trans z))];exact⟨h1,h2⟩
theorem KV.put {kvs:List (κ × V)}{vs:List (κ × Value)}(r:KV kvs vs)(k:κ){y:V}{u:Value}(ry:RelV y u):KV (putK kvs k y) (stored vs k u):=by
 unfold putK stored
 rw [r.any k]
 by_cases e:(vs.any fun kv=>decide (kv.1=k))=true
 ·rw [if_pos e,if_pos e];exact r.FQ k ry
 ·rw [if_neg e,if_neg e];exact Paired.snoc r ⟨rfl,ry⟩
theorem KV.length {kvs:List (κ × V)}{vs:List (κ × Value)}(r:KV kvs vs):kvs.length=vs.length:=Paired.length r
end
theorem mG {P:Program}{w:World}{k:Key}{u:Value}(r:RelV (kV k) u):(bp P w).is k u=true:=by
 cases k with
 | inl i=>obtain⟨t,e⟩:=(show ∃ t,u=Value.int i t from r);subst e;exact qU P w i t
 | inr x=>obtain⟨t,e⟩:=(show ∃ t,u=Value.str x t from r);subst e;exact rg P w x t
theorem nH {P:Program}{w:World}:∀ {ks:List Key} {us:List Value},Vals (ks.map kV) us->ItemsAre (bp P w) ks us
 | [],_,r=>by rw [Kc] at r;cases r;exact .nil
 | k::ks,_,r=>by
  rw [f'] at r
  cases r with
  | cons h t=>exact .cons (mG h) (nH t)
abbrev KT (H:Hp):List (List Key × V)->List (List Key × Addr × Value)->Prop:=Paired fun p q=>p.1=q.1/\H q.2.1=some (.tup (p.1.map kV))/\RelV p.2 q.2.2
theorem KT.val {H:Hp}{kvs:List (List Key × V)}{xs:List (List Key × Addr × Value)}(r:KT H kvs xs)(k:List Key):kY (dP kvs k) ((atKey xs k).map (·.2)):=by
 induction r with
 | nil=>exact True.intro
 | @cons p q ps qs h t ih=>
  obtain⟨h1,_,h2⟩:=h
  by_cases e:p.1=k
  ·have e':q.1=k:=h1.symm.trans e
   have b:atKey (q::qs) k=some q.2:=by simp [atKey,JG,e']
   rw [lQ e,b];exact h2
  ·have e':¬ q.1=k:=fun z=>e (h1.trans z)
   have b:atKey (q::qs) k=atKey qs k:=by simp [atKey,JG,e']
   rw [n5 e,b];exact ih
theorem KT.FQ {H:Hp}{kvs:List (List Key × V)}{xs:List (List Key × Addr × Value)}(r:KT H kvs xs)(k:List Key){y:V}{u:Value}(ry:RelV y u) :
  KT H (kvs.map fun kv=>if kv.1=k then (kv.1,y) else kv) (xs.map (putAt k u)):=by
 induction r with
 | nil=>exact .nil
 | @cons p q ps qs h t ih=>
  rw [f',f']
  refine .cons ?_ ih
  obtain⟨h1,h2,h3⟩:=h
  unfold putAt
  by_cases e:p.1=k
  ·rw [if_pos e,if_pos (h1.symm.trans e)];exact⟨h1,h2,ry⟩
  ·rw [if_neg e,if_neg (fun z=>e (h1.trans z))];exact⟨h1,h2,h3⟩
theorem KT.put {H:Hp}{kvs:List (List Key × V)}{xs:List (List Key × Addr × Value)}(r:KT H kvs xs)(k:List Key){b:Addr}{y:V}{u:Value}(hb:H b=some (.tup (k.map kV)))(ry:RelV y u) :
  KT H (putK kvs k y) (storedH xs k b u):=by
 have e:(kvs.any fun kv=>decide (kv.1=k))=(atKey xs k).isSome:=by
  rw [jg,(r.val k).f9,Mh]
 unfold putK storedH
 rw [e]
 by_cases q:(atKey xs k).isSome=true
 ·rw [if_pos q,if_pos q];exact r.FQ k ry
 ·rw [if_neg q,if_neg q];exact Paired.snoc r ⟨rfl,hb,ry⟩
theorem KT.keeps {H H':Hp}{kvs:List (List Key × V)}{xs:List (List Key × Addr × Value)}(r:KT H kvs xs)(ht:∀ b ys,H b=some (.tup ys)->H' b=some (.tup ys)):KT H' kvs xs:=
 Paired.Fx r fun _ _ z=>⟨z.1,ht _ _ z.2.1,z.2.2⟩
section
variable {P:Program}{w:World}{H:Hp}{h:Heap}{a:Addr}
theorem Dg {u:HO}(ok:HOk P w H h)(e:Rd H a u):bu P w H h a u:=e.ok ok
theorem kL {kvs:List (Key × V)}(ok:HOk P w H h)(e:Rd H a (.dK kvs)):kvs.length<=sizeLine/\(a == sysModules)=false/\∃ vs,KV kvs vs/\h.DictOf (bp P w) a vs:=
 show bu P w H h a (.dK kvs) from Dg ok e
theorem Dd {kvs:List (Key × V)}(ok:HOk P w H h)(e:H a=some (.dK kvs)):kvs.length<=sizeLine/\(a == sysModules)=false/\∃ vs,KV kvs vs/\h.DictOf (bp P w) a vs:=kL ok (.inl e)
theorem iD {ks:List Key}(ok:HOk P w H h)(e:H a=some (.tup (ks.map kV))):(tupleKind (bp P w)).is h ks a:=by
 obtain⟨_,its,r,o,h1,h2,n,h3⟩:=(show bu P w H h a (.tup (ks.map kV)) from ok a _ e)
 exact⟨o,its.toArray,n,h1,h2,h3,by simpa using nH r⟩
theorem gp {kvs:List (List Key × V)}(ok:HOk P w H h)(e:Rd H a (.dT kvs)):kvs.length<=sizeLine/\(a == sysModules)=false/\
  ∃ xs,KT H kvs xs/\h.DictOfH (tupleKind (bp P w)) a xs:=by
 obtain⟨z,y,xs,r,o,es,ep,h1,h2,h3,h4,h5⟩:=(show bu P w H h a (.dT kvs) from Dg ok e)
 refine⟨z,y,xs,r,o,es,ep,h1,h2,h3,h4,fun x hx=>?_,h5⟩
 have all:∀ {l:List (List Key × V)} {m:List (List Key × Addr × Value)},KT H l m->∀ x∈m,(tupleKind (bp P w)).is h x.1 x.2.1:=by
  intro l m q
  induction q with
  | nil=>intro x hx;exact nomatch hx
  | @cons p q ps qs hq t ih=>
   intro x hx
   rcases m_.mp hx with e | hx
   ·subst e
    exact iD ok (by rw [<-hq.1];exact hq.2.1)
   ·exact ih x hx
 exact all r x hx
theorem IG {kvs:List (List Key × V)}(ok:HOk P w H h)(e:H a=some (.dT kvs)):kvs.length<=sizeLine/\(a == sysModules)=false/\
  ∃ xs,KT H kvs xs/\h.DictOfH (tupleKind (bp P w)) a xs:=gp ok (.inl e)
end
def gq (H:Hp)(a:Addr)(y:V)(r:Option V):Prop:=
 (∃ kvs k,Rd H a (.dK kvs)/\y=kV k/\r=dP kvs k)\/∃ kvs k b,Rd H a (.dT kvs)/\y=.ref b/\H b=some (.tup (k.map kV))/\r=dP kvs k
def wJ (H:Hp)(a:Addr)(y v:V)(H':Hp):Prop:=
 (∃ kvs k,H a=some (.dK kvs)/\y=kV k/\kvs.length < sizeLine/\H'=upd H a (.dK (putK kvs k v)))\/
 ∃ kvs k b,H a=some (.dT kvs)/\y=.ref b/\H b=some (.tup (k.map kV))/\kvs.length < sizeLine/\H'=upd H a (.dT (putK kvs k v))
theorem gq.k {H:Hp}{a:Addr}{kvs:List (Key × V)}{k:Key}(e:H a=some (.dK kvs)):gq H a (kV k) (dP kvs k):=.inl ⟨kvs,k,.inl e,rfl,rfl⟩
theorem wJ.k {H:Hp}{a:Addr}{kvs:List (Key × V)}{k:Key}{v:V}(e:H a=some (.dK kvs))(hl:kvs.length < sizeLine):wJ H a (kV k) v (upd H a (.dK (putK kvs k v))):=.inl ⟨kvs,k,e,rfl,hl,rfl⟩
section
variable {X:Cx}{pins:List (Addr × Obj)}{σ:St}{H:Hp}{s:Shared}{a:Addr}{y v:V}{u r:Value}{o:Option V}{A:Around}{E:Value->Shared->Prop}
theorem Inv.big (I:Inv X pins σ H s):sysModules < s.heap.objs.size:=by
 have h:mainGlobals < s.heap.objs.size:=(I.mod.glob.keeps I.bk).lt
 exact Mk (by decide) h
theorem nJ {Q:Value->Shared->Prop}(hu:A.units + 1 < cLine)(I:Inv X pins σ H s)(g:gq H a y (some v))(ry:RelV y u)(h:∀ w' s',Inv X pins σ H s'->RelV v w'->Q w' s') :
  wpAny (model X.prog X.w) A (getItem (.ref a) u) Q E s:=by
 rcases g with⟨kvs,k,e,ey,l⟩ | ⟨kvs,k,b,e,ey,eb,l⟩
 ·subst ey
  obtain⟨z,hd,vs,rel,dd⟩:=kL I.hok e
  obtain⟨w',hw,rw'⟩:=kY.some_of (v:=v) (o:=valueAt vs k) (by rw [l];exact rel.val k)
  exact wpAny_getItem_of (mG ry) dd.mapOf hw (h w' _ (I.tok _) rw')
 ·subst ey
  cases (show u=Value.ref b from ry)
  obtain⟨z,hd,xs,rel,dd⟩:=gp I.hok e
  obtain⟨w',hw,rw'⟩:=kY.some_of (v:=v) (o:=(atKey xs k).map (·.2)) (by rw [l];exact rel.val k)
  obtain⟨p,hp,hp2⟩:=Option.map_eq_some_iff.mp hw
  refine wpAny_getItem_heap (tupleKind_room_in1 hu) (iD I.hok eb) dd hp ?_
  rw [hp2]
  exact h w' _ (I.tok _) rw'
theorem HZ {Q:Value->Shared->Prop}(hu:A.units + 1 < cLine)(I:Inv X pins σ H s)(g:gq H a y o)(ry:RelV y u)(h:∀ s',Inv X pins σ H s'->Q (.bool o.isSome) s') :
  wpAny (model X.prog X.w) A (compareOp .In u (.ref a)) Q E s:=by
 rcases g with⟨kvs,k,e,ey,l⟩ | ⟨kvs,k,b,e,ey,eb,l⟩
 ·subst ey
  obtain⟨z,hd,vs,rel,dd⟩:=kL I.hok e
  refine wpAny_in_of (mG ry) hd dd.mapOf ?_
  rw [<-(rel.val k).f9,<-l]
  exact h _ (I.tok _)
 ·subst ey
  cases (show u=Value.ref b from ry)
  obtain⟨z,hd,xs,rel,dd⟩:=gp I.hok e
  refine wpAny_in_heap (tupleKind_room_in1 hu) (iD I.hok eb) hd dd ?_
  have q:=(rel.val k).f9
  rw [Mh] at q
  rw [<-q,<-l]
  exact h _ (I.tok _)
theorem vw {Q:Value->Shared->Prop}(hu:A.units + 1 < cLine)(I:Inv X pins σ H s)(g:gq H a y o)(ry:RelV y u)(h:∀ s',Inv X pins σ H s'->Q (.bool (!o.isSome)) s') :
  wpAny (model X.prog X.w) A (compareOp .NotIn u (.ref a)) Q E s:=by
 rcases g with⟨kvs,k,e,ey,l⟩ | ⟨kvs,k,b,e,ey,eb,l⟩
 ·subst ey
  obtain⟨z,hd,vs,rel,dd⟩:=kL I.hok e
  refine wpAny_notIn_of (mG ry) hd dd.mapOf ?_
  rw [<-(rel.val k).f9,<-l]
  exact h _ (I.tok _)
 ·subst ey
  cases (show u=Value.ref b from ry)
  obtain⟨z,hd,xs,rel,dd⟩:=gp I.hok e
  refine wpAny_notIn_heap (tupleKind_room_in1 hu) (iD I.hok eb) hd dd ?_
  have q:=(rel.val k).f9
  rw [Mh] at q
  rw [<-q,<-l]
  exact h _ (I.tok _)
theorem oW {h':Heap}{t':Nat}{ob:HO}(I:Inv X pins σ H s)(mu:Mut (H a))(hs:Heap.SameBut a s.heap h')(he:∃ q,h'.get? a=some q)(new:bu X.prog X.w (upd H a ob) h' a ob) :
  Inv X pins σ (upd H a ob) { s with heap:=h',toks:=t' }:=
 I.write (x:=a) (e:=a) mu (.inl rfl) (fun b q hb z=>(hs.2 b hb).trans z) he new
theorem AK {P:Program}{w:World}{H':Hp}{h':Heap}{kvs:List (Key × V)}{vs:List (Key × Value)}(z:kvs.length<=sizeLine)(hd:(a == sysModules)=false)(rel:KV kvs vs)(dd:h'.DictOf (bp P w) a vs) :
  bu P w H' h' a (.dK kvs):=⟨z,hd,vs,rel,dd⟩
theorem jQ {H':Hp}{Q:Unit->Shared->Prop}(hu:A.units + 1 < cLine)(I:Inv X pins σ H s)(g:wJ H a y v H')(ry:RelV y u)(rv:RelV v r)(h:∀ s',Inv X pins σ H' s'->Q () s') :
  wpAny (model X.prog X.w) A (setItem (.ref a) u r) Q E s:=by
 rcases g with⟨kvs,k,e,ey,l,eH⟩ | ⟨kvs,k,b,e,ey,eb,l,eH⟩
 ·subst ey eH
  obtain⟨z,hd,vs,rel,dd⟩:=Dd I.hok e
  have hz:vs.length<=sizeLine:=by rw [<-rel.length];exact z
  have hl:(putK kvs k v).length<=sizeLine:=by have:=eM kvs k v;lia
  refine wpAny_setItem_pairs (hsz:=hz) (mG ry) dd fun h' dd' hs=>h _ ?_
  have he:∃ q,h'.get? a=some q:=let ⟨q,_,_,hq,_⟩:=dd';⟨q,hq⟩
  exact oW I (by rw [e];exact True.intro) hs he (AK hl hd (rel.put k rv) dd')
 ·subst ey eH
  cases (show u=Value.ref b from ry)
  obtain⟨z,hd,xs,rel,dd⟩:=IG I.hok e
  have hz:xs.length<=sizeLine:=by rw [<-Paired.length rel];exact z
  have hl:(putK kvs k v).length<=sizeLine:=by have:=eM kvs k v;lia
  refine wpAny_setItem_heap (hsz:=hz) (tupleKind_room_in1 hu) (iD I.hok eb) dd fun h' dd' hs=>h _ ?_
  obtain⟨q,es,ep,hq,h2,h3,h4,_,h5⟩:=dd'
  refine oW I (by rw [e];exact True.intro) hs ⟨q,hq⟩ ⟨hl,hd,_,(rel.put k eb rv).keeps fun c ys ec=>?_,q,es,ep,hq,h2,h3,h4,h5⟩
  rw [aD (DJ ec e (fun z=>nomatch z))]
  exact ec
end
section
variable {X:Cx}{pins:List (Addr × Obj)}{σ:St}{H:Hp}{s:Shared}{a:Addr}{kvs:List (Key × V)}{k:Key}{u:Value}{A:Around}{E:Value->Shared->Prop}
theorem IJ {Q:Value->Shared->Prop}(I:Inv X pins σ H s)(e:Rd H a (.dK kvs))(h:∀ t s',Inv X pins σ H s'->Q (.int kvs.length t) s'):wpAny (model X.prog X.w) A (call (.builtin "len") [.ref a]) Q E s:=by
 obtain⟨z,hd,vs,rel,dd⟩:=kL I.hok e
 refine call_len_dict hd dd (by rw [<-rel.length];rw [sizeLine_eq] at z;lia) ?_
 rw [<-rel.length]
 exact h _ _ (I.tok _)
end
def GJ (i:Expr):Prop:=∀ ov iv,subscripted i false ov iv=operate [ov,iv] (getItem ov iv)
theorem BX {prog:Program}{w:World}{A:Around}{E:Value->Shared->Prop}{s:Shared}{env:Env}{value slice:Expr}{pos:Pos}{T id:String}{Q:Value->Shared->Prop}
  (hl:typeLookup (.type T) "__getitem__"=pure (some (.builtin id))) (hs:GJ slice)
  (h:wpAny (model prog w) A (eval value env) (fun o s₁=>wpAny (model prog w) A (eval slice env) (fun i s₂=>s₂.TypeIs o T/\wpAny (model prog w) A (getItem o i) Q E s₂) E s₁) E s) :
  wpAny (model prog w) A (eval (.Subscript value slice pos) env) Q E s:=by
 refine Subscript_ (wpAny_mono h (fun o s₁ h₁=>wpAny_mono h₁ (fun i s₂ h₂=>?_) fun _ _ x=>x) fun _ _ x=>x)
 obtain⟨hT,h₂⟩:=h₂
 unfold subscriptTail
 refine wpAny_bind ?_
 rw [getitemInPython_of_ne hT.not_modules]
 refine wpAny_bind (wpAny_specialOf hT hl ?_)
 have fin:wpAny (model prog w) A (subscripted slice false o i) (fun r s₃=>wpAny (model prog w) A (letTemporaryGo value o r >>= fun _=>pure r) Q E s₃) E s₂:=by
  rw [hs o i]
  exact wpAny_operating (wpAny_mono h₂ (fun r s₃ h₃=>wpAny_bind (wpAny_letTemporaryGo (wpAny_pure h₃))) fun _ _ x=>x)
 first
  | exact wpAny_pure (wpAny_bind fin)
  | exact wpAny_bind (wpAny_pure (wpAny_bind fin))
  | exact wpAny_bind fin
theorem kG {X:Cx}{pins:List (Addr × Obj)}{σ:St}{H:Hp}{s:Shared}{a:Addr}{y:V}{o:Option V}(I:Inv X pins σ H s)(g:gq H a y o):s.TypeIs (.ref a) "dict":=by
 rcases g with⟨kvs,k,e,_,_⟩ | ⟨kvs,k,b,e,_,_,_⟩
 ·obtain⟨_,_,vs,_,dd⟩:=kL I.hok e
  exact dd.typeIs
 ·obtain⟨_,_,xs,_,dd⟩:=gp I.hok e
  exact dd.typeIs
def Ij (td ty:TE):TE:=fun σ H Q=>td σ H fun x H1=>ty σ H1 fun y H2=>∃ a v,x=.ref a/\gq H2 a y (some v)/\Q v H2
def GN (td ty tv:TE):TS:=fun D σ H=>tv σ H fun v H1=>td σ H1 fun x H2=>ty σ H2 fun y H3=>∃ a H4,x=.ref a/\wJ H3 a y v H4/\D.nx σ H4
section
variable {X:Cx}{o i e value:Expr}{pos pos' tpos:Pos}{td ty tv:TE}
theorem l7 (hu:X.A.units + 1 < cLine)(ho:PE X o td)(hi:PE X i ty)(hs:GJ i):PE X (.Subscript o i pos) (Ij td ty):=by
 intro pins s σ H Q I h
 refine BX PySem.F.slot_dict_getitem.lookup hs (thn (ho pins s σ H _ I h) fun u s1 ⟨x,H1,I1,rx,q1⟩=>thn (hi pins s1 σ H1 _ I1 q1) ?_)
 rintro iv s2 ⟨y,H2,I2,ry,a,v,ex,g,q2⟩
 subst ex
 obtain rfl:u=Value.ref a:=rx
 exact⟨kG I2 g,nJ hu I2 g ry fun w' s3 I3 rw'=>⟨v,H2,I3,rw',q2⟩⟩
theorem BE (hu:X.A.units + 1 < cLine)(ho:PE X o td)(hi:PE X i ty)(hv:PE X value tv)(hs:swapsWith value (some (.Subscript o i pos')) pos.line X.env=pure false) :
  PS X (.Assign [.Subscript o i pos'] value pos) (GN td ty tv):=by
 intro pins s σ H D I h
 refine wpAny_Assign_Subscript (thn (hv pins s σ H _ I h) fun r s1 ⟨v,H1,I1,rv,q1⟩=>thn (ho pins s1 σ H1 _ I1 q1) fun u s2 ⟨x,H2,I2,rx,q2⟩=>thn (hi pins s2 σ H2 _ I2 q2) fun iv s3 ⟨y,H3,I3,ry,a,H4,ex,g,q3⟩=>?_) hs
 subst ex
 obtain rfl:u=Value.ref a:=rx
 exact jQ hu I3 g ry rv fun s4 I4=>⟨σ,H4,I4,q3⟩
end
theorem A0 {P:Program}{w:World}{H:Hp}(h:Heap)(hb:sysModules < h.objs.size):bu P w H (h.push { cls:=.type "dict",data:=.dict #[] }) h.objs.size (.dK []):=
 ⟨B_ _,beq_eq_false_iff_ne.mpr (Ne.symm (q_ hb)),[],.nil,Heap.DictOf.new h⟩
theorem Az {P:Program}{w:World}{H:Hp}(h:Heap)(hb:sysModules < h.objs.size):bu P w H (h.push { cls:=.type "dict",data:=.dict #[] }) h.objs.size (.dT []):=
 ⟨B_ _,beq_eq_false_iff_ne.mpr (Ne.symm (q_ hb)),[],.nil,_,#[],0,Heap.get?_push_size _ rfl,⟨rfl,rfl,rfl⟩,rfl,rfl,L4⟩
def Gi:TE:=fun _ H Q=>∀ p,H p=none->Q (.ref p) (upd H p (.dT []))
section
variable {X:Cx}{pos:Pos}
theorem yX:PE X (.Dict [] [] pos) Gi:=fun pins s σ H Q I h=>
 wpAny_Dict_empty ⟨.ref s.heap.objs.size,_,I.laid (a:=s.heap.objs.size) (o:=.dT []) (t':=s.toks) (fun _ _ q=>Heap.get?_push_of_some _ q) (c_ _) (Az s.heap I.big),rfl,h _ (I.hok.fresh (c_ _))⟩
end
def sJ:List (TE × TE)->St->Hp->(List (V × V)->Hp->Prop)->Prop
 | [],_,H,Q=>Q [] H
 | (tk,tv)::r,σ,H,Q=>tk σ H fun x H1=>tv σ H1 fun y H2=>sJ r σ H2 fun ps H3=>Q ((x,y)::ps) H3
abbrev VV:List (V × V)->List (Value × Value)->Prop:=Paired fun p q=>RelV p.1 q.1/\RelV p.2 q.2
def PPs (X:Cx)(pos:Pos)(keys:List (Option Expr))(values:List Expr)(trs:List (TE × TE)):Prop:=
 ∀ (pins:List (Addr × Obj)) (s:Shared) (σ:St) (H:Hp) (Q:List (V × V)->Hp->Prop),Inv X pins σ H s->sJ trs σ H Q->
  wpAny (model X.prog X.w) X.A (evalPairs (pairTrees keys values X.env pos)) (fun vs s'=>∃ ps H',Inv X pins σ H' s'/\VV ps vs/\Q ps H') X.xe s
theorem BA {X:Cx}{pos:Pos}:PPs X pos [] [] []:=fun pins s σ H Q I h=>pairTrees_nil_walk ⟨[],H,I,.nil,h⟩
theorem rR {X:Cx}{pos:Pos}{k v:Expr}{ks:List (Option Expr)}{vs:List Expr}{tk tv:TE}{trs:List (TE × TE)}(hk:PE X k tk)(hv:PE X v tv)(hr:PPs X pos ks vs trs) :
  PPs X pos (some k::ks) (v::vs) ((tk,tv)::trs):=fun pins s σ H Q I h=>
 pairTrees_cons_walk (thn (hk pins s σ H _ I h) fun u s1 ⟨x,H1,I1,rx,q1⟩=>thn (hv pins s1 σ H1 _ I1 q1) fun w2 s2 ⟨y,H2,I2,ry,q2⟩=>
  thn (hr pins s2 σ H2 _ I2 q2) fun ws s3 ⟨ps,H3,I3,rel,q3⟩=>⟨(x,y)::ps,H3,I3,.cons ⟨rx,ry⟩ rel,q3⟩)
def gx (kvs more:List (Key × V)):List (Key × V):=more.foldl (fun acc kv=>putK acc kv.1 kv.2) kvs
theorem KV.merge:∀ {more:List (Key × V)} {rs:List (Key × Value)} {kvs:List (Key × V)} {vs:List (Key × Value)},KV more rs->KV kvs vs->KV (gx kvs more) (merged vs rs):=by
 intro more rs kvs vs r
 unfold KV at r
 induction r generalizing kvs vs with
 | nil=>intro q;exact q
 | @cons p q ps qs h t ih=>
  intro r0
  have e:KV (putK kvs p.1 p.2) (stored vs q.1 q.2):=by
   have:=r0.put p.1 h.2
   rw [<-h.1];exact this
  exact ih e
theorem i9:∀ (more kvs:List (Key × V)),(gx kvs more).length<=kvs.length + more.length
 | [],kvs=>by show kvs.length<=kvs.length + 0;lia
 | p::r,kvs=>by
  have h1:=i9 r (putK kvs p.1 p.2)
  have h2:=eM kvs p.1 p.2
  show (gx (putK kvs p.1 p.2) r).length<=_
  rw [h_];lia
theorem mw {P:Program}{w:World}:∀ {kvs:List (Key × V)} {ws:List (Value × Value)},VV (kvs.map fun kv=>(kV kv.1,kv.2)) ws->∃ rs,Carries (bp P w) ws rs/\KV kvs rs
 | [],_,r=>by rw [Kc] at r;cases r;exact⟨[],True.intro,.nil⟩
 | p::kvs,_,r=>by
  rw [f'] at r
  cases r with
  | @cons a b as bs h t=>
   obtain⟨rs,c,q⟩:=mw (P:=P) (w:=w) t
   obtain⟨b1,b2⟩:=b
   exact⟨(p.1,b2)::rs,⟨mG h.1,rfl,c⟩,.cons ⟨rfl,h.2⟩ q⟩
def Gv (trs:List (TE × TE)):TE:=fun σ H Q=>∀ p,H p=none->sJ trs σ (upd H p (.dK [])) fun ps H2=>H2 p=some (.dK [])/\∃ kvs:List (Key × V),ps=kvs.map (fun kv=>(kV kv.1,kv.2))/\kvs.length<=15/\Q (.ref p) (upd H2 p (.dK (gx [] kvs)))
theorem AR {X:Cx}{pos:Pos}{keys:List (Option Expr)}{values:List Expr}{trs:List (TE × TE)}(h:PPs X pos keys values trs)(hall:keys.all (·.isSome)=true)(hl:keys.length=values.length)(h0:keys≠[])
  (h15:keys.length<=15):PE X (.Dict keys values pos) (Gv trs):=by
 intro pins s σ H Q I q
 have hn:=I.hok.fresh (c_ s.heap.objs.size)
 have I1:=I.laid (a:=s.heap.objs.size) (o:=.dK []) (h':=s.heap.push { cls:=.type "dict",data:=.dict #[] }) (t':=s.toks) (fun _ _ q=>Heap.get?_push_of_some _ q) (c_ _) (A0 s.heap I.big)
 refine wpAny_Dict_walk (knd:=bp X.prog X.w) hall hl h0 h15 (thn (h pins _ σ _ _ I1 (q _ hn)) ?_)
 rintro ws s2 ⟨ps,H2,I2,rel,e,kvs,ep,lk,q2⟩
 subst ep
 obtain⟨rs,c,rk⟩:=mw (P:=X.prog) (w:=X.w) rel
 obtain⟨z,hd,vs0,r0,dd⟩:=Dd I2.hok e
 cases r0
 refine⟨rs,c,dd,fun h' dd' hs=>⟨.ref s.heap.objs.size,_,?_,rfl,q2⟩⟩
 have hz:(gx [] kvs).length<=sizeLine:=by
  have h1:=i9 kvs []
  rw [K0] at h1
  rw [sizeLine_eq];lia
 have he:∃ q,h'.get? s.heap.objs.size=some q:=let ⟨q,_,_,hq,_⟩:=dd';⟨q,hq⟩
 exact oW I2 (by rw [e];exact True.intro) hs he (AK hz hd (rk.merge .nil) dd')
structure M2 (X:Cx) (o:Expr) (m:Str) (apos:Pos) (e f:Expr) (cpos:Pos):Prop where
 base:attributeBase o m X.env (eval o X.env)=eval o X.env
 few:((backTo cpos (starEach [e,f] X.env)).all (fun x=>!x.1) && (backToKw cpos (keywordEach [] X.env)).all (fun x=>x.1.isSome)
  && decide (([e,f]:List Expr).length + ([]:List Keyword).length + (if ([]:List Keyword).isEmpty then 0 else 1) < 30))=true
 line:(apos.endLine == cpos.line)=true
 trees:backTo cpos (starEach [e,f] X.env)=[(false,eval e X.env),(false,eval f X.env)]
def IsD (H:Hp)(a:Addr):Prop:=(∃ kvs,Rd H a (.dK kvs))\/∃ kvs,Rd H a (.dT kvs)
theorem EL {X:Cx}{pins:List (Addr × Obj)}{σ:St}{H:Hp}{s:Shared}{a:Addr}(I:Inv X pins σ H s)(d:IsD H a) :
  s.TypeIs (.ref a) "dict"/\(∀ b,Value.ref a=.ref b->∃ ob,s.heap.get? b=some ob/\ob.dict=none)/\(a == sysModules)=false:=by
 rcases d with⟨kvs,e⟩ | ⟨kvs,e⟩
 ·obtain⟨_,hd,vs,_,dd⟩:=kL I.hok e
  refine⟨dd.typeIs,fun b q=>?_,hd⟩
  cases q
  obtain⟨ob,_,_,h1,h2,_⟩:=dd
  exact⟨ob,h1,h2.2.1⟩
 ·obtain⟨_,hd,xs,_,dd⟩:=gp I.hok e
  refine⟨dd.typeIs,fun b q=>?_,hd⟩
  cases q
  obtain⟨ob,_,_,h1,h2,_⟩:=dd
  exact⟨ob,h1,h2.2.1⟩
section
variable {X:Cx}{pins:List (Addr × Obj)}{σ:St}{H:Hp}{s:Shared}{a:Addr}{y d:V}{u r:Value}{o:Option V}{A:Around}{E:Value->Shared->Prop}
theorem G9 {Q:Value->Shared->Prop}(hu:A.units + 1 < cLine)(I:Inv X pins σ H s)(g:gq H a y o)(ry:RelV y u)(rd:RelV d r)(h:∀ w' s',Inv X pins σ H s'->RelV (o.getD d) w'->Q w' s') :
  wpAny (model X.prog X.w) A (call (.builtin "dict.get") [.ref a,u,r]) Q E s:=by
 rcases g with⟨kvs,k,e,ey,l⟩ | ⟨kvs,k,b,e,ey,eb,l⟩
 ·subst ey
  obtain⟨z,hd,vs,rel,dd⟩:=kL I.hok e
  refine call_meetsIn PySem.F.slot_dict_get dd.typeIs PySem.F.entry_dict_get (PySem.F.args_dict_get_3 _ _ _) (meets_dict_get_default (bp X.prog X.w) a (mG ry) hd r) ⟨_,dd.mapOf,h _ _ (I.tok _) ?_⟩
  rw [l]
  exact (rel.val k).getD rd
 ·subst ey
  cases (show u=Value.ref b from ry)
  obtain⟨z,hd,xs,rel,dd⟩:=gp I.hok e
  refine call_meetsIn PySem.F.slot_dict_get dd.typeIs PySem.F.entry_dict_get (PySem.F.args_dict_get_3 _ _ _) (meetsH_dict_get_default (tupleKind (bp X.prog X.w)) a b hd r) ⟨tupleKind_room_in1 hu,k,xs,iD I.hok eb,dd,h _ _ (I.tok _) ?_⟩
  rw [l]
  exact (rel.val k).getD rd
end
def FL (td ty tx:TE):TE:=fun σ H Q=>td σ H fun x H1=>∃ a,x=.ref a/\IsD H1 a/\ty σ H1 fun y H2=>tx σ H2 fun z H3=>∃ o,gq H3 a y o/\Q (o.getD z) H3
section
variable {X:Cx}{o e f:Expr}{apos cpos:Pos}{td ty tx:TE}
theorem yv (hu:X.A.units + 1 < cLine)(ho:PE X o td)(he:PE X e ty)(hf:PE X f tx)(m:M2 X o "get" apos e f cpos):PE X (.Call (.Attribute o "get" apos) [e,f] [] cpos) (FL td ty tx):=by
 intro pins s σ H Q I h
 refine wpAny_Call_method m.base m.few m.line PySem.F.plainAttrs_dict PySem.F.slot_dict_get PySem.F.type_dict_get (thn (ho pins s σ H _ I h) ?_)
 rintro u s1 ⟨x,H1,I1,rx,a,ex,d,q1⟩
 subst ex
 obtain rfl:u=Value.ref a:=rx
 obtain⟨t1,t2,_⟩:=EL I1 d
 refine⟨t1,t2,?_⟩
 rw [m.trees]
 refine Calls.callWith_builtin rfl (Calls.evalArgs_plain (Calls.spliced_cons (thn (he pins s1 σ H1 _ I1 q1) fun iv s2 ⟨y,H2,I2,ry,q2⟩=>
  Calls.spliced_cons (thn (hf pins s2 σ H2 _ I2 q2) fun fv s3 ⟨z,H3,I3,rz,ov,g,q3⟩=>Calls.spliced_nil ?_))))
 exact G9 hu I3 g ry rz fun w' s4 I4 rw'=>⟨_,H3,I4,rw',q3⟩
end
end L2
namespace Att
open PySem PySem.W PySem.Calls PyProof.Rows
theorem kX {P:Params}{h:Heap}:∀ (ns:List Int) (vs:List Value),WellAll P h vs (ns.map WData.int)->IntsAre vs ns:=by
 intro ns
 induction ns with
 | nil=>
  intro vs w
  rw [Kc] at w
  cases w
  exact .nil
 | cons n ns ih=>
  intro vs w
  rw [f'] at w
  cases w with
  | cons a b=>
   cases a
   exact .cons _ _ (ih _ b)
theorem wb {l:OpenLaw}{n:Nat}(hn:l.most=some n){P:Params}{h:Heap}{args:List WData}{vals:List Value}
  (hpre:l.row.toRowW.claim.pre args=true) (hwl:WellAll P h vals args) :
  ∃ a vs ns,vals=[Value.ref a]/\args=[WData.list (ns.map WData.int)]/\h.get? a=some { cls:=.type "list",data:=.seq vs.toArray }/\IntsAre vs ns/\ns.length<=n:=by
 have hsh:WShape.hasAll [] args [.list .int]=true:=(pre_splitW hpre).1
 have hc:l.pre.holds [] { args:=args }=true:=(pre_splitW hpre).2
 obtain⟨d,r,rfl,h1,h2⟩:=hasAllW_cons hsh
 obtain rfl:=hasAllW_nil h2
 obtain⟨xs,rfl,h3⟩:=hasW_list h1
 obtain⟨ns,rfl⟩:=items_int h3
 have hlen:ns.length<=n:=by
  unfold OpenLaw.pre at hc
  have h4:(WTm.not (.lt (.lit (.int (n:Int))) (.len (.arg 0)))).holds [] { args:=[.list (ns.map .int)] }=true:=by
   have h4:=(holds_andW hc).1
   rw [hn] at h4
   exact h4
  have h5:=condW_of h4 (w_not (w_lt w_lit (w_len_list (w_arg rfl))))
  rw [b_] at h5
  refine JN fun q=>?_
  have q':(n:Int) < ((ns.length:Nat):Int):=by lia
  first
   | (rw [decide_eq_true q'] at h5;exact absurd h5 (by decide))
   | (simp at h5;omega)
 cases hwl with
 | cons w1 w2=>
  cases w2
  cases w1 with
  | list ho hall=>exact⟨_,_,ns,rfl,rfl,ho,kX ns _ hall,hlen⟩
theorem xt (l:OpenLaw)(args:List WData):l.row.toRowW.claim.post args (.bool true) args=true:=
 postW_of (r:=l.row.toRowW) (X:=(true == true))
  (show WShape.has [] (.bool true) .bool=true by first | rfl | decide | simp [WShape.has,WShape.arms,WShape.armsAll])
  (show (WTm.eq .res (.lit (.bool true))).value [] { args:=args,res:=some (.bool true),after:=args }=some (.bool (true == true)) from w_eq_bool (w_res rfl) w_lit) rfl
theorem qH {l:OpenLaw}{n:Nat}{q:Program}{loose:List Str}{XP:(Str->Option Value)->Heap->Prop}{YP:World->Heap->Prop}{d:DefRec}
  (hn:l.most=some n) (hdf:d.params.defaults=[])
  (call:∀ (w:World) (s₀ s₁:Shared) (mg mb:Str->Option Value) (fa:Addr) (o:Obj) (pm cd doc:Value) (a:Addr) (vs:List Value) (ns:List Int),
   Ground q loose [] XP w s₀ mg mb s₁.heap->YP w s₁.heap->
   s₁.heap.get? fa=some o->o.data=.func (docDef d.name d.params d.body d.scope pm cd doc)->s₁.heap.CodeRec cd d.name->mg d.name=some (.ref fa)->
   s₁.heap.get? a=some { cls:=.type "list",data:=.seq vs.toArray }->IntsAre vs ns->ns.length<=n->s₁.gens=#[]->
   codeAny (model l.prog w) callerA (.call (.ref fa) ⟨[.ref a],[]⟩) (fun r s'=>r=.ok (.ret (.bool true))/\OldK s₁.heap s'.heap/\s'.os=s₁.os/\AllBare s'.gens) s₁) :
  WalkO q loose XP YP l.row.toRowW d [] (fun f vs=>PySem.call f vs):=by
 intro w s₀ s₁ mg mb G Y fa o pm cd doc dV kV ho hd hcd hD hmg hg args vals as hpre hlay hrd hwl hlo
 obtain rfl:dV=.none:=Dflts.none hD hdf
 obtain rfl:kV=.none:=Dflts.noKw hD
 obtain⟨a,vs,ns,rfl,rfl,hobj,hints,hlen⟩:=wb hn hpre hwl
 refine enter_call (codeAny_mono (call w s₀ s₁ mg mb fa o pm cd doc a vs ns G Y ho (fd_plain hd) hcd hmg hobj hints hlen hg) fun r s' hq=>?_)
 obtain⟨rfl,h2,h3,h4⟩:=hq
 exact⟨.inl ⟨.bool true,.bool true,[],rfl,fun _=>rfl,.bool true,xt l _,fun _=>⟨LD,fun _ hm=>(nomatch hm)⟩⟩,h2,h3,h4⟩
section
variable {prog:Program}{w:World}{A:Around}{E:Value->Shared->Prop}{s:Shared}{K:Frag}
def ledger (h:Heap)(L d:Addr):List (Addr × Obj):=(y_ h.objs.size).filterMap fun a=>if a=L\/a=d then none else (h.get? a).map fun o=>(a,o)
end
end Att
namespace L2
open PySem PySem.Spec PyProof.Rows
theorem om:∀ {vs:List Value} {ns:List Int},IntsAre vs ns->Vals (ns.map V.int) vs
 | _,_,.nil=>.nil
 | _,_,.cons n t h=>.cons ⟨t,rfl⟩ (om h)
def Fq (H:Hp):Prop:=∀ b,H b=none\/∃ o xs,H b=some (.frz o (.lst xs))
theorem xR {P:Program}{w:World}{K:PySem.W.Frag}{mg mb:Str->Option Value}{CX:CXT}{k:Nat}{fa a:Addr}{fd:FuncData}{x:Str}{sp:Sp}{s₁:Shared}{vs:List Value}{ns:List Int}
  (KX:K.In s₁.heap) (hns:s₁.heap.Ns mainGlobals mg) (hb:s₁.heap.Ns builtinsNs mb) (hbb:∀ x:Str,x≠"__name__"->mb x=bootBuiltins x) (hlim:s₁.heap.NoLimit) (hg:s₁.gens=#[])
  (ha:s₁.heap.get? a=some { cls:=.type "list",data:=.seq vs.toArray }) (hi:IntsAre vs ns) (hl:ns.length<=sizeLine) (hr:Room k callerA)
  (F:∀ base:Heap,K.In base->base.Ns mainGlobals mg->FnOk P w K mg base CX k fa fd [x] sp) (hbind:∀ (s:Shared) (u:Value),BindsTo s fd ⟨[u],[]⟩ [(x,u)])
  (hsp:∀ H:Hp,Fq H->SqL K H a (ns.map V.int)->sp [.ref a] H (fun v _=>v=.bl true) fun _ _ _=>False)
  (hCX:∀ H e s',CX [] H s₁ (fun _ _ _=>False) e s'->False) :
  codeAny (model P w) callerA (.call (.ref fa) ⟨[.ref a],[]⟩) (fun r s'=>r=.ok (.ret (.bool true))/\OldK s₁.heap s'.heap/\s'.os=s₁.os/\AllBare s'.gens) s₁:=by
 have rv:=om hi
 have lenV:=hi.length
 have core:∀ H:Hp,Fq H->SqL K H a (ns.map V.int)->HOk P w H s₁.heap->(∀ b,H b≠none->b=a)->(H a≠none->K.lookup a=none)->
   codeAny (model P w) callerA (.call (.ref fa) ⟨[.ref a],[]⟩) (fun r s'=>r=.ok (.ret (.bool true))/\OldK s₁.heap s'.heap/\s'.os=s₁.os/\AllBare s'.gens) s₁:=by
  intro H hO hS hok hA hK
  have base_of:∀ {b:Addr} {o:Obj},s₁.heap.get? b=some o->H b=none->(oG s₁.heap H).get? b=some o:=fun e n=>A9 e n
  have noA:∀ {b:Addr} {o:Obj} {es:Array DictEntry} {ep:Nat},s₁.heap.get? b=some o->o.data=.dict es ep->H b=none:=fun {b o es ep} e d=>by
   cases q:H b with
   | none=>rfl
   | some u=>
    have e':b=a:=hA b (by rw [q];simp)
    subst e'
    rw [ha] at e;cases e
    have d':Data.seq vs.toArray _=Data.dict es ep:=d
    cases d'
  have nsK:∀ {b:Addr} {m:Str->Option Value},s₁.heap.Ns b m->(oG s₁.heap H).Ns b m:=fun {b m} ⟨o,es,ep,e,d,r⟩=>⟨o,es,ep,base_of e (noA e d),d,r⟩
  have hKb:K.In (oG s₁.heap H):=fun b o e=>base_of (KX b o e) (by
   cases q:H b with
   | none=>rfl
   | some u=>
    have e':b=a:=hA b (by rw [q];simp)
    subst e'
    rw [hK (by rw [q];simp)] at e;cases e)
  have hM:Mod K mg (oG s₁.heap H):=⟨hKb,nsK hns,⟨mb,nsK hb,hbb⟩,let ⟨mc,h1,h2⟩:=hlim;⟨mc,nsK h1,h2⟩⟩
  have e0:Env0 P w K mg (oG s₁.heap H) callerA [] s₁ H:=⟨rfl,hM,fun b o e=>Cd e,Lu (wc _ _),trivial,fun b hb=>absurd (show b∈([]:List Addr) from hb) (by simp),hok,.of_eq hg⟩
  refine codeAny_mono ((F _ hKb (nsK hns)).run callerA [] s₁ H ⟨[.ref a],[]⟩ [.ref a] [.ref a] _ _ hr e0 (hbind s₁ (.ref a)) (.cons rfl .nil) (hsp H hO hS)) fun r s' h=>?_
  cases r with
  | error e=>exact (hCX H e s' h).elim
  | ok fl=>
   cases fl with
   | next=>exact False.elim h
   | brk=>exact False.elim h
   | cont=>exact False.elim h
   | ret u=>
    obtain⟨v,H',os,bare,un,hok',r',q⟩:=h
    have q':v=.bl true:=q
    subst q'
    obtain rfl:u=Value.bool true:=r'
    refine⟨rfl,OldK.of_keep fun b o e=>?_,os,bare⟩
    cases q:H b with
    | none=>exact un.keep b o e q (by intro z;exact absurd (show b∈([]:List Addr) from z) (by simp)) (by simp)
    | some u=>
     rcases hO b with z | ⟨ob,xs,z⟩
     ·rw [q] at z;cases z
     ·have z2:=un.frzs b ob _ z
      obtain⟨e1,_⟩:=hok b _ z
      obtain⟨e2,_⟩:=hok' b _ z2
      rw [e] at e1;cases e1
      exact e2
 cases hk:K.lookup a with
 | some o=>
  have e:=KX a o hk
  rw [ha] at e
  cases e
  refine core (fun _=>none) (fun _=>.inl rfl) (.inr ⟨_,vs.toArray,_,hk,rfl,rfl,rfl,by rw [n_,lenV];exact hl,by simpa using rv⟩) (fun b u z=>by have z':(none:Option HO)=some u:=z;cases z') (fun b z=>absurd rfl z) fun z=>absurd rfl z
 | none=>
  refine core (fun b=>if b=a then some (.frz { cls:=.type "list",data:=.seq vs.toArray } (.lst (ns.map V.int))) else none) (fun b=>?_) (.inl (.inr ⟨{ cls:=.type "list",data:=.seq vs.toArray },if_pos rfl⟩)) (fun b u z=>?_) (fun b z=>?_) fun _=>hk
  ·by_cases hb:b=a
   ·exact .inr ⟨_,_,if_pos hb⟩
   ·exact .inl (if_neg hb)
  ·by_cases hb:b=a
   ·have z':=(if_pos hb).symm.trans z
    cases z'
    subst hb
    exact⟨ha,by rw [b_];exact hl,vs,_,rv,ha⟩
   ·have z':=(if_neg hb).symm.trans z
    cases z'
  ·by_cases hb:b=a
   ·exact hb
   ·exact absurd (if_neg hb) z
end L2
namespace L2
open PySem PySem.Spec PyProof.Rows
theorem BY {l:PySem.W.OpenLaw}{n k:Nat}{q:Program}{loose:List Str}{XP:(Str->Option Value)->Heap->Prop}{YP:World->Heap->Prop}{d:DefRec}{K:Params->PySem.W.Frag}{CX:World->CXT}{sp:World->Sp}{x:Str}
  (hn:l.most=some n) (hn2:n<=sizeLine) (hdf:d.params.defaults=[]) (hr:Room k callerA)
  (hY:∀ (w:World) (h:Heap),YP w h->(K w.params).In h)
  (F:∀ (w:World) (mg:Str->Option Value) (fa:Addr) (h:Heap),(K w.params).In h->h.Ns mainGlobals mg->mg d.name=some (.ref fa)->
   ∃ fd:FuncData,(∀ (s:Shared) (u:Value),BindsTo s fd ⟨[u],[]⟩ [(x,u)])/\
    ∀ base:Heap,(K w.params).In base->base.Ns mainGlobals mg->FnOk l.prog w (K w.params) mg base (CX w) k fa fd [x] (sp w))
  (hsp:∀ (w:World) (H:Hp) (a:Addr) (ns:List Int),ns.length<=n->Fq H->SqL (K w.params) H a (ns.map V.int)->sp w [.ref a] H (fun v _=>v=.bl true) fun _ _ _=>False)
  (hCX:∀ (w:World) (H:Hp) (s:Shared) (e:Value) (s':Shared),CX w [] H s (fun _ _ _=>False) e s'->False) :
  PySem.W.WalkO q loose XP YP l.row.toRowW d [] (fun f vs=>PySem.call f vs):=by
 refine Att.qH hn hdf fun w s₀ s₁ mg mb fa o pm cd doc a vs ns G Y ho hd hcd hmg hobj hints hlen hg=>?_
 have KX:=hY w _ Y
 obtain⟨fd,hb,hF⟩:=F w mg fa _ KX G.T.g hmg
 exact xR KX G.T.g G.T.b G.T.builtins G.T.nolimit hg hobj hints (r_ hlen hn2) hr hF hb (fun H hO hS=>hsp w H a ns hlen hO hS) fun H e s'=>hCX w H s₁ e s'
end L2
namespace L2
open PySem PySem.Spec PyProof.Rows
def eO (s:Stmt):Arguments:=match s with
 | .FunctionDef _ a _ _ _ _ _ _ _ _=>a
 | _=>{ posonlyargs:=[],args:=[],vararg:=none,kwonlyargs:=[],kw_defaults:=[],kwarg:=none,defaults:=[] }
def dQ (s:Stmt):List Stmt:=match s with
 | .FunctionDef _ _ b _ _ _ _ _ _ _=>b
 | _=>[]
def ak (s:Stmt):Scope:=match s with
 | .FunctionDef _ _ _ _ _ _ sc _ _ _=>sc
 | _=>{ kind:=.function,names:=[],isGenerator:=false,isCoroutine:=false }
abbrev CX0:CXT:=fun _ _ _ _ _ _=>False
abbrev E0:XK:=fun _ _ _=>False
theorem DE {X:Cx}:Passes CX0 X E0:=fun _ _ _ _ _ _ _ h=>h.elim
structure Fun (K:PySem.W.Frag) (x qual:Str) (st:Stmt) (f:Addr) (fd:FuncData):Prop where
 ex:∃ (oc:Value) (od:Option Addr) (kV doc pm:Value) (an:Option Addr) (cdv ct:Value) (osl:Array (Option Value)),
  fd=PySem.W.fnOf x qual (eO st) (dQ st) (ak st) .none kV doc pm an cdv ct/\K.lookup f=some ⟨oc,od,.func fd,osl⟩/\PySem.W.codeIn K cdv qual=true
 kp:PySem.W.keepIn K (.ref f)=true
section
variable {P:Program}{w:World}{K:PySem.W.Frag}{mg:Str->Option Value}{base:Heap}
theorem Fun.ok {x qual:Str}{st:Stmt}{f:Addr}{fd:FuncData}{N ps:List Str}{k:Nat}{sp:Sp}(F:Fun K x qual st f fd)(S:FnScope N ps (ak st))(len:∀ vs H Q E,sp vs H Q E->vs.length=ps.length)
  (hbody:∀ (cdv:Value) (A:Around) (outer:List Env) (s:Shared) (H:Hp) (vs:List V) (Q:VK) (E:XK),Room k (A.deeper (envOfC qual (ak st) s.heap.objs.size f cdv))->sp vs H Q E->
   ∃ t,PSs (tR CX0 P w K mg base N qual (ak st) f cdv A outer s H E).nox (dQ st) t/\t { nx:=fun _ H'=>Q .non H',rt:=Q } (start N vs) H):FnOk P w K mg base CX0 (k + 1) f fd ps sp:=by
 obtain⟨oc,od,kV,doc,pm,an,cdv,ct,osl,rfl,lk,hcd⟩:=F.ex
 refine Io lk hcd S len fun A outer s H vs Q E hr hsp=>?_
 obtain⟨t,h,q⟩:=hbody cdv A outer s H vs Q E hr hsp
 exact⟨t,h.nox,q⟩
theorem Fun.binds {x qual:Str}{st:Stmt}{f:Addr}{fd:FuncData}{ps:List Str}(F:Fun K x qual st f fd)
  (h:∀ (kV doc pm:Value) (an:Option Addr) (cdv ct:Value) (us:List Value),us.length=ps.length->bindArgs (PySem.W.fnOf x qual (eO st) (dQ st) (ak st) .none kV doc pm an cdv ct) ⟨us,[]⟩=pure (ps.zip us)):Binds K fd ps []:=by
 obtain⟨oc,od,kV,doc,pm,an,cdv,ct,osl,rfl,lk,hcd⟩:=F.ex
 exact .all (h kV doc pm an cdv ct)
theorem tO {x qual:Str}{st:Stmt}{f:Addr}{oc:Value}{od an:Option Addr}{osl:Array (Option Value)}{kV doc pm cdv ct:Value}(l:K.lookup f=some ⟨oc,od,.func (PySem.W.fnOf x qual (eO st) (dQ st) (ak st) .none kV doc pm an cdv ct),osl⟩)
  (c:PySem.W.codeIn K cdv qual=true) (k:PySem.W.keepIn K (.ref f)=true):Fun K x qual st f (PySem.W.fnOf x qual (eO st) (dQ st) (ak st) .none kV doc pm an cdv ct):=⟨⟨oc,od,kV,doc,pm,an,cdv,ct,osl,rfl,l,c⟩,k⟩
end
theorem gv {A:Around}{k:Nat}(hr:Room k A):A.units + 1 < cLine:=JM (Lm (by decide:1<=64) _) hr.units
section
variable {X:Cx}
theorem pv (i:Nat){x:Str}{pos:Pos}(hN:X.N[i]?=some x:=by rfl)(hv:Vis X.env.scope x:=by first | exact p_ rfl | exact D_ (p_ rfl) | exact D_ (D_ rfl))(hd:(x == ("__debug__":Str))=false:=by decide)
  (hcd:(x == ("__classdict__":Str))=false:=by decide):PE X (.Name x pos) (Al i):=fO hN hv hd hcd
end
theorem Hg {A B:Prop}(h:B):if false=true then A else B:=by
 rw [if_neg z_]
 exact h
theorem FC {A B:Prop}(h:A):if true=true then A else B:=by
 rw [if_pos rfl]
 exact h
def aO (H H':Hp):Prop:=∀ b o,H b=some o->H' b=some o
theorem aO.seq {K:PySem.W.Frag}{H H':Hp}{a:Addr}{xs:List V}(e:aO H H')(h:SqL K H a xs):SqL K H' a xs:=by
 rcases h with (h | ⟨o,h⟩) | h
 ·exact .inl (.inl (e _ _ h))
 ·exact .inl (.inr ⟨o,e _ _ h⟩)
 ·exact .inr h
end L2
namespace ZG
open PySem
def Sq (b:Bool)(h:Heap)(l:Addr)(xs:Array Value):Prop:=match b with
 | true=>h.IsTuple l xs
 | false=>h.IsList l xs
def Dr (b:Bool)(h:Heap)(i l:Addr)(k:Nat):Prop:=match b with
 | true=>h.IsTupleIter i l k
 | false=>h.IsListIter i l k
theorem Sq.ext {b:Bool}{h h':Heap}{l c:Addr}{xs:Array Value}(x:Sq b h l xs)(k:Heap.ExtBut c h h')(n:l≠c):Sq b h' l xs:=by
 cases b with
 | true=>exact Heap.IsTuple.extBut (show h.IsTuple l xs from x) k n
 | false=>exact Heap.IsList.extBut (show h.IsList l xs from x) k n
theorem Dr.ext {b:Bool}{h h':Heap}{i l c:Addr}{k:Nat}(x:Dr b h i l k)(e:Heap.ExtBut c h h')(n:i≠c):Dr b h' i l k:=by
 cases b with
 | true=>exact Heap.IsTupleIter.extBut (show h.IsTupleIter i l k from x) e n
 | false=>exact Heap.IsListIter.extBut (show h.IsListIter i l k from x) e n
theorem Dr.some {b:Bool}{h:Heap}{i l:Addr}{k:Nat}(x:Dr b h i l k):∃ o,h.get? i=some o/\∀ v,o.data≠.cell v:=by
 cases b with
 | true=>obtain⟨o,e,_,d⟩:=(show h.IsTupleIter i l k from x);exact⟨o,e,fun v z=>by rw [d] at z;cases z⟩
 | false=>obtain⟨o,e,_,d⟩:=(show h.IsListIter i l k from x);exact⟨o,e,fun v z=>by rw [d] at z;cases z⟩
theorem Dr.at {b:Bool}{h h':Heap}{i l:Addr}{k:Nat}(x:Dr b h i l k)(e:∀ o,h.get? i=ND o->h'.get? i=ND o):Dr b h' i l k:=by
 cases b with
 | true=>obtain⟨o,q,r⟩:=(show h.IsTupleIter i l k from x);exact⟨o,e o q,r⟩
 | false=>obtain⟨o,q,r⟩:=(show h.IsListIter i l k from x);exact⟨o,e o q,r⟩
section
variable {prog:Program}{w:World}{A:Around}{E:Value->Shared->Prop}{s:Shared}
theorem B9 {i l:Addr}{k:Nat}{xs:Array Value}{v:Value}{Q:Value->Shared->Prop}(d:s.heap.IsTupleIter i l k)(q:s.heap.IsTuple l xs)(hv:xs[k]?=some v)
  (r:∀ g,g.IsTupleIter i l (k + 1)->Heap.SameBut i s.heap g->Q v { s with heap:=g }):wpAny (model prog w) A (Builtin.SmallTypes.nextOf (.ref i)) Q E s:=by
 obtain⟨oi,hoi,ci,di⟩:=id d
 obtain⟨ol,hol,_,nl,dl⟩:=q
 unfold Builtin.SmallTypes.nextOf
 refine wpAny_bind (wpAny_callSpecial?_slot (name:=Str.ofString "__next__") d.typeIs F.slot_tuple_iterator_next (wpAny_call_entry F.slot_tuple_iterator_next d.typeIs F.entry_tuple_iterator_next ?_ (F.args_tuple_iterator_next_1 _)))
 show wpAny _ _ (field (.ref i) 0 >>= _) _ _ s
 refine wpAny_bind (wpAny_field hoi di (x:=.ref l) rfl ?_)
 show wpAny _ _ (if (Value.ref l == Value.none)=true then _ else _) _ _ s
 rw [if_neg (show ¬ ((Value.ref l == Value.none)=true) from z_)]
 show wpAny _ _ (field (.ref i) 1 >>= _) _ _ s
 refine wpAny_bind (wpAny_field hoi di (x:=.int k 0) rfl ?_)
 show wpAny _ _ (seqItems? (.ref l) >>= _) _ _ s
 refine wpAny_bind (wpAny_seqItems hol dl ?_)
 simp only [JX,hv]
 refine wpAny_bind (wpAny_setField hoi di (by simp) (wpAny_pure ⟨v,rfl,wpAny_pure (r _ ?_ (Heap.SameBut.update ..))⟩))
 exact⟨_,Heap.get?_update_self _ hoi (Obj.isFreed_of_fields (Obj.data_mapFields di _)),(Obj.cls_mapFields ..).trans ci,by rw [Obj.data_mapFields di];simp [rawInt]⟩
theorem FX {i l:Addr}{k:Nat}{xs:Array Value}{Q:Value->Shared->Prop}(hh:A.handled=none)(d:s.heap.IsTupleIter i l k)(q:s.heap.IsTuple l xs)(hv:xs[k]?=none)
  (r:∀ g e,Heap.ExtBut i s.heap g->(∃ o,g.get? e=some o/\o.cls=.type "StopIteration")->E (.ref e) { s with heap:=g }):wpAny (model prog w) A (Builtin.SmallTypes.nextOf (.ref i)) Q E s:=by
 obtain⟨oi,hoi,ci,di⟩:=id d
 obtain⟨ol,hol,_,nl,dl⟩:=q
 unfold Builtin.SmallTypes.nextOf
 refine wpAny_bind (wpAny_callSpecial?_slot (name:=Str.ofString "__next__") d.typeIs F.slot_tuple_iterator_next (wpAny_call_entry F.slot_tuple_iterator_next d.typeIs F.entry_tuple_iterator_next ?_ (F.args_tuple_iterator_next_1 _)))
 show wpAny _ _ (field (.ref i) 0 >>= _) _ _ s
 refine wpAny_bind (wpAny_field hoi di (x:=.ref l) rfl ?_)
 show wpAny _ _ (if (Value.ref l == Value.none)=true then _ else _) _ _ s
 rw [if_neg (show ¬ ((Value.ref l == Value.none)=true) from z_)]
 show wpAny _ _ (field (.ref i) 1 >>= _) _ _ s
 refine wpAny_bind (wpAny_field hoi di (x:=.int k 0) rfl ?_)
 show wpAny _ _ (seqItems? (.ref l) >>= _) _ _ s
 refine wpAny_bind (wpAny_seqItems hol dl ?_)
 simp only [JX,hv]
 refine wpAny_bind (wpAny_rule (wpAny_bind (wpAny_setField hoi di (by simp) ?_)))
 show wpAny _ _ (newExc (.type "StopIteration") [] >>= _) _ _ _
 refine wpAny_bind ?_
 simp only [newExc,newTuple]
 refine wpAny_bind (wpAny_newObj_type ?_ (by size_fits))
 refine wpAny_bind (m:=firstArgMember _ _) (wpAny_of_eq (a:=Value.none) (by first | rfl | (simp only [firstArgMember];rfl)) ?_)
 refine wpAny_newObj_type ?_ (by size_fits)
 simp only [raiseNew]
 refine wpAny_bind (wpAny_handled ?_)
 first | rw [show A.in1.handled=none from hh] | rw [hh]
 refine wpAny_bind (wpAny_pure (wpAny_throw ?_))
 exact r _ _ (((Heap.SameBut.update ..).extBut.push _).push _) ⟨_,Heap.get?_push_size _ rfl,rfl⟩
theorem sI {b:Bool}{i l:Addr}{k:Nat}{xs:Array Value}{v:Value}{Q:Value->Shared->Prop}(d:Dr b s.heap i l k)(q:Sq b s.heap l xs)(hv:xs[k]?=some v)
  (r:∀ g,Dr b g i l (k + 1)->Heap.SameBut i s.heap g->Q v { s with heap:=g }):wpAny (model prog w) A (Builtin.SmallTypes.nextOf (.ref i)) Q E s:=by
 cases b with
 | true=>exact B9 d q hv r
 | false=>exact wpAny_nextOf_list_item d q hv r
theorem Dl {b:Bool}{i l:Addr}{k:Nat}{xs:Array Value}{Q:Value->Shared->Prop}(hh:A.handled=none)(d:Dr b s.heap i l k)(q:Sq b s.heap l xs)(hv:xs[k]?=none)
  (r:∀ g e,Heap.ExtBut i s.heap g->(∃ o,g.get? e=some o/\o.cls=.type "StopIteration")->E (.ref e) { s with heap:=g }):wpAny (model prog w) A (Builtin.SmallTypes.nextOf (.ref i)) Q E s:=by
 cases b with
 | true=>exact FX hh d q hv r
 | false=>exact wpAny_nextOf_list_end hh d q hv r
structure Off (z TI TO i1 i2 l1 l2:Addr):Prop where
 a1:TI≠z
 a2:TO≠z
 a3:i1≠z
 a4:i2≠z
 a5:TI≠TO
 a6:TI≠i1
 a7:TI≠i2
 a8:TO≠i1
 a9:TO≠i2
 b1:i1≠i2
 c1:l1≠z
 c2:l1≠TO
 c3:l1≠i1
 c4:l1≠i2
 e1:l2≠z
 e2:l2≠TO
 e3:l2≠i1
 e4:l2≠i2
theorem HR {b1 b2:Bool}{z TI TO i1 i2 l1 l2:Addr}{k:Nat}{xs ys:Array Value}{x y a b:Value}{Q:Value->Shared->Prop}(D:Off z TI TO i1 i2 l1 l2)
  (hz:IsZip s.heap z TI TO .none) (hi:IsPair s.heap TI (.ref i1) (.ref i2)) (ho:IsPair s.heap TO a b)
  (d1:Dr b1 s.heap i1 l1 k) (d2:Dr b2 s.heap i2 l2 k) (q1:Sq b1 s.heap l1 xs) (q2:Sq b2 s.heap l2 ys) (hx:xs[k]?=some x) (hy:ys[k]?=some y)
  (r:∀ g,IsZip g z TI TO (rawInt s.heap.objs.size)->IsPair g TO x y->Dr b1 g i1 l1 (k + 1)->Dr b2 g i2 l2 (k + 1)->IsPair g s.heap.objs.size x y->g.objs.size=s.heap.objs.size + 1->
   (∀ c o,c≠z->c≠TO->c≠i1->c≠i2->s.heap.get? c=some o->g.get? c=some o)->Q (.ref s.heap.objs.size) { s with heap:=g }) :
  wpAny (model prog w) A (Builtin.«zip.__next__» ⟨[.ref z],[]⟩) (fun fin s'=>∃ v,fin=.done (.ret v)/\Q v s') E s:=by
 show wpAny _ _ (field (.ref z) 2 >>= _) _ _ _
 refine wpAny_bind (wpAny_field hz rfl (x:=.bool false) rfl ?_)
 show wpAny _ _ (field (.ref z) 3 >>= _) _ _ _
 refine wpAny_bind (wpAny_field hz rfl (x:=.ref TI) rfl (wpAny_bind (wpAny_seqItems hi rfl ?_)))
 show wpAny _ _ (Builtin.SmallTypes.ownedTupleIsFree (.ref z) >>= _) _ _ _
 refine wpAny_bind ?_
 unfold Builtin.SmallTypes.ownedTupleIsFree
 refine wpAny_bind (wpAny_field hz rfl (x:=.none) rfl (wpAny_pure ?_))
 simp only [if_true]
 refine wpAny_bind (wpAny_rule (wpAny_bind (wpAny_field hz rfl (x:=.ref TO) rfl (wpAny_bind (wpAny_setField_rec hz (by simp) fun g1 z1 s1=>?_)))))
 have z1:IsZip g1 z TI TO .ellipsis:=z1
 refine wpAny_bind ?_
 simp only [Ml,Nh,My,MI]
 refine wpAny_bind (wpAny_bind (wpAny_onRaise ?_))
 show wpAny _ _ (Builtin.SmallTypes.nextOf (.ref i1) >>= _) _ _ _
 refine wpAny_bind (sI (d1.ext s1.extBut D.a3) (q1.ext s1.extBut D.c1) hx fun g2 w2 s2=>wpAny_pure ?_)
 have o2:IsPair g2 TO a b:=s2.extBut _ _ D.a8 (s1.extBut _ _ D.a2 ho)
 refine wpAny_bind (wpAny_seqItems o2 rfl (wpAny_bind (wpAny_updateSeq_pair o2 fun g3 o3 s3=>?_)))
 have o3:IsPair g3 TO x b:=o3
 refine wpAny_bind (wpAny_letGo (wpAny_pure (wpAny_bind (wpAny_bind (wpAny_onRaise ?_)))))
 show wpAny _ _ (Builtin.SmallTypes.nextOf (.ref i2) >>= _) _ _ _
 refine wpAny_bind (sI (((d2.ext s1.extBut D.a4).ext s2.extBut D.b1.symm).ext s3.extBut D.a9.symm) (((q2.ext s1.extBut D.e1).ext s2.extBut D.e3).ext s3.extBut D.e2) hy fun g4 w4 s4=>wpAny_pure ?_)
 have o4:IsPair g4 TO x b:=s4.extBut _ _ D.a9 o3
 refine wpAny_bind (wpAny_seqItems o4 rfl (wpAny_bind (wpAny_updateSeq_pair o4 fun g5 o5 s5=>?_)))
 have o5:IsPair g5 TO x y:=o5
 refine wpAny_bind (wpAny_letGo (wpAny_pure (wpAny_pure (wpAny_bind (wpAny_seqItems o5 rfl (wpAny_bind (wpAny_newTuple ?_)))))))
 have sz:g5.objs.size=s.heap.objs.size:=by rw [s5.1,s4.1,s3.1,s2.1,s1.1]
 have z5:IsZip g5 z TI TO .ellipsis:=s5.extBut _ _ D.a2.symm (s4.extBut _ _ D.a4.symm (s3.extBut _ _ D.a2.symm (s2.extBut _ _ D.a3.symm z1)))
 have k5:∀ c o,c≠z->c≠TO->c≠i1->c≠i2->s.heap.get? c=some o->g5.get? c=some o:=fun c o n1 n2 n3 n4 e=>
  s5.extBut _ _ n2 (s4.extBut _ _ n4 (s3.extBut _ _ n2 (s2.extBut _ _ n3 (s1.extBut _ _ n1 e))))
 have w15:Dr b1 g5 i1 l1 (k + 1):=((w2.ext s3.extBut D.a8.symm).ext s4.extBut D.b1).ext s5.extBut D.a8.symm
 have w25:Dr b2 g5 i2 l2 (k + 1):=w4.ext s5.extBut D.a9.symm
 have zlt:z < g5.objs.size:=Heap.lt_size z5
 show wpAny _ _ (Builtin.SmallTypes.ownedTupleHandOut (.ref z) (.ref g5.objs.size) >>= _) _ _ _
 refine wpAny_bind ?_
 unfold Builtin.SmallTypes.ownedTupleHandOut
 have z6:IsZip (g5.push { cls:=.type "tuple",data:=.seq #[x,y] }) z TI TO .ellipsis:=Heap.get?_push_of_some _ z5
 refine wpAny_bind (wpAny_setField_rec z6 (by simp) fun g7 z7 s7=>?_)
 have z7:IsZip g7 z TI TO (rawInt g5.objs.size):=z7
 refine wpAny_setField_rec z7 (by simp) fun g8 z8 s8=>?_
 have z8:IsZip g8 z TI TO (rawInt g5.objs.size):=z8
 have up:∀ c o,c≠z->g5.get? c=some o->g8.get? c=some o:=fun c o n e=>s8.extBut _ _ n (s7.extBut _ _ n (Heap.get?_push_of_some _ e))
 have t8:IsPair g8 g5.objs.size x y:=s8.extBut _ _ (Ls zlt) (s7.extBut _ _ (Ls zlt) (Heap.get?_push_size _ rfl))
 have e8:g8.objs.size=g5.objs.size + 1:=by rw [s8.1,s7.1,Heap.size_push]
 rw [sz] at z8 t8 e8
 refine wpAny_pure ⟨_,rfl,?_⟩
 show Q (.ref g5.objs.size) _
 rw [sz]
 exact r g8 z8 (up _ _ D.a2 o5) (w15.at fun o e=>up _ o D.a3 e) (w25.at fun o e=>up _ o D.a4 e) t8 e8 fun c o n1 n2 n3 n4 e=>up c o n1 (k5 c o n1 n2 n3 n4 e)
theorem zEnd {b1 b2:Bool}{z TI TO i1 i2 l1 l2:Addr}{k:Nat}{xs ys:Array Value}{a b:Value}{Q:Fin->Shared->Prop}(hh:A.handled=none)(D:Off z TI TO i1 i2 l1 l2)
  (hz:IsZip s.heap z TI TO .none) (hi:IsPair s.heap TI (.ref i1) (.ref i2)) (ho:IsPair s.heap TO a b)
  (d1:Dr b1 s.heap i1 l1 k) (d2:Dr b2 s.heap i2 l2 k) (q1:Sq b1 s.heap l1 xs) (q2:Sq b2 s.heap l2 ys) (hn:xs[k]?=none\/ys[k]?=none)
  (r:∀ g e,(∀ c o,c≠z->c≠TO->c≠i1->c≠i2->s.heap.get? c=some o->g.get? c=some o)->(∃ o,g.get? e=some o/\o.cls=.type "StopIteration")->E (.ref e) { s with heap:=g }) :
  wpAny (model prog w) A (Builtin.«zip.__next__» ⟨[.ref z],[]⟩) Q E s:=by
 show wpAny _ _ (field (.ref z) 2 >>= _) _ _ _
 refine wpAny_bind (wpAny_field hz rfl (x:=.bool false) rfl ?_)
 show wpAny _ _ (field (.ref z) 3 >>= _) _ _ _
 refine wpAny_bind (wpAny_field hz rfl (x:=.ref TI) rfl (wpAny_bind (wpAny_seqItems hi rfl ?_)))
 show wpAny _ _ (Builtin.SmallTypes.ownedTupleIsFree (.ref z) >>= _) _ _ _
 refine wpAny_bind ?_
 unfold Builtin.SmallTypes.ownedTupleIsFree
 refine wpAny_bind (wpAny_field hz rfl (x:=.none) rfl (wpAny_pure ?_))
 simp only [if_true]
 refine wpAny_bind (wpAny_rule (wpAny_bind (wpAny_field hz rfl (x:=.ref TO) rfl (wpAny_bind (wpAny_setField_rec hz (by simp) fun g1 z1 s1=>?_)))))
 have z1:IsZip g1 z TI TO .ellipsis:=z1
 refine wpAny_bind ?_
 simp only [Ml,Nh,My,MI]
 refine wpAny_bind (wpAny_bind (wpAny_onRaise ?_))
 show wpAny _ _ (Builtin.SmallTypes.nextOf (.ref i1) >>= _) _ _ _
 cases hx:xs[k]? with
 | none=>
  refine wpAny_bind (Dl hh (d1.ext s1.extBut D.a3) (q1.ext s1.extBut D.c1) hx fun g2 e s2 he=>?_)
  obtain⟨oe,hoe,ce⟩:=he
  have z2:IsZip g2 z TI TO .ellipsis:=s2 _ _ D.a3.symm z1
  have ne:e≠z:=fun q=>by subst q;rw [z2] at hoe;cases hoe;simp at ce
  exact wpAny_setField_rec z2 (by simp) fun g3 _ s3=>r g3 e (fun c o n1 _ n3 _ q=>s3.extBut _ _ n1 (s2 _ _ n3 (s1.extBut _ _ n1 q))) ⟨oe,s3.extBut _ _ ne hoe,ce⟩
 | some x=>
  have hy:ys[k]?=none:=by
   rcases hn with h | h
   ·rw [hx] at h;cases h
   ·exact h
  refine wpAny_bind (sI (d1.ext s1.extBut D.a3) (q1.ext s1.extBut D.c1) hx fun g2 w2 s2=>wpAny_pure ?_)
  have o2:IsPair g2 TO a b:=s2.extBut _ _ D.a8 (s1.extBut _ _ D.a2 ho)
  refine wpAny_bind (wpAny_seqItems o2 rfl (wpAny_bind (wpAny_updateSeq_pair o2 fun g3 o3 s3=>?_)))
  refine wpAny_bind (wpAny_letGo (wpAny_pure (wpAny_bind (wpAny_bind (wpAny_onRaise ?_)))))
  show wpAny _ _ (Builtin.SmallTypes.nextOf (.ref i2) >>= _) _ _ _
  refine wpAny_bind (Dl hh (((d2.ext s1.extBut D.a4).ext s2.extBut D.b1.symm).ext s3.extBut D.a9.symm) (((q2.ext s1.extBut D.e1).ext s2.extBut D.e3).ext s3.extBut D.e2) hy fun g4 e s4 he=>?_)
  obtain⟨oe,hoe,ce⟩:=he
  have z4:IsZip g4 z TI TO .ellipsis:=s4 _ _ D.a4.symm (s3.extBut _ _ D.a2.symm (s2.extBut _ _ D.a3.symm z1))
  have ne:e≠z:=fun q=>by subst q;rw [z4] at hoe;cases hoe;simp at ce
  exact wpAny_setField_rec z4 (by simp) fun g5 _ s5=>r g5 e (fun c o n1 n2 n3 n4 q=>s5.extBut _ _ n1 (s4 _ _ n4 (s3.extBut _ _ n2 (s2.extBut _ _ n3 (s1.extBut _ _ n1 q))))) ⟨oe,s5.extBut _ _ ne hoe,ce⟩
theorem qL {b1 b2:Bool}{z TI TO i1 i2 l1 l2:Addr}{k:Nat}{xs ys:Array Value}{x y a b:Value}{Q:Option Value->Shared->Prop}(D:Off z TI TO i1 i2 l1 l2)
  (hz:IsZip s.heap z TI TO .none) (hi:IsPair s.heap TI (.ref i1) (.ref i2)) (ho:IsPair s.heap TO a b)
  (d1:Dr b1 s.heap i1 l1 k) (d2:Dr b2 s.heap i2 l2 k) (q1:Sq b1 s.heap l1 xs) (q2:Sq b2 s.heap l2 ys) (hx:xs[k]?=some x) (hy:ys[k]?=some y)
  (r:∀ g,IsZip g z TI TO (rawInt s.heap.objs.size)->IsPair g TO x y->Dr b1 g i1 l1 (k + 1)->Dr b2 g i2 l2 (k + 1)->IsPair g s.heap.objs.size x y->g.objs.size=s.heap.objs.size + 1->
   (∀ c o,c≠z->c≠TO->c≠i1->c≠i2->s.heap.get? c=some o->g.get? c=some o)->Q (some (.ref s.heap.objs.size)) { s with heap:=g }) :
  wpAny (model prog w) A (pyNext (.ref z)) Q E s:=by
 have hT:s.TypeIs (.ref z) "zip":=⟨_,hz,rfl⟩
 unfold pyNext
 refine wpAny_bind (wpAny_attempt (wpAny_callSpecial?_slot (name:=Str.ofString "__next__") hT F.slot_zip_next (wpAny_call_entry F.slot_zip_next hT F.entry_zip_next ?_ (F.args_zip_next_1 _))))
 exact HR D hz hi ho d1 d2 q1 q2 hx hy fun g p1 p2 p3 p4 p5 p6 p7=>wpAny_pure (r g p1 p2 p3 p4 p5 p6 p7)
theorem sP {b1 b2:Bool}{z TI TO i1 i2 l1 l2:Addr}{k:Nat}{xs ys:Array Value}{a b:Value}{Q:Option Value->Shared->Prop}(hh:A.handled=none)(D:Off z TI TO i1 i2 l1 l2)
  (hz:IsZip s.heap z TI TO .none) (hi:IsPair s.heap TI (.ref i1) (.ref i2)) (ho:IsPair s.heap TO a b)
  (d1:Dr b1 s.heap i1 l1 k) (d2:Dr b2 s.heap i2 l2 k) (q1:Sq b1 s.heap l1 xs) (q2:Sq b2 s.heap l2 ys) (hn:xs[k]?=none\/ys[k]?=none)
  (r:∀ g,(∀ c o,c≠z->c≠TO->c≠i1->c≠i2->s.heap.get? c=some o->g.get? c=some o)->Q none { s with heap:=g }):wpAny (model prog w) A (pyNext (.ref z)) Q E s:=by
 have hT:s.TypeIs (.ref z) "zip":=⟨_,hz,rfl⟩
 unfold pyNext
 refine wpAny_bind (wpAny_attempt (wpAny_callSpecial?_slot (name:=Str.ofString "__next__") hT F.slot_zip_next (wpAny_call_entry F.slot_zip_next hT F.entry_zip_next (zEnd hh D hz hi ho d1 d2 q1 q2 hn fun g e k he=>?_) (F.args_zip_next_1 _))))
 obtain⟨o,he,hc⟩:=he
 exact wpAny_bind (wpAny_isInstance (T:="StopIteration") (b:=true) ⟨o,he,hc⟩ isSubtype_stop (wpAny_pure (r _ k)))
end
def nm (b:Bool):String:=if b=true then "tuple_iterator" else "list_iterator"
abbrev Z1 (h:Heap)(b1:Bool)(l1:Addr):Heap:=h.push { cls:=.type (nm b1),data:=.fields #[.ref l1,.int 0 0] }
abbrev Z2 (h:Heap)(b1 b2:Bool)(l1 l2:Addr):Heap:=(Z1 h b1 l1).push { cls:=.type (nm b2),data:=.fields #[.ref l2,.int 0 0] }
abbrev Z3 (h:Heap)(b1 b2:Bool)(l1 l2:Addr):Heap:=(Z2 h b1 b2 l1 l2).push { cls:=.type "tuple",data:=.seq #[.ref h.objs.size,.ref (Z1 h b1 l1).objs.size] }
abbrev Z4 (h:Heap)(b1 b2:Bool)(l1 l2:Addr):Heap:=(Z3 h b1 b2 l1 l2).push { cls:=.type "tuple",data:=.seq #[.none,.none] }
abbrev Z5 (h:Heap)(b1 b2:Bool)(l1 l2:Addr):Heap:=(Z4 h b1 b2 l1 l2).push { cls:=.type "zip",data:=.fields #[.none,.bool false,.bool false,.ref (Z2 h b1 b2 l1 l2).objs.size,.ref (Z3 h b1 b2 l1 l2).objs.size] }
set_option maxHeartbeats 4000000 in
theorem C0 (b1 b2:Bool)(l1 l2:Addr)(xs ys:Array Value) :
  Meets (Builtin.«zip.__new__» ⟨[.type "zip",.ref l1,.ref l2],[]⟩) (fun _ R s=>Sq b1 s.heap l1 xs/\Sq b2 s.heap l2 ys/\R (.ok (.ret (.ref (Z4 s.heap b1 b2 l1 l2).objs.size))) { s with heap:=Z5 s.heap b1 b2 l1 l2 }):=
 .of_wp fun prog w A R s h=>by
  obtain⟨hp,g,d,tk,os⟩:=s
  obtain⟨q1,q2,h⟩:=h
  have hsub:=sub_zip
  cases b1 with
  | false=>
   have p1:Heap.IsList (Shared.heap ⟨hp,g,d,tk,os⟩) l1 xs:=q1
   cases b2 with
   | false=>
    have p2:Heap.IsList (Shared.heap ⟨hp.push { cls:=.type "list_iterator",data:=.fields #[.ref l1,.int 0 0] },g,d,tk,os⟩) l2 ys:=Heap.IsList.push q2 _
    wp_walk using wpAny_pyIter_list p1,wpAny_pyIter_list p2
    exact⟨_,rfl,h⟩
   | true=>
    have p2:Heap.IsTuple (Shared.heap ⟨hp.push { cls:=.type "list_iterator",data:=.fields #[.ref l1,.int 0 0] },g,d,tk,os⟩) l2 ys:=Heap.IsTuple.push q2 _
    wp_walk using wpAny_pyIter_list p1,wpAny_pyIter_tuple p2
    exact⟨_,rfl,h⟩
  | true=>
   have p1:Heap.IsTuple (Shared.heap ⟨hp,g,d,tk,os⟩) l1 xs:=q1
   cases b2 with
   | false=>
    have p2:Heap.IsList (Shared.heap ⟨hp.push { cls:=.type "tuple_iterator",data:=.fields #[.ref l1,.int 0 0] },g,d,tk,os⟩) l2 ys:=Heap.IsList.push q2 _
    wp_walk using wpAny_pyIter_tuple p1,wpAny_pyIter_list p2
    exact⟨_,rfl,h⟩
   | true=>
    have p2:Heap.IsTuple (Shared.heap ⟨hp.push { cls:=.type "tuple_iterator",data:=.fields #[.ref l1,.int 0 0] },g,d,tk,os⟩) l2 ys:=Heap.IsTuple.push q2 _
    wp_walk using wpAny_pyIter_tuple p1,wpAny_pyIter_tuple p2
    exact⟨_,rfl,h⟩
section
variable {prog:Program}{w:World}{A:Around}{E:Value->Shared->Prop}{s:Shared}
theorem yg {b1 b2:Bool}{l1 l2:Addr}{xs ys:Array Value}{Q:Value->Shared->Prop}(q1:Sq b1 s.heap l1 xs)(q2:Sq b2 s.heap l2 ys)
  (r:∀ g,IsZip g (s.heap.objs.size + 4) (s.heap.objs.size + 2) (s.heap.objs.size + 3) .none->IsPair g (s.heap.objs.size + 2) (.ref s.heap.objs.size) (.ref (s.heap.objs.size + 1))->IsPair g (s.heap.objs.size + 3) .none .none->
    Dr b1 g s.heap.objs.size l1 0->Dr b2 g (s.heap.objs.size + 1) l2 0->g.objs.size=s.heap.objs.size + 5->(∀ c o,s.heap.get? c=some o->g.get? c=some o)->Q (.ref (s.heap.objs.size + 4)) { s with heap:=g }) :
  wpAny (model prog w) A (call (.type "zip") [.ref l1,.ref l2]) Q E s:=by
 refine callType_new F.called_zip (by decide) (F.typeCall_zip_2 _ _) (F.newCall_zip_2 _ _) (fun obj=>F.args_object_init_3 obj _ _) F.entry_zip_new (C0 b1 b2 l1 l2 xs ys) ⟨q1,q2,?_⟩
 have z1:(Z1 s.heap b1 l1).objs.size=s.heap.objs.size + 1:=Heap.size_push ..
 have z2:(Z2 s.heap b1 b2 l1 l2).objs.size=s.heap.objs.size + 2:=by rw [Heap.size_push,z1]
 have z3:(Z3 s.heap b1 b2 l1 l2).objs.size=s.heap.objs.size + 3:=by rw [Heap.size_push,z2]
 have z4:(Z4 s.heap b1 b2 l1 l2).objs.size=s.heap.objs.size + 4:=by rw [Heap.size_push,z3]
 have z5:(Z5 s.heap b1 b2 l1 l2).objs.size=s.heap.objs.size + 5:=by rw [Heap.size_push,z4]
 have u5:∀ c o,(Z4 s.heap b1 b2 l1 l2).get? c=some o->(Z5 s.heap b1 b2 l1 l2).get? c=some o:=fun c o e=>Heap.get?_push_of_some _ e
 have u4:∀ c o,(Z3 s.heap b1 b2 l1 l2).get? c=some o->(Z5 s.heap b1 b2 l1 l2).get? c=some o:=fun c o e=>u5 c o (Heap.get?_push_of_some _ e)
 have u3:∀ c o,(Z2 s.heap b1 b2 l1 l2).get? c=some o->(Z5 s.heap b1 b2 l1 l2).get? c=some o:=fun c o e=>u4 c o (Heap.get?_push_of_some _ e)
 have u2:∀ c o,(Z1 s.heap b1 l1).get? c=some o->(Z5 s.heap b1 b2 l1 l2).get? c=some o:=fun c o e=>u3 c o (Heap.get?_push_of_some _ e)
 have g5:(Z5 s.heap b1 b2 l1 l2).get? (Z4 s.heap b1 b2 l1 l2).objs.size=some _:=Heap.get?_push_size _ rfl
 have g4:=u5 (Z3 s.heap b1 b2 l1 l2).objs.size _ (Heap.get?_push_size _ rfl)
 have g3:=u4 (Z2 s.heap b1 b2 l1 l2).objs.size _ (Heap.get?_push_size _ rfl)
 have g2:=u3 (Z1 s.heap b1 l1).objs.size _ (Heap.get?_push_size _ rfl)
 have g1:=u2 s.heap.objs.size _ (Heap.get?_push_size _ rfl)
 show _/\_
 rw [z2,z3,z4] at g5
 rw [z1,z2] at g3
 rw [z3] at g4
 rw [z1] at g2
 rw [z4]
 refine⟨⟨_,g5,rfl⟩,r _ g5 g3 g4 ?_ ?_ z5 fun c o e=>u2 c o (Heap.get?_push_of_some _ e)⟩
 ·cases b1 with
  | true=>exact⟨_,g1,rfl,rfl⟩
  | false=>exact⟨_,g1,rfl,rfl⟩
 ·cases b2 with
  | true=>exact⟨_,g2,rfl,rfl⟩
  | false=>exact⟨_,g2,rfl,rfl⟩
end
end ZG
namespace L2
open PySem PySem.Spec PyProof.Rows
def eC (env:Env):List (Str × NameKind)->List (Str × Addr)->List (Str × Addr)
 | [],cs=>cs
 | x::r,cs=>eC env r (if (x.2 == NameKind.free)=true then (x.1,(env.cells.lookup x.1).getD 0)::cs else cs)
theorem mX {env:Env}(f:Str × NameKind->List (Str × Addr)->Sem (ForInStep (List (Str × Addr))))(hf:∀ n k cs,f (n,k) cs=if (k == NameKind.free)=true then (do let a <-cellOf env n;pure (ForInStep.yield ((n,a)::cs))) else pure (ForInStep.yield cs)) :
  ∀ (names:List (Str × NameKind)) (cs:List (Str × Addr)),(∀ x∈names,x.2=.free->∃ c,env.cells.lookup x.1=some c)->forIn names cs f=pure (eC env names cs)
 | [],cs,_=>by rw [MI];rfl
 | (n,k)::r,cs,h=>by
  rw [My,hf]
  have hr:∀ x∈r,x.2=.free->∃ c,env.cells.lookup x.1=some c:=fun x hx=>h x (o_ _ hx)
  by_cases e:(k == NameKind.free)=true
  ·obtain⟨c,hc⟩:=h (n,k) t_ (by simpa using e)
   have hc':env.cells.lookup n=some c:=hc
   rw [if_pos e]
   have q:cellOf env n=pure c:=by unfold cellOf;rw [hc']
   rw [q,pure_bind,pure_bind]
   show forIn r ((n,c)::cs) f=pure (eC env ((n,k)::r) cs)
   rw [mX f hf r _ hr]
   unfold eC
   rw [if_pos e,hc']
   cases r <;> rfl
  ·rw [if_neg e,pure_bind]
   show forIn r cs f=pure (eC env ((n,k)::r) cs)
   rw [mX f hf r _ hr]
   conv=>rhs;unfold eC
   rw [if_neg e]
theorem lW {sc:Scope}{env:Env}(h:∀ x∈sc.names,x.2=.free->∃ c,env.cells.lookup x.1=some c):closureFor sc env=pure (eC env sc.names []):=by
 unfold closureFor
 show (forIn sc.names [] _ >>= fun cs=>pure cs)=_
 rw [mX (env:=env) _ (fun n k cs=>by cases e:k == NameKind.free <;> simp [e]) sc.names [] h]
 rfl
theorem qX {env:Env}:∀ {names:List (Str × NameKind)} {cs:List (Str × Addr)} {x:Str} {c:Addr},(∀ y∈names,y.2=.free->∃ c,env.cells.lookup y.1=some c)->(eC env names cs).lookup x=some c->
  (env.cells.lookup x=some c/\(x,NameKind.free)∈names)\/cs.lookup x=some c
 | [],cs,x,c,_,h=>.inr h
 | (n,k)::r,cs,x,c,hn,h=>by
  unfold eC at h
  have hr:∀ y∈r,y.2=.free->∃ c,env.cells.lookup y.1=some c:=fun y hy=>hn y (o_ _ hy)
  have hh:=qX hr h
  clear h
  rcases hh with⟨h1,h2⟩ | h
  ·exact .inl ⟨h1,o_ _ h2⟩
  ·by_cases e:(k == NameKind.free)=true
   ·rw [if_pos e] at h
    obtain⟨c',hc⟩:=hn (n,k) t_ (by simpa using e)
    have hc':env.cells.lookup n=some c':=hc
    rw [hc',Lf] at h
    by_cases ex:(x == n)=true
    ·rw [ex] at h
     have ex':x=n:=by simpa using ex
     have ek:k=NameKind.free:=by simpa using e
     subst ex' ek
     have h':c'=c:=x_ h
     subst h'
     exact .inl ⟨hc',t_⟩
    ·have ex':(x == n)=false:=by simpa using ex
     rw [ex'] at h
     exact .inr h
   ·rw [if_neg e] at h
    exact .inr h
theorem rC {env:Env}:∀ {names:List (Str × NameKind)} {cs:List (Str × Addr)} {x:Str} {c:Addr},(∀ y∈names,y.2=.free->∃ c,env.cells.lookup y.1=some c)->env.cells.lookup x=some c->cs.lookup x=some c->(eC env names cs).lookup x=some c
 | [],cs,x,c,_,_,h=>h
 | (n,k)::r,cs,x,c,hn,he,h=>by
  unfold eC
  refine rC (fun y hy=>hn y (o_ _ hy)) he ?_
  by_cases e:(k == NameKind.free)=true
  ·rw [if_pos e,Lf]
   by_cases ex:(x == n)=true
   ·rw [ex]
    have ex':x=n:=by simpa using ex
    subst ex'
    show some ((env.cells.lookup x).getD 0)=some c
    rw [he];rfl
   ·have ex':(x == n)=false:=by simpa using ex
    rw [ex']
    exact h
  ·rw [if_neg e]
   exact h
theorem pO {env:Env}:∀ {names:List (Str × NameKind)} {cs:List (Str × Addr)} {x:Str} {c:Addr},(∀ y∈names,y.2=.free->∃ c,env.cells.lookup y.1=some c)->env.cells.lookup x=some c->(x,NameKind.free)∈names->(eC env names cs).lookup x=some c
 | (n,k)::r,cs,x,c,hn,he,hm=>by
  have hr:∀ y∈r,y.2=.free->∃ c,env.cells.lookup y.1=some c:=fun y hy=>hn y (o_ _ hy)
  unfold eC
  rcases m_.mp hm with e | hm
  ·obtain⟨rfl,rfl⟩:=Prod.mk.inj e
   rw [if_pos (by rfl)]
   refine rC hr he ?_
   rw [Lf,beq_self_eq_true]
   show some ((env.cells.lookup x).getD 0)=some c
   rw [he];rfl
  ·exact pO hr he hm
def lS (env:Env)(sc:Scope):Scope:={ sc with names:=sc.names.map fun x=>if (x.2 == .free && env.scope.kind == .function && env.kindOf x.1 == some .cell)=true then (x.1,.cell) else (x.1,x.2) }
theorem jr {f:Str × NameKind->Bool}(x:Str):∀ names:List (Str × NameKind),(names.map fun y=>if f y=true then (y.1,NameKind.cell) else (y.1,y.2)).lookup x=(names.lookup x).map fun k=>if f (x,k)=true then .cell else k
 | []=>rfl
 | (n,k)::r=>by
  rw [f']
  by_cases ex:(x == n)=true
  ·have ex':x=n:=by simpa using ex
   subst ex'
   cases e:f (x,k) <;> simp [e,Lf]
  ·have ex':(x == n)=false:=by simpa using ex
   have ih:=jr (f:=f) x r
   cases e:f (n,k) <;> simp only [e,if_true,if_false,JS,Lf,ex',ih]
theorem jG (env:Env)(sc:Scope)(x:Str):(lS env sc).names.lookup x=(sc.names.lookup x).map fun k=>if (k == .free && env.scope.kind == .function && env.kindOf x == some .cell)=true then .cell else k:=
 jr (f:=fun y=>(y.2 == .free && env.scope.kind == .function && env.kindOf y.1 == some .cell)) x sc.names
def compEnv (env:Env)(sc:Scope)(L:Addr):Env:={ newEnv sc L env.globals (eC env sc.names []) env.qual none .none (some env) builtinsNs with scope:=lS env sc }
section
variable {M:Model}{A:Around}{E:Value->Shared->Prop}{s:Shared}{env:Env}
theorem k9 {e:Expr}{scope:Scope}{pos:Pos}{newAcc first:Sem Value}{g:Comprehension}{gs:List Comprehension}{Q:Value->Shared->Prop}
  (hcl:clausesOf e=g::gs) (hs:∀ x,foldedSetIterable g.iter env x=pure x)
  (hc:∀ x∈scope.names,x.2≠.cell) (hfr:∀ x∈scope.names,x.2=.free->∃ c,env.cells.lookup x.1=some c) (hkind:scope.kind=.function) (hnames:∀ x∈scope.names,x.2=.local->scope.names.lookup x.1=some .local)
  (h:wpAny M A first (fun x s₁=>wpAny M A (pyIter x) (fun it s₂=>wpAny M A newAcc (fun acc s₃=>
   ∀ h4,h4.Ns s₃.heap.objs.size (fun _=>none)->(∀ b o,s₃.heap.get? b=some o->h4.get? b=some o)->
    codeAny M A (.compStart e 0 it acc (compEnv env scope s₃.heap.objs.size)) (fun r s'=>∃ m,s'.heap.Ns s₃.heap.objs.size m/\∀ h',Heap.SameBut s₃.heap.objs.size s'.heap h'->
     match r with | .ok _=>Q acc { s' with heap:=h' } | .error x=>False) { s₃ with heap:=h4 }) E s₂) E s₁) E s) :
  wpAny M A (comprehension e scope env pos newAcc false first) Q E s:=by
 unfold comprehension
 rw [lW hfr,hcl]
 refine wpAny_bind (wpAny_mono h (fun x s₁ h₁=>wpAny_bind (wpAny_standAt (wpAny_bind (wpAny_of_eq (hs x) (wpAny_bind (wpAny_holding (wpAny_mono h₁ (fun it s₂ h₂=>
  wpAny_standIf (wpAny_bind (wpAny_mono h₂ (fun acc s₃ h₃=>wpAny_bind (wpAny_pure (wpAny_bind ?_))) fun _ _ h'=>h')))
   fun _ _ h'=>h'))))))) fun _ _ h'=>h')
 refine wpAny_newFunctionEnv hc (fun x hx=>nomatch hx) (fun h4 hn4 hs4=>?_) hkind
 have h₄:=h₃ h4 hn4 fun b o e=>hs4.extBut b o (q_ (Heap.lt_size e)) (Heap.get?_push_of_some _ e)
 dsimp only
 have hv:∀ x∈(scope.names.filter fun x=>(x.2 == .local || x.2 == .cell) && x.1 != (".0":Str)).reverse,x.2=.local->
   Env.kindOf (compEnv env scope s₃.heap.objs.size) x.1=some .local:=fun x hx hl=>by
  show (lS env scope).names.lookup x.1=some .local
  rw [jG,hnames x (JV.mp (LO.mp hx)).1 hl]
  rfl
 refine wpAny_holding (wpAny_bind (wpAny_attempt (wpAny_holding (wpAny_run (codeAny_mono h₄ fun r s' hr=>?_)))))
 obtain⟨m,hn,hr⟩:=hr
 cases r with
 | ok f=>exact wpAny_bind (wpAny_holding (wpAny_comp_letGo (cenv:=compEnv env scope s₃.heap.objs.size) hkind _ s' m hv hn fun h' m' _ hs'=>wpAny_pure (hr h' hs')))
 | error x=>exact (hr s'.heap (.refl ..)).elim
end
section
variable {prog:Program}{w:World}{A:Around}{R:Result->Shared->Prop}{s:Shared}
theorem kT {elt target iter:Expr}{ifs:List Expr}{scope:Scope}{pos:Pos}{it acc:Value}{env:Env}(I:Nat->Shared->Prop)
  (turn:∀ n s,I n s->wpAny (model prog w) A (pyNext it) (fun r s₁=>match r with
   | none=>R (.ok .next) s₁
   | some v=>wpAny (model prog w) A (letOwnedTupleGo target it v) (fun _ s₁'=>wpAny (model prog w) A (assign target env v) (fun _ s₂=>
     wpAny (model prog w) A (forIn ifs true fun c r=>if r=true then do let ok <-isTrue c env (eval c env);pure (ForInStep.yield ok) else pure (ForInStep.yield r)) (fun ok s₃=>
      if ok=true then wpAny (model prog w) A (eval elt env) (fun x s₄=>
       wpAny (model prog w) A (call (.builtin "list.append") [acc,x]) (fun _ s₅=>∃ m,m < n/\I m s₅) (fun _ _=>False) s₄) (fun _ _=>False) s₃
      else ∃ m,m < n/\I m s₃) (fun _ _=>False) s₂) (fun _ _=>False) s₁') (fun _ _=>False) s₁) (fun _ _=>False) s)
  (n:Nat) (h:I n s) :
  codeAny (model prog w) A (.compLoop (.ListComp elt [⟨target,iter,ifs,0⟩] scope pos) 0 it acc env) R s:=by
 refine codeAny_loop rfl I (fun n s hI=>?_) n h
 show wpAny _ A ((compTurn (.ListComp elt [⟨target,iter,ifs,0⟩] scope pos) 0 it acc env).onRaise (fun x=>do noteFrame x env;theTreesLotGoes x)) _ _ s
 refine wpAny_noted ?_
 rw [compTurn_list]
 refine wpAny_bind (wpAny_standAt (wpAny_bind (wpAny_mono (turn n s hI) (fun r s₁ h₁=>?_) fun _ _ h'=>h'.elim)))
 cases r with
 | none=>exact wpAny_pure h₁
 | some v=>
  refine wpAny_bind (wpAny_mono h₁ (fun _ s₁' h₁'=>?_) fun _ _ h'=>h'.elim)
  refine wpAny_bind (wpAny_mono h₁' (fun _ s₂ h₂=>wpAny_bind (wpAny_mono h₂ (fun ok s₃ h₃=>?_) fun _ _ h'=>h'.elim)) fun _ _ h'=>h'.elim)
  cases ok with
  | false=>exact wpAny_pure ⟨rfl,h₃⟩
  | true=>
   exact wpAny_bind (wpAny_bind (wpAny_mono h₃ (fun x s₄ h₄=>wpAny_bind (wpAny_mono h₄ (fun _ s₅ h₅=>wpAny_pure (wpAny_pure ⟨rfl,h₅⟩)) fun _ _ h'=>h'.elim)) fun _ _ h'=>h'.elim))
end
def aP (X:Cx)(N':List Str)(sc:Scope)(s3:Shared)(H3:Hp)(fp:List Addr):Cx where
 prog:=X.prog
 w:=X.w
 K:=X.K
 mg:=X.mg
 base:=X.base
 A:=X.A
 N:=N'
 s₀:=s3
 H₀:=H3
 env:=compEnv X.env sc s3.heap.objs.size
 outer:=X.stack
 stack:=X.stack
 ex:=fp
 calm:=true
 fn:=fun _=>false
 pn:=[]
 xe:=fun _ _=>False
def iu (N:List Str)(esc sc:Scope)(N':List Str)(fr:List (Option Nat)):Bool:=
 sc.kind == .function && esc.kind == .function
 && sc.names.all (fun y=>(y.2 != .cell) && (y.2 != .free || esc.names.lookup y.1 == some .cell) && (y.2 != .local || sc.names.lookup y.1 == some .local))
 && fr.length == N'.length
 && (y_ N'.length).all (fun i=>match fr[i]? with
  | some (some j)=>match N'[i]? with
   | some x=>N[j]? == some x && sc.names.lookup x == some .free
   | none=>false
  | _=>true)
structure CompOk (N:List Str) (esc sc:Scope) (N':List Str) (fr:List (Option Nat)):Prop where
 kind:sc.kind=.function
 ekind:esc.kind=.function
 nocell:∀ x∈sc.names,x.2≠.cell
 free:∀ x∈sc.names,x.2=.free->esc.names.lookup x.1=some .cell
 names:∀ x∈sc.names,x.2=.local->sc.names.lookup x.1=some .local
 len:fr.length=N'.length
 at_:∀ (i j:Nat) (x:Str),fr[i]?=some (some j)->N'[i]?=some x->N[j]?=some x/\sc.names.lookup x=some .free
theorem nO {N:List Str}{esc sc:Scope}{N':List Str}{fr:List (Option Nat)}(h:iu N esc sc N' fr=true):CompOk N esc sc N' fr:=by
 unfold iu at h
 simp only [C_,beq_iff_eq,Kf,KQ] at h
 obtain⟨⟨⟨⟨h1,h2⟩,h3⟩,h4⟩,h5⟩:=h
 refine⟨h1,h2,fun x hx=>?_,fun x hx e=>?_,fun x hx e=>?_,h4,fun i j x e1 e2=>?_⟩
 ·have:=(h3 x hx).1.1
  simpa using this
 ·have:=(h3 x hx).1.2
  rw [e] at this
  simpa using this
 ·have:=(h3 x hx).2
  rw [e] at this
  simpa using this
 ·have hi:i < N'.length:=(e_.mp e2).1
  have q:=h5 i hi
  rw [e1,e2] at q
  simpa using q
def cQ (fr:List (Option Nat))(σ:St):St:=fr.map fun o=>match o with
 | some j=>(σ[j]?).join
 | none=>none
theorem rT {X:Cx}{pins:List (Addr × Obj)}{σ:St}{H3:Hp}{s3:Shared}{sc:Scope}{N':List Str}{fr:List (Option Nat)}{fp:List Addr}{h4:Heap}(I:Inv X pins σ H3 s3)(C:CompOk X.N X.env.scope sc N' fr)(hc:X.calm=true)
  (hfp:∀ b∈fp,iX X pins H3 b) (hfo:∀ b∈fp,∃ o,s3.heap.get? b=some o) (hn:h4.Ns s3.heap.objs.size (fun _=>none)) (hk:∀ b o,s3.heap.get? b=some o->h4.get? b=some o) :
  Inv (aP X N' sc s3 H3 fp) [] (cQ fr σ) H3 { s3 with heap:=h4 }:=by
 have hfr:∀ x∈sc.names,x.2=.free->∃ c,X.env.cells.lookup x.1=some c:=fun x hx e=>I.ok.has x.1 (.inl (C.free x hx e))
 have clo:∀ {x c},(eC X.env sc.names []).lookup x=some c->X.env.cells.lookup x=some c:=fun {x c} e=>by
  rcases qX hfr e with⟨h1,_⟩ | h
  ·exact h1
  ·cases h
 have nfs:∀ b∈fp,b ∉ frs X.stack:=fun b hb z=>by
  obtain⟨_,h1,h2,_⟩:=hfp b hb
  rcases m_.mp (I.tX b z) with e | e
  ·exact h1 e
  ·exact h2 e
 have hfresh:H3 s3.heap.objs.size=none:=I.hok.fresh (c_ _)
 refine⟨⟨I.ok.mod,C.kind,I.ok.glob,I.ok.blt,c_ _,fun x y c e1 e2=>I.ok.inj x y c (clo e1) (clo e2),fun x hx=>?_,fun x c z=>(nomatch z),fun _=>I.ok.hd hc,I.ok.frames,.inl rfl,fun b hb=>⟨?_,fun x c e=>?_⟩,fun b o e=>I.bs b o e,r_ I.ok.bsz I.sz,fun b o e hb=>?_,nfs,I.stack,I.uf⟩,
  rfl,I.bare,Un.kept hk,⟨_,hn,fun i x v e1 e2 e3=>?_⟩,fun x c e=>?_,hfresh,fun x c e=>I.freeC x c (clo e),fun p hp=>(nomatch hp),I.hok.kept hk,?_⟩
 ·have hx:(lS X.env sc).names.lookup x=some .cell\/(lS X.env sc).names.lookup x=some .free:=hx
  rw [jG] at hx
  cases e:sc.names.lookup x with
  | none=>rw [e] at hx;rcases hx with z | z <;> cases z
  | some k=>
   have hm:(x,k)∈sc.names:=PySem.mem_of_lookup e
   have hk:k=.free:=by
    rw [e] at hx
    cases k with
    | free=>rfl
    | cell=>exact absurd rfl (C.nocell _ hm)
    | _=>rcases hx with z | z <;> (simp at z)
   subst hk
   obtain⟨c,hc'⟩:=hfr _ hm rfl
   exact⟨c,pO hfr hc' hm⟩
 ·obtain⟨o,ho⟩:=hfo b hb
  exact q_ (Heap.lt_size ho)
 ·exact (hfp b hb).2.2.2.2.1 x c (clo e)
 ·obtain⟨e1,_⟩:=I.ok.bs b o e
  rcases (hfp b hb).2.2.2.1 with z | z
  ·exact I.ok.noex b o e z
  ·exact absurd (v_ (Heap.lt_size e1) z) (Kt _)
 ·have e2:(cQ fr σ)[i]?=some (some v):=e2
  unfold cQ at e2
  rw [w_] at e2
  cases ef:fr[i]? with
  | none=>rw [ef] at e2;cases e2
  | some o=>
   rw [ef] at e2
   cases o with
   | none=>cases e2
   | some j=>
    have e2':(σ[j]?).join=some v:=by simpa using e2
    have e2'':σ[j]?=some (some v):=by
     cases q:σ[j]? with
     | none=>rw [q] at e2';cases e2'
     | some z=>rw [q] at e2';exact congrArg some e2'
    obtain⟨hN,hfrx⟩:=C.at_ i j x ef e1
    have hm:(x,NameKind.free)∈sc.names:=PySem.mem_of_lookup hfrx
    have hcell:=C.free _ hm rfl
    obtain⟨m,_,hl⟩:=I.loc
    obtain⟨u,r,l⟩:=hl j x v hN e2'' (.inr (.inl hcell))
    refine⟨u,r,.inr ⟨.inl ?_,?_⟩⟩
    ·show (lS X.env sc).names.lookup x=some .cell
     rw [jG,hfrx]
     have h1:X.env.kindOf x=some .cell:=hcell
     have h2:X.env.scope.kind=.function:=C.ekind
     simp [h1,h2]
    ·rcases l with⟨k,_⟩ | ⟨_,c,ec,ic⟩
     ·have h1:X.env.kindOf x=some .cell:=hcell
      rw [h1] at k;cases k
     ·obtain⟨o,ho,hd⟩:=ic
      exact⟨c,pO hfr ec hm,o,hk c o ho,hd⟩
 ·obtain⟨v,o,ho,hd⟩:=I.cell x c (clo e)
  exact⟨v,o,hk c o ho,hd⟩
 ·unfold cQ
  rw [b_]
  exact C.len
def PTs (X:Cx)(ifs:List Expr)(t:TT):Prop:=
 ∀ (pins:List (Addr × Obj)) (s:Shared) (σ:St) (H:Hp) (Q:Bool->Hp->Prop),Inv X pins σ H s->t σ H Q->
  wpAny (model X.prog X.w) X.A (forIn ifs true fun c r=>if r=true then do let ok <-isTrue c X.env (eval c X.env);pure (ForInStep.yield ok) else pure (ForInStep.yield r)) (TP X pins σ Q) X.xe s
def FO:TT:=fun _ H Q=>Q true H
theorem uK {X:Cx}:PTs X [] FO:=fun pins s σ H Q I h=>wpAny_tests_nil ⟨H,I,h⟩
theorem CP {X:Cx}{c:Expr}{t:TT}(h:PT X c t):PTs X [c] t:=fun pins s σ H Q I q=>wpAny_tests_one (h pins s σ H Q I q)
def DL (J:It)(fr:List (Option Nat))(g:Shared->Hp->List Addr->TG)(tt:Shared->Hp->List Addr->TT)(te:Shared->Hp->List Addr->TE)(σ:St)(H1:Hp)(Q:VK):Prop:=∀ p,H1 p=none->∀ s3 H3' fp,∃ W:Nat->Nat->St->Hp->Prop,(∃ m,W 0 m (cQ fr σ) (upd H1 p (.lst [])))/\∀ i m σ' H',W i m σ' H'->
 (J.stop i H'/\Q (.ref p) H')\/(J.go i H'/\∀ x H2,J.yld i H' x H2->g s3 H3' fp x σ' H2 fun σ2 H3=>tt s3 H3' fp σ2 H3 fun b H4=>
  if b=true then te s3 H3' fp σ2 H4 fun v H5=>∃ ys,H5 p=some (.lst ys)/\ys.length < sizeLine/\∃ m',m' < m/\W (i + 1) m' σ2 (upd H5 p (.lst (ys++[v]))) else ∃ m',m' < m/\W (i + 1) m' σ2 H4)
def v3 (wi:TI)(fr:List (Option Nat))(g:Shared->Hp->List Addr->TG)(tt:Shared->Hp->List Addr->TT)(te:Shared->Hp->List Addr->TE):TE:=fun σ H Q=>wi σ H fun J H1=>DL J fr g tt te σ H1 Q
theorem CA {X:Cx}(N':List Str)(fr:List (Option Nat)){elt target iter:Expr}{ifs:List Expr}{sc:Scope}{pos:Pos}{wi:TI}{g:Shared->Hp->List Addr->TG}{tt:Shared->Hp->List Addr->TT}{te:Shared->Hp->List Addr->TE}(hc:X.calm=true)(C:iu X.N X.env.scope sc N' fr=true)
  (hi:PI X target iter wi) (hg:∀ s3 H3 fp,PG (aP X N' sc s3 H3 fp) target (g s3 H3 fp)) (ht:∀ s3 H3 fp,PTs (aP X N' sc s3 H3 fp) ifs (tt s3 H3 fp)) (he:∀ s3 H3 fp,PE (aP X N' sc s3 H3 fp) elt (te s3 H3 fp))
  (hs:∀ x,foldedSetIterable iter X.env x=pure x:=by intro _;rfl):PE X (.ListComp elt [⟨target,iter,ifs,0⟩] sc pos) (v3 wi fr g tt te):=by
 have C:=nO C
 intro pins s σ H Q I h
 rw [eval_ListComp]
 have hfr:∀ x∈sc.names,x.2=.free->∃ c,X.env.cells.lookup x.1=some c:=fun x hx e=>I.ok.has x.1 (.inl (C.free x hx e))
 refine k9 (g:=⟨target,iter,ifs,0⟩) (gs:=[]) rfl hs C.nocell hfr C.kind C.names ?_
 show wpAny _ _ (eval iter X.env) _ _ s
 refine thn (hi pins s σ H _ I h) fun v s1 h1=>thn h1 fun itv s2 h2=>?_
 obtain⟨it,fp,tn,J,H2,e,I2,T,st2,f2,k2⟩:=h2
 subst e
 refine wpAny_newList ?_ (by show 0<=sizeLine;decide)
 have hf:H2 s2.heap.objs.size=none:=I2.hok.fresh (c_ _)
 obtain⟨W,⟨m0,w0⟩,turn⟩:=k2 _ hf { s2 with heap:=s2.heap.push { cls:=.type "list",data:=.seq ([]:List Value).toArray } } (upd H2 s2.heap.objs.size (.lst [])) fp
 have kp:∀ b u,s2.heap.get? b=some u->(s2.heap.push { cls:=.type "list",data:=.seq ([]:List Value).toArray }).get? b=some u:=fun b u e=>Heap.get?_push_of_some _ e
 have I3:Inv X pins σ (upd H2 s2.heap.objs.size (.lst [])) { s2 with heap:=s2.heap.push { cls:=.type "list",data:=.seq ([]:List Value).toArray } }:=
  I2.laid (t':=s2.toks) kp (c_ _) ⟨B_ _,[],0,.nil,Heap.get?_push_size _ rfl⟩
 have obj2:=T.obj 0 s2.heap st2
 have fpne:∀ b∈fp,b≠s2.heap.objs.size:=fun b hb=>by
  obtain⟨o,ho,_⟩:=obj2 b hb
  exact q_ (Heap.lt_size ho)
 have f3:∀ b∈fp,iX X pins (upd H2 s2.heap.objs.size (.lst [])) b:=fun b hb=>⟨by rw [aD (fpne b hb)];exact (f2 b hb).1,(f2 b hb).2⟩
 have st3:=T.keep 0 s2.heap _ st2 fun b hb o e=>kp b o e
 have obj3:=T.obj 0 _ st3
 intro h4 hn4 hk4
 have st4:=T.keep 0 _ h4 st3 fun b hb o e=>hk4 b o e
 have I4:=rT (N':=N') (fr:=fr) (fp:=fp) I3 C hc f3 (fun b hb=>let ⟨o,ho,_⟩:=obj3 b hb;⟨o,ho⟩) hn4 hk4
 have stat:∀ {H':Hp},(∀ b∈fp,H' b=none)->∀ b∈fp,iX (aP X N' sc { s2 with heap:=s2.heap.push { cls:=.type "list",data:=.seq ([]:List Value).toArray } } (upd H2 s2.heap.objs.size (.lst [])) fp) [] H' b:=fun hn b hb=>
  ⟨hn b hb,(I4.ok.exf b hb).1,I4.ok.exfs b hb,.inl hb,(I4.ok.exf b hb).2,fun p hp=>(nomatch hp)⟩
 have loop:codeAny (model X.prog X.w) X.A (.compLoop (.ListComp elt [⟨target,iter,ifs,0⟩] sc pos) 0 (.ref it) (.ref s2.heap.objs.size) (compEnv X.env sc (s2.heap.push { cls:=.type "list",data:=.seq ([]:List Value).toArray }).objs.size))
   (fun r s'=>∃ m,s'.heap.Ns (s2.heap.push { cls:=.type "list",data:=.seq ([]:List Value).toArray }).objs.size m/\∀ h',Heap.SameBut (s2.heap.push { cls:=.type "list",data:=.seq ([]:List Value).toArray }).objs.size s'.heap h'->
    match r with | .ok _=>EP X pins σ Q (.ref s2.heap.objs.size) { s' with heap:=h' } | .error x=>False) { s2 with heap:=h4 }:=by
  refine kT (fun n s'=>∃ i σ' H',Inv (aP X N' sc { s2 with heap:=s2.heap.push { cls:=.type "list",data:=.seq ([]:List Value).toArray } } (upd H2 s2.heap.objs.size (.lst [])) fp) [] σ' H' s'/\tn i s'.heap/\(∀ b∈fp,H' b=none)/\W i n σ' H') ?_ m0
   ⟨0,_,_,I4,st4,fun b hb=>(f3 b hb).1,w0⟩
  rintro n s5 ⟨i,σ5,H5,I5,st5,fr5,w5⟩
  rcases turn i n σ5 H5 w5 with⟨stop,q⟩ | ⟨go,step⟩
  ·refine thn (T.done (aP X N' sc _ _ fp) rfl rfl rfl rfl i [] s5 σ5 H5 (fun _ _=>False) I5 (stat fr5) st5 stop) ?_
   rintro r s6 ⟨hr,I6⟩
   subst hr
   obtain⟨m6,hn6,_⟩:=id I6.loc
   refine⟨m6,hn6,fun h' hs'=>?_⟩
   have hL:H5 (s2.heap.push { cls:=.type "list",data:=.seq ([]:List Value).toArray }).objs.size=none:=I6.free
   have hok':HOk X.prog X.w H5 h':=fun b u e=>by
    refine (I6.hok b u e).i5 (fun c v hc q=>(hs'.2 c ?_).trans q) (fun _ q=>q) fun _ _ q=>q
    rintro rfl
    rcases hc with rfl | hc
    ·rw [hL] at e;cases e
    ·rw [hL] at hc;cases hc
   have ub:=I6.base
   have lt:∀ b o,(s2.heap.push { cls:=.type "list",data:=.seq ([]:List Value).toArray }).get? b=some o->b≠(s2.heap.push { cls:=.type "list",data:=.seq ([]:List Value).toArray }).objs.size:=fun b o e=>q_ (Heap.lt_size e)
   have un:Un (frs X.stack) fp (upd H2 s2.heap.objs.size (.lst [])) H5 (s2.heap.push { cls:=.type "list",data:=.seq ([]:List Value).toArray }) h':=
    ⟨fun b o e n hb hx=>(hs'.2 b (lt b o e)).trans (ub.keep b o e n hb hx),fun b o e n hb hx=>let ⟨sl,z⟩:=ub.slot b o e n hb hx;⟨sl,(hs'.2 b (lt b o e)).trans z⟩,ub.free,
     fun b o e hx=>let ⟨o',z⟩:=ub.there b o e hx;⟨o',(hs'.2 b (lt b o e)).trans z⟩,ub.tups,ub.frzs,ub.tbls⟩
   refine⟨.ref s2.heap.objs.size,H5,I3.Di (s':={ s6 with heap:=h' }) (ch:=fp) I6.os un hok' I6.bare (fun b hb=>?_),rfl,q⟩
   obtain⟨_,g1,g2,g3,g4,g5⟩:=f3 b hb
   exact⟨g3,g1,g4,g5⟩
  ·refine thn (T.item (aP X N' sc _ _ fp) rfl rfl rfl rfl i [] s5 σ5 H5 (fun _ _=>False) I5 (stat fr5) st5 go) ?_
   rintro r s6 ⟨u,hr,h6⟩
   subst hr
   refine thn h6 ?_
   rintro _ s7 ⟨x,H7,I7,r7,y7,st7,fr7⟩
   have I7':=I7.pinned (stat fr7) (T.obj _ _ st7)
   have again:∀ {σ8:St} {H8:Hp} {s8:Shared},Inv (aP X N' sc { s2 with heap:=s2.heap.push { cls:=.type "list",data:=.seq ([]:List Value).toArray } } (upd H2 s2.heap.objs.size (.lst [])) fp) ([]++k8 fp s7.heap) σ8 H8 s8->(∃ m',m' < n/\W (i + 1) m' σ8 H8)->
     ∃ m,m < n/\∃ i σ' H',Inv (aP X N' sc { s2 with heap:=s2.heap.push { cls:=.type "list",data:=.seq ([]:List Value).toArray } } (upd H2 s2.heap.objs.size (.lst [])) fp) [] σ' H' s8/\tn i s8.heap/\(∀ b∈fp,H' b=none)/\W i m σ' H':=fun {σ8 H8 s8} I8 ⟨m',hm,w8⟩=>by
    refine⟨m',hm,i + 1,σ8,H8,I8.gU,T.keep _ _ _ st7 fun b hb o e=>(I8.pin (b,o) (k_ _ (k_ _ (dJ hb e)))).1,fun b hb=>?_,w8⟩
    obtain⟨o,e,d⟩:=T.obj _ _ st7 b hb
    exact (I8.pin (b,o) (k_ _ (k_ _ (dJ hb e)))).2.1
   refine thn (hg _ _ fp _ s7 σ5 H7 x u _ I7' r7 (step x H7 y7)) ?_
   rintro _ s8 ⟨σ8,H8,I8,q8⟩
   refine thn (ht _ _ fp _ s8 σ8 H8 _ I8 q8) ?_
   rintro ok s9 ⟨H9,I9,q9⟩
   cases ok with
   | false=>exact again I9 q9
   | true=>
    refine thn (he _ _ fp _ s9 σ8 H9 _ I9 q9) ?_
    rintro y s10 ⟨v,H10,I10,r10,ys,hys,hl,q10⟩
    refine thn (jK _ s10 σ8 H10 (.ref s2.heap.objs.size) [v] (.ref s2.heap.objs.size) [y] (fun _ H'=>∃ m',m' < n/\W (i + 1) m' σ8 H') I10 rfl (.cons r10 .nil) ⟨_,ys,v,rfl,rfl,hys,hl,q10⟩) ?_
    rintro z s11 ⟨_,H11,I11,_,q11⟩
    exact again I11 q11
 refine codeAny_compStart_list loop ?_
 exact T.self X.A 0 _ _ _ st4 loop
end L2
namespace L2
open PySem PySem.Spec PyProof.Rows
def SqG (b:Bool)(K:PySem.W.Frag)(H:Hp)(a:Addr)(xs:List V):Prop:=match b with
 | true=>SqT K H a xs
 | false=>SqL K H a xs
section
variable {X:Cx}{pins:List (Addr × Obj)}{σ:St}{H:Hp}{s:Shared}
theorem Inv.sq (I:Inv X pins σ H s){b:Bool}{a:Addr}{xs:List V}(h:SqG b X.K H a xs):∃ its:List Value,Vals xs its/\ZG.Sq b s.heap a its.toArray/\xs.length<=sizeLine:=by
 cases b with
 | true=>exact I.tuple h
 | false=>
  obtain⟨its,r,p,z⟩:=I.list h
  exact⟨its,r,p.isList,z⟩
theorem Inv.y1 (I:Inv X pins σ H s){b:Bool}{a:Addr}{xs ys:List V}(h:SqG b X.K H a xs)(h':SqG b X.K H a ys):xs=ys:=by
 cases b with
 | true=>exact I.hV h h'
 | false=>exact I.lM h h'
theorem Inv.Df (I:Inv X pins σ H s){a b:Addr}{u:HO}(h:Rd H a u)(f:iX X pins H b):a≠b:=by
 rintro rfl
 rcases h with h | ⟨o,h⟩
 ·rw [f.1] at h;cases h
 ·rw [f.1] at h;cases h
theorem Inv.HX (I:Inv X pins σ H s){a b:Addr}{o:Obj}(h:X.K.lookup a=some o)(f:iX X pins H b):a≠b:=by
 rintro rfl
 have e:X.base.get? a=some o:=I.ok.mod.kin a o h
 rcases f.2.2.2.1 with z | z
 ·exact I.ok.noex a o e z
 ·exact absurd (v_ (Heap.lt_size (I.ok.bs a o e).1) z) (Kt _)
theorem Inv.e6 (I:Inv X pins σ H s){b:Bool}{a c:Addr}{xs:List V}(h:SqG b X.K H a xs)(f:iX X pins H c):a≠c:=by
 cases b with
 | true=>
  rcases h with h | ⟨o,its,n,hk,_⟩
  ·exact I.Df h f
  ·exact I.HX hk f
 | false=>
  rcases h with h | ⟨o,its,n,hk,_⟩
  ·exact I.Df h f
  ·exact I.HX hk f
end
def Itz (K:PySem.W.Frag)(b1:Bool)(a1:Addr)(b2:Bool)(a2:Addr):It:=
  ⟨fun i H=>∃ xs ys x y,SqG b1 K H a1 xs/\SqG b2 K H a2 ys/\xs[i]?=some x/\ys[i]?=some y,
   fun i H v H'=>∃ p x y,H p=none/\v=.ref p/\H'=upd H p (.tup [x,y])/\(∀ xs,SqG b1 K H a1 xs->xs[i]?=some x)/\∀ ys,SqG b2 K H a2 ys->ys[i]?=some y,
   fun i H=>∃ xs ys,SqG b1 K H a1 xs/\SqG b2 K H a2 ys/\(xs.length<=i\/ys.length<=i)⟩
structure Off5 (z TI TO i1 i2:Addr):Prop where
 a1:TI≠z
 a2:TO≠z
 a3:i1≠z
 a4:i2≠z
 a5:TI≠TO
 a6:TI≠i1
 a7:TI≠i2
 a8:TO≠i1
 a9:TO≠i2
 b1:i1≠i2
theorem zb {P:Program}{w:World}{K:PySem.W.Frag}{es:List Expr}{x1:Nat}{tp:Pos}(b1:Bool)(a1:Addr)(b2:Bool)(a2 z TI TO i1 i2:Addr)(D:Off5 z TI TO i1 i2) :
  Turn P w K (.Tuple es x1 tp) (Itz K b1 a1 b2 a2) [z,TI,TO,i1,i2] z (fun i h=>IsZip h z TI TO .none/\IsPair h TI (.ref i1) (.ref i2)/\(∃ a b,IsPair h TO a b)/\ZG.Dr b1 h i1 a1 i/\ZG.Dr b2 h i2 a2 i) where
 mem:=by simp
 obj:=fun i h st b hb=>by
  obtain⟨hz,hi,⟨a,c,ho⟩,d1,d2⟩:=st
  have hb:b=z\/b=TI\/b=TO\/b=i1\/b=i2:=by simpa using hb
  rcases hb with rfl | rfl | rfl | rfl | rfl
  ·exact⟨_,hz,fun v e=>by cases (show Data.fields _=Data.cell v from e)⟩
  ·exact⟨_,hi,fun v e=>by cases (show Data.seq _ _=Data.cell v from e)⟩
  ·exact⟨_,ho,fun v e=>by cases (show Data.seq _ _=Data.cell v from e)⟩
  ·exact d1.some
  ·exact d2.some
 keep:=fun i h h' st k=>by
  obtain⟨hz,hi,⟨a,c,ho⟩,d1,d2⟩:=st
  exact⟨k z (by simp) _ hz,k TI (by simp) _ hi,⟨a,c,k TO (by simp) _ ho⟩,d1.at fun o e=>k i1 (by simp) o e,d2.at fun o e=>k i2 (by simp) o e⟩
 item:=by
  intro X hP hw hK hc i pins s σ H E I hf st hg
  subst hP hw hK
  obtain⟨xs,ys,x,y,q1,q2,hx,hy⟩:=hg
  obtain⟨its,rv,p1,z1⟩:=I.sq q1
  obtain⟨jts,sv,p2,z2⟩:=I.sq q2
  obtain⟨u,hu,ru⟩:=rv.get hx
  obtain⟨v,hv,rw'⟩:=sv.get hy
  obtain⟨hz,hi,⟨a,c,ho⟩,d1,d2⟩:=st
  have fz:=hf z (by simp)
  have fTI:=hf TI (by simp)
  have fTO:=hf TO (by simp)
  have f1:=hf i1 (by simp)
  have f2:=hf i2 (by simp)
  have DD:ZG.Off z TI TO i1 i2 a1 a2:=⟨D.a1,D.a2,D.a3,D.a4,D.a5,D.a6,D.a7,D.a8,D.a9,D.b1,I.e6 q1 fz,I.e6 q1 fTO,I.e6 q1 f1,I.e6 q1 f2,I.e6 q2 fz,I.e6 q2 fTO,I.e6 q2 f1,I.e6 q2 f2⟩
  refine ZG.qL DD hz hi ho d1 d2 p1 p2 (by simpa using hu) (by simpa using hv) fun g gz gO g1 g2 gT gs gk=>⟨_,rfl,?_⟩
  refine wpAny_letOwnedTupleGo_zip (s:={ s with heap:=g }) gz fun h' hz' hs'=>?_
  have hfresh:H s.heap.objs.size=none:=I.hok.fresh (c_ _)
  have zT:s.heap.objs.size≠z:=Ls (Heap.lt_size hz)
  have kp:∀ b o,b ∉ [z,TI,TO,i1,i2]->s.heap.get? b=some o->h'.get? b=some o:=fun b o hb e=>by
   have n:b≠z/\b≠TI/\b≠TO/\b≠i1/\b≠i2:=by simpa using hb
   exact hs'.extBut _ _ n.1 (gk b o n.1 n.2.2.1 n.2.2.2.1 n.2.2.2.2 e)
  have hT:h'.get? s.heap.objs.size=some { cls:=.type "tuple",data:=.seq #[u,v] }:=hs'.extBut _ _ zT gT
  have notfp:∀ b o,H b=some o->b ∉ [z,TI,TO,i1,i2]:=fun b o e hb=>by
   have:=(hf b hb).1
   rw [e] at this;cases this
  have ne:∀ b o,s.heap.get? b=some o->b≠s.heap.objs.size:=fun b o e=>q_ (Heap.lt_size e)
  have nt:∀ b o,H b=some o->b≠s.heap.objs.size:=fun b o e=>bA e hfresh
  have I1:Inv X pins σ (upd H s.heap.objs.size (.tup [x,y])) { s with heap:=h' }:=by
   refine I.step (g':=s.gens) (d':=s.drawn) (t':=s.toks) (ch:=[z,TI,TO,i1,i2]) (fun b hb=>?_) (fun b o _ _ hc e _=>kp b o hc e) (fun b o _ _ hc e _=>⟨o.slots,kp b o hc e⟩)
    (fun b o _ e n=>by rw [aD (ne b o e)];exact n) (fun b o hc e=>⟨o,kp b o hc e⟩) (fun b zs e=>by rw [aD (nt b _ e)];exact e) (fun b o u e=>by rw [aD (nt b _ e)];exact e)
    (fun b ps e=>⟨#[],by rw [aD (nt b _ e),e];simp⟩) (fun m hm=>?_) (fun b o e=>?_) I.bare
   ·obtain⟨g0,g1,g2,g3,g4,g5⟩:=hf b hb
    exact⟨g3,g1,g4,g5⟩
   ·obtain⟨o,es,ep,ho',r⟩:=hm
    exact⟨o,es,ep,kp _ o (fun hb=>(hf _ hb).2.1 rfl) ho',r⟩
   ·by_cases hb:b=s.heap.objs.size
    ·subst hb
     rw [aF] at e
     cases e
     exact⟨by show 2<=sizeLine;decide,[u,v],.cons ru (.cons rw' .nil),_,hT,rfl,_,rfl⟩
    ·rw [aD hb] at e
     refine (I.hok b o e).i5 (fun c' w' hc' q=>kp c' w' ?_ q) (fun c' q=>by rw [aD (nt c' _ q)];exact q) fun c' zs q=>by rw [aD (nt c' _ q)];exact q
     rcases hc' with rfl | hc'
     ·exact notfp _ _ e
     ·exact notfp _ _ hc'
  refine⟨.ref s.heap.objs.size,_,I1,rfl,⟨s.heap.objs.size,x,y,hfresh,rfl,rfl,fun zs hq=>by rw [I.y1 hq q1];exact hx,fun zs hq=>by rw [I.y1 hq q2];exact hy⟩,?_,fun b hb=>?_⟩
  ·exact⟨hz',hs'.extBut _ _ D.a1 (gk _ _ D.a1 D.a5 D.a6 D.a7 hi),⟨_,_,hs'.extBut _ _ D.a2 gO⟩,g1.ext hs'.extBut D.a3,g2.ext hs'.extBut D.a4⟩
  ·have hb0:=(hf b hb).1
   have hb':b=z\/b=TI\/b=TO\/b=i1\/b=i2:=by simpa using hb
   have hlt:∃ o,s.heap.get? b=some o:=by
    rcases hb' with rfl | rfl | rfl | rfl | rfl
    ·exact⟨_,hz⟩
    ·exact⟨_,hi⟩
    ·exact⟨_,ho⟩
    ·obtain⟨o,e,_⟩:=d1.some;exact⟨o,e⟩
    ·obtain⟨o,e,_⟩:=d2.some;exact⟨o,e⟩
   obtain⟨o,e⟩:=hlt
   rw [aD (ne b o e)]
   exact hb0
 done:=by
  intro X hP hw hK hc i pins s σ H E I hf st hg
  subst hP hw hK
  obtain⟨xs,ys,q1,q2,hn⟩:=hg
  obtain⟨its,rv,p1,z1⟩:=I.sq q1
  obtain⟨jts,sv,p2,z2⟩:=I.sq q2
  obtain⟨hz,hi,⟨a,c,ho⟩,d1,d2⟩:=st
  have fz:=hf z (by simp)
  have fTI:=hf TI (by simp)
  have fTO:=hf TO (by simp)
  have f1:=hf i1 (by simp)
  have f2:=hf i2 (by simp)
  have DD:ZG.Off z TI TO i1 i2 a1 a2:=⟨D.a1,D.a2,D.a3,D.a4,D.a5,D.a6,D.a7,D.a8,D.a9,D.b1,I.e6 q1 fz,I.e6 q1 fTO,I.e6 q1 f1,I.e6 q1 f2,I.e6 q2 fz,I.e6 q2 fTO,I.e6 q2 f1,I.e6 q2 f2⟩
  have l1:=rv.length
  have l2:=sv.length
  refine ZG.sP (I.ok.hd hc) DD hz hi ho d1 d2 p1 p2 (hn.elim (fun z=>.inl (by simp;omega)) fun z=>.inr (by simp;omega)) fun g gk=>⟨rfl,?_⟩
  have kp:∀ b o,b ∉ [z,TI,TO,i1,i2]->s.heap.get? b=some o->g.get? b=some o:=fun b o hb e=>by
   have n:b≠z/\b≠TI/\b≠TO/\b≠i1/\b≠i2:=by simpa using hb
   exact gk b o n.1 n.2.2.1 n.2.2.2.1 n.2.2.2.2 e
  have notfp:∀ b o,H b=some o->b ∉ [z,TI,TO,i1,i2]:=fun b o e hb=>by
   have:=(hf b hb).1
   rw [e] at this;cases this
  refine I.step (g':=s.gens) (d':=s.drawn) (t':=s.toks) (ch:=[z,TI,TO,i1,i2]) (fun b hb=>?_) (fun b o _ _ hc e _=>kp b o hc e) (fun b o _ _ hc e _=>⟨o.slots,kp b o hc e⟩)
   (fun b o _ e n=>n) (fun b o hc e=>⟨o,kp b o hc e⟩) (fun b zs e=>e) (fun b o u e=>e) (fun b ps e=>⟨#[],by rw [e];simp⟩) (fun m hm=>?_) (fun b o e=>?_) I.bare
  ·obtain⟨g0,g1,g2,g3,g4,g5⟩:=hf b hb
   exact⟨g3,g1,g4,g5⟩
  ·obtain⟨o,es,ep,ho',r⟩:=hm
   exact⟨o,es,ep,kp _ o (fun hb=>(hf _ hb).2.1 rfl) ho',r⟩
  ·refine (I.hok b o e).i5 (fun c' w' hc' q=>kp c' w' ?_ q) (fun c' q=>q) fun c' zs q=>q
   rcases hc' with rfl | hc'
   ·exact notfp _ _ e
   ·exact notfp _ _ hc'
 self:=fun _ _ _ _ _ st h=>wpAny_pyIter_zip st.1 h
def J5 (K:PySem.W.Frag)(ta:TA):TI:=fun σ H R=>ta σ H fun vs H1=>∃ b1 a1 b2 a2,vs=[.ref a1,.ref a2]/\(∃ xs,SqG b1 K H1 a1 xs)/\(∃ ys,SqG b2 K H1 a2 ys)/\R (Itz K b1 a1 b2 a2) H1
theorem FN {X:Cx}{es:List Expr}{x1:Nat}{tp:Pos}{a b:Expr}{ta:TA}{p pos:Pos}(hg:Gl X "zip")(hm:X.mg "zip"=none)(ha:PA X [a,b] ta)(hs:starEach [a,b] X.env=[(false,eval a X.env),(false,eval b X.env)]:=by rfl)(hs2:starEach [b] X.env=[(false,eval b X.env)]:=by rfl) :
  PI X (.Tuple es x1 tp) (.Call (.Name "zip" p) [a,b] [] pos) (J5 X.K ta):=by
 intro pins s σ H R I h
 refine Call_ (eX I hg hm boot_zip (PyProof.Rows.callWith_type1 (thn (ha pos pins s σ H _ I h) fun us s1 ⟨vs,H1,I1,r1,q1⟩=>?_) (by rw [hs,hs2]) (by rw [hs2];rfl)))
 obtain⟨b1,a1,b2,a2,e,⟨xs,q1⟩,⟨ys,q2⟩,q⟩:=q1
 subst e
 cases r1 with
 | cons r rr=>
  cases rr with
  | cons r' rr=>
   cases rr
   cases r
   cases r'
   obtain⟨its,rv,p1,z1⟩:=I1.sq q1
   obtain⟨jts,sv,p2,z2⟩:=I1.sq q2
   refine ZG.yg p1 p2 fun g gz gi go g1 g2 gs gk=>wpAny_pyIter_zip (s:={ s1 with heap:=g }) gz ?_
   have I2:Inv X pins σ H1 { s1 with heap:=g }:=I1.kept (t':=s1.toks) gk
   refine⟨_,_,_,_,H1,rfl,I2,zb b1 a1 b2 a2 _ (s1.heap.objs.size + 2) (s1.heap.objs.size + 3) s1.heap.objs.size (s1.heap.objs.size + 1) ?_,⟨gz,gi,⟨_,_,go⟩,g1,g2⟩,fun b hb=>?_,q⟩
   ·constructor <;> (show (_:Nat)≠_) <;> omega
   ·have hb':s1.heap.objs.size<=b:=by
     have z:b=s1.heap.objs.size + 4\/b=s1.heap.objs.size + 2\/b=s1.heap.objs.size + 3\/b=s1.heap.objs.size\/b=s1.heap.objs.size + 1:=by simpa using hb
     rcases z with z | z | z | z | z <;> rw [z] <;> (show (_:Nat)<=_) <;> omega
    exact I1.rV hb' (I1.hok.fresh hb')
def bools (bs:List Bool):List V:=bs.map V.bl
theorem wH {bs:List Bool}{us:List Value}(r:Vals (bools bs) us){i:Nat}{u:Value}(h:us[i]?=some u):∃ b,bs[i]?=some b/\u=.bool b:=by
 have hl:=r.length
 have hi:i < us.length:=(e_.mp h).1
 have hb:i < bs.length:=by rw [<-hl] at hi;simpa [bools] using hi
 have e:(bools bs)[i]?=some (.bl bs[i]):=by unfold bools;rw [w_,a_ hb];rfl
 obtain⟨u',h',ru⟩:=r.get e
 rw [h] at h'
 cases h'
 exact⟨bs[i],a_ hb,ru⟩
theorem tf (bs:List Bool):((y_ bs.length).all fun i=>(bs[i]?).getD true)=bs.all id:=by
 have e:bs=(y_ bs.length).map fun i=>(bs[i]?).getD true:=by
  apply List.ext_getElem
  ·simp
  ·intro i h1 h2;simp [h1]
 conv=>rhs;rw [e,LU]
 rfl
section
variable {X:Cx}
theorem A6 (hc:X.calm=true):bE X (.builtin "all") (fun xs H Q=>∃ a bs,xs=[.ref a]/\SqL X.K H a (bools bs)/\Q (.bl (bs.all id)) H):=by
 intro pins s σ H xs us Q I r h
 obtain⟨a,bs,rfl,hq,q⟩:=h
 obtain⟨u,rfl,ru⟩:=vals1 r
 cases ru
 obtain⟨its,rv,p,z⟩:=I.list hq
 have hl:=p.isList
 have hlt:a < s.heap.objs.size:=by obtain⟨_,e,_⟩:=hl;exact Heap.lt_size e
 have hlen:its.toArray.size=bs.length:=by rw [n_,<-rv.length];simp [bools]
 refine call_all_walk (wpAny_pyIter_list hl ⟨s.heap.objs.size,[s.heap.objs.size,a],[s.heap.objs.size],its.toArray.size,_,_,fun i=>(bs[i]?).getD true,rfl,Walks.list (A:=X.A.in1) (I.ok.hd hc) _ a (q_ hlt) its.toArray,⟨⟨_,Heap.get?_push_size _ rfl,rfl,rfl⟩,hl.push _⟩,fun i v s' Q' E' hP hQ=>?_,fun h' tk hk=>?_⟩)
 ·obtain⟨b,e,rfl⟩:=wH rv (i:=i) (u:=v) (by simpa using hP)
  simp only [e,Nb] at hQ
  exact wpAny_truthy_bool hQ
 ·rw [hlen,tf]
  exact⟨.bl (bs.all id),H,I.kept (t':=tk) (LSm.kept_iter hk),rfl,q⟩
end
inductive Ty where
 | non | bl | int | str | lst | tup | dct
 deriving DecidableEq
def Ty.nm:Ty->String
 | .non=>"NoneType"
 | .bl=>"bool"
 | .int=>"int"
 | .str=>"str"
 | .lst=>"list"
 | .tup=>"tuple"
 | .dct=>"dict"
def isA (t c:Ty):Bool:=decide (t=c) || (decide (t=.bl) && decide (c=.int))
inductive TyG (K:PySem.W.Frag) (H:Hp):V->Ty->Prop where
 | non:TyG K H .non .non
 | bl (b:Bool):TyG K H (.bl b) .bl
 | int (i:Int):TyG K H (.int i) .int
 | str (x:Str):TyG K H (.str x) .str
 | lst {a:Addr} {xs:List V} (h:SqL K H a xs):TyG K H (.ref a) .lst
 | tup {a:Addr} {xs:List V} (h:SqT K H a xs):TyG K H (.ref a) .tup
 | dct {a:Addr} {kvs:List (Key × V)} (h:Rd H a (.dK kvs)):TyG K H (.ref a) .dct
theorem vc (K:PySem.W.Frag)(t c:Ty):PySem.W.kitOne K (.type t.nm) (.type c.nm)=some (isA t c):=by
 cases t <;> cases c <;> kernel_rfl
theorem uk (K:PySem.W.Frag)(t:Ty):∀ cs:List Ty,PySem.W.kitAny K (.type t.nm) (cs.map fun c=>Value.type c.nm)=some (cs.any (isA t))
 | []=>rfl
 | c::r=>by
  rw [f',Ka]
  unfold PySem.W.kitAny
  rw [vc]
  cases isA t c with
  | true=>rfl
  | false=>exact uk K t r
section
variable {X:Cx}{pins:List (Addr × Obj)}{σ:St}{H:Hp}{s:Shared}{A:Around}{E:Value->Shared->Prop}{Q:Value->Shared->Prop}
theorem Vals.tys:∀ {cs:List Ty} {us:List Value},Vals (cs.map fun c=>V.ty c.nm) us->us=cs.map fun c=>Value.type c.nm
 | [],_,.nil=>rfl
 | c::r,_,.cons h t=>by
  have e:_=Value.type c.nm:=h
  rw [f',<-Vals.tys t,e]
def vA (K:PySem.W.Frag)(H:Hp)(y:V)(cs:List Ty):Prop:=(∃ c,y=.ty c.nm/\cs=[c])\/∃ p,y=.ref p/\H p=some (.tup (cs.map fun c=>V.ty c.nm))
theorem zB {x y:V}{u v:Value}{t:Ty}{cs:List Ty}(I:Inv X pins σ H s)(rx:RelV x u)(ry:RelV y v)(ty:TyG X.K H x t)(ka:vA X.K H y cs)(h:∀ tk,Q (.bool (cs.any (isA t))) { s with toks:=tk }) :
  wpAny (model X.prog X.w) A (call (.builtin "isinstance") [u,v]) Q E s:=by
 have go:∀ {P:Heap->Prop},PySem.W.KitX X.K u (.type t.nm) P->P s.heap->u≠.builtin "__main__.__loader__#opaque"->wpAny (model X.prog X.w) A (call (.builtin "isinstance") [u,v]) Q E s:=fun {P} Z p hx=>by
  rcases ka with⟨c,rfl,rfl⟩ | ⟨q,rfl,hq⟩
  ·cases (show v=Value.type c.nm from ry)
   have e:([c].any (isA t))=isA t c:=by simp
   exact PySem.W.kia_one Z I.kIn p (vc X.K t c) hx (fun tk=>by rw [<-e];exact h tk)
  ·cases (show v=Value.ref q from ry)
   obtain⟨_,its,rv,o,ho,hc,n,hd⟩:=(show bu X.prog X.w H s.heap q (.tup _) from I.hok q _ hq)
   have e:=rv.tys
   subst e
   obtain⟨c,dd,dt,sl⟩:=o
   cases (show c=_ from hc)
   cases (show dt=_ from hd)
   exact PySem.W.kia_tup Z I.kIn p ho (uk X.K t cs) hx h
 cases ty with
 | non=>cases (show u=Value.none from rx);exact go PySem.W.kitx_none True.intro (fun z=>nomatch z)
 | bl y=>cases (show u=Value.bool y from rx);exact go PySem.W.kitx_bool True.intro (fun z=>nomatch z)
 | int i=>obtain⟨t,q⟩:=(show ∃ t,u=Value.int i t from rx);cases q;exact go PySem.W.kitx_int True.intro (fun z=>nomatch z)
 | str y=>obtain⟨t,q⟩:=(show ∃ t,u=Value.str y t from rx);cases q;exact go PySem.W.kitx_str True.intro (fun z=>nomatch z)
 | @lst a xs hq=>
  cases (show u=Value.ref a from rx)
  obtain⟨_,_,p,_⟩:=I.list hq
  obtain⟨o,h1,h2,_⟩:=p.isList
  exact go PySem.W.kitx_list ⟨o,h1,h2⟩ (fun z=>nomatch z)
 | @tup a xs hq=>
  cases (show u=Value.ref a from rx)
  obtain⟨_,_,p,_⟩:=I.tuple hq
  obtain⟨o,h1,h2,_⟩:=p
  exact go PySem.W.kitx_tuple ⟨o,h1,h2⟩ (fun z=>nomatch z)
 | @dct a kvs hq=>
  cases (show u=Value.ref a from rx)
  obtain⟨_,_,vs,_,p⟩:=(show bu X.prog X.w H s.heap a (.dK kvs) from hq.ok I.hok)
  obtain⟨o,es,ep,h1,h2,_⟩:=p
  exact go PySem.W.kitx_dict ⟨o,h1,h2.1⟩ (fun z=>nomatch z)
theorem aW:bE X (.builtin "isinstance") (fun xs H Q=>∃ x y t cs,xs=[x,y]/\TyG X.K H x t/\vA X.K H y cs/\Q (.bl (cs.any (isA t))) H):=by
 intro pins s σ H xs us Q I r h
 obtain⟨x,y,t,cs,rfl,ty,ka,q⟩:=h
 cases r with
 | cons r rr=>
  cases rr with
  | cons r' rr=>
   cases rr
   exact zB I r r' ty ka fun tk=>⟨.bl (cs.any (isA t)),H,I.tok tk,rfl,q⟩
end
end L2
namespace L2
open PySem PySem.Spec PyProof.Rows
inductive Dt where
 | int (i:Int) | bl (b:Bool) | str (x:Str) | non | lst (ds:List Dt) | tup (ds:List Dt)
mutual
def Has (K:PySem.W.Frag)(H:Hp):Dt->V->Prop
 | .int i,v=>v=.int i
 | .bl b,v=>v=.bl b
 | .str x,v=>v=.str x
 | .non,v=>v=.non
 | .lst ds,v=>∃ a xs,v=.ref a/\SqL K H a xs/\ax K H ds xs
 | .tup ds,v=>∃ a xs,v=.ref a/\SqT K H a xs/\ax K H ds xs
def ax (K:PySem.W.Frag)(H:Hp):List Dt->List V->Prop
 | [],xs=>xs=[]
 | d::r,xs=>∃ x t,xs=x::t/\Has K H d x/\ax K H r t
end
mutual
def dpt:Dt->Nat
 | .lst ds=>br ds + 1
 | .tup ds=>br ds + 1
 | _=>0
def br:List Dt->Nat
 | []=>0
 | d::r=>max (dpt d) (br r)
end
mutual
def eqD:Dt->Dt->Bool
 | .int a,.int b=>a == b
 | .int a,.bl b=>a == (if b then 1 else 0)
 | .bl a,.int b=>(if a then 1 else 0) == b
 | .bl a,.bl b=>a == b
 | .str a,.str b=>a == b
 | .non,.non=>true
 | .lst xs,.lst ys=>eqL xs ys
 | .tup xs,.tup ys=>eqL xs ys
 | _,_=>false
def eqL:List Dt->List Dt->Bool
 | [],[]=>true
 | x::xs,y::ys=>eqD x y && eqL xs ys
 | _,_=>false
end
mutual
theorem ju:∀ d:Dt,eqD d d=true
 | .int a=>by simp [eqD]
 | .bl a=>by simp [eqD]
 | .str a=>by simp [eqD]
 | .non=>by simp [eqD]
 | .lst xs=>by rw [eqD];exact ml xs
 | .tup xs=>by rw [eqD];exact ml xs
theorem ml:∀ ds:List Dt,eqL ds ds=true
 | []=>by simp [eqL]
 | d::r=>by rw [eqL,ju d,ml r];rfl
end
theorem ax.len {K:PySem.W.Frag}{H:Hp}:∀ {ds:List Dt} {xs:List V},ax K H ds xs->ds.length=xs.length
 | [],xs,h=>by rw [ax] at h;rw [h];rfl
 | d::r,xs,h=>by
  rw [ax] at h
  obtain⟨x,t,rfl,_,ht⟩:=h
  rw [h_,h_,ax.len ht]
theorem ax.get {K:PySem.W.Frag}{H:Hp}:∀ {ds:List Dt} {xs:List V} {i:Nat} {d:Dt} {x:V},ax K H ds xs->ds[i]?=some d->xs[i]?=some x->Has K H d x
 | [],xs,i,d,x,h,e,_=>by simp at e
 | c::r,xs,0,d,x,h,e,f=>by
  rw [ax] at h
  obtain⟨y,t,rfl,hy,ht⟩:=h
  simp at e f
  subst e f
  exact hy
 | c::r,xs,i + 1,d,x,h,e,f=>by
  rw [ax] at h
  obtain⟨y,t,rfl,hy,ht⟩:=h
  exact ax.get ht (i:=i) (by simpa using e) (by simpa using f)
theorem SqL.same {K:PySem.W.Frag}{H H':Hp}{a:Addr}{xs:List V}(e:aO H H')(h:SqL K H a xs):SqL K H' a xs:=e.seq h
theorem SqT.same {K:PySem.W.Frag}{H H':Hp}{a:Addr}{xs:List V}(e:aO H H')(h:SqT K H a xs):SqT K H' a xs:=by
 rcases h with (h | ⟨o,h⟩) | h
 ·exact .inl (.inl (e _ _ h))
 ·exact .inl (.inr ⟨o,e _ _ h⟩)
 ·exact .inr h
theorem SqG.same {b:Bool}{K:PySem.W.Frag}{H H':Hp}{a:Addr}{xs:List V}(e:aO H H')(h:SqG b K H a xs):SqG b K H' a xs:=by
 cases b with
 | true=>exact SqT.same e h
 | false=>exact SqL.same e h
mutual
theorem Has.same {K:PySem.W.Frag}{H H':Hp}(e:aO H H'):∀ {d:Dt} {v:V},Has K H d v->Has K H' d v
 | .int i,v,h=>by rw [Has] at h ⊢;exact h
 | .bl i,v,h=>by rw [Has] at h ⊢;exact h
 | .str i,v,h=>by rw [Has] at h ⊢;exact h
 | .non,v,h=>by rw [Has] at h ⊢;exact h
 | .lst ds,v,h=>by
  rw [Has] at h ⊢
  obtain⟨a,xs,hv,hs,hl⟩:=h
  exact⟨a,xs,hv,SqL.same e hs,ax.same e hl⟩
 | .tup ds,v,h=>by
  rw [Has] at h ⊢
  obtain⟨a,xs,hv,hs,hl⟩:=h
  exact⟨a,xs,hv,SqT.same e hs,ax.same e hl⟩
theorem ax.same {K:PySem.W.Frag}{H H':Hp}(e:aO H H'):∀ {ds:List Dt} {xs:List V},ax K H ds xs->ax K H' ds xs
 | [],xs,h=>by rw [ax] at h ⊢;exact h
 | d::r,xs,h=>by
  rw [ax] at h ⊢
  obtain⟨x,t,hx,h1,h2⟩:=h
  exact⟨x,t,hx,Has.same e h1,ax.same e h2⟩
end
theorem ax.append {K:PySem.W.Frag}{H:Hp}:∀ {ds es:List Dt} {xs ys:List V},ax K H ds xs->ax K H es ys->ax K H (ds++es) (xs++ys)
 | [],es,xs,ys,h,g=>by rw [ax] at h;subst h;exact g
 | d::r,es,xs,ys,h,g=>by
  rw [ax] at h
  obtain⟨x,t,rfl,h1,h2⟩:=h
  show ax K H (d::(r++es)) (x::(t++ys))
  rw [ax]
  exact⟨x,t++ys,rfl,h1,ax.append h2 g⟩
theorem iW {K:PySem.W.Frag}{H:Hp}:ax K H [] []:=by rw [ax]
theorem jW {K:PySem.W.Frag}{H:Hp}{d:Dt}{r:List Dt}{x:V}{t:List V}(h:Has K H d x)(g:ax K H r t):ax K H (d::r) (x::t):=by rw [ax];exact⟨x,t,rfl,h,g⟩
def di (ns:List Int):List Dt:=ns.map Dt.int
theorem nW {K:PySem.W.Frag}{H:Hp}:∀ ns:List Int,ax K H (di ns) (ns.map V.int)
 | []=>iW
 | n::r=>jW (by rw [Has]) (nW r)
theorem sF {K:PySem.W.Frag}{H:Hp}{p:Addr}{ns:List Int}(h:SqL K H p (ns.map V.int)):Has K H (.lst (di ns)) (.ref p):=by rw [Has];exact⟨p,_,rfl,h,nW ns⟩
theorem fD:∀ ns:List Int,br (di ns)=0
 | []=>by simp [di,br]
 | n::r=>by
  have ih:=fD r
  show br (Dt.int n::di r)=0
  simp [br,dpt,ih]
theorem jB:∀ {ds:List Dt} {i:Nat} {d:Dt},ds[i]?=some d->dpt d<=br ds
 | [],i,d,e=>by simp at e
 | c::r,0,d,e=>by simp at e;subst e;rw [br];exact Nat.le_max_left _ _
 | c::r,i + 1,d,e=>by
  have q:dpt d<=br r:=jB (i:=i) (by simpa using e)
  rw [br]
  exact r_ q (Nat.le_max_right _ _)
theorem kh:∀ (ds es:List Dt),ds.length=es.length->((y_ ds.length).all fun j=>eqD (ds.getD j .non) (es.getD j .non))=eqL ds es
 | [],[],_=>by simp [eqL]
 | [],e::r,h=>by simp at h
 | d::r,[],h=>by simp at h
 | d::r,e::t,h=>by
  have h':r.length=t.length:=by simpa using h
  rw [eqL,<-kh r t h',h_,MB,LK,LU]
  rfl
theorem pR:∀ {ds es:List Dt},eqL ds es=true->ds.length=es.length
 | [],[],_=>rfl
 | [],e::r,h=>by simp [eqL] at h
 | d::r,[],h=>by simp [eqL] at h
 | d::r,e::t,h=>by
  rw [eqL,C_] at h
  rw [h_,h_,pR h.2]
theorem qO:∀ (ds es:List Dt),(((y_ (min ds.length es.length)).all fun j=>eqD (ds.getD j .non) (es.getD j .non)) && ds.length == es.length)=eqL ds es:=by
 intro ds es
 by_cases h:ds.length=es.length
 ·rw [<-kh ds es h,h,Nat.min_self]
  simp
 ·have:eqL ds es=false:=Lb.mpr fun z=>h (pR z)
  rw [this]
  have:(ds.length == es.length)=false:=by simpa using h
  rw [this,Bool.and_false]
section
variable {X:Cx}{pins:List (Addr × Obj)}{σ:St}{H:Hp}{s:Shared}
theorem qo (n:Nat){A:Around}(hA:A.units + 1 + n < cLine + 1)(I:Inv X pins σ H s){ds es:List Dt}{xs ys:List V}{its jts:List Value}(h1:ax X.K H ds xs)(h2:ax X.K H es ys)(r1:Vals xs its)(r2:Vals ys jts)
  (rec:∀ d e x y u v,d∈ds->e∈es->Has X.K H d x->Has X.K H e y->RelV x u->RelV y v->SeqAt.EqAt A.in1 s u v (eqD d e)) :
  ∀ j (g1:j < its.toArray.size) (g2:j < jts.toArray.size),SeqAt.EqAt A.in1 s its.toArray[j] jts.toArray[j] (eqD (ds.getD j .non) (es.getD j .non)):=by
 intro j g1 g2
 have l1:=r1.length
 have l2:=r2.length
 have m1:=h1.len
 have m2:=h2.len
 have g1':j < its.length:=by simpa using g1
 have g2':j < jts.length:=by simpa using g2
 have a1:j < xs.length:=by lia
 have a2:j < ys.length:=by lia
 have b1:j < ds.length:=by lia
 have b2:j < es.length:=by lia
 obtain⟨u,hu,ru⟩:=r1.get (a_ a1)
 obtain⟨v,hv,rv⟩:=r2.get (a_ a2)
 rw [a_ g1'] at hu
 rw [a_ g2'] at hv
 cases hu
 cases hv
 have e1:ds.getD j .non=ds[j]:=by simp [Lk,b1]
 have e2:es.getD j .non=es[j]:=by simp [Lk,b2]
 rw [e1,e2]
 have:=rec ds[j] es[j] xs[j] ys[j] its[j] jts[j] (Kg b1) (Kg b2) (h1.get (a_ b1) (a_ a1)) (h2.get (a_ b2) (a_ a2)) ru rv
 simpa using this
theorem vE {ds:List Dt}{d:Dt}(h:d∈ds):dpt d<=br ds:=by
 obtain⟨i,hi⟩:=List.getElem?_of_mem h
 exact jB hi
mutual
theorem Has.inj (I:Inv X pins σ H s):∀ {d e:Dt} {x:V},Has X.K H d x->Has X.K H e x->d=e
 | .int a,.int b,x,h1,h2=>by
  rw [Has] at h1
  rw [Has] at h2
  rw [h1] at h2
  cases h2
  rfl
 | .int a,.bl b,x,h1,h2=>by
  rw [Has] at h1
  rw [Has] at h2
  rw [h1] at h2
  cases h2
 | .int a,.str b,x,h1,h2=>by
  rw [Has] at h1
  rw [Has] at h2
  rw [h1] at h2
  cases h2
 | .int a,.non,x,h1,h2=>by
  rw [Has] at h1
  rw [Has] at h2
  rw [h1] at h2
  cases h2
 | .int a,.lst b,x,h1,h2=>by
  rw [Has] at h1
  rw [Has] at h2
  obtain⟨p,xs,e,s1,l1⟩:=h2
  rw [h1] at e
  cases e
 | .int a,.tup b,x,h1,h2=>by
  rw [Has] at h1
  rw [Has] at h2
  obtain⟨p,xs,e,s1,l1⟩:=h2
  rw [h1] at e
  cases e
 | .bl a,.int b,x,h1,h2=>by
  rw [Has] at h1
  rw [Has] at h2
  rw [h1] at h2
  cases h2
 | .bl a,.bl b,x,h1,h2=>by
  rw [Has] at h1
  rw [Has] at h2
  rw [h1] at h2
  cases h2
  rfl
 | .bl a,.str b,x,h1,h2=>by
  rw [Has] at h1
  rw [Has] at h2
  rw [h1] at h2
  cases h2
 | .bl a,.non,x,h1,h2=>by
  rw [Has] at h1
  rw [Has] at h2
  rw [h1] at h2
  cases h2
 | .bl a,.lst b,x,h1,h2=>by
  rw [Has] at h1
  rw [Has] at h2
  obtain⟨p,xs,e,s1,l1⟩:=h2
  rw [h1] at e
  cases e
 | .bl a,.tup b,x,h1,h2=>by
  rw [Has] at h1
  rw [Has] at h2
  obtain⟨p,xs,e,s1,l1⟩:=h2
  rw [h1] at e
  cases e
 | .str a,.int b,x,h1,h2=>by
  rw [Has] at h1
  rw [Has] at h2
  rw [h1] at h2
  cases h2
 | .str a,.bl b,x,h1,h2=>by
  rw [Has] at h1
  rw [Has] at h2
  rw [h1] at h2
  cases h2
 | .str a,.str b,x,h1,h2=>by
  rw [Has] at h1
  rw [Has] at h2
  rw [h1] at h2
  cases h2
  rfl
 | .str a,.non,x,h1,h2=>by
  rw [Has] at h1
  rw [Has] at h2
  rw [h1] at h2
  cases h2
 | .str a,.lst b,x,h1,h2=>by
  rw [Has] at h1
  rw [Has] at h2
  obtain⟨p,xs,e,s1,l1⟩:=h2
  rw [h1] at e
  cases e
 | .str a,.tup b,x,h1,h2=>by
  rw [Has] at h1
  rw [Has] at h2
  obtain⟨p,xs,e,s1,l1⟩:=h2
  rw [h1] at e
  cases e
 | .non,.int b,x,h1,h2=>by
  rw [Has] at h1
  rw [Has] at h2
  rw [h1] at h2
  cases h2
 | .non,.bl b,x,h1,h2=>by
  rw [Has] at h1
  rw [Has] at h2
  rw [h1] at h2
  cases h2
 | .non,.str b,x,h1,h2=>by
  rw [Has] at h1
  rw [Has] at h2
  rw [h1] at h2
  cases h2
 | .non,.non,x,h1,h2=>rfl
 | .non,.lst b,x,h1,h2=>by
  rw [Has] at h1
  rw [Has] at h2
  obtain⟨p,xs,e,s1,l1⟩:=h2
  rw [h1] at e
  cases e
 | .non,.tup b,x,h1,h2=>by
  rw [Has] at h1
  rw [Has] at h2
  obtain⟨p,xs,e,s1,l1⟩:=h2
  rw [h1] at e
  cases e
 | .lst a,.int b,x,h1,h2=>by
  rw [Has] at h1
  rw [Has] at h2
  obtain⟨p,xs,rfl,s1,l1⟩:=h1
  cases h2
 | .lst a,.bl b,x,h1,h2=>by
  rw [Has] at h1
  rw [Has] at h2
  obtain⟨p,xs,rfl,s1,l1⟩:=h1
  cases h2
 | .lst a,.str b,x,h1,h2=>by
  rw [Has] at h1
  rw [Has] at h2
  obtain⟨p,xs,rfl,s1,l1⟩:=h1
  cases h2
 | .lst a,.non,x,h1,h2=>by
  rw [Has] at h1
  rw [Has] at h2
  obtain⟨p,xs,rfl,s1,l1⟩:=h1
  cases h2
 | .lst a,.lst b,x,h1,h2=>by
  rw [Has] at h1
  rw [Has] at h2
  obtain⟨p,xs,rfl,s1,l1⟩:=h1
  obtain⟨q,ys,e,s2,l2⟩:=h2
  cases e
  have e:=I.lM s1 s2
  subst e
  rw [ax.inj I l1 l2]
 | .lst a,.tup b,x,h1,h2=>by
  rw [Has] at h1
  rw [Has] at h2
  obtain⟨p,xs,rfl,s1,l1⟩:=h1
  obtain⟨q,ys,e,s2,l2⟩:=h2
  cases e
  obtain⟨_,_,pl,_⟩:=I.list s1
  obtain⟨_,_,pt,_⟩:=I.tuple s2
  obtain⟨o1,g1,c1,_⟩:=pl.isList
  obtain⟨o2,g2,c2,_⟩:=pt
  rw [g1] at g2
  cases g2
  rw [c1] at c2
  exact absurd c2 (by decide)
 | .tup a,.int b,x,h1,h2=>by
  rw [Has] at h1
  rw [Has] at h2
  obtain⟨p,xs,rfl,s1,l1⟩:=h1
  cases h2
 | .tup a,.bl b,x,h1,h2=>by
  rw [Has] at h1
  rw [Has] at h2
  obtain⟨p,xs,rfl,s1,l1⟩:=h1
  cases h2
 | .tup a,.str b,x,h1,h2=>by
  rw [Has] at h1
  rw [Has] at h2
  obtain⟨p,xs,rfl,s1,l1⟩:=h1
  cases h2
 | .tup a,.non,x,h1,h2=>by
  rw [Has] at h1
  rw [Has] at h2
  obtain⟨p,xs,rfl,s1,l1⟩:=h1
  cases h2
 | .tup a,.lst b,x,h1,h2=>by
  rw [Has] at h1
  rw [Has] at h2
  obtain⟨p,xs,rfl,s1,l1⟩:=h1
  obtain⟨q,ys,e,s2,l2⟩:=h2
  cases e
  obtain⟨_,_,pl,_⟩:=I.list s2
  obtain⟨_,_,pt,_⟩:=I.tuple s1
  obtain⟨o1,g1,c1,_⟩:=pl.isList
  obtain⟨o2,g2,c2,_⟩:=pt
  rw [g1] at g2
  cases g2
  rw [c1] at c2
  exact absurd c2 (by decide)
 | .tup a,.tup b,x,h1,h2=>by
  rw [Has] at h1
  rw [Has] at h2
  obtain⟨p,xs,rfl,s1,l1⟩:=h1
  obtain⟨q,ys,e,s2,l2⟩:=h2
  cases e
  have e:=I.hV s1 s2
  subst e
  rw [ax.inj I l1 l2]
theorem ax.inj (I:Inv X pins σ H s):∀ {ds es:List Dt} {xs:List V},ax X.K H ds xs->ax X.K H es xs->ds=es
 | [],[],xs,h1,h2=>rfl
 | [],e::r,xs,h1,h2=>by
  rw [ax] at h1
  rw [ax] at h2
  obtain⟨y,t,e,_,_⟩:=h2
  rw [h1] at e
  cases e
 | d::r,[],xs,h1,h2=>by
  rw [ax] at h1
  rw [ax] at h2
  obtain⟨y,t,e,_,_⟩:=h1
  rw [h2] at e
  cases e
 | d::r,e::q,xs,h1,h2=>by
  rw [ax] at h1
  rw [ax] at h2
  obtain⟨x,t,rfl,g1,g2⟩:=h1
  obtain⟨y,w,z,k1,k2⟩:=h2
  cases z
  rw [Has.inj I g1 k1,ax.inj I g2 k2]
end
theorem mL {A:Around}{a b:Addr}{k:Bool}(h:SeqAt.RcAt A s (.ref a) (.ref b) k)(hk:a=b->k=true):SeqAt.EqAt A s (.ref a) (.ref b) k:=by
 by_cases e:a=b
 ·rw [hk e,e]
  exact SeqAt.EqAt.same _
 ·exact SeqAt.EqAt.of_refs e h
theorem oR (I:Inv X pins σ H s):∀ (n:Nat) (A:Around) (d e:Dt) (x y:V) (u v:Value),dpt d<=n->A.units + n < cLine->Has X.K H d x->Has X.K H e y->RelV x u->RelV y v->
  SeqAt.RcAt A s u v (eqD d e)/\SeqAt.RcNeAt A s u v (!eqD d e)/\SeqAt.EqAt A s u v (eqD d e):=by
 intro n
 induction n with
 | zero=>
  intro A d e x y u v hd hA h1 h2 r1 r2
  have hu:A.units < cLine:=by omega
  cases d with
  | int a=>
   rw [Has] at h1
   subst h1
   obtain⟨t,rfl⟩:=r1
   cases e with
   | int b=>
    rw [Has] at h2
    subst h2
    obtain⟨t',rfl⟩:=r2
    have ef:eqD (.int a) (.int b)=(a == b):=by simp [eqD]
    rw [ef]
    exact⟨SeqAt.RcAt.int_int a t b t',SeqAt.RcNeAt.int_int a t b t',SeqAt.EqAt.int_int a t b t'⟩
   | bl b=>
    rw [Has] at h2
    subst h2
    cases r2
    have ef:eqD (.int a) (.bl b)=(a == (if b then 1 else 0)):=by simp [eqD]
    rw [ef]
    exact⟨SeqAt.RcAt.int_bool a t b,SeqAt.RcNeAt.int_bool a t b,SeqAt.EqAt.int_bool a t b⟩
   | str b=>
    rw [Has] at h2
    subst h2
    obtain⟨t',rfl⟩:=r2
    have ef:eqD (.int a) (.str b)=false:=by simp [eqD]
    rw [ef]
    exact⟨SeqAt.RcAt.int_str a t b t',SeqAt.RcNeAt.int_str a t b t',SeqAt.EqAt.int_str a t b t'⟩
   | non=>
    rw [Has] at h2
    subst h2
    cases r2
    have ef:eqD (.int a) (.non)=false:=by simp [eqD]
    rw [ef]
    exact⟨SeqAt.RcAt.int_none a t,SeqAt.RcNeAt.int_none a t,SeqAt.EqAt.int_none a t⟩
   | lst b=>
    have h2k:=h2
    rw [Has] at h2
    obtain⟨q,ys,rfl,s2,l2⟩:=h2
    cases (show v=Value.ref q from r2)
    obtain⟨jts,rv2,pl2,z2⟩:=I.list s2
    have hb:=pl2.isList
    have ef:eqD (.int a) (.lst b)=false:=by simp [eqD]
    rw [ef]
    exact⟨SeqAt.RcAt.int_list a t hb hu,SeqAt.RcNeAt.int_list a t hb hu,SeqAt.EqAt.int_list a t hb hu⟩
   | tup b=>
    have h2k:=h2
    rw [Has] at h2
    obtain⟨q,ys,rfl,s2,l2⟩:=h2
    cases (show v=Value.ref q from r2)
    obtain⟨jts,rv2,pl2,z2⟩:=I.tuple s2
    have hb:s.heap.IsTuple q jts.toArray:=pl2
    have ef:eqD (.int a) (.tup b)=false:=by simp [eqD]
    rw [ef]
    exact⟨SeqAt.RcAt.int_tuple a t hb hu,SeqAt.RcNeAt.int_tuple a t hb hu,SeqAt.EqAt.int_tuple a t hb hu⟩
  | bl a=>
   rw [Has] at h1
   subst h1
   cases r1
   cases e with
   | int b=>
    rw [Has] at h2
    subst h2
    obtain⟨t',rfl⟩:=r2
    have ef:eqD (.bl a) (.int b)=((if a then 1 else 0) == b):=by simp [eqD]
    rw [ef]
    exact⟨SeqAt.RcAt.bool_int a b t',SeqAt.RcNeAt.bool_int a b t',SeqAt.EqAt.bool_int a b t'⟩
   | bl b=>
    rw [Has] at h2
    subst h2
    cases r2
    have ef:eqD (.bl a) (.bl b)=(a == b):=by simp [eqD]
    rw [ef]
    exact⟨SeqAt.RcAt.bool_bool a b,SeqAt.RcNeAt.bool_bool a b,SeqAt.EqAt.bool_bool a b⟩
   | str b=>
    rw [Has] at h2
    subst h2
    obtain⟨t',rfl⟩:=r2
    have ef:eqD (.bl a) (.str b)=false:=by simp [eqD]
    rw [ef]
    exact⟨SeqAt.RcAt.bool_str a b t',SeqAt.RcNeAt.bool_str a b t',SeqAt.EqAt.bool_str a b t'⟩
   | non=>
    rw [Has] at h2
    subst h2
    cases r2
    have ef:eqD (.bl a) (.non)=false:=by simp [eqD]
    rw [ef]
    exact⟨SeqAt.RcAt.bool_none a,SeqAt.RcNeAt.bool_none a,SeqAt.EqAt.bool_none a⟩
   | lst b=>
    have h2k:=h2
    rw [Has] at h2
    obtain⟨q,ys,rfl,s2,l2⟩:=h2
    cases (show v=Value.ref q from r2)
    obtain⟨jts,rv2,pl2,z2⟩:=I.list s2
    have hb:=pl2.isList
    have ef:eqD (.bl a) (.lst b)=false:=by simp [eqD]
    rw [ef]
    exact⟨SeqAt.RcAt.bool_list a hb hu,SeqAt.RcNeAt.bool_list a hb hu,SeqAt.EqAt.bool_list a hb hu⟩
   | tup b=>
    have h2k:=h2
    rw [Has] at h2
    obtain⟨q,ys,rfl,s2,l2⟩:=h2
    cases (show v=Value.ref q from r2)
    obtain⟨jts,rv2,pl2,z2⟩:=I.tuple s2
    have hb:s.heap.IsTuple q jts.toArray:=pl2
    have ef:eqD (.bl a) (.tup b)=false:=by simp [eqD]
    rw [ef]
    exact⟨SeqAt.RcAt.bool_tuple a hb hu,SeqAt.RcNeAt.bool_tuple a hb hu,SeqAt.EqAt.bool_tuple a hb hu⟩
  | str a=>
   rw [Has] at h1
   subst h1
   obtain⟨t,rfl⟩:=r1
   cases e with
   | int b=>
    rw [Has] at h2
    subst h2
    obtain⟨t',rfl⟩:=r2
    have ef:eqD (.str a) (.int b)=false:=by simp [eqD]
    rw [ef]
    exact⟨SeqAt.RcAt.str_int a t b t',SeqAt.RcNeAt.str_int a t b t',SeqAt.EqAt.str_int a t b t'⟩
   | bl b=>
    rw [Has] at h2
    subst h2
    cases r2
    have ef:eqD (.str a) (.bl b)=false:=by simp [eqD]
    rw [ef]
    exact⟨SeqAt.RcAt.str_bool a t b,SeqAt.RcNeAt.str_bool a t b,SeqAt.EqAt.str_bool a t b⟩
   | str b=>
    rw [Has] at h2
    subst h2
    obtain⟨t',rfl⟩:=r2
    have ef:eqD (.str a) (.str b)=(a == b):=by simp [eqD]
    rw [ef]
    exact⟨SeqAt.RcAt.str_str a t b t',SeqAt.RcNeAt.str_str a t b t',SeqAt.EqAt.str_str a t b t'⟩
   | non=>
    rw [Has] at h2
    subst h2
    cases r2
    have ef:eqD (.str a) (.non)=false:=by simp [eqD]
    rw [ef]
    exact⟨SeqAt.RcAt.str_none a t,SeqAt.RcNeAt.str_none a t,SeqAt.EqAt.str_none a t⟩
   | lst b=>
    have h2k:=h2
    rw [Has] at h2
    obtain⟨q,ys,rfl,s2,l2⟩:=h2
    cases (show v=Value.ref q from r2)
    obtain⟨jts,rv2,pl2,z2⟩:=I.list s2
    have hb:=pl2.isList
    have ef:eqD (.str a) (.lst b)=false:=by simp [eqD]
    rw [ef]
    exact⟨SeqAt.RcAt.str_list a t hb hu,SeqAt.RcNeAt.str_list a t hb hu,SeqAt.EqAt.str_list a t hb hu⟩
   | tup b=>
    have h2k:=h2
    rw [Has] at h2
    obtain⟨q,ys,rfl,s2,l2⟩:=h2
    cases (show v=Value.ref q from r2)
    obtain⟨jts,rv2,pl2,z2⟩:=I.tuple s2
    have hb:s.heap.IsTuple q jts.toArray:=pl2
    have ef:eqD (.str a) (.tup b)=false:=by simp [eqD]
    rw [ef]
    exact⟨SeqAt.RcAt.str_tuple a t hb hu,SeqAt.RcNeAt.str_tuple a t hb hu,SeqAt.EqAt.str_tuple a t hb hu⟩
  | non=>
   rw [Has] at h1
   subst h1
   cases r1
   cases e with
   | int b=>
    rw [Has] at h2
    subst h2
    obtain⟨t',rfl⟩:=r2
    have ef:eqD (.non) (.int b)=false:=by simp [eqD]
    rw [ef]
    exact⟨SeqAt.RcAt.none_int b t',SeqAt.RcNeAt.none_int b t',SeqAt.EqAt.none_int b t'⟩
   | bl b=>
    rw [Has] at h2
    subst h2
    cases r2
    have ef:eqD (.non) (.bl b)=false:=by simp [eqD]
    rw [ef]
    exact⟨SeqAt.RcAt.none_bool b,SeqAt.RcNeAt.none_bool b,SeqAt.EqAt.none_bool b⟩
   | str b=>
    rw [Has] at h2
    subst h2
    obtain⟨t',rfl⟩:=r2
    have ef:eqD (.non) (.str b)=false:=by simp [eqD]
    rw [ef]
    exact⟨SeqAt.RcAt.none_str b t',SeqAt.RcNeAt.none_str b t',SeqAt.EqAt.none_str b t'⟩
   | non=>
    rw [Has] at h2
    subst h2
    cases r2
    have ef:eqD (.non) (.non)=true:=by simp [eqD]
    rw [ef]
    exact⟨SeqAt.RcAt.none_none ,SeqAt.RcNeAt.none_none ,SeqAt.EqAt.same _⟩
   | lst b=>
    have h2k:=h2
    rw [Has] at h2
    obtain⟨q,ys,rfl,s2,l2⟩:=h2
    cases (show v=Value.ref q from r2)
    obtain⟨jts,rv2,pl2,z2⟩:=I.list s2
    have hb:=pl2.isList
    have ef:eqD (.non) (.lst b)=false:=by simp [eqD]
    rw [ef]
    exact⟨SeqAt.RcAt.none_list hb hu,SeqAt.RcNeAt.none_list hb hu,SeqAt.EqAt.none_list hb hu⟩
   | tup b=>
    have h2k:=h2
    rw [Has] at h2
    obtain⟨q,ys,rfl,s2,l2⟩:=h2
    cases (show v=Value.ref q from r2)
    obtain⟨jts,rv2,pl2,z2⟩:=I.tuple s2
    have hb:s.heap.IsTuple q jts.toArray:=pl2
    have ef:eqD (.non) (.tup b)=false:=by simp [eqD]
    rw [ef]
    exact⟨SeqAt.RcAt.none_tuple hb hu,SeqAt.RcNeAt.none_tuple hb hu,SeqAt.EqAt.none_tuple hb hu⟩
  | lst a=>
   rw [dpt] at hd
   lia
  | tup a=>
   rw [dpt] at hd
   lia
 | succ n ih=>
  intro A d e x y u v hd hA h1 h2 r1 r2
  have hu:A.units < cLine:=by lia
  cases d with
  | int a=>
   rw [Has] at h1
   subst h1
   obtain⟨t,rfl⟩:=r1
   cases e with
   | int b=>
    rw [Has] at h2
    subst h2
    obtain⟨t',rfl⟩:=r2
    have ef:eqD (.int a) (.int b)=(a == b):=by simp [eqD]
    rw [ef]
    exact⟨SeqAt.RcAt.int_int a t b t',SeqAt.RcNeAt.int_int a t b t',SeqAt.EqAt.int_int a t b t'⟩
   | bl b=>
    rw [Has] at h2
    subst h2
    cases r2
    have ef:eqD (.int a) (.bl b)=(a == (if b then 1 else 0)):=by simp [eqD]
    rw [ef]
    exact⟨SeqAt.RcAt.int_bool a t b,SeqAt.RcNeAt.int_bool a t b,SeqAt.EqAt.int_bool a t b⟩
   | str b=>
    rw [Has] at h2
    subst h2
    obtain⟨t',rfl⟩:=r2
    have ef:eqD (.int a) (.str b)=false:=by simp [eqD]
    rw [ef]
    exact⟨SeqAt.RcAt.int_str a t b t',SeqAt.RcNeAt.int_str a t b t',SeqAt.EqAt.int_str a t b t'⟩
   | non=>
    rw [Has] at h2
    subst h2
    cases r2
    have ef:eqD (.int a) (.non)=false:=by simp [eqD]
    rw [ef]
    exact⟨SeqAt.RcAt.int_none a t,SeqAt.RcNeAt.int_none a t,SeqAt.EqAt.int_none a t⟩
   | lst b=>
    have h2k:=h2
    rw [Has] at h2
    obtain⟨q,ys,rfl,s2,l2⟩:=h2
    cases (show v=Value.ref q from r2)
    obtain⟨jts,rv2,pl2,z2⟩:=I.list s2
    have hb:=pl2.isList
    have ef:eqD (.int a) (.lst b)=false:=by simp [eqD]
    rw [ef]
    exact⟨SeqAt.RcAt.int_list a t hb hu,SeqAt.RcNeAt.int_list a t hb hu,SeqAt.EqAt.int_list a t hb hu⟩
   | tup b=>
    have h2k:=h2
    rw [Has] at h2
    obtain⟨q,ys,rfl,s2,l2⟩:=h2
    cases (show v=Value.ref q from r2)
    obtain⟨jts,rv2,pl2,z2⟩:=I.tuple s2
    have hb:s.heap.IsTuple q jts.toArray:=pl2
    have ef:eqD (.int a) (.tup b)=false:=by simp [eqD]
    rw [ef]
    exact⟨SeqAt.RcAt.int_tuple a t hb hu,SeqAt.RcNeAt.int_tuple a t hb hu,SeqAt.EqAt.int_tuple a t hb hu⟩
  | bl a=>
   rw [Has] at h1
   subst h1
   cases r1
   cases e with
   | int b=>
    rw [Has] at h2
    subst h2
    obtain⟨t',rfl⟩:=r2
    have ef:eqD (.bl a) (.int b)=((if a then 1 else 0) == b):=by simp [eqD]
    rw [ef]
    exact⟨SeqAt.RcAt.bool_int a b t',SeqAt.RcNeAt.bool_int a b t',SeqAt.EqAt.bool_int a b t'⟩
   | bl b=>
    rw [Has] at h2
    subst h2
    cases r2
    have ef:eqD (.bl a) (.bl b)=(a == b):=by simp [eqD]
    rw [ef]
    exact⟨SeqAt.RcAt.bool_bool a b,SeqAt.RcNeAt.bool_bool a b,SeqAt.EqAt.bool_bool a b⟩
   | str b=>
    rw [Has] at h2
    subst h2
    obtain⟨t',rfl⟩:=r2
    have ef:eqD (.bl a) (.str b)=false:=by simp [eqD]
    rw [ef]
    exact⟨SeqAt.RcAt.bool_str a b t',SeqAt.RcNeAt.bool_str a b t',SeqAt.EqAt.bool_str a b t'⟩
   | non=>
    rw [Has] at h2
    subst h2
    cases r2
    have ef:eqD (.bl a) (.non)=false:=by simp [eqD]
    rw [ef]
    exact⟨SeqAt.RcAt.bool_none a,SeqAt.RcNeAt.bool_none a,SeqAt.EqAt.bool_none a⟩
   | lst b=>
    have h2k:=h2
    rw [Has] at h2
    obtain⟨q,ys,rfl,s2,l2⟩:=h2
    cases (show v=Value.ref q from r2)
    obtain⟨jts,rv2,pl2,z2⟩:=I.list s2
    have hb:=pl2.isList
    have ef:eqD (.bl a) (.lst b)=false:=by simp [eqD]
    rw [ef]
    exact⟨SeqAt.RcAt.bool_list a hb hu,SeqAt.RcNeAt.bool_list a hb hu,SeqAt.EqAt.bool_list a hb hu⟩
   | tup b=>
    have h2k:=h2
    rw [Has] at h2
    obtain⟨q,ys,rfl,s2,l2⟩:=h2
    cases (show v=Value.ref q from r2)
    obtain⟨jts,rv2,pl2,z2⟩:=I.tuple s2
    have hb:s.heap.IsTuple q jts.toArray:=pl2
    have ef:eqD (.bl a) (.tup b)=false:=by simp [eqD]
    rw [ef]
    exact⟨SeqAt.RcAt.bool_tuple a hb hu,SeqAt.RcNeAt.bool_tuple a hb hu,SeqAt.EqAt.bool_tuple a hb hu⟩
  | str a=>
   rw [Has] at h1
   subst h1
   obtain⟨t,rfl⟩:=r1
   cases e with
   | int b=>
    rw [Has] at h2
    subst h2
    obtain⟨t',rfl⟩:=r2
    have ef:eqD (.str a) (.int b)=false:=by simp [eqD]
    rw [ef]
    exact⟨SeqAt.RcAt.str_int a t b t',SeqAt.RcNeAt.str_int a t b t',SeqAt.EqAt.str_int a t b t'⟩
   | bl b=>
    rw [Has] at h2
    subst h2
    cases r2
    have ef:eqD (.str a) (.bl b)=false:=by simp [eqD]
    rw [ef]
    exact⟨SeqAt.RcAt.str_bool a t b,SeqAt.RcNeAt.str_bool a t b,SeqAt.EqAt.str_bool a t b⟩
   | str b=>
    rw [Has] at h2
    subst h2
    obtain⟨t',rfl⟩:=r2
    have ef:eqD (.str a) (.str b)=(a == b):=by simp [eqD]
    rw [ef]
    exact⟨SeqAt.RcAt.str_str a t b t',SeqAt.RcNeAt.str_str a t b t',SeqAt.EqAt.str_str a t b t'⟩
   | non=>
    rw [Has] at h2
    subst h2
    cases r2
    have ef:eqD (.str a) (.non)=false:=by simp [eqD]
    rw [ef]
    exact⟨SeqAt.RcAt.str_none a t,SeqAt.RcNeAt.str_none a t,SeqAt.EqAt.str_none a t⟩
   | lst b=>
    have h2k:=h2
    rw [Has] at h2
    obtain⟨q,ys,rfl,s2,l2⟩:=h2
    cases (show v=Value.ref q from r2)
    obtain⟨jts,rv2,pl2,z2⟩:=I.list s2
    have hb:=pl2.isList
    have ef:eqD (.str a) (.lst b)=false:=by simp [eqD]
    rw [ef]
    exact⟨SeqAt.RcAt.str_list a t hb hu,SeqAt.RcNeAt.str_list a t hb hu,SeqAt.EqAt.str_list a t hb hu⟩
   | tup b=>
    have h2k:=h2
    rw [Has] at h2
    obtain⟨q,ys,rfl,s2,l2⟩:=h2
    cases (show v=Value.ref q from r2)
    obtain⟨jts,rv2,pl2,z2⟩:=I.tuple s2
    have hb:s.heap.IsTuple q jts.toArray:=pl2
    have ef:eqD (.str a) (.tup b)=false:=by simp [eqD]
    rw [ef]
    exact⟨SeqAt.RcAt.str_tuple a t hb hu,SeqAt.RcNeAt.str_tuple a t hb hu,SeqAt.EqAt.str_tuple a t hb hu⟩
  | non=>
   rw [Has] at h1
   subst h1
   cases r1
   cases e with
   | int b=>
    rw [Has] at h2
    subst h2
    obtain⟨t',rfl⟩:=r2
    have ef:eqD (.non) (.int b)=false:=by simp [eqD]
    rw [ef]
    exact⟨SeqAt.RcAt.none_int b t',SeqAt.RcNeAt.none_int b t',SeqAt.EqAt.none_int b t'⟩
   | bl b=>
    rw [Has] at h2
    subst h2
    cases r2
    have ef:eqD (.non) (.bl b)=false:=by simp [eqD]
    rw [ef]
    exact⟨SeqAt.RcAt.none_bool b,SeqAt.RcNeAt.none_bool b,SeqAt.EqAt.none_bool b⟩
   | str b=>
    rw [Has] at h2
    subst h2
    obtain⟨t',rfl⟩:=r2
    have ef:eqD (.non) (.str b)=false:=by simp [eqD]
    rw [ef]
    exact⟨SeqAt.RcAt.none_str b t',SeqAt.RcNeAt.none_str b t',SeqAt.EqAt.none_str b t'⟩
   | non=>
    rw [Has] at h2
    subst h2
    cases r2
    have ef:eqD (.non) (.non)=true:=by simp [eqD]
    rw [ef]
    exact⟨SeqAt.RcAt.none_none ,SeqAt.RcNeAt.none_none ,SeqAt.EqAt.same _⟩
   | lst b=>
    have h2k:=h2
    rw [Has] at h2
    obtain⟨q,ys,rfl,s2,l2⟩:=h2
    cases (show v=Value.ref q from r2)
    obtain⟨jts,rv2,pl2,z2⟩:=I.list s2
    have hb:=pl2.isList
    have ef:eqD (.non) (.lst b)=false:=by simp [eqD]
    rw [ef]
    exact⟨SeqAt.RcAt.none_list hb hu,SeqAt.RcNeAt.none_list hb hu,SeqAt.EqAt.none_list hb hu⟩
   | tup b=>
    have h2k:=h2
    rw [Has] at h2
    obtain⟨q,ys,rfl,s2,l2⟩:=h2
    cases (show v=Value.ref q from r2)
    obtain⟨jts,rv2,pl2,z2⟩:=I.tuple s2
    have hb:s.heap.IsTuple q jts.toArray:=pl2
    have ef:eqD (.non) (.tup b)=false:=by simp [eqD]
    rw [ef]
    exact⟨SeqAt.RcAt.none_tuple hb hu,SeqAt.RcNeAt.none_tuple hb hu,SeqAt.EqAt.none_tuple hb hu⟩
  | lst a=>
   have h1k:=h1
   rw [Has] at h1
   obtain⟨p,xs,rfl,s1,l1⟩:=h1
   cases (show u=Value.ref p from r1)
   obtain⟨its,rv1,pl1,z1⟩:=I.list s1
   have hl:=pl1.isList
   have hd':br a<=n:=by rw [dpt] at hd;lia
   cases e with
   | int b=>
    rw [Has] at h2
    subst h2
    obtain⟨t',rfl⟩:=r2
    have ef:eqD (.lst a) (.int b)=false:=by simp [eqD]
    rw [ef]
    exact⟨SeqAt.RcAt.list_int b t' hl hu,SeqAt.RcNeAt.list_int b t' hl hu,SeqAt.EqAt.list_int b t' hl hu⟩
   | bl b=>
    rw [Has] at h2
    subst h2
    cases r2
    have ef:eqD (.lst a) (.bl b)=false:=by simp [eqD]
    rw [ef]
    exact⟨SeqAt.RcAt.list_bool b hl hu,SeqAt.RcNeAt.list_bool b hl hu,SeqAt.EqAt.list_bool b hl hu⟩
   | str b=>
    rw [Has] at h2
    subst h2
    obtain⟨t',rfl⟩:=r2
    have ef:eqD (.lst a) (.str b)=false:=by simp [eqD]
    rw [ef]
    exact⟨SeqAt.RcAt.list_str b t' hl hu,SeqAt.RcNeAt.list_str b t' hl hu,SeqAt.EqAt.list_str b t' hl hu⟩
   | non=>
    rw [Has] at h2
    subst h2
    cases r2
    have ef:eqD (.lst a) (.non)=false:=by simp [eqD]
    rw [ef]
    exact⟨SeqAt.RcAt.list_none hl hu,SeqAt.RcNeAt.list_none hl hu,SeqAt.EqAt.list_none hl hu⟩
   | lst b=>
    have h2k:=h2
    rw [Has] at h2
    obtain⟨q,ys,rfl,s2,l2⟩:=h2
    cases (show v=Value.ref q from r2)
    obtain⟨jts,rv2,pl2,z2⟩:=I.list s2
    have hb:=pl2.isList
    have recc:=qo n (A:=A) (by lia) I l1 l2 rv1 rv2 fun d e x y u v hm hm' g1 g2 k1 k2=>(ih A.in1 d e x y u v (r_ (vE hm) hd') (by show A.units + 1 + n < cLine;lia) g1 g2 k1 k2).2.2
    have m1:=l1.len
    have m2:=l2.len
    have v1:=rv1.length
    have v2:=rv2.length
    have self:p=q->eqD (.lst a) (.lst b)=true:=fun z=>by subst z;rw [Has.inj I h1k h2k];exact ju _
    have ee:eqD (.lst a) (.lst b)=eqL a b:=by rw [eqD]
    by_cases hs:its.toArray.size=jts.toArray.size
    ·have hs':a.length=b.length:=by simp at hs;lia
     have hn:its.toArray.size=a.length:=by simp;lia
     have k1:=SeqAt.RcAt.lists hl hb hs hu recc
     have k2:=SeqAt.RcNeAt.lists hl hb hs hu recc
     rw [hn,kh a b hs',<-ee] at k1 k2
     exact⟨k1,k2,mL k1 self⟩
    ·have hs':¬ a.length=b.length:=by simp at hs;lia
     have hz:(its.toArray.size != jts.toArray.size)=true:=by simpa using hs
     have ef:eqD (.lst a) (.lst b)=false:=by rw [ee];exact Lb.mpr fun z=>hs' (pR z)
     have k1:=SeqAt.RcAt.lists_lengths hl hb hz hu
     have k2:=SeqAt.RcNeAt.lists_lengths hl hb hz hu
     rw [<-ef] at k1
     refine⟨k1,?_,mL k1 self⟩
     rw [ef]
     exact k2
   | tup b=>
    have h2k:=h2
    rw [Has] at h2
    obtain⟨q,ys,rfl,s2,l2⟩:=h2
    cases (show v=Value.ref q from r2)
    obtain⟨jts,rv2,pl2,z2⟩:=I.tuple s2
    have hb:s.heap.IsTuple q jts.toArray:=pl2
    have ef:eqD (.lst a) (.tup b)=false:=by simp [eqD]
    rw [ef]
    exact⟨SeqAt.RcAt.list_tuple hl hb hu,SeqAt.RcNeAt.list_tuple hl hb hu,SeqAt.EqAt.list_tuple hl hb hu⟩
  | tup a=>
   have h1k:=h1
   rw [Has] at h1
   obtain⟨p,xs,rfl,s1,l1⟩:=h1
   cases (show u=Value.ref p from r1)
   obtain⟨its,rv1,pl1,z1⟩:=I.tuple s1
   have hl:s.heap.IsTuple p its.toArray:=pl1
   have hd':br a<=n:=by rw [dpt] at hd;lia
   cases e with
   | int b=>
    rw [Has] at h2
    subst h2
    obtain⟨t',rfl⟩:=r2
    have ef:eqD (.tup a) (.int b)=false:=by simp [eqD]
    rw [ef]
    exact⟨SeqAt.RcAt.tuple_int b t' hl hu,SeqAt.RcNeAt.tuple_int b t' hl hu,SeqAt.EqAt.tuple_int b t' hl hu⟩
   | bl b=>
    rw [Has] at h2
    subst h2
    cases r2
    have ef:eqD (.tup a) (.bl b)=false:=by simp [eqD]
    rw [ef]
    exact⟨SeqAt.RcAt.tuple_bool b hl hu,SeqAt.RcNeAt.tuple_bool b hl hu,SeqAt.EqAt.tuple_bool b hl hu⟩
   | str b=>
    rw [Has] at h2
    subst h2
    obtain⟨t',rfl⟩:=r2
    have ef:eqD (.tup a) (.str b)=false:=by simp [eqD]
    rw [ef]
    exact⟨SeqAt.RcAt.tuple_str b t' hl hu,SeqAt.RcNeAt.tuple_str b t' hl hu,SeqAt.EqAt.tuple_str b t' hl hu⟩
   | non=>
    rw [Has] at h2
    subst h2
    cases r2
    have ef:eqD (.tup a) (.non)=false:=by simp [eqD]
    rw [ef]
    exact⟨SeqAt.RcAt.tuple_none hl hu,SeqAt.RcNeAt.tuple_none hl hu,SeqAt.EqAt.tuple_none hl hu⟩
   | lst b=>
    have h2k:=h2
    rw [Has] at h2
    obtain⟨q,ys,rfl,s2,l2⟩:=h2
    cases (show v=Value.ref q from r2)
    obtain⟨jts,rv2,pl2,z2⟩:=I.list s2
    have hb:=pl2.isList
    have ef:eqD (.tup a) (.lst b)=false:=by simp [eqD]
    rw [ef]
    exact⟨SeqAt.RcAt.tuple_list hl hb hu,SeqAt.RcNeAt.tuple_list hl hb hu,SeqAt.EqAt.tuple_list hl hb hu⟩
   | tup b=>
    have h2k:=h2
    rw [Has] at h2
    obtain⟨q,ys,rfl,s2,l2⟩:=h2
    cases (show v=Value.ref q from r2)
    obtain⟨jts,rv2,pl2,z2⟩:=I.tuple s2
    have hb:s.heap.IsTuple q jts.toArray:=pl2
    have recc:=qo n (A:=A) (by lia) I l1 l2 rv1 rv2 fun d e x y u v hm hm' g1 g2 k1 k2=>(ih A.in1 d e x y u v (r_ (vE hm) hd') (by show A.units + 1 + n < cLine;lia) g1 g2 k1 k2).2.2
    have m1:=l1.len
    have m2:=l2.len
    have v1:=rv1.length
    have v2:=rv2.length
    have self:p=q->eqD (.tup a) (.tup b)=true:=fun z=>by subst z;rw [Has.inj I h1k h2k];exact ju _
    have ee:eqD (.tup a) (.tup b)=eqL a b:=by rw [eqD]
    have hn:its.toArray.size=a.length:=by simp;lia
    have hn':jts.toArray.size=b.length:=by simp;lia
    have k1:=SeqAt.RcAt.tuples hl hb hu recc
    have k2:=SeqAt.RcNeAt.tuples hl hb hu recc
    rw [hn,hn',qO a b,<-ee] at k1 k2
    exact⟨k1,k2,mL k1 self⟩
end
section
variable {X:Cx}
def Gz (K:PySem.W.Frag)(A:Around)(neg:Bool):R2:=fun x y H Q=>∃ d e,Has K H d x/\Has K H e y/\A.units + dpt d < cLine/\Q (.bl (if neg then !eqD d e else eqD d e)) H
theorem yO:OpR X (compareOp .Eq) (Gz X.K X.A false):=by
 intro pins s σ H x y v u Q I rx ry h
 obtain⟨d,e,h1,h2,hA,q⟩:=h
 exact (oR I (dpt d) X.A d e x y v u (c_ _) hA h1 h2 rx ry).1 _ _ _ _ ⟨.bl (eqD d e),H,I,rfl,q⟩
theorem EJ:OpR X (compareOp .NotEq) (Gz X.K X.A true):=by
 intro pins s σ H x y v u Q I rx ry h
 obtain⟨d,e,h1,h2,hA,q⟩:=h
 exact (oR I (dpt d) X.A d e x y v u (c_ _) hA h1 h2 rx ry).2.1 _ _ _ _ ⟨.bl (!eqD d e),H,I,rfl,q⟩
end
end L2
namespace L2
open PySem PySem.Spec PyProof.Rows
structure Cal (P:Program) (w:World) (K:PySem.W.Frag) (mg:Str->Option Value) (base:Heap) (k:Nat) (x:Str) (ps:List Str) (sp:Sp):Prop where
 ex:∃ (f:Addr) (fd:FuncData),FnOk P w K mg base CX0 k f fd ps sp/\mg x=some (.ref f)/\PySem.W.keepIn K (.ref f)=true/\Binds K fd ps []
theorem xT {X:Cx}{j k:Nat}{x:Str}{ps:List Str}{sp:Sp}{e:Expr}{es:List Expr}{t:TA}{p pos:Pos}(D:Cal X.prog X.w X.K X.mg X.base j x ps sp)(hr:Room k X.A)(hg:Gl X x)(ha:PA X (e::es) t)(hjk:j<=k:=by omega)(hdb:(x == ("__debug__":Str))=false:=by decide)
  (he:starEach (e::es) X.env=(false,eval e X.env)::starEach es X.env:=by rfl) (hpl:(backTo pos (starEach es X.env)).any (·.1)=false:=by rfl):PE X (.Call (.Name x p) (e::es) [] pos) (uB sp [] E0 t):=by
 obtain⟨f,fd,F,hm,hk,hb⟩:=D.ex
 exact BZ F (hr.mono hjk) hg hm hk hb .nil DE ha hdb he hpl
theorem Cal.imp {P:Program}{w:World}{K:PySem.W.Frag}{mg:Str->Option Value}{base:Heap}{k:Nat}{x:Str}{ps:List Str}{sp sp':Sp}(D:Cal P w K mg base k x ps sp)(h:∀ vs H Q E,sp' vs H Q E->sp vs H Q E):Cal P w K mg base k x ps sp':=by
 obtain⟨f,fd,F,r⟩:=D.ex
 exact⟨f,fd,F.imp h,r⟩
structure Dfn (K:PySem.W.Frag) (mg:Str->Option Value) (x:Str) (st:Stmt) (ps:List Str):Prop where
 ex:∃ (f:Addr) (fd:FuncData),Fun K x x st f fd/\mg x=some (.ref f)/\Binds K fd ps []
theorem Dfn.cal {P:Program}{w:World}{K:PySem.W.Frag}{mg:Str->Option Value}{base:Heap}{k:Nat}{x:Str}{st:Stmt}{ps:List Str}{sp:Sp}(D:Dfn K mg x st ps)(h:∀ f fd,Fun K x x st f fd->FnOk P w K mg base CX0 k f fd ps sp):Cal P w K mg base k x ps sp:=by
 obtain⟨f,fd,F,hm,hb⟩:=D.ex
 exact⟨f,fd,h f fd F,hm,F.kp,hb⟩
theorem aO.bX {H:Hp}:aO H H:=fun _ _ e=>e
theorem aO.trans' {H H1 H2:Hp}(a:aO H H1)(b:aO H1 H2):aO H H2:=fun c o e=>b c o (a c o e)
theorem bR {H:Hp}{p:Addr}(h:H p=none)(o:HO):aO H (upd H p o):=fun b u q=>by rw [aD (bA q h)];exact q
theorem aO.none {H H':Hp}(a:aO H H'){p:Addr}(h:H' p=none):H p=none:=by
 cases e:H p with
 | none=>rfl
 | some o=>rw [a p o e] at h;cases h
def Kp (a c:Addr)(H H':Hp):Prop:=∀ b o,H b=some o->b≠a->b≠c->H' b=some o
theorem vf {n:Nat}{i:Int}(h0:0<=i)(h1:i < (n:Int)):ixN n i=some i.toNat:=by
 unfold ixN
 rw [if_pos h0,if_pos h1]
theorem BN {α:Type}{xs:List α}{i:Int}{v:α}(h0:0<=i)(hv:xs[i.toNat]?=some v):atI xs i=some v:=by
 have h1:i.toNat < xs.length:=(e_.mp hv).1
 unfold atI
 rw [vf h0 (by omega)]
 exact hv
theorem yc {ns:List Int}{i:Int}(h0:0<=i)(h1:i < (ns.length:Int)):atI (ns.map V.int) i=some (.int (ns.getD i.toNat 0)):=by
 have h2:i.toNat < ns.length:=by omega
 refine BN h0 ?_
 rw [w_,a_ h2,Lk,a_ h2]
 rfl
theorem EI {K:PySem.W.Frag}{b:Bool}{H:Hp}{p:Addr}{xs:List V}{i:Int}{v:V}{Q:VK}(h:SqG b K H p xs)(hv:atI xs i=some v)(q:Q v H):rIx K (.ref p) (.int i) H Q:=by
 cases b with
 | true=>exact .inr (.inl ⟨p,xs,i,v,rfl,rfl,h,hv,q⟩)
 | false=>exact .inl ⟨p,xs,i,v,rfl,rfl,h,hv,q⟩
theorem cZ {A B:Prop}{b:Bool}(hb:b=false)(h:B):if b=true then A else B:=by rw [hb];exact Hg h
theorem lJ {A B:Prop}{b:Bool}(hb:b=true)(h:A):if b=true then A else B:=by rw [hb];exact FC h
theorem r9 {Q:VK}{b:Bool}{H:Hp}(hb:b=true)(q:Q (.bl true) H):Q (.bl b) H:=by rw [hb];exact q
theorem IK {A B:Prop}{b:Bool}(h1:b=true->A)(h2:b=false->B):if b=true then A else B:=by
 cases b with
 | true=>exact FC (h1 rfl)
 | false=>exact Hg (h2 rfl)
end L2
namespace L2
open PySem PySem.Spec PyProof.Rows
def isT:HO->Bool
 | .tup _=>true
 | .frz _ (.tup _)=>true
 | _=>false
def rZ (H H':Hp):Prop:=∀ b o,H b=some o->isT o=true->H' b=some o
theorem x9 {H:Hp}{p:Addr}{o o':HO}(h:H p=some o)(ht:isT o=false):rZ H (upd H p o'):=fun b u e t=>by
 have n:b≠p:=fun z=>by
  subst z
  rw [h] at e
  cases e
  rw [ht] at t
  cases t
 rw [aD n]
 exact e
mutual
def qI:Dt->Bool
 | .lst _=>false
 | .tup ds=>kO ds
 | _=>true
def kO:List Dt->Bool
 | []=>true
 | d::r=>qI d && kO r
end
theorem SqT.kW {K:PySem.W.Frag}{H H':Hp}{a:Addr}{xs:List V}(e:rZ H H')(h:SqT K H a xs):SqT K H' a xs:=by
 rcases h with (h | ⟨o,h⟩) | h
 ·exact .inl (.inl (e _ _ h rfl))
 ·exact .inl (.inr ⟨o,e _ _ h rfl⟩)
 ·exact .inr h
mutual
theorem Has.kW {K:PySem.W.Frag}{H H':Hp}(e:rZ H H'):∀ {d:Dt} {v:V},qI d=true->Has K H d v->Has K H' d v
 | .int i,v,_,h=>by rw [Has] at h ⊢;exact h
 | .bl i,v,_,h=>by rw [Has] at h ⊢;exact h
 | .str i,v,_,h=>by rw [Has] at h ⊢;exact h
 | .non,v,_,h=>by rw [Has] at h ⊢;exact h
 | .lst ds,v,t,h=>by simp [qI] at t
 | .tup ds,v,t,h=>by
  rw [qI] at t
  rw [Has] at h ⊢
  obtain⟨a,xs,hv,hs,hl⟩:=h
  exact⟨a,xs,hv,SqT.kW e hs,ax.kW e t hl⟩
theorem ax.kW {K:PySem.W.Frag}{H H':Hp}(e:rZ H H'):∀ {ds:List Dt} {xs:List V},kO ds=true->ax K H ds xs->ax K H' ds xs
 | [],xs,_,h=>by rw [ax] at h ⊢;exact h
 | d::r,xs,t,h=>by
  rw [kO,C_] at t
  rw [ax] at h ⊢
  obtain⟨x,t',hx,h1,h2⟩:=h
  exact⟨x,t',hx,Has.kW e t.1 h1,ax.kW e t.2 h2⟩
end
theorem zX {ds:List Dt}(h:∀ d∈ds,qI d=true):kO ds=true:=by
 induction ds with
 | nil=>rw [kO]
 | cons d r ih=>rw [kO,h d t_,ih fun x hx=>h x (o_ _ hx)];rfl
theorem kM {d:Nat->Dt}(keep:Nat->Bool)(i:Nat):((y_ (i + 1)).filter keep).map d=((y_ i).filter keep).map d++(if keep i=true then [d i] else []):=by
 rw [LV,Lv,l_]
 cases h:keep i <;> simp [h]
theorem sh {K:PySem.W.Frag}{J:It}{fr:List (Option Nat)}{g:Shared->Hp->List Addr->TG}{tt:Shared->Hp->List Addr->TT}{te:Shared->Hp->List Addr->TE}{σ:St}{H1:Hp}{Q:VK}(Ok:St->Prop)(n:Nat)(hn:n < sizeLine)(d:Nat->Dt)(keep:Nat->Bool)(hd:∀ i,qI (d i)=true)(h0:Ok (cQ fr σ))
  (hgo:∀ i H',aO H1 H'->i < n->J.go i H') (hst:∀ H',aO H1 H'->J.stop n H')
  (turn:∀ s3 H3' fp i σ' H',i < n->Ok σ'->aO H1 H'->∀ x H2,J.yld i H' x H2->∀ (Nx:St->Hp->Prop) (Ap:St->V->Hp->Prop),(keep i=false->∀ σ2 H4,Ok σ2->aO H' H4->Nx σ2 H4)->(keep i=true->∀ σ2 v H5,Ok σ2->aO H' H5->Has K H5 (d i) v->Ap σ2 v H5)->
   g s3 H3' fp x σ' H2 fun σ2 H3=>tt s3 H3' fp σ2 H3 fun b H4=>if b=true then te s3 H3' fp σ2 H4 (fun v H5=>Ap σ2 v H5) else Nx σ2 H4)
  (fin:∀ p acc H',H1 p=none->aO H1 H'->H' p=some (.lst acc)->ax K H' (((y_ n).filter keep).map d) acc->Q (.ref p) H') :
  DL J fr g tt te σ H1 Q:=by
 intro p hp s3 H3' fp
 have tall:∀ i,kO (((y_ i).filter keep).map d)=true:=fun i=>zX fun x hx=>by
  obtain⟨j,_,rfl⟩:=A_.mp hx
  exact hd j
 refine⟨fun i m σ' H'=>m=n - i/\i<=n/\Ok σ'/\aO H1 H'/\∃ acc,H' p=some (.lst acc)/\ax K H' (((y_ i).filter keep).map d) acc,⟨n,by simp,B_ _,h0,bR hp _,[],aF,iW⟩,?_⟩
 rintro i m σ' H' ⟨rfl,hi,ok,sm,acc,hacc,hl⟩
 by_cases hlt:i < n
 ·refine .inr ⟨hgo i H' sm hlt,fun x H2 hy=>?_⟩
  refine turn s3 H3' fp i σ' H' hlt ok sm x H2 hy (fun σ2 H4=>∃ m',m' < n - i/\m'=n - (i + 1)/\i + 1<=n/\Ok σ2/\aO H1 H4/\∃ acc,H4 p=some (.lst acc)/\ax K H4 (((y_ (i + 1)).filter keep).map d) acc) (fun σ2 v H5=>_) (fun hk σ2 H4 ok2 s4=>?_) (fun hk σ2 v H5 ok2 s5 hv=>?_)
  ·refine⟨n - (i + 1),by lia,rfl,hlt,ok2,sm.trans' s4,acc,s4 _ _ hacc,?_⟩
   rw [kM,hk]
   simpa using ax.same s4 hl
  ·have h5:H5 p=some (.lst acc):=s5 _ _ hacc
   have len:acc.length<=i:=by
    have e:=hl.len
    have e2:(((y_ i).filter keep).map d).length<=i:=by
     rw [b_]
     exact r_ (KC _ _) (by rw [JI];exact c_ _)
    lia
   have ts:rZ H5 (upd H5 p (.lst (acc++[v]))):=x9 h5 rfl
   refine⟨acc,h5,by lia,n - (i + 1),by lia,rfl,hlt,ok2,fun b o e=>?_,acc++[v],aF,?_⟩
   ·rw [aD (bA e hp)]
    exact s5 b o (sm b o e)
   ·rw [kM,hk]
    exact ax.append (ax.kW ts (tall i) (ax.same s5 hl)) (jW (Has.kW ts (hd i) hv) iW)
 ·have e:i=n:=by lia
  subst e
  exact .inl ⟨hst H' sm,fin p acc H' hp sm hacc hl⟩
theorem qY {X:Cx}{N ps:List Str}{esc:Scope}(S:FnScope N ps esc)(N':List Str)(fr:List (Option Nat))(nd:N'.Nodup){elt target iter:Expr}{ifs:List Expr}{sc:Scope}{pos:Pos}{wi:TI}{g:Shared->Hp->List Addr->TG}{tt:Shared->Hp->List Addr->TT}{te:Shared->Hp->List Addr->TE}(C:iu N esc sc N' fr=true)
  (hi:PI X target iter wi) (hg:∀ s3 H3 fp,PG (aP X N' sc s3 H3 fp) target (g s3 H3 fp)) (ht:∀ s3 H3 fp,PTs (aP X N' sc s3 H3 fp) ifs (tt s3 H3 fp)) (he:∀ s3 H3 fp,PE (aP X N' sc s3 H3 fp) elt (te s3 H3 fp))
  (hc:X.calm=true:=by rfl) (hN:X.N=N:=by rfl) (hS:X.env.scope=esc:=by rfl) (hs:∀ x,foldedSetIterable iter X.env x=pure x:=by intro _;rfl):PE X (.ListComp elt [⟨target,iter,ifs,0⟩] sc pos) (v3 wi fr g tt te):=
 CA N' fr hc (by rw [hN,hS];exact C) hi hg ht he hs
theorem qr {σ:St}{H:Hp}{A B:Hp->Prop}(h:A H):FO σ H (fun b H4=>if b=true then A H4 else B H4):=by
 unfold FO
 exact FC h
theorem ip {K:PySem.W.Frag}{H:Hp}:∀ {bs:List Bool} {xs:List V},ax K H (bs.map Dt.bl) xs->xs=bools bs
 | [],xs,h=>by
  have h:ax K H [] xs:=h
  rw [ax] at h;exact h
 | n::r,xs,h=>by
  have h:ax K H (Dt.bl n::r.map Dt.bl) xs:=h
  rw [ax] at h
  obtain⟨x,t,rfl,h1,h2⟩:=h
  rw [Has] at h1
  rw [h1,ip h2]
  rfl
def Its (K:PySem.W.Frag)(b:Bool)(a:Addr):It:=match b with
 | true=>Itt K a
 | false=>Itl K a
def iSq (K:PySem.W.Frag)(tl:TE):TI:=fun σ H R=>tl σ H fun x H1=>∃ b a xs,x=.ref a/\SqG b K H1 a xs/\R (Its K b a) H1
theorem EF {X:Cx}{tg l:Expr}{tl:TE}(hl:PE X l tl):PI X tg l (iSq X.K tl):=by
 intro pins s σ H R I h
 refine thn (hl pins s σ H _ I h) ?_
 rintro v s1 ⟨x,H1,I1,r1,q1⟩
 obtain⟨b,a,xs,rfl,hq,q⟩:=q1
 cases r1
 cases b with
 | true=>
  obtain⟨its,rv,p,hz⟩:=I1.tuple hq
  refine wpAny_pyIter_tuple (show s1.heap.IsTuple a its.toArray from p) ⟨s1.heap.objs.size,[s1.heap.objs.size],_,_,H1,rfl,I1.kept (t':=s1.toks) fun b o e=>Heap.get?_push_of_some _ e,sM a _,⟨_,Heap.get?_push_size _ rfl,rfl,rfl⟩,fun b hb=>?_,q⟩
  have e:b=s1.heap.objs.size:=by simpa using hb
  subst e
  exact I1.rV (c_ _) (I1.hok.fresh (c_ _))
 | false=>
  obtain⟨its,rv,p,hz⟩:=I1.list hq
  refine wpAny_pyIter_list p.isList ⟨s1.heap.objs.size,[s1.heap.objs.size],_,_,H1,rfl,I1.kept (t':=s1.toks) fun b o e=>Heap.get?_push_of_some _ e,wx a _,⟨_,Heap.get?_push_size _ rfl,rfl,rfl⟩,fun b hb=>?_,q⟩
  have e:b=s1.heap.objs.size:=by simpa using hb
  subst e
  exact I1.rV (c_ _) (I1.hok.fresh (c_ _))
theorem D6 {K:PySem.W.Frag}{b:Bool}{a:Addr}{xs:List V}{H1 H' H2:Hp}{i:Nat}{v:V}(h1:SqG b K H1 a xs)(s:aO H1 H')(h:(Its K b a).yld i H' v H2):H2=H'/\xs[i]?=some v:=by
 cases b with
 | true=>exact⟨h.1,h.2 xs (SqG.same s h1)⟩
 | false=>exact⟨h.1,h.2 xs (SqG.same s h1)⟩
theorem Ez {K:PySem.W.Frag}{b:Bool}{a:Addr}{xs:List V}{H1:Hp}(h1:SqG b K H1 a xs){n:Nat}(hx:xs.length=n):∀ i H',aO H1 H'->i < n->(Its K b a).go i H':=fun i H' s hi=>by
 cases b with
 | true=>exact⟨xs,xs[i]'(by lia),SqT.same s h1,a_ _⟩
 | false=>exact⟨xs,xs[i]'(by lia),SqL.same s h1,a_ _⟩
theorem AH {K:PySem.W.Frag}{b:Bool}{a:Addr}{xs:List V}{H1:Hp}(h1:SqG b K H1 a xs){n:Nat}(hx:xs.length=n):∀ H',aO H1 H'->(Its K b a).stop n H':=fun H' s=>by
 cases b with
 | true=>exact⟨xs,SqT.same s h1,by lia⟩
 | false=>exact⟨xs,SqL.same s h1,by lia⟩
theorem Ag {K:PySem.W.Frag}{b1 b2:Bool}{a1 a2:Addr}{xs ys:List V}{H1:Hp}(h1:SqG b1 K H1 a1 xs)(h2:SqG b2 K H1 a2 ys){n:Nat}(hx:xs.length=n)(hy:ys.length=n):∀ i H',aO H1 H'->i < n->(Itz K b1 a1 b2 a2).go i H':=fun i H' s hi=>
 ⟨xs,ys,xs[i]'(by lia),ys[i]'(by lia),SqG.same s h1,SqG.same s h2,a_ _,a_ _⟩
theorem qq {K:PySem.W.Frag}{b1 b2:Bool}{a1 a2:Addr}{xs ys:List V}{H1:Hp}(h1:SqG b1 K H1 a1 xs)(h2:SqG b2 K H1 a2 ys){n:Nat}(hx:xs.length=n)(hy:ys.length=n):∀ H',aO H1 H'->(Itz K b1 a1 b2 a2).stop n H':=fun H' s=>
 ⟨xs,ys,SqG.same s h1,SqG.same s h2,.inl (by lia)⟩
theorem uX {K:PySem.W.Frag}{b1 b2:Bool}{a1 a2:Addr}{xs ys:List V}{H1 H' H2:Hp}{i:Nat}{v:V}(h1:SqG b1 K H1 a1 xs)(h2:SqG b2 K H1 a2 ys)(s:aO H1 H')(h:(Itz K b1 a1 b2 a2).yld i H' v H2) :
  ∃ p x y,v=.ref p/\aO H' H2/\H2 p=some (.tup [x,y])/\xs[i]?=some x/\ys[i]?=some y:=by
 obtain⟨p,x,y,hp,rfl,rfl,g1,g2⟩:=h
 exact⟨p,x,y,rfl,bR hp _,aF,g1 xs (SqG.same s h1),g2 ys (SqG.same s h2)⟩
end L2
namespace L2
open PySem PySem.Spec PyProof.Rows
def New (o:HO)(H:Hp)(Q:VK):Prop:=∀ p H',H p=none->aO H H'->H' p=some o->Q (.ref p) H'
theorem New.at {o:HO}{H:Hp}{Q:VK}(h:New o H Q){p:Addr}(hp:H p=none):Q (.ref p) (upd H p o):=h p _ hp (bR hp o) aF
section
variable {X:Cx}{es:List Expr}{t:TA}{pos:Pos}
def Ia (t:TA):TE:=fun σ H Q=>t σ H fun xs H1=>xs.length<=sizeLine/\New (.tup xs) H1 Q
def HD (t:TA):TE:=fun σ H Q=>t σ H fun xs H1=>xs.length<=sizeLine/\New (.lst xs) H1 Q
theorem BO {x1}(h:PA X es t):PE X (.Tuple es x1 pos) (Ia t):=by
 intro pins s σ H Q I hq
 refine wpAny_Tuple_spliced (thn (h pos pins s σ H _ I hq) fun us s1 ⟨xs,H1,I1,r,z,q⟩=>⟨by rw [<-r.length];exact z,?_⟩)
 refine⟨.ref s1.heap.objs.size,upd H1 s1.heap.objs.size (.tup xs),I1.laid (t':=s1.toks) (fun b u e=>Heap.get?_push_of_some _ e) (c_ _) ⟨z,us,r,⟨_,Heap.get?_push_size _ rfl,rfl,_,rfl⟩⟩,rfl,q.at (I1.hok.fresh (c_ _))⟩
theorem Cj (h:PA X es t):PE X (.List es pos) (HD t):=by
 intro pins s σ H Q I hq
 refine wpAny_List_spliced (thn (h pos pins s σ H _ I hq) fun us s1 ⟨xs,H1,I1,r,z,q⟩=>⟨by rw [<-r.length];exact z,?_⟩)
 refine⟨.ref s1.heap.objs.size,upd H1 s1.heap.objs.size (.lst xs),I1.laid (t':=s1.toks) (fun b u e=>Heap.get?_push_of_some _ e) (c_ _) ⟨z,us,0,r,Heap.get?_push_size _ rfl⟩,rfl,q.at (I1.hok.fresh (c_ _))⟩
theorem bE.imp {f:Value}{r r':List V->Hp->VK->Prop}(h:bE X f r)(k:∀ vs H Q,r' vs H Q->r vs H Q):bE X f r':=fun pins s σ H xs us Q I rv q=>h pins s σ H xs us Q I rv (k _ _ _ q)
theorem OpR.imp {f:Value->Value->Sem Value}{r r':R2}(h:OpR X f r)(k:∀ x y H Q,r' x y H Q->r x y H Q):OpR X f r':=fun pins s σ H x y v u Q I rx ry q=>h pins s σ H x y v u Q I rx ry (k _ _ _ _ q)
theorem qR:bE X (.type "tuple") (fun xs H Q=>∃ p ys,xs=[.ref p]/\SqL X.K H p ys/\New (.tup ys) H Q):=nA.imp fun vs H Q ⟨p,ys,e,h,q⟩=>⟨p,ys,e,.inl ⟨h,fun l hl=>q.at hl⟩⟩
theorem xG:bE X (.builtin "len") (fun xs H Q=>∃ b p ys,xs=[.ref p]/\SqG b X.K H p ys/\Q (.int ys.length) H):=e7.imp fun vs H Q ⟨b,p,ys,e,h,q⟩=>by
 refine⟨p,ys,e,?_,q⟩
 cases b with
 | true=>exact .inr h
 | false=>exact .inl h
def Jy (K:PySem.W.Frag):R2:=fun x y H Q=>∃ b p xs i v,x=.ref p/\y=.int i/\SqG b K H p xs/\atI xs i=some v/\Q v H
theorem Jm:IxR X (Jy X.K):=fun value slice pins s σ H x y v u Q I rx ry ⟨b,p,xs,i,z,e1,e2,hq,ha,q⟩ hs=>by
 subst e1 e2
 exact Ec value slice pins s σ H (.ref p) (.int i) v u Q I rx ry (EI hq ha q) hs
end
end L2
namespace L2
open PySem PySem.Spec PyProof.Rows
def xY (ns:List Int)(r:Int):Prop:=r∈ns/\∀ x∈ns,r<=x
def ze (ns:List Int)(r:Int):Prop:=r∈ns/\∀ x∈ns,x<=r
theorem dH:∀ {ns:List Int} {us:List Value},Vals (ns.map V.int) us->∃ ps:List (Int × Tok),us=ps.map (fun p=>Value.int p.1 p.2)/\ps.map (·.1)=ns
 | [],_,.nil=>⟨[],rfl,rfl⟩
 | n::r,_,.cons h t=>by
  obtain⟨ps,e1,e2⟩:=dH t
  obtain⟨tk,e⟩:=h
  exact⟨(n,tk)::ps,by rw [e,e1];rfl,by rw [<-e2];rfl⟩
theorem dX {ps:List (Int × Tok)}{ns:List Int}(e:ps.map (·.1)=ns){i:Nat}(hi:i < ns.length):numAt ps.toArray i=ns[i]:=by
 subst e
 have h2:i < ps.length:=by simpa using hi
 simp [numAt,h2]
section
variable {X:Cx}
theorem w9 (hc:X.calm=true):bE X (.builtin "min") (fun xs H Q=>∃ a ns,xs=[.ref a]/\SqL X.K H a (ns.map V.int)/\ns≠[]/\∀ r,xY ns r->Q (.int r) H):=by
 intro pins s σ H xs us Q I r h
 obtain⟨a,ns,rfl,hq,hne,q⟩:=h
 obtain⟨u,rfl,ru⟩:=vals1 r
 cases ru
 obtain⟨its,rv,p,z⟩:=I.list hq
 obtain⟨ps,e1,e2⟩:=dH rv
 subst e1
 have hl:s.heap.IsList a (intItems ps.toArray):=by
  have e:intItems ps.toArray=(ps.map fun p=>Value.int p.1 p.2).toArray:=by simp [intItems]
  rw [e];exact p.isList
 have hlen:ps.length=ns.length:=by rw [<-e2];simp
 have hpos:0 < ns.length:=Kh fun z=>hne (Ku z)
 refine min_intList (I.ok.hd hc) hl (by simp;lia) fun v h' tk hv hk=>?_
 obtain⟨tv,rfl⟩:=intItems_at hv
 obtain⟨b1,b2⟩:=argBest_lt (numAt ps.toArray) (ps.toArray.size - 1)
 have hi:argBest (fun i j=>decide (numAt ps.toArray i < numAt ps.toArray j)) (ps.toArray.size - 1) < ns.length:=by simp at b1 ⊢;lia
 refine⟨.int _,H,I.kept (t':=tk) hk,⟨tv,rfl⟩,q _ ⟨?_,fun x hx=>?_⟩⟩
 ·rw [dX e2 hi];exact Kg hi
 ·obtain⟨j,hj,rfl⟩:=KO.mp hx
  have:=b2 j (by simp;lia)
  rw [dX e2 hj] at this
  exact this
theorem x8 (hc:X.calm=true):bE X (.builtin "max") (fun xs H Q=>∃ a ns,xs=[.ref a]/\SqL X.K H a (ns.map V.int)/\ns≠[]/\∀ r,ze ns r->Q (.int r) H):=by
 intro pins s σ H xs us Q I r h
 obtain⟨a,ns,rfl,hq,hne,q⟩:=h
 obtain⟨u,rfl,ru⟩:=vals1 r
 cases ru
 obtain⟨its,rv,p,z⟩:=I.list hq
 obtain⟨ps,e1,e2⟩:=dH rv
 subst e1
 have hl:s.heap.IsList a (intItems ps.toArray):=by
  have e:intItems ps.toArray=(ps.map fun p=>Value.int p.1 p.2).toArray:=by simp [intItems]
  rw [e];exact p.isList
 have hlen:ps.length=ns.length:=by rw [<-e2];simp
 have hpos:0 < ns.length:=Kh fun z=>hne (Ku z)
 refine max_intList (I.ok.hd hc) hl (by simp;lia) fun v h' tk hv hk=>?_
 obtain⟨tv,rfl⟩:=intItems_at hv
 obtain⟨b1,b2⟩:=argBest_gt (numAt ps.toArray) (ps.toArray.size - 1)
 have hi:argBest (fun i j=>decide (numAt ps.toArray i > numAt ps.toArray j)) (ps.toArray.size - 1) < ns.length:=by simp at b1 ⊢;lia
 refine⟨.int _,H,I.kept (t':=tk) hk,⟨tv,rfl⟩,q _ ⟨?_,fun x hx=>?_⟩⟩
 ·rw [dX e2 hi];exact Kg hi
 ·obtain⟨j,hj,rfl⟩:=KO.mp hx
  have:=b2 j (by simp;lia)
  rw [dX e2 hj] at this
  exact this
theorem vX (hc:X.calm=true):bE X (.builtin "max") (fun xs H Q=>∃ i j k,xs=[.int i,.int j,.int k]/\∀ r,i<=r->j<=r->k<=r->(r=i\/r=j\/r=k)->Q (.int r) H):=by
 intro pins s σ H xs us Q I r h
 obtain⟨i,j,k,rfl,q⟩:=h
 cases r with
 | cons r1 rr=>
  cases rr with
  | cons r2 rr=>
   cases rr with
   | cons r3 rr=>
    cases rr
    obtain⟨t1,rfl⟩:=r1
    obtain⟨t2,rfl⟩:=r2
    obtain⟨t3,rfl⟩:=r3
    refine max_three_ints (I.ok.hd hc) fun h' tk hk=>?_
    have fin:∀ (r:Int) (t:Tok),i<=r->j<=r->k<=r->(r=i\/r=j\/r=k)->EP X pins σ Q (.int r t) { s with heap:=h',toks:=tk }:=fun r t a b c d=>⟨.int r,H,I.kept (t':=tk) hk,⟨t,rfl⟩,q r a b c d⟩
    split
    ·split
     ·exact fin _ _ (by lia) (by lia) (by lia) (by lia)
     ·exact fin _ _ (by lia) (by lia) (by lia) (by lia)
    ·split
     ·exact fin _ _ (by lia) (by lia) (by lia) (by lia)
     ·exact fin _ _ (by lia) (by lia) (by lia) (by lia)
theorem x4 (hc:X.calm=true):bE X (.builtin "min") (fun xs H Q=>∃ i j k,xs=[.int i,.int j,.int k]/\∀ r,r<=i->r<=j->r<=k->(r=i\/r=j\/r=k)->Q (.int r) H):=by
 intro pins s σ H xs us Q I r h
 obtain⟨i,j,k,rfl,q⟩:=h
 cases r with
 | cons r1 rr=>
  cases rr with
  | cons r2 rr=>
   cases rr with
   | cons r3 rr=>
    cases rr
    obtain⟨t1,rfl⟩:=r1
    obtain⟨t2,rfl⟩:=r2
    obtain⟨t3,rfl⟩:=r3
    refine min_three_ints (I.ok.hd hc) fun h' tk hk=>?_
    have fin:∀ (r:Int) (t:Tok),r<=i->r<=j->r<=k->(r=i\/r=j\/r=k)->EP X pins σ Q (.int r t) { s with heap:=h',toks:=tk }:=fun r t a b c d=>⟨.int r,H,I.kept (t':=tk) hk,⟨t,rfl⟩,q r a b c d⟩
    split
    ·split
     ·exact fin _ _ (by lia) (by lia) (by lia) (by lia)
     ·exact fin _ _ (by lia) (by lia) (by lia) (by lia)
    ·split
     ·exact fin _ _ (by lia) (by lia) (by lia) (by lia)
     ·exact fin _ _ (by lia) (by lia) (by lia) (by lia)
end
section
variable {X:Cx}{a b c d:Expr}{ta tb tc td:TE}{pos:Pos}
theorem Ae:SlR X (fun x lo hi H Q=>∃ a xs,x=.ref a/\SqL X.K H a xs/\New (.lst (gM xs lo hi)) H Q):=fun pins s σ H x v vl vu lo hi sl Q I rx hs pl pu ⟨a,xs,e,h,q⟩=>vq pins s σ H x v vl vu lo hi sl Q I rx hs pl pu ⟨a,xs,e,h,fun p hp=>q.at hp⟩
theorem vo:SlR X (fun x lo hi H Q=>∃ a xs,x=.ref a/\SqT X.K H a xs/\¬ (HT.sIx xs.length 0 lo=0/\HT.sIx xs.length xs.length hi=xs.length)/\New (.tup (gM xs lo hi)) H Q):=fun pins s σ H x v vl vu lo hi sl Q I rx hs pl pu ⟨a,xs,e,h,hw,q⟩=>Et pins s σ H x v vl vu lo hi sl Q I rx hs pl pu ⟨a,xs,e,h,hw,fun p hp=>q.at hp⟩
end
end L2
namespace L2
open PySem PySem.Spec PyProof.Rows
structure Put (H:Hp) (p:Addr) (o:HO) (H':Hp):Prop where
 at_:H' p=some o
 else_:∀ b,b≠p->H' b=H b
theorem Put.up {H:Hp}{p:Addr}{o:HO}:Put H p o (upd H p o):=⟨aF,fun b h=>aD h⟩
section
variable {X:Cx}
theorem sT.imp {t t':Bc}(h:sT X t)(k:∀ o i v H Q,t' o i v H Q->t o i v H Q):sT X t':=fun pins s σ H o i v ov iv u Q I r1 r2 r3 q=>h pins s σ H o i v ov iv u Q I r1 r2 r3 (k _ _ _ _ _ q)
theorem xM:sT X (fun o i v H Q=>∃ p xs k j,o=.ref p/\i=.int k/\H p=some (.lst xs)/\ixN xs.length k=some j/\∀ H',Put H p (.lst (xs.set j v)) H'->Q H'):=set_list.imp fun o i v H Q ⟨p,xs,k,j,e1,e2,h,hj,q⟩=>⟨p,xs,k,j,e1,e2,h,hj,q _ Put.up⟩
end
end L2
namespace L2
open PySem PySem.Spec PyProof.Rows
section
variable {M:Model}{A:Around}{E:Value->Shared->Prop}{s:Shared}{env:Env}
theorem jF {e:Expr}{scope:Scope}{pos:Pos}{newAcc first:Sem Value}{g:Comprehension}{gs:List Comprehension}{u:Value->Sem Unit}{Q:Value->Shared->Prop}
  (hcl:clausesOf e=g::gs) (hs:∀ x,foldedSetIterable g.iter env x=pure x)
  (hc:∀ x∈scope.names,x.2≠.cell) (hfr:∀ x∈scope.names,x.2=.free->∃ c,env.cells.lookup x.1=some c) (hkind:scope.kind=.function) (hnames:∀ x∈scope.names,x.2=.local->scope.names.lookup x.1=some .local)
  (h:wpAny M A first (fun x s₁=>wpAny M A (pyIter x) (fun it s₂=>wpAny M A newAcc (fun acc s₃=>
   ∀ h4,h4.Ns s₃.heap.objs.size (fun _=>none)->(∀ b o,s₃.heap.get? b=some o->h4.get? b=some o)->
    codeAny M A (.compStart e 0 it acc (L2.compEnv env scope s₃.heap.objs.size)) (fun r s'=>match r with
     | .ok _=>wpAny M A (u acc) (fun _ s''=>∃ m,s''.heap.Ns s₃.heap.objs.size m/\∀ h',Heap.SameBut s₃.heap.objs.size s''.heap h'->Q .none { s'' with heap:=h' }) E s'
     | .error x=>False) { s₃ with heap:=h4 }) E s₂) E s₁) E s) :
  wpAny M A (comprehension e scope env pos newAcc false first (some u)) Q E s:=by
 unfold comprehension
 rw [lW hfr,hcl]
 refine wpAny_bind (wpAny_mono h (fun x s₁ h₁=>wpAny_bind (wpAny_standAt (wpAny_bind (wpAny_of_eq (hs x) (wpAny_bind (wpAny_holding (wpAny_mono h₁ (fun it s₂ h₂=>
  wpAny_standIf (wpAny_bind (wpAny_mono h₂ (fun acc s₃ h₃=>wpAny_bind (wpAny_pure (wpAny_bind ?_))) fun _ _ h'=>h'))) fun _ _ h'=>h'))))))) fun _ _ h'=>h')
 refine wpAny_newFunctionEnv hc (fun x hx=>nomatch hx) (fun h4 hn4 hs4=>?_) hkind
 have h₄:=h₃ h4 hn4 fun b o e=>hs4.extBut b o (q_ (Heap.lt_size e)) (Heap.get?_push_of_some _ e)
 dsimp only
 have hv:∀ x∈(scope.names.filter fun x=>(x.2 == .local || x.2 == .cell) && x.1 != (".0":Str)).reverse,x.2=.local->
   Env.kindOf (L2.compEnv env scope s₃.heap.objs.size) x.1=some .local:=fun x hx hl=>by
  show (lS env scope).names.lookup x.1=some .local
  rw [jG,hnames x (JV.mp (LO.mp hx)).1 hl]
  rfl
 have hv':∀ x∈(scope.names.filter fun x=>(x.2 == .local || x.2 == .cell) && x.1 != (".0":Str)).reverse.drop 1++(scope.names.filter fun x=>(x.2 == .local || x.2 == .cell) && x.1 != (".0":Str)).reverse.take 1,
   x.2=.local->Env.kindOf (L2.compEnv env scope s₃.heap.objs.size) x.1=some .local:=fun x hx hl=>
  (G_.mp hx).elim (fun z=>hv x (Lg z) hl) fun z=>hv x (Kl z) hl
 refine wpAny_holding (wpAny_bind (wpAny_attempt (wpAny_holding (wpAny_run (codeAny_mono h₄ fun r s' hr=>?_)))))
 cases r with
 | ok f=>
  refine wpAny_bind (wpAny_rule (wpAny_bind (wpAny_holding (wpAny_mono hr (fun _ s'' hr'=>?_) fun _ _ h'=>h'))))
  obtain⟨m,hn,hr'⟩:=hr'
  exact wpAny_bind (wpAny_comp_letGo (cenv:=L2.compEnv env scope s₃.heap.objs.size) hkind _ s'' m hv' hn fun h' m' _ hs'=>wpAny_pure (hr' h' hs'))
 | error x=>exact hr.elim
end
theorem Bn {X:Cx}{N ps:List Str}{esc:Scope}(S:FnScope N ps esc){i:Nat}{x:Str}{pos pos':Pos}(N':List Str)(fr:List (Option Nat))(nd:N'.Nodup){elt target iter:Expr}{ifs:List Expr}{sc:Scope}{pos2:Pos}{wi:TI}{g:Shared->Hp->List Addr->TG}{tt:Shared->Hp->List Addr->TT}{te:Shared->Hp->List Addr->TE}(C:iu N esc sc N' fr=true)
  (hi:X.N[i]?=some x) (hx:Loc X.env.scope x) (hit:PI X target iter wi) (hg:∀ s3 H3 fp,PG (aP X N' sc s3 H3 fp) target (g s3 H3 fp)) (ht:∀ s3 H3 fp,PTs (aP X N' sc s3 H3 fp) ifs (tt s3 H3 fp)) (he:∀ s3 H3 fp,PE (aP X N' sc s3 H3 fp) elt (te s3 H3 fp))
  (hsw:swapsWith (.ListComp elt [⟨target,iter,ifs,0⟩] sc pos2) (some (.Name x pos')) pos.line X.env=pure true) (hf:X.fn x=true:=by rfl)
  (hc:X.calm=true:=by rfl) (hN:X.N=N:=by rfl) (hS:X.env.scope=esc:=by rfl) (hs:∀ x,foldedSetIterable iter X.env x=pure x:=by intro _;rfl):PS X (.Assign [.Name x pos'] (.ListComp elt [⟨target,iter,ifs,0⟩] sc pos2) pos) (CU (v3 wi fr g tt te) (uv i)):=by
 have C:CompOk X.N X.env.scope sc N' fr:=nO (by rw [hN,hS];exact C)
 have hNd:X.N.Nodup:=by rw [hN];exact S.nd
 intro pins s σ H D I h
 rw [exec_Assign_Name_used _ _ _ _ hsw]
 refine wpAny_bind (wpAny_standAt (wpAny_bind ?_))
 show wpAny _ X.A (do let _ <-comprehension (.ListComp elt [⟨target,iter,ifs,0⟩] sc pos2) sc X.env _ (newList []) false (eval iter X.env) (some (assign (.Name x pos') X.env))) _ _ s
 have hfr:∀ x∈sc.names,x.2=.free->∃ c,X.env.cells.lookup x.1=some c:=fun x hx e=>I.ok.has x.1 (.inl (C.free x hx e))
 refine wpAny_bind (wpAny_mono (jF (g:=⟨target,iter,ifs,0⟩) (gs:=[]) (Q:=fun _ s'=>SP X pins D .next s') rfl hs C.nocell hfr C.kind C.names ?_) (fun _ s' hq=>wpAny_pure (wpAny_pure hq)) fun _ _ e=>e)
 refine thn (hit pins s σ H _ I h) fun v s1 h1=>thn h1 fun itv s2 h2=>?_
 obtain⟨it,fp,tn,J,H2,e,I2,T,st2,f2,k2⟩:=h2
 subst e
 refine wpAny_newList ?_ (by show 0<=sizeLine;decide)
 have hfree:H2 s2.heap.objs.size=none:=I2.hok.fresh (c_ _)
 obtain⟨W,⟨m0,w0⟩,turn⟩:=k2 _ hfree { s2 with heap:=s2.heap.push { cls:=.type "list",data:=.seq ([]:List Value).toArray } } (upd H2 s2.heap.objs.size (.lst [])) fp
 have kp:∀ b u,s2.heap.get? b=some u->(s2.heap.push { cls:=.type "list",data:=.seq ([]:List Value).toArray }).get? b=some u:=fun b u e=>Heap.get?_push_of_some _ e
 have I3:Inv X pins σ (upd H2 s2.heap.objs.size (.lst [])) { s2 with heap:=s2.heap.push { cls:=.type "list",data:=.seq ([]:List Value).toArray } }:=
  I2.laid (t':=s2.toks) kp (c_ _) ⟨B_ _,[],0,.nil,Heap.get?_push_size _ rfl⟩
 have obj2:=T.obj 0 s2.heap st2
 have fpne:∀ b∈fp,b≠s2.heap.objs.size:=fun b hb=>by
  obtain⟨o,ho,_⟩:=obj2 b hb
  exact q_ (Heap.lt_size ho)
 have f3:∀ b∈fp,iX X pins (upd H2 s2.heap.objs.size (.lst [])) b:=fun b hb=>⟨by rw [aD (fpne b hb)];exact (f2 b hb).1,(f2 b hb).2⟩
 have st3:=T.keep 0 s2.heap _ st2 fun b hb o e=>kp b o e
 have obj3:=T.obj 0 _ st3
 intro h4 hn4 hk4
 have st4:=T.keep 0 _ h4 st3 fun b hb o e=>hk4 b o e
 have I4:=rT (N':=N') (fr:=fr) (fp:=fp) I3 C hc f3 (fun b hb=>let ⟨o,ho,_⟩:=obj3 b hb;⟨o,ho⟩) hn4 hk4
 have stat:∀ {H':Hp},(∀ b∈fp,H' b=none)->∀ b∈fp,iX (aP X N' sc { s2 with heap:=s2.heap.push { cls:=.type "list",data:=.seq ([]:List Value).toArray } } (upd H2 s2.heap.objs.size (.lst [])) fp) [] H' b:=fun hn b hb=>
  ⟨hn b hb,(I4.ok.exf b hb).1,I4.ok.exfs b hb,.inl hb,(I4.ok.exf b hb).2,fun p hp=>(nomatch hp)⟩
 have loop:codeAny (model X.prog X.w) X.A (.compLoop (.ListComp elt [⟨target,iter,ifs,0⟩] sc pos2) 0 (.ref it) (.ref s2.heap.objs.size) (L2.compEnv X.env sc (s2.heap.push { cls:=.type "list",data:=.seq ([]:List Value).toArray }).objs.size))
   (fun r s'=>match r with
    | .ok _=>wpAny (model X.prog X.w) X.A (assign (.Name x pos') X.env (.ref s2.heap.objs.size)) (fun _ s''=>∃ m,s''.heap.Ns (s2.heap.push { cls:=.type "list",data:=.seq ([]:List Value).toArray }).objs.size m/\∀ h',Heap.SameBut (s2.heap.push { cls:=.type "list",data:=.seq ([]:List Value).toArray }).objs.size s''.heap h'->SP X pins D .next { s'' with heap:=h' }) X.xe s'
    | .error x=>False) { s2 with heap:=h4 }:=by
  refine kT (fun n s'=>∃ i σ' H',Inv (aP X N' sc { s2 with heap:=s2.heap.push { cls:=.type "list",data:=.seq ([]:List Value).toArray } } (upd H2 s2.heap.objs.size (.lst [])) fp) [] σ' H' s'/\tn i s'.heap/\(∀ b∈fp,H' b=none)/\W i n σ' H') ?_ m0
   ⟨0,_,_,I4,st4,fun b hb=>(f3 b hb).1,w0⟩
  rintro n s5 ⟨j,σ5,H5,I5,st5,fr5,w5⟩
  rcases turn j n σ5 H5 w5 with⟨stop,q⟩ | ⟨go,step⟩
  ·refine thn (T.done (aP X N' sc _ _ fp) rfl rfl rfl rfl j [] s5 σ5 H5 (fun _ _=>False) I5 (stat fr5) st5 stop) ?_
   rintro r s6 ⟨hr,I6⟩
   subst hr
   obtain⟨m6,hn6,_⟩:=id I6.loc
   have hL:H5 (s2.heap.push { cls:=.type "list",data:=.seq ([]:List Value).toArray }).objs.size=none:=I6.free
   have I7:Inv X pins σ H5 s6:=I3.Di (s':=s6) (ch:=fp) I6.os I6.base I6.hok I6.bare (fun b hb=>by
    obtain⟨_,g1,g2,g3,g4,g5⟩:=f3 b hb
    exact⟨g3,g1,g4,g5⟩)
   have Lne:(s2.heap.push { cls:=.type "list",data:=.seq ([]:List Value).toArray }).objs.size≠X.env.locals:=Ls I3.lt
   have cne:∀ y c,X.env.cells.lookup y=some c->c≠(s2.heap.push { cls:=.type "list",data:=.seq ([]:List Value).toArray }).objs.size:=fun y c e=>by
    obtain⟨v',z⟩:=I3.cell y c e
    exact q_ z.lt
   refine wpAny_assign_Name (nX (v:=.ref s2.heap.objs.size) I7 hNd hi hx rfl (fun s8 I8 ⟨a8,sb8,ha8⟩=>?_) (.inl hf))
   refine⟨m6,hn6.sameBut sb8 (fun z=>ha8.elim (fun w'=>Lne (z.trans w')) fun w'=>cne _ _ w' z.symm),fun h' hs'=>⟨_,H5,?_,q⟩⟩
   refine I8.turned (it:=(s2.heap.push { cls:=.type "list",data:=.seq ([]:List Value).toArray }).objs.size) (t':=s8.toks) (fun b o hb e=>(hs'.2 b hb).trans e) hL Lne (.inr I3.sz) cne fun p hp z=>?_
   have lt:=Heap.lt_size (I3.pin p hp).1
   rw [z] at lt
   exact Kt _ lt
  ·refine thn (T.item (aP X N' sc _ _ fp) rfl rfl rfl rfl j [] s5 σ5 H5 (fun _ _=>False) I5 (stat fr5) st5 go) ?_
   rintro r s6 ⟨u,hr,h6⟩
   subst hr
   refine thn h6 ?_
   rintro _ s7 ⟨y,H7,I7,r7,y7,st7,fr7⟩
   have I7':=I7.pinned (stat fr7) (T.obj _ _ st7)
   have again:∀ {σ8:St} {H8:Hp} {s8:Shared},Inv (aP X N' sc { s2 with heap:=s2.heap.push { cls:=.type "list",data:=.seq ([]:List Value).toArray } } (upd H2 s2.heap.objs.size (.lst [])) fp) ([]++k8 fp s7.heap) σ8 H8 s8->(∃ m',m' < n/\W (j + 1) m' σ8 H8)->
     ∃ m,m < n/\∃ i σ' H',Inv (aP X N' sc { s2 with heap:=s2.heap.push { cls:=.type "list",data:=.seq ([]:List Value).toArray } } (upd H2 s2.heap.objs.size (.lst [])) fp) [] σ' H' s8/\tn i s8.heap/\(∀ b∈fp,H' b=none)/\W i m σ' H':=fun {σ8 H8 s8} I8 ⟨m',hm,w8⟩=>by
    refine⟨m',hm,j + 1,σ8,H8,I8.gU,T.keep _ _ _ st7 fun b hb o e=>(I8.pin (b,o) (k_ _ (k_ _ (dJ hb e)))).1,fun b hb=>?_,w8⟩
    obtain⟨o,e,d⟩:=T.obj _ _ st7 b hb
    exact (I8.pin (b,o) (k_ _ (k_ _ (dJ hb e)))).2.1
   refine thn (hg _ _ fp _ s7 σ5 H7 y u _ I7' r7 (step y H7 y7)) ?_
   rintro _ s8 ⟨σ8,H8,I8,q8⟩
   refine thn (ht _ _ fp _ s8 σ8 H8 _ I8 q8) ?_
   rintro ok s9 ⟨H9,I9,q9⟩
   cases ok with
   | false=>exact again I9 q9
   | true=>
    refine thn (he _ _ fp _ s9 σ8 H9 _ I9 q9) ?_
    rintro y s10 ⟨v,H10,I10,r10,ys,hys,hl,q10⟩
    refine thn (jK _ s10 σ8 H10 (.ref s2.heap.objs.size) [v] (.ref s2.heap.objs.size) [y] (fun _ H'=>∃ m',m' < n/\W (j + 1) m' σ8 H') I10 rfl (.cons r10 .nil) ⟨_,ys,v,rfl,rfl,hys,hl,q10⟩) ?_
    rintro z s11 ⟨_,H11,I11,_,q11⟩
    exact again I11 q11
 refine codeAny_compStart_list loop ?_
 exact T.self X.A 0 _ _ _ st4 loop
section
variable {X:Cx}
theorem MtM.imp {id:String}{r r':V->List V->Hp->VK->Prop}(h:MtM X id r)(k:∀ x xs H Q,r' x xs H Q->r x xs H Q):MtM X id r':=fun pins s σ H x xs v us Q I r1 r2 q=>h pins s σ H x xs v us Q I r1 r2 (k _ _ _ _ q)
theorem tW:MtM X "list.append" (fun x vs H Q=>∃ l xs y,x=.ref l/\vs=[y]/\H l=some (.lst xs)/\xs.length < sizeLine/\∀ H',Put H l (.lst (xs++[y])) H'->Q .non H'):=jK.imp fun x vs H Q ⟨l,xs,y,e1,e2,h1,hz,q⟩=>⟨l,xs,y,e1,e2,h1,hz,q _ Put.up⟩
end
end L2
namespace ZG
open PySem
open Sem (wp)
section
variable {prog:Program}{w:World}{A:Around}{E:Value->Shared->Prop}{s:Shared}
theorem HB {d:Addr}{o:Obj}{es:Array DictEntry}{ep:Nat}{Q:Value->Shared->Prop}(hd:(d == sysModules)=false)(ho:s.heap.get? d=some o)(hc:o.ExactDict)(hdat:o.data=.dict es ep)
  (hQ:Q (.ref s.heap.objs.size) { s with heap:=s.heap.push { cls:=.type "dict_keyiterator",data:=.fields #[.ref d,.int 0 0,.int es.size 0,.int ep 0] } }):wpAny (model prog w) A (pyIter (.ref d)) Q E s:=by
 have hT:s.TypeIs (.ref d) "dict":=⟨o,ho,hc.1⟩
 refine wpAny_pyIter_slot hT F.slot_dict_iter (wpAny_call_entry F.slot_dict_iter hT F.entry_dict_iter ?_ (F.args_dict_iter_1 _))
 unfold Builtin.«dict.__iter__» Builtin.Dict.dictSlotNone
 refine wpAny_bind (wpAny_bind (wpAny_notOrdered_dict hT (show wpAny _ _ (pure (Value.ref d)) _ _ s from wpAny_pure (show wpAny _ _ (Builtin.Dict.showsAll d >>= _) _ _ s from ?_))))
 unfold Builtin.Dict.showsAll
 rw [if_neg (by rw [hd];exact z_)]
 exact wpAny_bind (wpAny_pure (wpAny_bind (wpAny_dictEntries ho hdat (wpAny_bind (wpAny_dictEpoch ho hdat (wpAny_bind (wpAny_newObj_type (wpAny_pure ⟨_,rfl,"dict_keyiterator",_,⟨_,Heap.get?_push_size _ rfl,rfl⟩,F.slot_dict_keyiterator_next.lookup,by simpa [rawInt] using hQ⟩))))))))
theorem HS {it d:Addr}{i ep:Nat}{o:Obj}{es:Array DictEntry}{e:DictEntry}{Q:Option Value->Shared->Prop}(hit:s.heap.IsKeyIter it d i es.size ep)(hod:s.heap.get? d=some o)(hdd:o.data=.dict es ep)(hx:es[i]?=some e)
  (hQ:∀ h',h'.IsKeyIter it d (i + 1) es.size ep->Heap.SameBut it s.heap h'->Q (some e.key) { s with heap:=h' }):wpAny (model prog w) A (pyNext (.ref it)) Q E s:=by
 obtain⟨oi,ho,hc,hd⟩:=id hit
 unfold pyNext
 refine wpAny_bind (wpAny_attempt (wpAny_callSpecial?_slot (name:=Str.ofString "__next__") hit.typeIs F.slot_dict_keyiterator_next (wpAny_call_entry F.slot_dict_keyiterator_next hit.typeIs F.entry_dict_keyiterator_next ?_ (F.args_dict_keyiterator_next_1 _))))
 refine wpAny_bind (wpAny_pure (wpAny_bind (wpAny_bind ?_)))
 refine wpAny_bind (wpAny_typeNameOfWhole_keyiter hit.typeIs (wpAny_pure (wpAny_bind (wpAny_fieldsOf ho hd ?_))))
 simp only [show Builtin.Dict_items.ownsTuple "dict_keyiterator"=false by decide,JS,if_false]
 show wpAny _ _ (if (Value.ref d == Value.none)=true then _ else _) _ _ s
 rw [if_neg (show ¬ (Value.ref d == Value.none)=true from fun z=>z_ z)]
 refine wpAny_bind (wpAny_pure (wpAny_bind (wpAny_dictEntries hod hdd ?_)))
 rw [if_neg (show ¬ _ by simp)]
 refine wpAny_bind (wpAny_pure (wpAny_bind (wpAny_dictEpoch hod hdd ?_)))
 rw [if_neg (show ¬ _ by simp)]
 refine wpAny_pure ?_
 simp only [show ¬ (i:Int) < 0 by lia,if_false,JX,hx]
 refine wpAny_bind (wpAny_bind (wpAny_typeNameOfWhole_keyiter hit.typeIs (wpAny_pure (wpAny_bind (wpAny_isOneOf_keyiter hit.typeIs ?_)))))
 show wpAny _ _ (setField (.ref it) 1 (rawInt ((i:Int) + 1)) >>= _) _ _ s
 refine wpAny_bind (wpAny_setField ho hd (by simp) ?_)
 have hit':(s.heap.update it (Obj.mapFields (·.setIfInBounds 1 (rawInt ((i:Int) + 1))))).IsKeyIter it d (i + 1) es.size ep:=
  ⟨_,Heap.get?_update_self _ ho (Obj.isFreed_of_fields (Obj.data_mapFields hd _)),(Obj.cls_mapFields ..).trans hc,by rw [Obj.data_mapFields hd];simp [rawInt]⟩
 exact wpAny_bind (wpAny_holding (wpAny_bind (wpAny_isOneOf_keyiter (s:={ s with heap:=s.heap.update it (Obj.mapFields (·.setIfInBounds 1 (rawInt ((i:Int) + 1)))) }) hit'.typeIs (show wpAny _ _ (pure e.key) _ _ _ from wpAny_pure (wpAny_pure ⟨_,rfl,wpAny_pure (hQ _ hit' (Heap.SameBut.update ..))⟩)))))
theorem J9 {it d:Addr}{i ep:Nat}{o:Obj}{es:Array DictEntry}{Q:Option Value->Shared->Prop}(hh:A.handled=none)(hit:s.heap.IsKeyIter it d i es.size ep)(hod:s.heap.get? d=some o)(hdd:o.data=.dict es ep)(hx:es[i]?=none)
  (hQ:∀ h',Heap.ExtBut it s.heap h'->Q none { s with heap:=h' }):wpAny (model prog w) A (pyNext (.ref it)) Q E s:=by
 obtain⟨oi,ho,hc,hd⟩:=id hit
 unfold pyNext
 refine wpAny_bind (wpAny_attempt (wpAny_callSpecial?_slot (name:=Str.ofString "__next__") hit.typeIs F.slot_dict_keyiterator_next (wpAny_call_entry F.slot_dict_keyiterator_next hit.typeIs F.entry_dict_keyiterator_next ?_ (F.args_dict_keyiterator_next_1 _))))
 refine wpAny_bind (wpAny_pure (wpAny_bind (wpAny_bind ?_)))
 refine wpAny_bind (wpAny_typeNameOfWhole_keyiter hit.typeIs (wpAny_pure (wpAny_bind (wpAny_fieldsOf ho hd ?_))))
 simp only [show Builtin.Dict_items.ownsTuple "dict_keyiterator"=false by decide,JS,if_false]
 show wpAny _ _ (if (Value.ref d == Value.none)=true then _ else _) _ _ s
 rw [if_neg (show ¬ (Value.ref d == Value.none)=true from fun z=>z_ z)]
 refine wpAny_bind (wpAny_pure (wpAny_bind (wpAny_dictEntries hod hdd ?_)))
 rw [if_neg (show ¬ _ by simp)]
 refine wpAny_bind (wpAny_pure (wpAny_bind (wpAny_dictEpoch hod hdd ?_)))
 rw [if_neg (show ¬ _ by simp)]
 refine wpAny_pure ?_
 simp only [show ¬ (i:Int) < 0 by lia,if_false,JX,hx]
 refine wpAny_bind (wpAny_bind (wpAny_typeNameOfWhole_keyiter hit.typeIs (wpAny_pure ?_)))
 show wpAny _ _ (setField (.ref it) 0 .none >>= _) _ _ s
 refine wpAny_bind (wpAny_setField ho hd (by simp) (show wpAny _ _ (newExc (.type "StopIteration") [] >>= _) _ _ _ from wpAny_bind ?_))
 simp only [newExc,newTuple]
 refine wpAny_bind (wpAny_newObj_type (wpAny_bind (m:=firstArgMember _ _) (wpAny_of_eq (a:=Value.none) (by first | rfl | (simp only [firstArgMember];rfl)) (wpAny_newObj_type ?_ (by size_fits)))) (by size_fits))
 simp only [raiseNew]
 refine wpAny_bind (wpAny_handled ?_)
 rw [show A.in1.handled=none from hh]
 refine wpAny_bind (wpAny_pure (wpAny_throw ?_))
 refine wpAny_bind (wpAny_isInstance (T:="StopIteration") (b:=true) (by exact⟨_,Heap.get?_push_size _ rfl,rfl⟩) isSubtype_stop (wpAny_pure ?_))
 exact hQ _ (((Heap.SameBut.update ..).extBut.push _).push _)
end
end ZG
namespace ZG
open PySem
open Sem (wp)
theorem kU:entryFor table "dict.update.loop"=some Builtin.«dict.update.loop»:=entryFor_of_tree (by kernel_rfl)
theorem eQ:plainId "dict.update.loop"=true:=by decide +kernel
section
variable {prog:Program}{w:World}{Kk:Type}[DecidableEq Kk]{knd:KeyKind prog w Kk}{A:Around}{E:Value->Shared->Prop}{R:Result->Shared->Prop}{s:Shared}
def jP (knd:KeyKind prog w Kk)(h:Heap)(v:Value)(x:List Kk × Addr × Value):Prop:=∃ p o n,v=.ref p/\h.get? p=some o/\o.cls=.type "tuple"/\o.data=.seq #[.ref x.2.1,x.2.2] n/\IsTupleKey knd h x.1 x.2.1
theorem jP.at {h h':Heap}{v:Value}{x:List Kk × Addr × Value}(q:jP knd h v x)(k:∀ b o,(∃ y n,o.data=.seq y n)->h.get? b=some o->h'.get? b=some o):jP knd h' v x:=by
 obtain⟨p,o,n,e,h1,h2,h3,o2,its,n2,g1,g2,g3,g4⟩:=q
 exact⟨p,o,n,e,k _ _ ⟨_,_,h3⟩ h1,h2,h3,o2,its,n2,k _ _ ⟨_,_,g3⟩ g1,g2,g3,g4⟩
def putAll (xs:List (List Kk × Addr × Value)):List (List Kk × Addr × Value):=xs.foldl (fun a x=>storedH a x.1 x.2.1 x.2.2) []
theorem putAll_snoc (xs:List (List Kk × Addr × Value))(x:List Kk × Addr × Value):putAll (xs++[x])=storedH (putAll xs) x.1 x.2.1 x.2.2:=by
 unfold putAll
 rw [List.foldl_append]
 rfl
theorem sk (xs:List (List Kk × Addr × Value))(k:List Kk)(a:Addr)(v:Value):(storedH xs k a v).length<=xs.length + 1:=by
 unfold storedH
 split
 ·rw [b_];lia
 ·rw [g_];exact c_ _
theorem tT (xs:List (List Kk × Addr × Value)):(putAll xs).length<=xs.length:=by
 have g:∀ (ys acc:List (List Kk × Addr × Value)),(ys.foldl (fun a x=>storedH a x.1 x.2.1 x.2.2) acc).length<=acc.length + ys.length:=by
  intro ys
  induction ys with
  | nil=>intro acc;exact c_ _
  | cons y r ih=>
   intro acc
   rw [K4,h_]
   have h1:=ih (storedH acc y.1 y.2.1 y.2.2)
   have h2:=sk acc y.1 y.2.1 y.2.2
   lia
 have:=g xs []
 simpa [putAll] using this
theorem tH (I l d:Addr)(kvs:List (List Kk × Addr × Value))(items:Array Value)(hz:kvs.length<=sizeLine)(hu:A.in1.units < cLine)(hh:A.in1.handled=none)(hsz:items.size=kvs.length) :
  ∀ (k i:Nat) (s:Shared),kvs.length - i=k->i<=kvs.length->s.heap.IsListIter I l i->s.heap.IsList l items->(∀ (j:Nat) x v,kvs[j]?=some x->items[j]?=some v->jP knd s.heap v x)->s.heap.DictOfH (tupleKind knd) d (putAll (kvs.take i))->
   (∀ s':Shared,(∀ b o,b≠d->b≠I->s.heap.get? b=some o->s'.heap.get? b=some o)->s'.gens=s.gens->s'.drawn=s.drawn->s'.os=s.os->s'.heap.DictOfH (tupleKind knd) d (putAll kvs)->R (.ok (.ret .none)) s')->
   codeAny (model prog w) A (.builtin "dict.update.loop" ⟨[.ref d,.ref I,rawInt i,.none],[]⟩) R s:=by
 intro k
 induction k with
 | zero=>
  intro i s hk hi hit hl hp hd hR
  have hin:i=kvs.length:=by lia
  subst hin
  refine codeAny_builtin kU ?_
  rw [Around.under_plainId eQ _]
  show wpAny _ A.in1 (pyNext (.ref I) >>= _) _ _ s
  have dI:d≠I:=by
   obtain⟨od,es,ep,h1,_,h3,_⟩:=hd
   obtain⟨oi,g1,_,g3⟩:=hit
   intro z
   rw [z,g1] at h1
   cases h1
   rw [g3] at h3
   cases h3
  refine wpAny_bind (wpAny_pyNext_list_end hh hit hl (by rw [K8];lia) fun h' he=>?_)
  show wpAny _ A.in1 (Builtin.Dict.addKeywords d [] >>= _) _ _ _
  refine wpAny_bind (wpAny_pure (wpAny_pure (hR _ (fun b o n1 n2 e=>he b o n2 e) rfl rfl rfl ?_)))
  rw [JT] at hd
  obtain⟨o,es,ep,h1,h2,h3,h4,h5,h6⟩:=hd
  refine⟨o,es,ep,he d o dI h1,h2,h3,h4,fun x hx=>?_,h6⟩
  obtain⟨o2,its,n2,g1,g2,g3,g4⟩:=h5 x hx
  refine⟨o2,its,n2,he _ _ (fun z=>?_) g1,g2,g3,g4⟩
  obtain⟨oi,k1,_,k3⟩:=hit
  rw [z,k1] at g1
  cases g1
  rw [k3] at g3
  cases g3
 | succ k ih=>
  intro i s hk hi hit hl hp hd hR
  have hlt:i < kvs.length:=by lia
  refine codeAny_builtin kU ?_
  rw [Around.under_plainId eQ _]
  show wpAny _ A.in1 (pyNext (.ref I) >>= _) _ _ s
  have hv:items[i]?=some items[i]:=u_ (by lia)
  have hx:kvs[i]?=some kvs[i]:=a_ hlt
  have seqI:∀ b o,(∃ y n,o.data=.seq y n)->s.heap.get? b=some o->b≠I:=fun b o ⟨y,n,q⟩ e z=>by
   obtain⟨oi,k1,_,k3⟩:=hit
   rw [z,k1] at e
   cases e
   rw [k3] at q
   cases q
  have seqD:∀ b o,(∃ y n,o.data=.seq y n)->s.heap.get? b=some o->b≠d:=fun b o ⟨y,n,q⟩ e z=>by
   obtain⟨od,es,ep,h1,_,h3,_⟩:=hd
   rw [z,h1] at e
   cases e
   rw [h3] at q
   cases q
  have dI:d≠I:=by
   obtain⟨od,es,ep,h1,_,h3,_⟩:=hd
   obtain⟨oi,g1,_,g3⟩:=hit
   intro z
   rw [z,g1] at h1
   cases h1
   rw [g3] at h3
   cases h3
  have lI:l≠I:=by obtain⟨ol,h1,h2,n,h3⟩:=hl;exact seqI l ol ⟨_,_,h3⟩ h1
  have lD:l≠d:=by obtain⟨ol,h1,h2,n,h3⟩:=hl;exact seqD l ol ⟨_,_,h3⟩ h1
  refine wpAny_bind (wpAny_pyNext_list_item hit hl hv fun h' hit' hs'=>?_)
  have hp':=hp
  obtain⟨p,o,n,ev,g1,g2,g3,gk⟩:=hp i _ _ hx hv
  have k1:h'.get? p=some o:=(hs'.2 p (seqI p o ⟨_,_,g3⟩ g1)).trans g1
  show wpAny _ A.in1 (holding [items[i]] _ >>= _) _ _ _
  refine wpAny_bind (wpAny_holding ?_)
  rw [ev]
  have hT:({ s with heap:=h' }:Shared).TypeIs (.ref p) "tuple":=⟨o,k1,g2⟩
  refine wpAny_bind (wpAny_tryCatch ?_)
  unfold Builtin.Dict.pairItems
  refine wpAny_bind (wpAny_typeOf hT ?_)
  rw [if_pos (by decide)]
  unfold seqItems?
  refine wpAny_bind (wpAny_bind (wpAny_load k1 ?_))
  rw [g3]
  refine wpAny_pure (wpAny_pure ?_)
  show wpAny _ A.in1 (holding [.ref kvs[i].2.1,kvs[i].2.2] (dictSet d (.ref kvs[i].2.1) kvs[i].2.2)) _ _ _
  have hd':h'.DictOfH (tupleKind knd) d (putAll (kvs.take i)):=by
   obtain⟨o,es,ep,h1,h2,h3,h4,h5,h6⟩:=hd
   refine⟨o,es,ep,(hs'.2 d dI).trans h1,h2,h3,h4,fun x hx=>?_,h6⟩
   obtain⟨o2,its,n2,g1,g2,g3,g4⟩:=h5 x hx
   exact⟨o2,its,n2,(hs'.2 _ (seqI _ _ ⟨_,_,g3⟩ g1)).trans g1,g2,g3,g4⟩
  have gk':IsTupleKey knd h' kvs[i].1 kvs[i].2.1:=by
   obtain⟨o2,its,n2,g1,g2,g3,g4⟩:=gk
   exact⟨o2,its,n2,(hs'.2 _ (seqI _ _ ⟨_,_,g3⟩ g1)).trans g1,g2,g3,g4⟩
  have hlen:(putAll (kvs.take i)).length<=sizeLine:=by
   have:=tT (kvs.take i)
   rw [A'] at this
   lia
  refine wpAny_holding (wpAny_dictSet_heap (knd:=tupleKind knd) (s:={ s with heap:=h' }) (hsz:=hlen) hu gk' hd' fun h2 hd2 hs2=>?_)
  refine wpAny_pure ⟨plainId_quiet eQ _,?_⟩
  have et:kvs.take (i + 1)=kvs.take i++[kvs[i]]:=by rw [JJ,hx];rfl
  have ei:(rawInt ((i:Int) + 1))=rawInt ((i + 1:Nat):Int):=by push_cast;rfl
  have kk:∀ b ob,b≠d->b≠I->s.heap.get? b=some ob->h2.get? b=some ob:=fun b ob n1 n2 e=>(hs2.2 b n1).trans ((hs'.2 b n2).trans e)
  show codeAny _ A (.builtin "dict.update.loop" ⟨[.ref d,.ref I,rawInt ((i:Int) + 1),.none],[]⟩) R _
  rw [ei]
  refine ih (i + 1) _ (by lia) hlt ?_ ?_ (fun j x v e1 e2=>(hp j x v e1 e2).at fun b ob q e=>kk b ob (seqD b ob q e) (seqI b ob q e) e) (by rw [et,putAll_snoc];exact hd2) fun s' kp eg ed eo dd=>?_
  ·obtain⟨oi,q1,q2,q3⟩:=hit'
   exact⟨oi,(hs2.2 I dI.symm).trans q1,q2,q3⟩
  ·obtain⟨ol,q1,q2,q3⟩:=hl
   exact⟨ol,kk l ol lD lI q1,q2,q3⟩
  ·exact hR s' (fun b ob n1 n2 e=>kp b ob n1 n2 (kk b ob n1 n2 e)) eg ed eo dd
end
end ZG
namespace ZG
open PySem
open Sem (wp)
section
variable {prog:Program}{w:World}{A:Around}{E:Value->Shared->Prop}{s:Shared}
theorem vG:typeLookup (.type "list") "keys"=pure none:=by rw [typeLookup_type,builtinLookup_eq_fast];kernel_rfl
theorem zA {a:Addr}{o:Obj}{xs:Array Value}{k:Nat}{Q:Option Value->Shared->Prop}(hx:s.heap.get? a=some o)(hc:o.cls=.type "list")(hdat:o.data=.seq xs k)(hd:o.dict=none)(hA:A.handled=none)
  (h:∀ h' tk e,Heap.NewExcOf s.heap h' e "AttributeError"->Q none { s with heap:=h',toks:=tk }):wpAny (model prog w) A (getAttr? (.ref a) "keys") Q E s:=by
 obtain⟨cl,dct,dat,sl⟩:=o;simp only at hc hdat hd
 subst hc hdat hd;obtain⟨hp,gg,dr,tk,os⟩:=s
 have hT:∀ tk1,(⟨hp,gg,dr,tk1,os⟩:Shared).TypeIs (.ref a) "list":=fun _=>⟨_,hx,rfl⟩
 have f1:=sub_AttributeError;have f3:=F.slot_list_getattribute.lookup;have f4:=F.slot_list_getattribute.bind (.ref a);have f5:=am_list_getattr_none
 unfold getAttr? getAttrBy? getAttrBy
 repeat (any_goals (first | assumption | exact hT _ | ((with_reducible show wpAny _ _ (call (Value.builtin "list.__getattribute__") _ _) _ _ _);refine call_meets F.slot_list_getattribute (hT _) am_entry_list_getattribute (F.args_list_getattribute_2 _ _) (meets_getattribute_miss_list a xs k sl "keys" _ vG (by decide +kernel) (by decide +kernel)) ⟨hx,hA,fun h' tk' e hx'=>?_⟩) | wp_step))
 obtain⟨tt1,uu1,hee⟩:=hx'.there
 refine (show wpAny _ _ (getattributeRaised _ _ _ _ _ _ _) _ _ _ from ?_)
 unfold getattributeRaised;repeat (any_goals (first | assumption | wp_step))
 exact h _ _ _ hx'.of
end
end ZG
namespace ZG
open PySem
open Sem (wp)
section
variable {prog:Program}{w:World}{Kk:Type}[DecidableEq Kk]{knd:KeyKind prog w Kk}{A:Around}{E:Value->Shared->Prop}{s:Shared}
theorem y8 {l:Addr}{o:Obj}{n:Nat}{kvs:List (List Kk × Addr × Value)}{items:Array Value}{Q:Value->Shared->Prop}(hx:s.heap.get? l=some o)(hc:o.cls=.type "list")(hdat:o.data=.seq items n)(hd:o.dict=none)(hA:A.handled=none)
  (hu:A.units + 20 < cLine) (hz:kvs.length<=sizeLine) (hsz:items.size=kvs.length) (hp:∀ (j:Nat) x v,kvs[j]?=some x->items[j]?=some v->jP knd s.heap v x)
  (h:∀ h' tk,(∀ b o,s.heap.get? b=some o->h'.get? b=some o)->h'.DictOfH (tupleKind knd) s.heap.objs.size (putAll kvs)->Q (.ref s.heap.objs.size) { s with heap:=h',toks:=tk }) :
  wpAny (model prog w) A (call (.type "dict") [.ref l]) Q E s:=by
 refine callType_codes (Q₁:=fun obj s₁=>obj=.ref s.heap.objs.size/\s₁={ s with heap:=s.heap.push { cls:=.type "dict",data:=.dict #[] } }) F.kt_called_dict (F.kt_typeCall_dict_1 _) F.entry_dict_init (kt_code_dict_new _ ⟨rfl,rfl⟩) ?_
 rintro obj s₁ ⟨rfl,rfl⟩
 have k1:∀ b ob,s.heap.get? b=some ob->(s.heap.push { cls:=.type "dict",data:=.dict #[] }).get? b=some ob:=fun b ob e=>Heap.get?_push_of_some _ e
 have hnew:(s.heap.push { cls:=.type "dict",data:=.dict #[] }).DictOfH (tupleKind knd) s.heap.objs.size []:=Heap.DictOfH.new s.heap
 refine⟨hnew.typeIs,F.args_dict_init_2 _ _,?_⟩
 unfold Builtin.«dict.__init__» Builtin.Dict.selfAndRest
 refine wpAny_bind (wpAny_bind (wpAny_notOrdered_dict hnew.typeIs (show wpAny _ _ (pure (s.heap.objs.size,[Value.ref l])) _ _ _ from wpAny_pure ?_)))
 show wpAny _ _ (Builtin.Dict.updateFrom "dict.__init__" s.heap.objs.size (.ref l) [] .none) _ _ _
 unfold Builtin.Dict.updateFrom
 have hT:({ s with heap:=s.heap.push { cls:=.type "dict",data:=.dict #[] } }:Shared).TypeIs (.ref l) "list":=⟨o,k1 _ _ hx,hc⟩
 refine wpAny_bind (wpAny_typeOf hT ?_)
 rw [if_pos (by decide)]
 refine wpAny_bind (zA (s:={ s with heap:=s.heap.push { cls:=.type "dict",data:=.dict #[] } }) (k1 _ _ hx) hc hdat hd (by simp [hA]) fun h2 tk2 e2 hx2=>?_)
 have k2:∀ b ob,(s.heap.push { cls:=.type "dict",data:=.dict #[] }).get? b=some ob->h2.get? b=some ob:=hx2.keeps
 have hl2:({ s with heap:=h2,toks:=tk2 }:Shared).heap.IsList l items:=⟨o,k2 _ _ (k1 _ _ hx),hc,n,hdat⟩
 refine wpAny_bind (wpAny_rule ?_)
 refine wpAny_bind (wpAny_pyIter_list hl2 ?_)
 refine wpAny_pure ⟨plainId_quiet eQ _,?_⟩
 have k3:∀ b ob,h2.get? b=some ob->(h2.push { cls:=.type "list_iterator",data:=.fields #[.ref l,.int 0 0] }).get? b=some ob:=fun b ob e=>Heap.get?_push_of_some _ e
 refine tH (knd:=knd) h2.objs.size l s.heap.objs.size kvs items hz (by simp;lia) (by simp [hA]) hsz (kvs.length - 0) 0 _ rfl (B_ _) ⟨_,Heap.get?_push_size _ rfl,rfl,rfl⟩ (hl2.push _)
  (fun j x v e1 e2=>(hp j x v e1 e2).at fun b ob _ e=>k3 _ _ (k2 _ _ (k1 _ _ e))) ?_ fun s' kp eg ed eo dd=>?_
 ·obtain⟨o',es,ep,h1,h2',h3,h4,h5,h6⟩:=hnew
  exact⟨o',es,ep,k3 _ _ (k2 _ _ h1),h2',h3,h4,fun x hx=>absurd (show x∈([]:List (List Kk × Addr × Value)) from hx) (by simp),h6⟩
 ·obtain⟨h',g',d',tk',os'⟩:=s'
  simp only at eg ed eo
  subst eg ed eo
  refine⟨rfl,h h' tk' (fun b ob e=>kp b ob ?_ ?_ (k3 _ _ (k2 _ _ (k1 _ _ e)))) dd⟩
  ·exact q_ (Heap.lt_size e)
  ·exact q_ (Heap.lt_size (k2 _ _ (k1 _ _ e)))
end
end ZG
namespace L2
open PySem PySem.Spec PyProof.Rows
def kI (ns:List Int):List Key:=ns.map Sum.inl
theorem GK (ns:List Int):(kI ns).map kV=ns.map V.int:=by
 unfold kI
 rw [JB]
 rfl
def uh (kvs:List (List Key × V)):List (List Key × V):=kvs.foldl (fun a x=>putK a x.1 x.2) []
abbrev u9 (H:Hp):List V->List (List Key × V)->Prop:=Paired fun v x=>∃ a b,v=.ref a/\H a=some (.tup [.ref b,x.2])/\H b=some (.tup (x.1.map kV))
theorem oh {H:Hp}:∀ {kvs:List (List Key × V)} {xs:List (List Key × Addr × Value)} {k0:List (List Key × V)} {x0:List (List Key × Addr × Value)},KT H k0 x0->KT H kvs xs->
  KT H (kvs.foldl (fun a x=>putK a x.1 x.2) k0) (xs.foldl (fun a x=>storedH a x.1 x.2.1 x.2.2) x0)
 | _,_,_,_,r,.nil=>r
 | _,_,_,_,r,.cons (a:=p) (b:=q) h t=>by
  obtain⟨h1,h2,h3⟩:=h
  refine oh (k0:=putK _ p.1 p.2) (x0:=storedH _ q.1 q.2.1 q.2.2) ?_ t
  rw [<-h1]
  exact r.put p.1 h2 h3
theorem vQ (kvs:List (List Key × V)):(uh kvs).length<=kvs.length:=by
 have g:∀ (ys acc:List (List Key × V)),(ys.foldl (fun a x=>putK a x.1 x.2) acc).length<=acc.length + ys.length:=by
  intro ys
  induction ys with
  | nil=>intro acc;exact c_ _
  | cons y r ih=>
   intro acc
   rw [K4,h_]
   have h1:=ih (putK acc y.1 y.2)
   have h2:=eM acc y.1 y.2
   lia
 have:=g kvs []
 simpa [uh] using this
section
variable {X:Cx}{pins:List (Addr × Obj)}{σ:St}{H:Hp}{s:Shared}
theorem oy (I:Inv X pins σ H s):∀ {ys:List V} {us:List Value} {kvs:List (List Key × V)},Vals ys us->u9 H ys kvs->∃ xs:List (List Key × Addr × Value),KT H kvs xs/\xs.length=kvs.length/\us.length=kvs.length/\∀ (j:Nat) x v,xs[j]?=some x->us[j]?=some v->ZG.jP (bp X.prog X.w) s.heap v x
 | _,_,_,.nil,.nil=>⟨[],.nil,rfl,rfl,fun j x v e=>by simp at e⟩
 | _,_,_,.cons hv tv,.cons (b:=p) hp tp=>by
  obtain⟨xs,k,l1,l2,q⟩:=oy I tv tp
  obtain⟨a,b,e,ha,hb⟩:=hp
  subst e
  cases hv
  obtain⟨_,its,r,o,h1,h2,n,h3⟩:=(show bu X.prog X.w H s.heap a (.tup [.ref b,p.2]) from I.hok a _ ha)
  obtain⟨u1,u2,eu,r1,r2⟩:=Vals.two r
  cases r1
  subst eu
  have ky:=iD I.hok hb
  refine⟨(p.1,b,u2)::xs,.cons ⟨rfl,hb,r2⟩ k,by rw [h_,h_,l1],by rw [h_,h_,l2],fun j x v e1 e2=>?_⟩
  cases j with
  | zero=>
   simp only [KZ,Mi] at e1 e2
   subst e1 e2
   exact⟨a,o,n,rfl,h1,h2,h3,ky⟩
  | succ j=>
   simp only [Kv] at e1 e2
   exact q j x v e1 e2
theorem tm (hc:X.calm=true)(hu:X.A.units + 20 < cLine):bE X (.type "dict") (fun xs H Q=>∃ l ys kvs,xs=[.ref l]/\H l=some (.lst ys)/\u9 H ys kvs/\New (.dT (uh kvs)) H Q):=by
 intro pins s σ H xs us Q I r h
 obtain⟨l,ys,kvs,rfl,hl,hp,q⟩:=h
 obtain⟨u,rfl,ru⟩:=vals1 r
 cases ru
 obtain⟨hz,its,n,rv,ho⟩:=(show bu X.prog X.w H s.heap l (.lst ys) from I.hok l _ hl)
 obtain⟨xs,kt,l1,l2,pr⟩:=oy I rv hp
 have hyl:=rv.length
 have hz':xs.length<=sizeLine:=by lia
 refine ZG.y8 (knd:=bp X.prog X.w) (kvs:=xs) ho rfl rfl rfl (I.ok.hd hc) hu hz' (by simp;lia) (fun j x v e1 e2=>pr j x v e1 (by simpa using e2)) fun h' tk kp dd=>?_
 obtain⟨o,es,ep,h1,h2,h3,h4,h5,h6⟩:=dd
 refine⟨.ref s.heap.objs.size,_,I.laid (t':=tk) (a:=s.heap.objs.size) (o:=.dT (uh kvs)) kp (c_ _) ⟨?_,beq_eq_false_iff_ne.mpr (Ne.symm (q_ I.big)),_,(oh .nil kt).keeps fun c zs ec=>?_,o,es,ep,h1,h2,h3,h4,h6⟩,rfl,q.at (I.hok.fresh (c_ _))⟩
 ·have:=vQ kvs
  lia
 ·rw [aD (bA ec (I.hok.fresh (c_ _)))]
  exact ec
end
end L2
namespace ZR
open PySem
theorem zL {prog:Program}{w:World}{A:Around}{E:Value->Shared->Prop}{s:Shared}{it l:Addr}{i:Int}{Q:Bool->Shared->Prop}(h:s.heap.IsRevIter it l i)(q:Q false s):wpAny (model prog w) A (Builtin.List.listLengthHint (Value.ref it)) Q E s:=by
 have ty:s.TypeIs (Value.ref it) "list_reverseiterator":=h.typeIs
 unfold Builtin.List.listLengthHint
 refine wpAny_bind (wpAny_specialOf ty (r:=none) rfl ?_)
 refine wpAny_ite_split (fun c=>absurd c (by decide)) (fun _=>?_)
 refine wpAny_ite_split (fun c=>absurd c (by decide)) (fun _=>?_)
 refine wpAny_bind (wpAny_specialOf ty (r:=some (Value.builtin "list_reverseiterator.__length_hint__")) rfl ?_)
 refine wpAny_bind (wpAny_isInstance ty (b:=true) (by rw [isSubtype_type];rfl) ?_)
 refine wpAny_ite_split (fun c=>absurd c (by decide)) (fun _=>?_)
 refine wpAny_ite_split (fun _=>?_) (fun c=>absurd rfl c)
 refine wpAny_ite_split (fun c=>absurd c (by decide)) (fun _=>?_)
 exact wpAny_pure q
theorem nB {prog:Program}{w:World}{A:Around}{E:Value->Shared->Prop}{s:Shared}{I l:Addr}{items:Array Value}{Q:Value->Shared->Prop}(hh:A.handled=none)(hne:l≠I)
  (h1:s.heap.IsRevIter I l ((items.size:Int) - 1)) (h2:s.heap.IsList l items) (hn:items.size<=sizeLine)
  (q:∀ (h':Heap) (tk:Nat) (acc':Array Value) (c':Nat),(∀ b o,b≠I->s.heap.get? b=some o->h'.get? b=some o)->
   h'.get? s.heap.objs.size=some { cls:=.type "list",data:=.seq acc' c' }->ItemsOf (fun i v=>items[items.size - 1 - i]?=some v) acc' items.size->Q (.ref s.heap.objs.size) { s with heap:=h',toks:=tk }) :
  wpAny (model prog w) A (call (.type "list") [.ref I]) Q E s:=by
 have hI:I < s.heap.objs.size:=by obtain⟨o,e,_⟩:=h1;exact Heap.lt_size e
 have hl:l < s.heap.objs.size:=by obtain⟨o,e,_⟩:=h2;exact Heap.lt_size e
 refine callType_codes F.called_list (F.typeCall_list_1 _) F.entry_list_init (code_list_new _ (Q₁:=fun v s1=>v=.ref s.heap.objs.size/\s1={ s with heap:=s.heap.push { cls:=.type "list",data:=.seq #[] } }) ⟨rfl,rfl⟩) ?_
 rintro _ _ ⟨rfl,rfl⟩
 have hS:(s.heap.push ({ cls:=.type "list",data:=.seq #[] }:Obj)).get? s.heap.objs.size=some { cls:=.type "list",data:=.seq #[] }:=Heap.get?_push_size _ rfl
 refine⟨⟨_,hS,rfl⟩,F.args_list_init_2 _ _,?_⟩
 have k1:(s.heap.push { cls:=.type "list",data:=.seq #[] }).IsRevIter I l ((items.size:Int) - 1):=h1.at fun o e=>Heap.get?_push_of_some _ e
 have k2:(s.heap.push { cls:=.type "list",data:=.seq #[] }).IsList l items:=by
  obtain⟨o,e,r⟩:=h2
  exact⟨o,Heap.get?_push_of_some _ e,r⟩
 unfold Builtin.«list.__init__»
 refine wpAny_bind (wpAny_bind (wpAny_seqItems hS rfl (wpAny_pure ?_)))
 refine wpAny_bind (wpAny_updateSeq hS rfl ?_ (by simp) (by simp))
 refine wpAny_bind (wpAny_letGo ?_)
 have hS2:((s.heap.push ({ cls:=.type "list",data:=.seq #[] }:Obj)).update s.heap.objs.size (Obj.mapSeq fun _=>#[])).get? s.heap.objs.size=some (Obj.mapSeq (fun _=>#[]) { cls:=.type "list",data:=.seq #[] }):=by
  exact Heap.get?_update_self _ hS rfl
 have kp:∀ b o,b≠s.heap.objs.size->(s.heap.push ({ cls:=.type "list",data:=.seq #[] }:Obj)).get? b=some o->((s.heap.push ({ cls:=.type "list",data:=.seq #[] }:Obj)).update s.heap.objs.size (Obj.mapSeq fun _=>#[])).get? b=some o:=fun b o hb e=>by
  rw [Heap.get?_update_ne _ _ _ _ hb]
  exact e
 have k1':=k1.at fun o e=>kp I o (q_ hI) e
 have k2':((s.heap.push ({ cls:=.type "list",data:=.seq #[] }:Obj)).update s.heap.objs.size (Obj.mapSeq fun _=>#[])).IsList l items:=by
  obtain⟨o,e,r⟩:=k2
  exact⟨o,kp l o (q_ hl) e,r⟩
 generalize (s.heap.push ({ cls:=.type "list",data:=.seq #[] }:Obj)).update s.heap.objs.size (Obj.mapSeq fun _=>#[])=h2' at *
 show wpAny (model prog w) A.in1.in1 (Builtin.List.listExtendWith (.ref s.heap.objs.size) (.ref I) .none) _ _ { s with heap:=h2' }
 unfold Builtin.List.listExtendWith
 refine wpAny_bind (wpAny_typeOf (T:="list_reverseiterator") (Heap.IsRevIter.typeIs (s:={ s with heap:=h2' }) k1') ?_)
 refine wpAny_ite_split (fun c=>absurd c ?_) (fun _=>?_)
 ·have e:Builtin.List.listSameRef (.ref s.heap.objs.size) (.ref I)=false:=by
   unfold Builtin.List.listSameRef
   exact beq_eq_false_iff_ne.mpr (fun z=>q_ hI z.symm)
  rw [e]
  decide
 refine wpAny_bind (wpAny_pyIter_revIter k1' ?_)
 refine wpAny_bind (wpAny_holding (zL k1' ?_))
 refine wpAny_ite_split (fun c=>absurd c (by decide)) (fun _=>?_)
 refine wpAny_pure ⟨plainId_quiet F.plain_extend_loop _,?_⟩
 have W:=(Walks.listRev (prog:=prog) (w:=w) (A:=A.in1.in1) hh I l hne items).toS
 refine codeAny_extend_loopS W hn s.heap.objs.size (fun z=>by rcases m_.mp z with z | z;exact q_ hI z.symm;exact q_ hl (D'.mp z).symm) .none items.size 0 { s with heap:=h2' } #[] _ rfl (B_ _) ⟨B_ _,by simpa using k1',k2'⟩ hS2 ⟨rfl,fun j v e=>by simp at e⟩ fun s' acc' c' m e it=>⟨rfl,?_⟩
 obtain⟨h',g',d',tk',os'⟩:=s'
 have e1:=m.gens
 have e2:=m.drawn
 have e3:=m.os
 dsimp only at e1 e2 e3
 subst e1 e2 e3
 exact q h' tk' acc' c' (fun b o hb eb=>m.heap b o (fun z=>by rcases m_.mp z with z | z;exact q_ (Heap.lt_size eb) z;exact hb (D'.mp z)) (kp b o (q_ (Heap.lt_size eb)) (Heap.get?_push_of_some _ eb))) e it
end ZR
namespace L2
open PySem PySem.Spec PyProof.Rows
section
variable {X:Cx}
theorem Ad {xs:List V}{us:List Value}(h:Vals xs us):Vals xs.reverse us.reverse:=by
 have app:∀ {a:List V} {b:List Value} {c:List V} {d:List Value},Vals a b->Vals c d->Vals (a++c) (b++d):=fun {a b c d} p q=>by
  induction p with
  | nil=>exact q
  | cons r _ ih=>exact .cons r ih
 induction h with
 | nil=>exact .nil
 | cons r _ ih=>
  rw [Kr,Kr]
  exact app ih (.cons r .nil)
theorem tN {e:Expr}{te:TE}{p1 p2 pos1 pos2:Pos}(hc:X.calm=true)(hg1:Gl X "list")(hm1:X.mg "list"=none)(hg2:Gl X "reversed")(hm2:X.mg "reversed"=none)(he:PE X e te)
  (hs1:starEach [e] X.env=[(false,eval e X.env)]:=by rfl) (hs2:starEach [.Call (.Name "reversed" p2) [e] [] pos2] X.env=[(false,eval (.Call (.Name "reversed" p2) [e] [] pos2) X.env)]:=by rfl) :
  PE X (.Call (.Name "list" p1) [.Call (.Name "reversed" p2) [e] [] pos2] [] pos1) (fun σ H Q=>te σ H fun x H1=>∃ l xs,x=.ref l/\SqL X.K H1 l xs/\New (.lst xs.reverse) H1 Q):=by
 intro pins s σ H Q I h
 refine wpAny_Call_Name_kw (eX I hg1 hm1 boot_list (callWith_type1 ?_ (by rw [hs2];rfl) rfl))
 rw [hs2]
 refine Calls.spliced_cons ?_
 refine wpAny_Call_Name_kw (eX I hg2 hm2 boot_reversed (callWith_type1 ?_ (by rw [hs1];rfl) rfl))
 rw [hs1]
 refine Calls.spliced_cons (thn (he pins s σ H _ I h) ?_)
 rintro u s1 ⟨x,H1,I1,r1,l,xs,ex,hl,q⟩
 subst ex
 cases r1
 obtain⟨its,rv,pl,hz⟩:=I1.list hl
 refine wpAny_pure ?_
 refine call_reversed_list pl.isList ?_
 have hlen:=rv.length
 have hlt:l < s1.heap.objs.size:=by obtain⟨o,n,e,_⟩:=pl;exact Heap.lt_size e
 refine wpAny_pure ?_
 have I2:Inv X pins σ H1 { s1 with heap:=s1.heap.push (revObj l ((its.toArray.size:Int) - 1)) }:=I1.kept (t':=s1.toks) fun b o e=>Heap.get?_push_of_some _ e
 obtain⟨f0,f1,f2,f3,f4,f5⟩:=I1.rV (b:=s1.heap.objs.size) (c_ _) (I1.hok.fresh (c_ _))
 refine ZR.nB (items:=its.toArray) (l:=l) (I2.ok.hd hc) (q_ hlt) ⟨_,Heap.get?_push_size _ rfl,rfl,rfl⟩ ?_ (by simp only [n_];lia) fun h' tk acc c kp ea it=>?_
 ·obtain⟨o,e,r⟩:=pl.isList
  exact⟨o,Heap.get?_push_of_some _ e,r⟩
 have hacc:acc.toList=its.reverse:=by
  refine LF fun j=>?_
  rw [i_]
  by_cases hj:j < its.length
  ·have hja:j < acc.size:=by rw [it.1,n_];exact hj
   have ha:acc[j]?=some acc[j]:=u_ hja
   have:=it.2 j _ ha
   rw [ha,List.getElem?_reverse hj,<-this]
   simp
  ·rw [K8 (by rw [it.1,n_];lia),JL (by rw [JY];lia)]
 have ea2:acc=its.reverse.toArray:=by rw [<-hacc]
 have hfr:H1 (s1.heap.objs.size + 1)=none:=I1.hok.fresh (M' _)
 have esz:(s1.heap.push (revObj l ((its.toArray.size:Int) - 1))).objs.size=s1.heap.objs.size + 1:=by simp [Heap.push]
 dsimp only at ea ⊢
 rw [esz] at ea ⊢
 rw [ea2] at ea
 refine⟨.ref (s1.heap.objs.size + 1),_,I1.laid (t':=tk) (h':=h') (fun b o e=>kp b o (q_ (Heap.lt_size e)) (Heap.get?_push_of_some _ e)) (M' _) (show bu X.prog X.w _ h' _ (.lst xs.reverse) from ⟨by rw [JY];exact hz,its.reverse,c,Ad rv,ea⟩),rfl,q _ _ hfr (bR hfr _) aF⟩
def Idn (lo:Int)(n:Nat):It:=⟨fun i _=>i < n,fun i H x H'=>H'=H/\x=.int (lo - i),fun i _=>n<=i⟩
theorem xo {P:Program}{w:World}{K:PySem.W.Frag}{tg:Expr}(it:Addr)(lo:Int)(n:Nat):Turn P w K tg (Idn lo n) [it] it (fun i h=>IsRangeIter h it (lo + (i:Nat) * (-1)) ((n:Int) - (i:Nat)) (-1)) where
 mem:=by simp
 obj:=fun i h st b hb=>by
  have e:b=it:=by simpa using hb
  subst e
  refine⟨_,st,fun v z=>?_⟩
  cases (show Data.fields _=Data.cell v from z)
 keep:=fun i h h' st k=>k it (by simp) _ st
 item:=by
  intro Y hP hw hK hc i pins s σ H E I hf st hg
  subst hP hw hK
  obtain⟨f0,f1,f2,f3,f4,f5⟩:=hf it (by simp)
  have WW:=Walks.range (prog:=Y.prog) (w:=Y.w) (I.ok.hd hc) it lo (-1) n
  refine WW.item i s _ _ hg st fun v h' tk hv st' kk=>?_
  obtain⟨t,rfl⟩:=hv
  have J1:Inv Y pins σ H { s with heap:=h',toks:=tk }:=I.turned (fun b o hb e=>kk b o (by simpa using hb) e) f0 f1 f3 f4 f5
  refine⟨_,rfl,ur (s:={ s with heap:=h',toks:=tk }) (n:="range_iterator") st' rfl rfl (by decide) ⟨.int (lo - i),H,J1,⟨t,?_⟩,⟨rfl,rfl⟩,st',fun b hb=>(hf b hb).1⟩⟩
  rw [show lo + (i:Int) * (-1)=lo - i by lia]
 done:=by
  intro Y hP hw hK hc i pins s σ H E I hf st hg
  subst hP hw hK
  obtain⟨f0,f1,f2,f3,f4,f5⟩:=hf it (by simp)
  exact wpAny_pyNext_range_end (I.ok.hd hc) st (by have hh:n<=i:=hg;lia) fun h' eb=>⟨rfl,I.turned (t':=s.toks) (fun b o hb e=>eb b o hb e) f0 f1 f3 f4 f5⟩
 self:=fun _ _ _ _ _ st h=>wpAny_pyIter_rangeiter st h
theorem xf (hc:X.calm=true):bE X (.builtin "min") (fun xs H Q=>∃ a ns,xs=[.ref a]/\SqT X.K H a (ns.map V.int)/\ns≠[]/\∀ r,xY ns r->Q (.int r) H):=by
 intro pins s σ H xs us Q I r h
 obtain⟨a,ns,rfl,hq,hne,q⟩:=h
 obtain⟨u,rfl,ru⟩:=vals1 r
 cases ru
 obtain⟨its,rv,p,z⟩:=I.tuple hq
 obtain⟨ps,e1,e2⟩:=dH rv
 have ei:intItems ps.toArray=its.toArray:=by simp [intItems,e1]
 have hT:s.heap.IsTuple a (intItems ps.toArray):=by rw [ei];exact p
 have hlen:ps.length=ns.length:=by rw [<-e2];simp
 have hpos:0 < ns.length:=Kh fun z=>hne (Ku z)
 have hlt:a < s.heap.objs.size:=by obtain⟨o,e,_⟩:=p;exact Heap.lt_size e
 have hh:X.A.in1.handled=none:=I.ok.hd hc
 have W1:=Walks.tuple (prog:=X.prog) (w:=X.w) hh s.heap.objs.size a (q_ hlt) (intItems ps.toArray)
 refine call_min_walk (wpAny_pyIter_tuple hT ⟨s.heap.objs.size,_,_,_,_,_,_,rfl,W1,?_,fun b hb=>?_,?_,CmpOf.ints_lt (numAt ps.toArray) (fun i v hv=>intItems_at hv),fun v h' tk hv hk=>?_⟩)
 ·refine⟨⟨_,Heap.get?_push_size _ rfl,rfl,rfl⟩,?_⟩
  obtain⟨o,e,r⟩:=hT
  exact⟨o,Heap.get?_push_of_some _ e,r⟩
 ·show b < (s.heap.push _).objs.size
  have e:(s.heap.push { cls:=.type "tuple_iterator",data:=.fields #[.ref a,.int 0 0] }).objs.size=s.heap.objs.size + 1:=by simp [Heap.push]
  rcases m_.mp hb with hb | hb
  ·rw [hb];simp [Heap.push]
  ·rw [D'.mp hb]
   exact v_ hlt (by simp [Heap.push])
 ·simp [intItems];lia
 obtain⟨tv,rfl⟩:=intItems_at hv
 obtain⟨b1,b2⟩:=argBest_lt (numAt ps.toArray) ((intItems ps.toArray).size - 1)
 have es:(intItems ps.toArray).size=ns.length:=by simp [intItems,hlen]
 have hi:argBest (fun i j=>decide (numAt ps.toArray i < numAt ps.toArray j)) ((intItems ps.toArray).size - 1) < ns.length:=by rw [es] at b1 ⊢;lia
 obtain⟨f0,f1,f2,f3,f4,f5⟩:=I.rV (b:=s.heap.objs.size) (c_ _) (I.hok.fresh (c_ _))
 have kk:∀ b o,s.heap.get? b=some o->h'.get? b=some o:=fun b o e=>hk b o (fun z=>q_ (Heap.lt_size e) (D'.mp z)) (Heap.get?_push_of_some _ e)
 refine⟨.int _,H,I.kept (t':=tk) kk,⟨tv,rfl⟩,q _ ⟨?_,fun x hx=>?_⟩⟩
 ·rw [dX e2 hi];exact Kg hi
 ·obtain⟨j,hj,rfl⟩:=KO.mp hx
  have:=b2 j (by rw [es];lia)
  rw [dX e2 hj] at this
  exact this
theorem vI (hc:X.calm=true):bE X (.builtin "max") (fun xs H Q=>∃ a ns,xs=[.ref a]/\SqT X.K H a (ns.map V.int)/\ns≠[]/\∀ r,ze ns r->Q (.int r) H):=by
 intro pins s σ H xs us Q I r h
 obtain⟨a,ns,rfl,hq,hne,q⟩:=h
 obtain⟨u,rfl,ru⟩:=vals1 r
 cases ru
 obtain⟨its,rv,p,z⟩:=I.tuple hq
 obtain⟨ps,e1,e2⟩:=dH rv
 have ei:intItems ps.toArray=its.toArray:=by simp [intItems,e1]
 have hT:s.heap.IsTuple a (intItems ps.toArray):=by rw [ei];exact p
 have hlen:ps.length=ns.length:=by rw [<-e2];simp
 have hpos:0 < ns.length:=Kh fun z=>hne (Ku z)
 have hlt:a < s.heap.objs.size:=by obtain⟨o,e,_⟩:=p;exact Heap.lt_size e
 have hh:X.A.in1.handled=none:=I.ok.hd hc
 have W1:=Walks.tuple (prog:=X.prog) (w:=X.w) hh s.heap.objs.size a (q_ hlt) (intItems ps.toArray)
 refine call_max_walk (wpAny_pyIter_tuple hT ⟨s.heap.objs.size,_,_,_,_,_,_,rfl,W1,?_,fun b hb=>?_,?_,CmpOf.ints_gt (numAt ps.toArray) (fun i v hv=>intItems_at hv),fun v h' tk hv hk=>?_⟩)
 ·refine⟨⟨_,Heap.get?_push_size _ rfl,rfl,rfl⟩,?_⟩
  obtain⟨o,e,r⟩:=hT
  exact⟨o,Heap.get?_push_of_some _ e,r⟩
 ·show b < (s.heap.push _).objs.size
  have e:(s.heap.push { cls:=.type "tuple_iterator",data:=.fields #[.ref a,.int 0 0] }).objs.size=s.heap.objs.size + 1:=by simp [Heap.push]
  rcases m_.mp hb with hb | hb
  ·rw [hb];simp [Heap.push]
  ·rw [D'.mp hb]
   exact v_ hlt (by simp [Heap.push])
 ·simp [intItems];lia
 obtain⟨tv,rfl⟩:=intItems_at hv
 obtain⟨b1,b2⟩:=argBest_gt (numAt ps.toArray) ((intItems ps.toArray).size - 1)
 have es:(intItems ps.toArray).size=ns.length:=by simp [intItems,hlen]
 have hi:argBest (fun i j=>decide (numAt ps.toArray i > numAt ps.toArray j)) ((intItems ps.toArray).size - 1) < ns.length:=by rw [es] at b1 ⊢;lia
 obtain⟨f0,f1,f2,f3,f4,f5⟩:=I.rV (b:=s.heap.objs.size) (c_ _) (I.hok.fresh (c_ _))
 have kk:∀ b o,s.heap.get? b=some o->h'.get? b=some o:=fun b o e=>hk b o (fun z=>q_ (Heap.lt_size e) (D'.mp z)) (Heap.get?_push_of_some _ e)
 refine⟨.int _,H,I.kept (t':=tk) kk,⟨tv,rfl⟩,q _ ⟨?_,fun x hx=>?_⟩⟩
 ·rw [dX e2 hi];exact Kg hi
 ·obtain⟨j,hj,rfl⟩:=KO.mp hx
  have:=b2 j (by rw [es];lia)
  rw [dX e2 hj] at this
  exact this
theorem v5 {K:PySem.W.Frag}{H:Hp}:∀ {ds:List Dt} {xs:List V} {us:List Value},ax K H ds xs->Vals xs us->∀ p∈us.zip ds,∃ x,RelV x p.1/\Has K H p.2 x
 | [],_,_,_,_=>fun p hp=>by simp at hp
 | d::ds,_,_,h,v=>fun p hp=>by
  rw [ax] at h
  obtain⟨x,t,rfl,h1,h2⟩:=h
  cases v with
  | cons r v'=>
   rw [Kx] at hp
   rcases m_.mp hp with rfl | hp
   ·exact⟨x,r,h1⟩
   ·exact v5 h2 v' p hp
theorem jM {pins:List (Addr × Obj)}{σ:St}{H:Hp}{s:Shared}(I:Inv X pins σ H s){A:Around}{n:Nat}(hA:A.units + n < cLine){d:Dt}{x:V}{v:Value}(hd:Has X.K H d x)(rx:RelV x v) :
  ∀ {ds:List Dt} {xs:List V} {us:List Value},br ds<=n->ax X.K H ds xs->Vals xs us->∃ e:Value->Bool,(∀ u∈us,SeqAt.EqAt A s u v (e u))/\(∀ p∈us.zip ds,e p.1=eqD p.2 d)/\us.any e=ds.any fun d'=>eqD d' d
 | [],_,_,_,h,r=>by
  rw [ax] at h
  subst h
  cases r
  exact⟨fun _=>false,fun u hu=>(by cases hu),fun p hp=>(by simp at hp),rfl⟩
 | d'::ds,_,_,hn,h,r=>by
  rw [ax] at h
  obtain⟨x',t,rfl,h1,h2⟩:=h
  rw [br] at hn
  cases r with
  | @cons _ u' _ us r1 r2=>
   obtain⟨e0,a1,a2,a3⟩:=jM I hA hd rx (by lia) h2 r2
   have q1:SeqAt.EqAt A s u' v (eqD d' d):=(oR I n A d' d x' x u' v (by lia) hA h1 hd r1 rx).2.2
   have same:∀ p∈us.zip ds,p.1=u'->p.2=d':=fun p hp z=>by
    obtain⟨y,ry,hy⟩:=v5 h2 r2 p hp
    rw [z] at ry
    have:=RelV.inj ry r1
    subst this
    exact Has.inj I hy h1
   have ev:∀ p∈us.zip ds,(if p.1=u' then eqD d' d else e0 p.1)=eqD p.2 d:=fun p hp=>by
    split
    ·rename_i z
     rw [same p hp z]
    ·exact a2 p hp
   have len:us.length=ds.length:=by
    have m1:=h2.len
    have m2:=r2.length
    lia
   have FJ:∀ (f:Value->Bool) (us:List Value) (ds:List Dt),us.length=ds.length->(∀ p∈us.zip ds,f p.1=eqD p.2 d)->us.any f=ds.any fun d'=>eqD d' d:=fun f us=>by
    induction us with
    | nil=>intro ds z _;cases ds with
     | nil=>rfl
     | cons _ _=>cases z
    | cons u us ih=>intro ds z h;cases ds with
     | nil=>cases z
     | cons c cs=>
      rw [Ka,Ka,ih cs (Ky z) fun p hp=>h p (by rw [Kx];exact o_ _ hp),h (u,c) (by rw [Kx];exact t_ ..)]
   refine⟨fun y=>if y=u' then eqD d' d else e0 y,fun u hu=>?_,fun p hp=>?_,?_⟩
   ·show SeqAt.EqAt A s u v (if u=u' then eqD d' d else e0 u)
    split
    ·rename_i z
     rw [z]
     exact q1
    ·rename_i z
     rcases m_.mp hu with rfl | hu
     ·exact absurd rfl z
     ·exact a1 u hu
   ·rw [Kx] at hp
    rcases m_.mp hp with rfl | hp
    ·exact if_pos rfl
    ·exact ev p hp
   ·rw [Ka,Ka,FJ _ us ds len ev,if_pos rfl]
def Gu (K:PySem.W.Frag)(A:Around)(neg:Bool):R2:=fun x y H Q=>∃ p xs d ds,y=.ref p/\SqL K H p xs/\Has K H d x/\ax K H ds xs/\A.in1.units + br ds < cLine/\Q (.bl (if neg then !(ds.any fun e=>eqD e d) else ds.any fun e=>eqD e d)) H
theorem Ef:OpR X (compareOp .In) (Gu X.K X.A false):=by
 intro pins s σ H x y v u Q I rx ry h
 obtain⟨p,xs,d,ds,rfl,hq,hd,hl,hA,q⟩:=h
 cases ry
 obtain⟨its,r,pl,hz⟩:=I.list hq
 obtain⟨e,e1,_,e3⟩:=jM I (A:=X.A.in1) hA hd rx (c_ _) hl r
 refine SeqAt.in_listAt e pl.isList (fun w hw=>e1 w (by simpa using hw)) ⟨.bl _,H,I,rfl,?_⟩
 rw [show its.toArray.any e=its.any e by simp,e3]
 exact q
theorem xC:OpR X (compareOp .NotIn) (Gu X.K X.A true):=by
 intro pins s σ H x y v u Q I rx ry h
 obtain⟨p,xs,d,ds,rfl,hq,hd,hl,hA,q⟩:=h
 cases ry
 obtain⟨its,r,pl,hz⟩:=I.list hq
 obtain⟨e,e1,_,e3⟩:=jM I (A:=X.A.in1) hA hd rx (c_ _) hl r
 refine SeqAt.notIn_listAt e pl.isList (fun w hw=>e1 w (by simpa using hw)) ⟨.bl _,H,I,rfl,?_⟩
 rw [show its.toArray.any e=its.any e by simp,e3]
 exact q
end
end L2
namespace ZR
open PySem
section
variable {prog:Program}{w:World}{A:Around}{E:Value->Shared->Prop}{s:Shared}
theorem pP {r:Addr}{o:Obj}{n:Int}{t u v:Tok}{Q:Int × Int × Int->Shared->Prop}(ho:s.heap.get? r=some o)(hd:o.data=.fields #[.int 0 t,.int n u,.int 1 v])(q:Q (0,n,1) s):wpAny (model prog w) A (Builtin.Range.rangeFields (.ref r)) Q E s:=by
 unfold Builtin.Range.rangeFields
 refine wpAny_bind (wpAny_field ho hd (x:=.int 0 t) rfl ?_)
 refine wpAny_bind (wpAny_of_eq (a:=some 0) (by rfl) ?_)
 refine wpAny_bind (wpAny_field ho hd (x:=.int n u) rfl ?_)
 refine wpAny_bind (wpAny_of_eq (a:=some n) (by rfl) ?_)
 refine wpAny_bind (wpAny_field ho hd (x:=.int 1 v) rfl ?_)
 refine wpAny_bind (wpAny_of_eq (a:=some 1) (by rfl) ?_)
 exact wpAny_pure q
def iC (n:Int):Obj:={ cls:=.type "range_iterator",dict:=none,data:=.fields #[rawInt (n - 1),rawInt n,rawInt (-1)],slots:=#[] }
theorem mh {r:Addr}{o:Obj}{n:Int}{t u v:Tok}{Q:Value->Shared->Prop}(ho:s.heap.get? r=some o)(hc:o.cls=.type "range")(hd:o.data=.fields #[.int 0 t,.int n u,.int 1 v])(h0:0<=n)(h1:n < 2 ^ 60)
  (h:Q (.ref s.heap.objs.size) { s with heap:=s.heap.push (iC n) }):wpAny (model prog w) A (call (.builtin "range.__reversed__") [.ref r]) Q E s:=by
 refine wpAny_call_entry F.slot_range_reversed ⟨o,ho,hc⟩ F.entry_range_reversed ?_ (F.args_range_reversed_1 _)
 unfold Builtin.«range.__reversed__»
 refine wpAny_bind (wpAny_of_eq (a:=Value.ref r) rfl ?_)
 refine wpAny_bind (pP ho hd ?_)
 dsimp only
 have hs:Builtin.Range.rangeSize 0 n 1=n:=by
  unfold Builtin.Range.rangeSize
  rw [if_pos (by decide)]
  split
  ·rw [Ny];omega
  ·omega
 have hf:(Builtin.Range.rangeFitsLong 0 && Builtin.Range.rangeFitsLong n && Builtin.Range.rangeFitsLong 1 && Builtin.Range.rangeFitsLong (-1) && Builtin.Range.rangeFitsLong (0 - 1) && Builtin.Range.rangeFitsLong (Builtin.Range.rangeSize 0 n 1))=true:=by
  rw [hs]
  unfold Builtin.Range.rangeFitsLong
  simp only [C_,decide_eq_true_eq]
  omega
 rw [hf]
 refine wpAny_ite_split (fun c=>absurd c (by decide)) (fun _=>?_)
 rw [hs,if_pos rfl]
 refine wpAny_bind (wpAny_newObj_type ?_)
 refine wpAny_pure ⟨_,rfl,?_⟩
 rw [show (0:Int) + (n - 1) * 1=n - 1 by omega]
 exact h
theorem wj {r:Addr}{o:Obj}{n:Int}{t u v:Tok}{Q₁:Value->Shared->Prop}(ho:s.heap.get? r=some o)(hc:o.cls=.type "range")(hd:o.data=.fields #[.int 0 t,.int n u,.int 1 v])(h0:0<=n)(h1:n < 2 ^ 60)
  (h:Q₁ (.ref s.heap.objs.size) { s with heap:=s.heap.push (iC n) }) :
  codeAny (model prog w) A (.call (.builtin "reversed.__new__") ⟨[.type "reversed",.ref r],[]⟩) (wants Q₁ E) s:=by
 have hT:s.TypeIs (.ref r) "range":=⟨o,ho,hc⟩
 refine codeAny_of_tree ?_
 show wpAny _ A.in1 (do checkBuiltinCall "reversed.__new__" ⟨[.type "reversed",.ref r],[]⟩;again (.builtin "reversed.__new__" ⟨[.type "reversed",.ref r],[]⟩)) _ _ s
 refine wpAny_bind (wpAny_of_eq (F.newCall_reversed_1 _) (wpAny_pure ⟨plainId_quiet F.plain_reversed_new _,codeAny_builtin F.entry_reversed_new ?_⟩))
 rw [Around.under_plainId F.plain_reversed_new _]
 unfold Builtin.«reversed.__new__»
 refine wpAny_bind (wpAny_of_eq (newClass_reversed _) ?_)
 refine wpAny_bind (wpAny_of_eq (a:=()) (by first | rfl | kernel_rfl) ?_)
 refine wpAny_bind (wpAny_of_eq (a:=()) (by first | rfl | kernel_rfl) ?_)
 refine wpAny_bind (wpAny_specialOf hT F.slot_range_reversed.lookup ?_)
 refine wpAny_bind (wpAny_of_eq (F.slot_range_reversed.bind _) ?_)
 show wpAny _ _ (if (Value.builtin "range.__reversed__" == Value.none)=true then _ else _) _ _ _
 rw [if_neg (show ¬ ((Value.builtin "range.__reversed__" == Value.none)=true) from z_)]
 refine wpAny_bind (wpAny_rule ?_)
 refine wpAny_bind (m:=runValue (.call (.builtin "range.__reversed__") ⟨[.ref r],[]⟩)) (show wpAny _ _ (call (.builtin "range.__reversed__") [.ref r]) _ _ _ from mh ho hc hd h0 h1 ?_)
 first
 | exact wpAny_pure h
 | exact wpAny_bind (wpAny_pure (wpAny_pure h))
theorem AW:isSubtype (.type "range_iterator") (.type "reversed")=pure false:=by rw [isSubtype_type];kernel_rfl
theorem xj {r:Addr}{o:Obj}{n:Int}{t u v:Tok}{Q:Value->Shared->Prop}(ho:s.heap.get? r=some o)(hc:o.cls=.type "range")(hd:o.data=.fields #[.int 0 t,.int n u,.int 1 v])(h0:0<=n)(h1:n < 2 ^ 60)
  (h:Q (.ref s.heap.objs.size) { s with heap:=s.heap.push (iC n) }):wpAny (model prog w) A (call (.type "reversed") [.ref r]) Q E s:=by
 refine callType_other (U:="range_iterator") (Q₁:=fun obj s₁=>obj=.ref s.heap.objs.size/\s₁={ s with heap:=s.heap.push (iC n) }) (by decide +kernel) F.create_reversed ⟨_,_,F.mro_reversed⟩ F.made_reversed AW (F.typeCall_reversed_1 _) (wj ho hc hd h0 h1 ⟨rfl,rfl⟩) ?_
 rintro obj s₁ ⟨rfl,rfl⟩
 exact⟨⟨_,Heap.get?_push_size _ rfl,rfl⟩,h⟩
end
end ZR
namespace L2
open PySem PySem.Spec PyProof.Rows
section
variable {X:Cx}
def Jl (ta:TA):TI:=fun σ H R=>ta σ H fun vs H1=>∃ j:Int,vs=[.int j]/\(0<=j/\j < 2 ^ 60)/\R (Idn (j - 1) j.toNat) H1
theorem rM {tg a:Expr}{ta:TA}{p pos p2 pos2:Pos}(hg:Gl X "reversed")(hm:X.mg "reversed"=none)(hg2:Gl X "range")(hm2:X.mg "range"=none)(ha:PA X [a] ta)(hs:starEach [a] X.env=[(false,eval a X.env)]:=by rfl)
  (hs2:starEach [.Call (.Name "range" p2) [a] [] pos2] X.env=[(false,eval (.Call (.Name "range" p2) [a] [] pos2) X.env)]:=by rfl):PI X tg (.Call (.Name "reversed" p) [.Call (.Name "range" p2) [a] [] pos2] [] pos) (Jl ta):=by
 intro pins s σ H R I h
 refine wpAny_Call_Name_kw (eX I hg hm boot_reversed (callWith_type1 ?_ (by rw [hs2];rfl) rfl))
 rw [hs2]
 refine Calls.spliced_cons ?_
 refine Call_ (eX I hg2 hm2 boot_range (PyProof.Rows.callWith_type1 (thn (ha pos2 pins s σ H _ I h) fun us s1 ⟨vs,H1,I1,r1,q1⟩=>?_) hs rfl))
 obtain⟨j,e,⟨q1,q2⟩,q⟩:=q1
 subst e
 cases r1 with
 | cons r rr=>
  cases rr
  obtain⟨t,rfl⟩:=r
  refine call_range_1 ?_
  refine wpAny_pure ?_
  obtain⟨hp,ehp⟩:∃ hp,hp=s1.heap.push { cls:=.type "range",data:=.fields #[.int 0 s1.toks,.int j t,.int 1 (s1.toks + 1)] }:=⟨_,rfl⟩
  have J1:Inv X pins σ H1 { s1 with heap:=hp,toks:=s1.toks + 1 + 1 }:=by rw [ehp];exact I1.kept fun b o e=>Heap.get?_push_of_some _ e
  have hget:hp.get? s1.heap.objs.size=some { cls:=.type "range",data:=.fields #[.int 0 s1.toks,.int j t,.int 1 (s1.toks + 1)] }:=by rw [ehp];exact Heap.get?_push_size _ rfl
  rw [<-ehp]
  refine ZR.xj (s:={ s1 with heap:=hp,toks:=s1.toks + 1 + 1 }) hget rfl rfl q1 q2 ?_
  have hit:IsRangeIter (hp.push (ZR.iC j)) hp.objs.size (j - 1) j (-1):=Heap.get?_push_size _ rfl
  have J2:Inv X pins σ H1 { s1 with heap:=hp.push (ZR.iC j),toks:=s1.toks + 1 + 1 }:=J1.kept (t':=s1.toks + 1 + 1) fun b o e=>Heap.get?_push_of_some _ e
  refine wpAny_pyIter_rangeiter (s:={ s1 with heap:=hp.push (ZR.iC j),toks:=s1.toks + 1 + 1 }) hit ⟨hp.objs.size,[hp.objs.size],_,_,H1,rfl,J2,xo _ (j - 1) j.toNat,?_,fun b hb=>?_,q⟩
  ·show IsRangeIter _ _ (j - 1 + ((0:Nat):Int) * (-1)) (((j.toNat:Nat):Int) - ((0:Nat):Int)) (-1)
   rw [show j - 1 + ((0:Nat):Int) * (-1)=j - 1 by simp,show ((j.toNat:Nat):Int) - ((0:Nat):Int)=j by omega]
   exact hit
  ·have e:b=hp.objs.size:=by simpa using hb
   subst e
   exact J1.rV (c_ _) (J1.hok.fresh (c_ _))
end
end L2
namespace L2
open PySem PySem.Spec PyProof.Rows
def d6 {α:Type}(xs:List α)(a k:Int):List α:=(sliceRange (max 0 (min a xs.length)) xs.length k).filterMap (xs[·]?)
theorem Bp (its:List Value){i j:Int}(h0:0<=i)(h1:0 < j):slicePick its.toArray (some i) none (some j)=(d6 its i j).toArray:=by
 unfold slicePick d6
 have e:sliceBounds (some i) none (some j) its.toArray.size=(max 0 (min i its.length),(its.length:Int),j):=by
  unfold sliceBounds
  simp only [Nb,n_]
  rw [if_pos h1,if_neg (by omega),if_pos h1]
 rw [e]
 simp
theorem xH {xs:List V}{us:List Value}(h:Vals xs us)(is:List Nat):Vals (is.filterMap (xs[·]?)) (is.filterMap (us[·]?)):=by
 have hl:=h.length
 induction is with
 | nil=>exact .nil
 | cons i is ih=>
  by_cases hi:i < xs.length
  ·rw [KS (a_ hi),KS (a_ (by omega))]
   obtain⟨u,hu,ru⟩:=h.get (a_ hi)
   rw [a_ (by omega)] at hu
   cases hu
   exact .cons ru ih
  ·rw [KU (JL (by omega)),KU (JL (by omega))]
   exact ih
theorem yR {α:Type}(xs:List α){i j:Int}(h0:0<=i)(h1:0 < j):(d6 xs i j).length<=xs.length:=by
 unfold d6
 refine r_ (List.length_filterMap_le _ _) ?_
 unfold sliceRange
 rw [b_,JI,if_pos h1]
 split
 ·rename_i h
  have:=ceilDiv_le ((xs.length:Int) - max 0 (min i xs.length)) j (by omega) (by omega)
  omega
 ·exact B_ _
section
variable {X:Cx}{e a k:Expr}{te ta tk:TE}{pos p2:Pos}
theorem x5 (he:PE X e te)(ha:PE X a ta)(hk:PE X k tk):PE X (.Subscript e (.Slice (some a) none (some k) p2) pos) (fun σ H Q=>te σ H fun x H1=>ta σ H1 fun y H2=>tk σ H2 fun z H3=>∃ i j l xs,y=.int i/\z=.int j/\0<=i/\0 < j/\x=.ref l/\SqL X.K H3 l xs/\New (.lst (d6 xs i j)) H3 Q):=by
 intro pins s σ H Q I h
 refine Subscript_ (thn (he pins s σ H _ I h) fun v s1 ⟨x,H1,I1,r1,q1⟩=>?_)
 refine wpAny_Slice ?_
 rw [evalPart_some]
 refine thn (ha pins s1 σ H1 _ I1 q1) fun va s2 ⟨y,H2,I2,ry,q2⟩=>?_
 rw [evalPart_none]
 refine wpAny_pure ?_
 rw [evalPart_some]
 refine thn (hk pins s2 σ H2 _ I2 q2) fun vk s3 ⟨z,H3,I3,rz,q3⟩=>?_
 obtain⟨i,j,l,xs,rfl,rfl,h0,h1,rfl,hx,q⟩:=q3
 obtain⟨ti,rfl⟩:=ry
 obtain⟨tj,rfl⟩:=rz
 cases r1
 have I4:Inv X pins σ H3 { s3 with heap:=s3.heap.push { cls:=.type "slice",data:=.fields #[.int i ti,.none,.int j tj] } }:=I3.kept (t':=s3.toks) fun b ob q=>Heap.get?_push_of_some _ q
 show wpAny (model X.prog X.w) X.A (subscriptTail e (.Slice (some a) none (some k) p2) (.ref l) (.ref s3.heap.objs.size)) (EP X pins σ Q) X.xe { s3 with heap:=s3.heap.push { cls:=.type "slice",data:=.fields #[.int i ti,.none,.int j tj] } }
 obtain⟨its,r,ht,hz⟩:=I4.list hx
 have hlen:=r.length
 refine tail_any (ops:=[.ref l,.ref s3.heap.objs.size]) ht.isList.typeIs slot_list_getitem.lookup ?_ (by with_unfolding_all rfl)
 refine wpAny_getItem_list_slice ht.isList (Heap.IsSliceOf.new ..) (.int _ _) .none (.int _ _) (fun z=>by cases z;omega) ?_ (by rw [n_] <;> omega)
 rw [Bp its h0 h1]
 have hv:Vals (d6 xs i j) (d6 its i j):=by
  unfold d6
  rw [hlen]
  exact xH r _
 refine⟨.ref _,_,I4.laid (t':=s3.toks) (o:=.lst (d6 xs i j)) (fun b ob q=>Heap.get?_push_of_some _ q) (c_ _) ?_,rfl,q.at (I4.hok.fresh (c_ _))⟩
 exact⟨r_ (yR xs h0 h1) hz,_,0,hv,Heap.get?_push_size _ rfl⟩
end
end L2
namespace ZS
open PySem PyProof.Rows
def gal:Bool->Keyed->Array Keyed->Nat->Nat->Nat->StateT SortSt Sem (Option Nat):=sortPriv% PySem.Builtin.gallop
def mLo:Array Keyed->Array Keyed->StateT SortSt Sem (Array Keyed):=sortPriv% PySem.Builtin.mergeLo
def mHi:Array Keyed->Array Keyed->StateT SortSt Sem (Array Keyed):=sortPriv% PySem.Builtin.mergeHi
def bey (lf:Bool)(ky:Keyed)(ar:Array Keyed)(b0 i:Nat):StateT SortSt Sem (Option Bool):=do
 let xx <-elem' ar (b0 + i)
 if lf then lt' xx ky else return (<-lt' ky xx).map (!·)
def hJ (lf:Bool)(ky:Keyed)(ar:Array Keyed)(b0 n l0 h0:Nat):StateT SortSt Sem (Option Nat):=do
 let mut l:=l0
 let mut h:=h0
 for _ in [0:n] do
  if l>=h then break
  let m:=l + (h - l) / 2
  let some mo <-bey lf ky ar b0 m | return none
  if mo then l:=m + 1 else h:=m
 return some h
def Dy (lf:Bool)(ky:Keyed)(ar:Array Keyed)(b0 n h0:Nat):StateT SortSt Sem (Option Nat):=do
 let mut la:=0
 let mut of:=1
 for _ in [0:n] do
  if of>=n - h0 then break
  let some mo <-bey lf ky ar b0 (h0 + of) | return none
  if !mo then break
  la:=of
  of:=2 * of + 1
 hJ lf ky ar b0 n (h0 + la + 1) (h0 + min of (n - h0))
def uP (lf:Bool)(ky:Keyed)(ar:Array Keyed)(b0 n h0:Nat):StateT SortSt Sem (Option Nat):=do
 let mut la:=0
 let mut of:=1
 for _ in [0:n] do
  if of>=h0 + 1 then break
  let some fo <-bey lf ky ar b0 (h0 - of) | return none
  if fo then break
  la:=of
  of:=2 * of + 1
 hJ lf ky ar b0 n (h0 + 1 - min of (h0 + 1)) (h0 - la)
theorem F6 (lf:Bool)(ky:Keyed)(ar:Array Keyed)(b0 n h0:Nat):gal lf ky ar b0 n h0=(do
 let some rt <-bey lf ky ar b0 h0 | return none
 if rt then Dy lf ky ar b0 n h0 else uP lf ky ar b0 n h0):=rfl
section
variable {M:Model}{A:Around}{E:Value->Shared->Prop}{s:Shared}
theorem F4 {lf:Bool}{ky:Keyed}{ar:Array Keyed}{b0 n h0:Nat}{st:SortSt}{Q:Option Nat->SortSt->Prop}{bd:Nat->Bool}(hh:h0 < n)(hb:∀ (i:Nat) (R:Option Bool->SortSt->Prop),i < n->R (some (bd i)) st->wpS M A E s (bey lf ky ar b0 i) R st)
  (mono:∀ i j,i<=j->j < n->bd j=true->bd i=true) (h:∀ k,k<=n->(∀ i,i < k->bd i=true)->(∀ i,k<=i->i < n->bd i=false)->Q (some k) st):wpS M A E s (gal lf ky ar b0 n h0) Q st:=by
 rw [F6]
 have last:∀ (l hi:Nat),l<=hi->hi<=n->(∀ i,i < l->bd i=true)->(∀ i,hi<=i->i < n->bd i=false)->wpS M A E s (hJ lf ky ar b0 n l hi) Q st:=fun l hi h1 h2 h3 h4=>by
  unfold hJ
  dsimp only
  refine wpS_bind (wpS_forRange (I:=fun x c st'=>st'=st/\∃ l hi,c=(none,l,hi)/\l<=hi/\hi<=n/\hi - l<=n - x/\(∀ i,i < l->bd i=true)/\(∀ i,hi<=i->i < n->bd i=false)) ?_ ?_ ⟨rfl,l,hi,rfl,h1,h2,by lia,h3,h4⟩)
  ·rintro x c st' _ hx ⟨rfl,l,hi,rfl,g1,g2,g3,g4,g5⟩
   dsimp only
   by_cases z:l>=hi
   ·rw [if_pos z]
    have e:l=hi:=by lia
    subst e
    exact wpS_pure (wpS_pure (h l g2 g4 g5))
   ·rw [if_neg z]
    have m1:l<=l + (hi - l) / 2:=Mm ..
    have m2:l + (hi - l) / 2 < hi:=by omega
    generalize l + (hi - l) / 2=m at m1 m2 ⊢
    have m3:=v_ m2 g2
    refine wpS_bind (hb _ _ m3 ?_)
    dsimp only
    cases e:bd m with
    | true=>
     simp only [if_true]
     exact wpS_pure ⟨rfl,_,_,rfl,m2,g2,by lia,fun i hi'=>mono i _ (LG hi') m3 e,g5⟩
    | false=>
     simp only [JS,if_false]
     refine wpS_pure ⟨rfl,_,_,rfl,m1,Jz m3,by lia,g4,fun i h1 h2=>?_⟩
     cases e2:bd i with
     | false=>rfl
     | true=>rw [mono _ i h1 h2 e2] at e;cases e
  ·rintro c st' ⟨rfl,l,hi,rfl,g1,g2,g3,g4,g5⟩
   have e:l=hi:=by lia
   subst e
   exact wpS_pure (h l g2 g4 g5)
 have up:∀ la of,la < of->h0 + la < n->bd (h0 + la)=true->(n - h0<=of\/bd (h0 + of)=false)->wpS M A E s (hJ lf ky ar b0 n (h0 + la + 1) (h0 + min of (n - h0))) Q st:=fun la of g1 g3 g4 g5=>by
  have k1:h0 + min of (n - h0)<=n:=by lia
  refine last _ _ (by lia) k1 (fun i hi=>mono i _ (LG hi) g3 g4) (fun i h1 h2=>?_)
  rcases g5 with g5 | g5
  ·rw [Lh g5] at h1
   lia
  ·cases e2:bd i with
   | false=>rfl
   | true=>rw [mono (h0 + of) i (by lia) h2 e2] at g5;cases g5
 have dwn:∀ la of,la < of->la<=h0->bd (h0 - la)=false->(h0 + 1<=of\/of<=h0/\bd (h0 - of)=true)->wpS M A E s (hJ lf ky ar b0 n (h0 + 1 - min of (h0 + 1)) (h0 - la)) Q st:=fun la of g1 g3 g4 g5=>by
  refine last _ _ (by omega) (r_ (Km ..) (Jz hh)) (fun i hi=>?_) (fun i h1 h2=>?_)
  ·rcases g5 with g5 | ⟨g5,g6⟩
   ·rw [Lh g5,Mn] at hi
    exact absurd hi (LW _)
   ·rw [KD (Nat.le_succ_of_le g5)] at hi
    exact mono i _ (by lia) (JM (Km ..) hh) g6
  ·cases e2:bd i with
   | false=>rfl
   | true=>rw [mono (h0 - la) i h1 h2 e2] at g4;cases g4
 refine wpS_bind (hb _ _ hh ?_)
 dsimp only
 cases e0:bd h0 with
 | true=>
  simp only [if_true]
  unfold Dy
  dsimp only
  refine wpS_bind (wpS_forRange (I:=fun x c st'=>st'=st/\∃ la of,c=(none,la,of)/\la < of/\x + 1<=of/\h0 + la < n/\bd (h0 + la)=true) ?_ ?_ ⟨rfl,0,1,rfl,K9,c_ _,hh,e0⟩)
  ·rintro x c st' _ hx ⟨rfl,la,of,rfl,g1,g2,g3,g4⟩
   dsimp only
   by_cases z:of>=n - h0
   ·rw [if_pos z]
    exact wpS_pure (up la of g1 g3 g4 (.inl z))
   ·rw [if_neg z]
    refine wpS_bind (hb _ _ (by lia) ?_)
    dsimp only
    cases e:bd (h0 + of) with
    | false=>
     simp only [L5,if_true]
     exact wpS_pure (up la of g1 g3 g4 (.inr e))
    | true=>
     simp only [MU,JS,if_false]
     exact wpS_pure ⟨rfl,_,_,rfl,by lia,by lia,by lia,e⟩
  ·rintro c st' ⟨rfl,la,of,rfl,g1,g2,g3,g4⟩
   exact up la of g1 g3 g4 (.inl (by lia))
 | false=>
  simp only [JS,if_false]
  unfold uP
  dsimp only
  refine wpS_bind (wpS_forRange (I:=fun x c st'=>st'=st/\∃ la of,c=(none,la,of)/\la < of/\x + 1<=of/\la<=h0/\bd (h0 - la)=false) ?_ ?_ ⟨rfl,0,1,rfl,K9,c_ _,B_ _,e0⟩)
  ·rintro x c st' _ hx ⟨rfl,la,of,rfl,g1,g2,g3,g4⟩
   dsimp only
   by_cases z:of>=h0 + 1
   ·rw [if_pos z]
    exact wpS_pure (dwn la of g1 g3 g4 (.inl z))
   ·rw [if_neg z]
    have z:=Nat.lt_succ_iff.mp (Nc z)
    refine wpS_bind (hb _ _ (JM (Km ..) hh) ?_)
    dsimp only
    cases e:bd (h0 - of) with
    | true=>
     simp only [if_true]
     exact wpS_pure (dwn la of g1 g3 g4 (.inr ⟨z,e⟩))
    | false=>
     simp only [JS,if_false]
     exact wpS_pure ⟨rfl,_,_,rfl,by lia,by lia,z,e⟩
  ·rintro c st' ⟨rfl,la,of,rfl,g1,g2,g3,g4⟩
   exact dwn la of g1 g3 g4 (.inl (by lia))
end
end ZS
namespace ZS
open PySem PyProof.Rows
def setG (g:Nat):StateT SortSt Sem Unit:=modify fun s=>SortSt.mk' (kindOf s) (arrOf s) (pendingOf s) g (failedOf s)
def dn (a b out:Array Keyed)(i j:Nat):Array Keyed:=out++a.extract i a.size++b.extract j b.size
def i6 (a b out:Array Keyed)(i j:Nat):Array Keyed:=out++b.extract j b.size++a.extract i a.size
theorem Ee (a b:Array Keyed):mLo a b=(do
 rule "list.sort.merge-lo"
 let mut out:Array Keyed:=#[<-elem' b 0]
 let mut i:=0
 let mut j:=1
 if j == b.size then return dn a b out i j
 if i + 1 == a.size then return i6 a b out i j
 let mut mg:=gallopOf (<-get)
 for _ in [0:a.size + b.size] do
  let mut ca:=0
  let mut cb:=0
  for _ in [0:a.size + b.size] do
   let some bw <-lt' (<-elem' b j) (<-elem' a i) | return dn a b out i j
   if bw then
    out:=out.push (<-elem' b j);j:=j + 1;cb:=cb + 1;ca:=0
    if j == b.size then return dn a b out i j
    if cb>=mg then break
   else
    out:=out.push (<-elem' a i);i:=i + 1;ca:=ca + 1;cb:=0
    if i + 1 == a.size then return i6 a b out i j
    if ca>=mg then break
  rule "list.sort.gallop"
  mg:=mg + 1
  for _ in [0:a.size + b.size] do
   if mg > 1 then mg:=mg - 1
   setG mg
   let some k <-gal false (<-elem' b j) a i (a.size - i) 0 | return dn a b out i j
   ca:=k
   if k > 0 then
    out:=out++a.extract i (i + k);i:=i + k
    if i + 1 == a.size then return i6 a b out i j
    if i == a.size then return dn a b out i j
   out:=out.push (<-elem' b j);j:=j + 1
   if j == b.size then return dn a b out i j
   let some k <-gal true (<-elem' a i) b j (b.size - j) 0 | return dn a b out i j
   cb:=k
   if k > 0 then
    out:=out++b.extract j (j + k);j:=j + k
    if j == b.size then return dn a b out i j
   out:=out.push (<-elem' a i);i:=i + 1
   if i + 1 == a.size then return i6 a b out i j
   if ca < 7 && cb < 7 then break
  mg:=mg + 1
  setG mg
 unsupported "internal:list.sort.merge-bound"):=rfl
abbrev GS:=Option (Array Keyed) × Array Keyed × Nat × Nat × Nat × Nat × Nat
abbrev FS:=Option (Array Keyed) × Array Keyed × Nat × Nat × Nat × Nat
abbrev OS:=Option (Array Keyed) × Array Keyed × Nat × Nat × Nat
def g3 (a b out:Array Keyed)(i j mg ca cb:Nat):StateT SortSt Sem (ForInStep GS):=do
 let y <-elem' a i
 if (i + 1 + 1 == a.size)=true then pure (ForInStep.done (some (i6 a b (out.push y) (i + 1) j),out.push y,i + 1,j,mg,ca,cb))
 else if (decide (ca < 7) && decide (cb < 7))=true then pure (ForInStep.done (none,out.push y,i + 1,j,mg,ca,cb))
 else pure (ForInStep.yield (none,out.push y,i + 1,j,mg,ca,cb))
def g2 (a b out:Array Keyed)(i j mg ca cb:Nat):StateT SortSt Sem (ForInStep GS):=do
 let y <-elem' b j
 if (j + 1 == b.size)=true then pure (ForInStep.done (some (dn a b (out.push y) i (j + 1)),out.push y,i,j + 1,mg,ca,cb))
 else do
  let z <-elem' a i
  let some k <-gal true z b (j + 1) (b.size - (j + 1)) 0 | pure (ForInStep.done (some (dn a b (out.push y) i (j + 1)),out.push y,i,j + 1,mg,ca,cb))
  if k > 0 then
    if (j + 1 + k == b.size)=true then pure (ForInStep.done (some (dn a b (out.push y++b.extract (j + 1) (j + 1 + k)) i (j + 1 + k)),out.push y++b.extract (j + 1) (j + 1 + k),i,j + 1 + k,mg,ca,k))
    else g3 a b (out.push y++b.extract (j + 1) (j + 1 + k)) i (j + 1 + k) mg ca k
  else g3 a b (out.push y) i (j + 1) mg ca k
def g1 (a b out:Array Keyed)(i j mg ca cb:Nat):StateT SortSt Sem (ForInStep GS):=do
 setG mg
 let y <-elem' b j
 let some k <-gal false y a i (a.size - i) 0 | pure (ForInStep.done (some (dn a b out i j),out,i,j,mg,ca,cb))
 if k > 0 then
   if (i + k + 1 == a.size)=true then pure (ForInStep.done (some (i6 a b (out++a.extract i (i + k)) (i + k) j),out++a.extract i (i + k),i + k,j,mg,k,cb))
   else if (i + k == a.size)=true then pure (ForInStep.done (some (dn a b (out++a.extract i (i + k)) (i + k) j),out++a.extract i (i + k),i + k,j,mg,k,cb))
   else g2 a b (out++a.extract i (i + k)) (i + k) j mg k cb
 else g2 a b out i j mg k cb
def f1 (a b out:Array Keyed)(i j ca cb mg:Nat):StateT SortSt Sem (ForInStep FS):=do
 let y <-elem' b j
 let z <-elem' a i
 let some bw <-lt' y z | pure (ForInStep.done (some (dn a b out i j),out,i,j,ca,cb))
 if bw=true then do
   let y <-elem' b j
   if (j + 1 == b.size)=true then pure (ForInStep.done (some (dn a b (out.push y) i (j + 1)),out.push y,i,j + 1,0,cb + 1))
   else if cb + 1>=mg then pure (ForInStep.done (none,out.push y,i,j + 1,0,cb + 1)) else pure (ForInStep.yield (none,out.push y,i,j + 1,0,cb + 1))
 else do
   let z <-elem' a i
   if (i + 1 + 1 == a.size)=true then pure (ForInStep.done (some (i6 a b (out.push z) (i + 1) j),out.push z,i + 1,j,ca + 1,0))
   else if ca + 1>=mg then pure (ForInStep.done (none,out.push z,i + 1,j,ca + 1,0)) else pure (ForInStep.yield (none,out.push z,i + 1,j,ca + 1,0))
def oLo (a b:Array Keyed)(c:OS):StateT SortSt Sem (ForInStep OS):=do
 let r <-forIn [0:a.size + b.size] ((none,c.2.1,c.2.2.1,c.2.2.2.1,0,0):FS) fun _ d=>f1 a b d.2.1 d.2.2.1 d.2.2.2.1 d.2.2.2.2.1 d.2.2.2.2.2 c.2.2.2.2
 match r.1 with
 | some q=>pure (ForInStep.done (some q,r.2.1,r.2.2.1,r.2.2.2.1,c.2.2.2.2))
 | none=>do
  liftM (rule "list.sort.gallop")
  let e <-forIn [0:a.size + b.size] ((none,r.2.1,r.2.2.1,r.2.2.2.1,c.2.2.2.2 + 1,r.2.2.2.2.1,r.2.2.2.2.2):GS) fun _ d=>
   if d.2.2.2.2.1 > 1 then g1 a b d.2.1 d.2.2.1 d.2.2.2.1 (d.2.2.2.2.1 - 1) d.2.2.2.2.2.1 d.2.2.2.2.2.2 else g1 a b d.2.1 d.2.2.1 d.2.2.2.1 d.2.2.2.2.1 d.2.2.2.2.2.1 d.2.2.2.2.2.2
  match e.1 with
  | some q=>pure (ForInStep.done (some q,e.2.1,e.2.2.1,e.2.2.2.1,e.2.2.2.2.1))
  | none=>do
   setG (e.2.2.2.2.1 + 1)
   pure (ForInStep.yield (none,e.2.1,e.2.2.1,e.2.2.2.1,e.2.2.2.2.1 + 1))
set_option maxHeartbeats 2000000 in
theorem By (a b:Array Keyed):mLo a b=(do
  liftM (rule "list.sort.merge-lo")
  let y <-elem' b 0
  if (1 == b.size)=true then pure (dn a b #[y] 0 1)
  else if (0 + 1 == a.size)=true then pure (i6 a b #[y] 0 1)
  else do
   let st <-get
   let r <-forIn [0:a.size + b.size] ((none,#[y],0,1,gallopOf st):OS) fun _ c=>oLo a b c
   match r.1 with
   | some q=>pure q
   | none=>liftM (unsupported "internal:list.sort.merge-bound":Sem (Array Keyed))):=by
 rw [Ee]
 unfold oLo
 refine congrArg (bind _) (funext fun _=>?_)
 refine congrArg (bind _) (funext fun y=>?_)
 refine ite_congr rfl (fun _=>rfl) (fun _=>?_)
 refine ite_congr rfl (fun _=>rfl) (fun _=>?_)
 refine congrArg (bind _) (funext fun st=>?_)
 refine congr (congrArg bind (congrArg (forIn _ _) (funext fun _=>funext fun c=>?_))) ?_
 ·refine congr (congrArg bind (congrArg (forIn _ _) (funext fun _=>funext fun d=>?_))) ?_
  ·unfold f1
   rfl
  ·funext r
   obtain⟨r1,r2⟩:=r
   cases r1 with
   | some q=>rfl
   | none=>
    refine congrArg (bind _) (funext fun _=>?_)
    refine congr (congrArg bind (congrArg (forIn _ _) (funext fun _=>funext fun d=>?_))) ?_
    ·
     unfold g1
     refine ite_congr rfl (fun _=>?_) (fun _=>?_)
     all_goals
      refine congrArg (bind _) (funext fun _=>?_)
      refine congrArg (bind _) (funext fun y=>?_)
      refine congrArg (bind _) (funext fun r=>?_)
      cases r with
      | none=>rfl
      | some k=>
       refine ite_congr rfl (fun _=>?_) (fun _=>?_)
       ·refine ite_congr rfl (fun _=>rfl) (fun _=>?_)
        refine ite_congr rfl (fun _=>rfl) (fun _=>?_)
        unfold g2
        rfl
       ·unfold g2
        rfl
    ·funext e;obtain⟨e1,e2⟩:=e;cases e1 <;> rfl
 ·funext e;obtain⟨e1,e2⟩:=e;cases e1 <;> rfl
end ZS
namespace ZS
open PySem PyProof.Rows
def dG (M:Model)(A:Around)(E:Value->Shared->Prop)(s:Shared)(kd:SortKind)(rk:Keyed->Nat)(S:Keyed->Prop):Prop:=
 ∀ (x y:Keyed) (st:SortSt) (Q:Option Bool->SortSt->Prop),S x->S y->kindOf st=kd->Q (some (decide (rk x < rk y))) st->wpS M A E s (lt' x y) Q st
structure Keep (st st':SortSt):Prop where
 k:kindOf st'=kindOf st
 a:arrOf st'=arrOf st
 p:pendingOf st'=pendingOf st
 f:failedOf st'=failedOf st
theorem Keep.bX {st:SortSt}:Keep st st:=⟨rfl,rfl,rfl,rfl⟩
theorem Keep.g {st st':SortSt}(h:Keep st st')(g:Nat):Keep st (SortSt.mk' (kindOf st') (arrOf st') (pendingOf st') g (failedOf st')):=⟨h.k,h.a,h.p,h.f⟩
section
variable {rk:Keyed->Nat}
abbrev Srt (rk:Keyed->Nat)(l:List Keyed):Prop:=l.Pairwise fun x y=>rk x<=rk y
structure MS (rk:Keyed->Nat) (a b out:List Keyed) (i j:Nat):Prop where
 perm:out.Perm (a.take i++b.take j)
 srt:Srt rk out
 le:∀ x∈out,(∀ y∈a.drop i,rk x<=rk y)/\∀ y∈b.drop j,rk x<=rk y
def Res (rk:Keyed->Nat)(a b r:List Keyed):Prop:=r.Perm (a++b)/\Srt rk r
theorem MS.pU {a b out:List Keyed}{i j k:Nat}(h:MS rk a b out i j)(sa:Srt rk a)(hc:∀ y∈(a.drop i).take k,∀ z∈b.drop j,rk y<=rk z):MS rk a b (out++(a.drop i).take k) (i + k) j:=by
 have sd:Srt rk (a.drop i):=JR (Lc _ _) sa
 have split:a.drop i=(a.drop i).take k++a.drop (i + k):=by rw [<-LB];exact (C' k (a.drop i)).symm
 refine⟨?_,?_,fun x hx=>?_⟩
 ·rw [Me]
  refine (h.perm.append_right _).trans ?_
  rw [gV,gV]
  exact JD _ J'
 ·refine F_.mpr ⟨h.srt,JR (La _ _) sd,fun x hx y hy=>(h.le x hx).1 y (Kl hy)⟩
 ·rcases G_.mp hx with hx | hx
  ·refine⟨fun y hy=>(h.le x hx).1 y ?_,(h.le x hx).2⟩
   rw [split]
   exact k_ _ hy
  ·refine⟨fun y hy=>?_,hc x hx⟩
   rw [split] at sd
   exact (F_.mp sd).2.2 x hx y hy
theorem MS.oK {a b out:List Keyed}{i j k:Nat}(h:MS rk a b out i j)(sb:Srt rk b)(hc:∀ y∈(b.drop j).take k,∀ z∈a.drop i,rk y<=rk z):MS rk a b (out++(b.drop j).take k) i (j + k):=by
 have sd:Srt rk (b.drop j):=JR (Lc _ _) sb
 have split:b.drop j=(b.drop j).take k++b.drop (j + k):=by rw [<-LB];exact (C' k (b.drop j)).symm
 refine⟨?_,?_,fun x hx=>?_⟩
 ·rw [Me,<-gV]
  exact h.perm.append_right _
 ·refine F_.mpr ⟨h.srt,JR (La _ _) sd,fun x hx y hy=>(h.le x hx).2 y (Kl hy)⟩
 ·rcases G_.mp hx with hx | hx
  ·refine⟨(h.le x hx).1,fun y hy=>(h.le x hx).2 y ?_⟩
   rw [split]
   exact k_ _ hy
  ·refine⟨hc x hx,fun y hy=>?_⟩
   rw [split] at sd
   exact (F_.mp sd).2.2 x hx y hy
theorem MS.all {a b out:List Keyed}{i j:Nat}(h:MS rk a b out i j)(h1:a.length<=i)(h2:b.length<=j):Res rk a b out:=by
 have:=h.perm
 rw [JC h1,JC h2] at this
 exact⟨this,h.srt⟩
theorem iR {l:List Keyed}(i:Nat):(l.drop i).take l.length=l.drop i:=JC (by rw [F'];lia)
theorem MS.done {a b out:List Keyed}{i j:Nat}(h:MS rk a b out i j)(sa:Srt rk a)(sb:Srt rk b)(e:a.length<=i\/b.length<=j):Res rk a b (out++a.drop i++b.drop j):=by
 have h1:=h.pU (k:=a.length) sa fun y hy z hz=>by
  rcases e with e | e
  ·rw [Kd e] at hy;simp at hy
  ·rw [Kd e] at hz;simp at hz
 have h2:=h1.oK (k:=b.length) sb fun y hy z hz=>by
  rw [Kd (by lia)] at hz;simp at hz
 rw [iR,iR] at h2
 exact h2.all (by lia) (by lia)
theorem MS.last {a b out:List Keyed}{i j:Nat}(h:MS rk a b out i j)(sa:Srt rk a)(sb:Srt rk b)(e:∀ y∈b.drop j,∀ z∈a.drop i,rk y<=rk z):Res rk a b (out++b.drop j++a.drop i):=by
 have h1:=h.oK (k:=b.length) sb fun y hy z hz=>e y (Kl hy) z hz
 have h2:=h1.pU (k:=a.length) sa fun y hy z hz=>by
  rw [Kd (by lia)] at hz;simp at hz
 rw [iR,iR] at h2
 exact h2.all (by lia) (by lia)
theorem l6 (a:Array Keyed)(i:Nat):(a.extract i a.size).toList=a.toList.drop i:=by
 rw [Li,KP]
 exact JC (by rw [F',j_];exact c_ _)
theorem iK (a:Array Keyed)(i k:Nat):(a.extract i (i + k)).toList=(a.toList.drop i).take k:=by
 rw [Li,KP,LC]
theorem drop_one {l:List Keyed}{i:Nat}{y:Keyed}(h:l[i]?=some y):(l.drop i).take 1=[y]:=by
 obtain⟨hl,e⟩:=e_.mp h
 rw [J_ hl,MW,Np,e]
theorem rX {l:List Keyed}{i:Nat}{y:Keyed}(h:l[i]?=some y)(s:Srt rk l):∀ z∈l.drop i,rk y<=rk z:=by
 obtain⟨hl,e⟩:=e_.mp h
 intro z hz
 have sd:Srt rk (l.drop i):=JR (Lc _ _) s
 rw [J_ hl,e] at sd hz
 rcases m_.mp hz with rfl | hz
 ·exact c_ _
 ·exact (Ki.mp sd).1 z hz
theorem ng {l:List Keyed}(s:Srt rk l){i j:Nat}{x y:Keyed}(hij:i<=j)(hx:l[i]?=some x)(hy:l[j]?=some y):rk x<=rk y:=by
 refine rX hx s y ?_
 rw [Kj]
 exact⟨j - i,by rw [Kz,show i + (j - i)=j by lia];exact hy⟩
theorem dU {l:List Keyed}{i k:Nat}{y:Keyed}(h:y∈(l.drop i).take k):∃ j,j < k/\l[i + j]?=some y:=by
 obtain⟨j,hj⟩:=Kj.mp h
 rw [K5] at hj
 split at hj
 ·next hlt=>exact⟨j,hlt,by rw [Kz] at hj;exact hj⟩
 ·cases hj
theorem hG {l:List Keyed}{i:Nat}{y:Keyed}(h:y∈l.drop i):∃ j,l[i + j]?=some y:=by
 obtain⟨j,hj⟩:=Kj.mp h
 exact⟨j,by rw [Kz] at hj;exact hj⟩
end
section
variable {M:Model}{A:Around}{E:Value->Shared->Prop}{s:Shared}{kd:SortKind}{rk:Keyed->Nat}{S:Keyed->Prop}
theorem aN {ar:Array Keyed}{i:Nat}{p:Keyed}{st:SortSt}{Q:Keyed->SortSt->Prop}(h:ar[i]?=some p)(q:Q p st):wpS M A E s (elem' ar i) Q st:=by
 rw [elem'_eq,h]
 exact wpS_pure q
theorem EY {lf:Bool}{ky p:Keyed}{ar:Array Keyed}{b0 i:Nat}{st:SortSt}{Q:Option Bool->SortSt->Prop}(L:dG M A E s kd rk S)(hk:kindOf st=kd)(hp:ar[b0 + i]?=some p)(Sp:S p)(Sk:S ky)
  (q:Q (some (if lf=true then decide (rk p < rk ky) else !decide (rk ky < rk p))) st):wpS M A E s (bey lf ky ar b0 i) Q st:=by
 unfold bey
 refine wpS_bind (aN hp ?_)
 cases lf with
 | true=>exact L p ky st _ Sp Sk hk q
 | false=>exact wpS_bind (L ky p st _ Sk Sp hk (wpS_pure q))
theorem hW {lf:Bool}{ky:Keyed}{ar:Array Keyed}{b0 n h0:Nat}{st:SortSt}{Q:Option Nat->SortSt->Prop}(L:dG M A E s kd rk S)(hk:kindOf st=kd)(hh:h0 < n)(hsz:b0 + n<=ar.size)(Sa:∀ (i:Nat) p,ar[i]?=some p->S p)(Sk:S ky)
  (srt:∀ (i j:Nat) p q,i<=j->j < n->ar[b0 + i]?=some p->ar[b0 + j]?=some q->rk p<=rk q)
  (h:∀ k,k<=n->(∀ (i:Nat) p,i < k->ar[b0 + i]?=some p->if lf=true then rk p < rk ky else rk p<=rk ky)->(∀ (i:Nat) p,k<=i->i < n->ar[b0 + i]?=some p->if lf=true then rk ky<=rk p else rk ky < rk p)->Q (some k) st) :
  wpS M A E s (gal lf ky ar b0 n h0) Q st:=by
 have get:∀ i,i < n->ar[b0 + i]?=some (ar.getD (b0 + i) (Value.none,Value.none)):=fun i hi=>by
  rw [Array.getD_eq_getD_getElem?,u_ (by lia)]
  rfl
 refine F4 (bd:=fun i=>if lf=true then decide (rk (ar.getD (b0 + i) (Value.none,Value.none)) < rk ky) else !decide (rk ky < rk (ar.getD (b0 + i) (Value.none,Value.none)))) hh (fun i R hi r=>EY L hk (get i hi) (Sa _ _ (get i hi)) Sk r) ?_ ?_
 ·intro i j hij hj hb
  have:=srt i j _ _ hij hj (get i (by lia)) (get j hj)
  cases lf with
  | true=>
   simp only [if_true,decide_eq_true_eq] at hb ⊢
   lia
  | false=>
   simp only [JS,if_false,Bool.not_eq_true',decide_eq_false_iff_not] at hb ⊢
   lia
 ·intro k hk' h1 h2
  refine h k hk' (fun i p hi hp=>?_) (fun i p h3 h4 hp=>?_)
  ·have e:=get i (by lia)
   rw [hp] at e
   cases e
   have:=h1 i hi
   cases lf with
   | true=>simpa using this
   | false=>simpa using this
  ·have e:=get i h4
   rw [hp] at e
   cases e
   have:=h2 i h3 h4
   cases lf with
   | true=>simpa using this
   | false=>simpa using this
theorem l5 {g:Nat}{st:SortSt}{Q:Unit->SortSt->Prop}(q:Q () (SortSt.mk' (kindOf st) (arrOf st) (pendingOf st) g (failedOf st))):wpS M A E s (setG g) Q st:=wpS_modify q
end
end ZS
namespace ZS
open PySem PyProof.Rows
section
variable {M:Model}{A:Around}{E:Value->Shared->Prop}{s:Shared}{kd:SortKind}{rk:Keyed->Nat}{S:Keyed->Prop}{a b:Array Keyed}
structure LoOk (rk:Keyed->Nat) (S:Keyed->Prop) (a b:Array Keyed):Prop where
 sa:Srt rk a.toList
 sb:Srt rk b.toList
 Sa:∀ (i:Nat) p,a[i]?=some p->S p
 Sb:∀ (i:Nat) p,b[i]?=some p->S p
 pa:0 < a.size
 pb:0 < b.size
 first:∀ p,b[0]?=some p->∀ z∈a.toList,rk p<=rk z
 last:∀ p,a[a.size - 1]?=some p->∀ z∈b.toList,rk z<=rk p
theorem LoOk.lx (h:LoOk rk S a b){out:Array Keyed}{i j:Nat}(m:MS rk a.toList b.toList out.toList i j)(e:i + 1=a.size):Res rk a.toList b.toList (i6 a b out i j).toList:=by
 unfold i6
 rw [JE,JE,l6,l6]
 refine m.last h.sa h.sb fun y hy z hz=>?_
 obtain⟨k,hk⟩:=hG hz
 have hk':i + k < a.toList.length:=(e_.mp hk).1
 rw [j_] at hk'
 have k0:k=0:=by lia
 subst k0
 refine h.last z ?_ y (Lg hy)
 rw [<-i_,show a.size - 1=i + 0 by lia]
 exact hk
theorem LoOk.jj (h:LoOk rk S a b){out:Array Keyed}{i j:Nat}(m:MS rk a.toList b.toList out.toList i j)(e:a.size<=i\/b.size<=j):Res rk a.toList b.toList (dn a b out i j).toList:=by
 unfold dn
 rw [JE,JE,l6,l6]
 exact m.done h.sa h.sb (by rw [j_,j_];exact e)
structure LI (rk:Keyed->Nat) (a b out:Array Keyed) (i j:Nat):Prop where
 m:MS rk a.toList b.toList out.toList i j
 i:i + 1 < a.size
 j:j < b.size
theorem MS.kB {out:Array Keyed}{i j:Nat}(m:MS rk a.toList b.toList out.toList i j)(H:LoOk rk S a b){y:Keyed}(hy:b[j]?=some y)(hc:∀ z∈a.toList.drop i,rk y<=rk z):MS rk a.toList b.toList (out.push y).toList i (j + 1):=by
 have hy':b.toList[j]?=some y:=by rw [i_];exact hy
 have:=m.oK (k:=1) H.sb (by rw [drop_one hy'];intro w hw;rw [D'.mp hw];exact hc)
 rw [drop_one hy'] at this
 rw [Ld]
 exact this
theorem MS.jS {out:Array Keyed}{i j:Nat}(m:MS rk a.toList b.toList out.toList i j)(H:LoOk rk S a b){y:Keyed}(hy:a[i]?=some y)(hc:∀ z∈b.toList.drop j,rk y<=rk z):MS rk a.toList b.toList (out.push y).toList (i + 1) j:=by
 have hy':a.toList[i]?=some y:=by rw [i_];exact hy
 have:=m.pU (k:=1) H.sa (by rw [drop_one hy'];intro w hw;rw [D'.mp hw];exact hc)
 rw [drop_one hy'] at this
 rw [Ld]
 exact this
theorem j4 {l:Array Keyed}{i:Nat}{y:Keyed}(srt:Srt rk l.toList)(hy:l[i]?=some y):∀ z∈l.toList.drop i,rk y<=rk z:=rX (by rw [i_];exact hy) srt
def fJ (rk:Keyed->Nat)(a b:Array Keyed)(lo:Nat)(st:SortSt)(r:Option (Array Keyed))(out:Array Keyed)(i j:Nat)(st':SortSt):Prop:=
 Keep st st'/\match r with
 | some q=>Res rk a.toList b.toList q.toList
 | none=>LI rk a b out i j/\lo < i + j
theorem IF {out:Array Keyed}{i j ca cb mg:Nat}{st st':SortSt}{Q:ForInStep FS->SortSt->Prop}(L:dG M A E s kd rk S)(H:LoOk rk S a b)(hk:kindOf st=kd)(K:Keep st st')(I:LI rk a b out i j)
  (h:∀ (d:Bool) (c:FS),fJ rk a b (i + j) st c.1 c.2.1 c.2.2.1 c.2.2.2.1 st'->(d=false->c.1=none)->Q (if d=true then ForInStep.done c else ForInStep.yield c) st'):wpS M A E s (f1 a b out i j ca cb mg) Q st':=by
 have hi:i < a.size:=by have:=I.i;lia
 obtain⟨y,hy⟩:∃ y,b[j]?=some y:=⟨_,u_ I.j⟩
 obtain⟨z,hz⟩:∃ z,a[i]?=some z:=⟨_,u_ hi⟩
 unfold f1
 refine wpS_bind (aN hy (wpS_bind (aN hz (wpS_bind (L y z st' _ (H.Sb _ _ hy) (H.Sa _ _ hz) (K.k.trans hk) ?_)))))
 dsimp only
 by_cases w:rk y < rk z
 ·rw [decide_eq_true w,if_pos rfl]
  have m:=I.m.kB H hy fun u hu=>r_ (Jz w) (j4 H.sa hz u hu)
  refine wpS_bind (aN hy ?_)
  by_cases e:j + 1=b.size
  ·rw [if_pos (by rw [e];exact beq_self_eq_true _)]
   exact wpS_pure (h true _ ⟨K,H.jj m (.inr (by lia))⟩ (fun z=>nomatch z))
  ·rw [if_neg (by simpa using e)]
   have I2:LI rk a b (out.push y) i (j + 1):=⟨m,I.i,by have:=I.j;lia⟩
   split
   ·exact wpS_pure (h true _ ⟨K,I2,by dsimp only;lia⟩ (fun z=>nomatch z))
   ·exact wpS_pure (h false _ ⟨K,I2,by dsimp only;lia⟩ (fun _=>rfl))
 ·rw [decide_eq_false w,if_neg (by simp)]
  have m:=I.m.jS H hz fun u hu=>r_ (by lia) (j4 H.sb hy u hu)
  refine wpS_bind (aN hz ?_)
  by_cases e:i + 1 + 1=a.size
  ·rw [if_pos (by rw [e];exact beq_self_eq_true _)]
   exact wpS_pure (h true _ ⟨K,H.lx m e⟩ (fun z=>nomatch z))
  ·rw [if_neg (by simpa using e)]
   have I2:LI rk a b (out.push z) (i + 1) j:=⟨m,by have:=I.i;lia,I.j⟩
   split
   ·exact wpS_pure (h true _ ⟨K,I2,by dsimp only;lia⟩ (fun z=>nomatch z))
   ·exact wpS_pure (h false _ ⟨K,I2,by dsimp only;lia⟩ (fun _=>rfl))
theorem DF {out:Array Keyed}{i j mg ca cb lo:Nat}{st st':SortSt}{Q:ForInStep GS->SortSt->Prop}(H:LoOk rk S a b)(K:Keep st st')(I:LI rk a b out i j)(hc:∀ z,a[i]?=some z->∀ u∈b.toList.drop j,rk z<=rk u)(hl:lo<=i + j)
  (h:∀ (d:Bool) (c:GS),fJ rk a b lo st c.1 c.2.1 c.2.2.1 c.2.2.2.1 st'->(d=false->c.1=none)->Q (if d=true then ForInStep.done c else ForInStep.yield c) st'):wpS M A E s (g3 a b out i j mg ca cb) Q st':=by
 have hi:i < a.size:=by have:=I.i;lia
 obtain⟨z,hz⟩:∃ z,a[i]?=some z:=⟨_,u_ hi⟩
 unfold g3
 have m:=I.m.jS H hz (hc z hz)
 refine wpS_bind (aN hz ?_)
 by_cases e:i + 1 + 1=a.size
 ·rw [if_pos (by rw [e];exact beq_self_eq_true _)]
  exact wpS_pure (h true _ ⟨K,H.lx m e⟩ (fun z=>nomatch z))
 ·rw [if_neg (by simpa using e)]
  have I2:LI rk a b (out.push z) (i + 1) j:=⟨m,by have:=I.i;lia,I.j⟩
  split
  ·exact wpS_pure (h true _ ⟨K,I2,by dsimp only;lia⟩ (fun z=>nomatch z))
  ·exact wpS_pure (h false _ ⟨K,I2,by dsimp only;lia⟩ (fun _=>rfl))
theorem DG {out:Array Keyed}{i j mg ca cb lo:Nat}{st st':SortSt}{Q:ForInStep GS->SortSt->Prop}(L:dG M A E s kd rk S)(H:LoOk rk S a b)(hk:kindOf st=kd)(K:Keep st st')(I:LI rk a b out i j)(hc:∀ y,b[j]?=some y->∀ u∈a.toList.drop i,rk y<=rk u)(hl:lo<=i + j)
  (h:∀ (d:Bool) (c:GS),fJ rk a b lo st c.1 c.2.1 c.2.2.1 c.2.2.2.1 st'->(d=false->c.1=none)->Q (if d=true then ForInStep.done c else ForInStep.yield c) st'):wpS M A E s (g2 a b out i j mg ca cb) Q st':=by
 have hi:i < a.size:=by have:=I.i;lia
 obtain⟨y,hy⟩:∃ y,b[j]?=some y:=⟨_,u_ I.j⟩
 obtain⟨z,hz⟩:∃ z,a[i]?=some z:=⟨_,u_ hi⟩
 unfold g2
 have m:=I.m.kB H hy (hc y hy)
 refine wpS_bind (aN hy ?_)
 by_cases e:j + 1=b.size
 ·rw [if_pos (by rw [e];exact beq_self_eq_true _)]
  exact wpS_pure (h true _ ⟨K,H.jj m (.inr (by lia))⟩ (fun z=>nomatch z))
 rw [if_neg (by simpa using e)]
 have hj:j + 1 < b.size:=by have:=I.j;lia
 refine wpS_bind (aN hz (wpS_bind (hW L (K.k.trans hk) (by lia) (by lia) H.Sb (H.Sa _ _ hz) (fun p q x w h1 h2 h3 h4=>ng H.sb (i:=j + 1 + p) (j:=j + 1 + q) (by (clear h4 h3 h2 hj e m hz hy hi h hl hc I K hk H L;lia)) (by rw [i_];exact h3) (by rw [i_];exact h4)) fun k k1 k2 k3=>?_)))
 dsimp only
 have after:∀ u∈b.toList.drop (j + 1 + k),rk z<=rk u:=fun u hu=>by
  obtain⟨p,hp⟩:=hG hu
  rw [i_] at hp
  have hlt:j + 1 + k + p < b.size:=(Mf.mp hp).1
  have:=k3 (k + p) u (by lia) (by (clear hp hu k3 k2 k1 hj e m hz hy hi h hl hc I K hk H L;lia)) (by rw [show j + 1 + (k + p)=j + 1 + k + p by (clear hlt hp hu k3 k2 k1 hj e m hz hy hi h hl hc I K hk H L;lia)];exact hp)
  simpa using this
 by_cases pk:k > 0
 ·rw [if_pos pk]
  have m2:MS rk a.toList b.toList (out.push y++b.extract (j + 1) (j + 1 + k)).toList i (j + 1 + k):=by
   rw [JE,iK]
   refine m.oK H.sb fun u hu w hw=>?_
   obtain⟨p,hp1,hp⟩:=dU hu
   rw [i_] at hp
   have:=k2 p u hp1 hp
   simp only [if_true] at this
   exact r_ (Jz this) (j4 H.sa hz w hw)
  by_cases e2:j + 1 + k=b.size
  ·rw [if_pos (by rw [e2];exact beq_self_eq_true _)]
   exact wpS_pure (h true _ ⟨K,H.jj m2 (.inr (by (clear m2 pk after k3 k2 k1 hj e m hz hy hi h hl hc I K hk H L;lia)))⟩ (fun z=>nomatch z))
  ·rw [if_neg (by simpa using e2)]
   refine DF H K ⟨m2,I.i,by (clear m2 after k3 k2 hj e m hz hy hi h hl hc I K hk H L;lia)⟩ (fun z' hz'=>?_) (by (clear e2 m2 pk after k3 k2 k1 hj e m hz hy hi h hc I K hk H L;lia)) h
   rw [hz] at hz'
   cases hz'
   exact after
 ·rw [if_neg pk]
  have k0:k=0:=by lia
  subst k0
  refine DF H K ⟨m,I.i,by (clear pk after k3 k2 k1 e m hz hy hi h hl hc I K hk H L;omega)⟩ (fun z' hz'=>?_) (by lia) h
  rw [hz] at hz'
  cases hz'
  exact after
theorem IU {out:Array Keyed}{i j mg ca cb:Nat}{st st':SortSt}{Q:ForInStep GS->SortSt->Prop}(L:dG M A E s kd rk S)(H:LoOk rk S a b)(hk:kindOf st=kd)(K:Keep st st')(I:LI rk a b out i j)
  (h:∀ (d:Bool) (c:GS) (st2:SortSt),fJ rk a b (i + j) st c.1 c.2.1 c.2.2.1 c.2.2.2.1 st2->(d=false->c.1=none)->Q (if d=true then ForInStep.done c else ForInStep.yield c) st2):wpS M A E s (g1 a b out i j mg ca cb) Q st':=by
 have hi:i < a.size:=by have:=I.i;lia
 obtain⟨y,hy⟩:∃ y,b[j]?=some y:=⟨_,u_ I.j⟩
 unfold g1
 refine wpS_bind (l5 (wpS_bind (aN hy ?_)))
 have K2:=K.g mg
 revert K2
 generalize SortSt.mk' (kindOf st') (arrOf st') (pendingOf st') mg (failedOf st')=st2
 intro K2
 refine wpS_bind (hW L (K2.k.trans hk) (by lia) (by lia) H.Sa (H.Sb _ _ hy) (fun p q x w h1 h2 h3 h4=>ng H.sa (i:=i + p) (j:=i + q) (by lia) (by rw [i_];exact h3) (by rw [i_];exact h4)) fun k k1 k2 k3=>?_)
 dsimp only
 have after:∀ u∈a.toList.drop (i + k),rk y<=rk u:=fun u hu=>by
  obtain⟨p,hp⟩:=hG hu
  rw [i_] at hp
  have hlt:i + k + p < a.size:=(Mf.mp hp).1
  have:=k3 (k + p) u (by lia) (by lia) (by rw [show i + (k + p)=i + k + p by lia];exact hp)
  simp at this
  lia
 by_cases pk:k > 0
 ·rw [if_pos pk]
  have m2:MS rk a.toList b.toList (out++a.extract i (i + k)).toList (i + k) j:=by
   rw [JE,iK]
   refine I.m.pU H.sa fun u hu w hw=>?_
   obtain⟨p,hp1,hp⟩:=dU hu
   rw [i_] at hp
   have:=k2 p u hp1 hp
   simp at this
   exact r_ this (j4 H.sb hy w hw)
  by_cases e1:i + k + 1=a.size
  ·rw [if_pos (by rw [e1];exact beq_self_eq_true _)]
   exact wpS_pure (h true _ _ ⟨K2,H.lx m2 e1⟩ (fun z=>nomatch z))
  rw [if_neg (by simpa using e1)]
  by_cases e2:i + k=a.size
  ·rw [if_pos (by rw [e2];exact beq_self_eq_true _)]
   exact wpS_pure (h true _ _ ⟨K2,H.jj m2 (.inl (by lia))⟩ (fun z=>nomatch z))
  rw [if_neg (by simpa using e2)]
  refine DG L H hk K2 ⟨m2,by (clear m2 after k3 k2 K2 hy hi h I K hk H L;lia),I.j⟩ (fun y' hy'=>?_) (by lia) fun d c x1 x2=>h d c _ x1 x2
  rw [hy] at hy'
  cases hy'
  exact after
 ·rw [if_neg pk]
  have k0:k=0:=by lia
  subst k0
  refine DG L H hk K2 I (fun y' hy'=>?_) (c_ _) fun d c x1 x2=>h d c _ x1 x2
  rw [hy] at hy'
  cases hy'
  exact after
theorem En {st:SortSt}{Q:Array Keyed->SortSt->Prop}(L:dG M A E s kd rk S)(H:LoOk rk S a b)(hk:kindOf st=kd)(h:∀ r st',Keep st st'->Res rk a.toList b.toList r.toList->Q r st')(hr:∀ x,wpAny M A (rule x) (fun _ s'=>s'=s) E s):wpS M A E s (mLo a b) Q st:=by
 rw [By]
 obtain⟨y,hy⟩:∃ y,b[0]?=some y:=⟨_,u_ H.pb⟩
 have rl:∀ {x:String} {R:Unit->SortSt->Prop} {st':SortSt},R () st'->wpS M A E s (liftM (rule x):StateT SortSt Sem Unit) R st':=fun {x R st'} q=>wpS_lift (wpAny_mono (hr x) (fun _ _ z=>⟨z,q⟩) fun _ _ z=>z)
 refine wpS_bind (rl (wpS_bind (aN hy ?_)))
 have m0:MS rk a.toList b.toList (#[]:Array Keyed).toList 0 0:=⟨by simp,LD,fun x hx=>by simp at hx⟩
 have m1:MS rk a.toList b.toList (#[y]:Array Keyed).toList 0 1:=m0.kB H hy fun z hz=>H.first y hy z (by simpa using hz)
 by_cases e1:1=b.size
 ·rw [if_pos (by rw [<-e1];rfl)]
  exact wpS_pure (h _ _ .bX (H.jj m1 (.inr (by lia))))
 rw [if_neg (by simpa using e1)]
 by_cases e2:0 + 1=a.size
 ·rw [if_pos (by rw [<-e2];rfl)]
  exact wpS_pure (h _ _ .bX (H.lx m1 e2))
 rw [if_neg (by simpa using e2)]
 refine wpS_bind (wpS_get ?_)
 have pa:=H.pa
 have pb:=H.pb
 refine wpS_bind (wpS_mono (wpS_forRange (I:=fun x (c:OS) st'=>c.1=none/\Keep st st'/\LI rk a b c.2.1 c.2.2.1 c.2.2.2.1/\x < c.2.2.1 + c.2.2.2.1) (Q:=fun (c:OS) st'=>∃ q,c.1=some q/\Keep st st'/\Res rk a.toList b.toList q.toList) ?_ ?_ ⟨rfl,.bX,⟨m1,by dsimp only;lia,by dsimp only;lia⟩,by show 0 < 0 + 1;lia⟩) ?_)
 ·rintro x ⟨c1,out,i,j,mg⟩ st1 _ hx ⟨rfl,K1,I1,px⟩
  unfold oLo
  dsimp only at I1 px ⊢
  refine wpS_bind (wpS_mono (wpS_forRange (I:=fun x (c:FS) st'=>c.1=none/\Keep st st'/\LI rk a b c.2.1 c.2.2.1 c.2.2.2.1/\i + j + x<=c.2.2.1 + c.2.2.2.1) (Q:=fun (c:FS) st'=>fJ rk a b (i + j) st c.1 c.2.1 c.2.2.1 c.2.2.2.1 st') ?_ ?_ ⟨rfl,K1,I1,c_ _⟩) ?_)
  ·rintro x2 ⟨d1,out2,i2,j2,ca,cb⟩ st2 _ hx2 ⟨rfl,K2,I2,p2⟩
   dsimp only at I2 p2 ⊢
   refine IF L H hk K2 I2 fun d c hs hn=>?_
   cases d with
   | true=>
    show fJ _ _ _ _ _ _ _ _ _ _
    refine⟨hs.1,?_⟩
    have h2:=hs.2
    cases e:c.1 with
    | some q=>rw [e] at h2;exact h2
    | none=>rw [e] at h2;exact⟨h2.1,by have:=h2.2;(clear e h2 hn hs I2 K2 hx2 px I1 K1 hx pb pa e2 e1 m1 m0 rl hy hr h hk H L;lia)⟩
   | false=>
    have h2:=hs.2
    rw [hn rfl] at h2
    exact⟨hn rfl,hs.1,h2.1,by have:=h2.2;(clear h2 hn hs I2 K2 hx2 px I1 K1 hx pb pa e2 e1 m1 m0 rl hy hr h hk H L;lia)⟩
  ·rintro⟨c1,out2,i2,j2,ca,cb⟩ st2 ⟨rfl,K2,I2,p2⟩
   dsimp only at I2 p2 ⊢
   have:=I2.i
   have:=I2.j
   (clear I2 K2 px I1 K1 hx pb pa e2 e1 m1 m0 rl hy hr h hk H L;lia)
  ·rintro⟨c1,out2,i2,j2,ca,cb⟩ st2 ⟨K2,h2⟩
   cases c1 with
   | some q=>exact wpS_pure ⟨q,rfl,K2,h2⟩
   | none=>
    obtain⟨I2,p2⟩:=h2
    dsimp only at I2 p2 ⊢
    refine wpS_bind (rl ?_)
    refine wpS_bind (wpS_mono (wpS_forRange (I:=fun _ (c:GS) st'=>c.1=none/\Keep st st'/\LI rk a b c.2.1 c.2.2.1 c.2.2.2.1/\i + j < c.2.2.1 + c.2.2.2.1) (Q:=fun (c:GS) st'=>fJ rk a b (i + j) st c.1 c.2.1 c.2.2.1 c.2.2.2.1 st') ?_ ?_ ⟨rfl,K2,I2,p2⟩) ?_)
    ·rintro x3 ⟨d1,out3,i3,j3,mg3,ca3,cb3⟩ st3 _ hx3 ⟨rfl,K3,I3,p3⟩
     dsimp only at I3 p3 ⊢
     have go:∀ mg',wpS M A E s (g1 a b out3 i3 j3 mg' ca3 cb3) (fun r st'=>match r with | .done c'=>fJ rk a b (i + j) st c'.1 c'.2.1 c'.2.2.1 c'.2.2.2.1 st' | .yield c'=>c'.1=none/\Keep st st'/\LI rk a b c'.2.1 c'.2.2.1 c'.2.2.2.1/\i + j < c'.2.2.1 + c'.2.2.2.1) st3:=fun mg'=>by
      refine IU L H hk K3 I3 fun d c st4 hs hn=>?_
      cases d with
      | true=>
       show fJ _ _ _ _ _ _ _ _ _ _
       refine⟨hs.1,?_⟩
       have h2:=hs.2
       cases e:c.1 with
       | some q=>rw [e] at h2;exact h2
       | none=>rw [e] at h2;exact⟨h2.1,by have:=h2.2;(clear e h2 hn hs I3 K3 hx3 p2 I2 K2 px I1 K1 hx pb pa e2 e1 m1 m0 rl hy hr h hk H L;lia)⟩
      | false=>
       have h2:=hs.2
       rw [hn rfl] at h2
       exact⟨hn rfl,hs.1,h2.1,by have:=h2.2;(clear h2 hn hs I3 K3 hx3 p2 I2 K2 px I1 K1 hx pb pa e2 e1 m1 m0 rl hy hr h hk H L;lia)⟩
     split
     ·exact wpS_mono (go _) fun r st' h=>by cases r <;> exact h
     ·exact wpS_mono (go _) fun r st' h=>by cases r <;> exact h
    ·rintro⟨c1,out3,i3,j3,mg3,ca3,cb3⟩ st3 ⟨rfl,K3,I3,p3⟩
     exact⟨K3,I3,p3⟩
    ·rintro⟨c1,out3,i3,j3,mg3,ca3,cb3⟩ st3 ⟨K3,h3⟩
     cases c1 with
     | some q=>exact wpS_pure ⟨q,rfl,K3,h3⟩
     | none=>
      obtain⟨I3,p3⟩:=h3
      refine wpS_bind (l5 (wpS_pure ⟨rfl,K3.g _,I3,?_⟩))
      dsimp only at p3 ⊢
      lia
 ·rintro⟨c1,out,i,j,mg⟩ st1 ⟨rfl,K1,I1,px⟩
  have h1:=I1.i
  have h2:=I1.j
  dsimp only at h1 h2 px
  (clear I1 K1 pb pa e2 e1 m1 m0 rl hy hr h hk H L;lia)
 ·rintro⟨c1,out,i,j,mg⟩ st1 ⟨q,e,K1,r⟩
  dsimp only at e
  subst e
  exact wpS_pure (h q st1 K1 r)
end
end ZS
namespace ZS
open PySem PyProof.Rows
def dnH (a b out:Array Keyed)(i j:Nat):Array Keyed:=a.extract 0 i++b.extract 0 j++out.reverse
def f7 (a b out:Array Keyed)(i j:Nat):Array Keyed:=b.extract 0 j++a.extract 0 i++out.reverse
theorem Er (a b:Array Keyed):mHi a b=(do
 rule "list.sort.merge-hi"
 let mut i:=a.size - 1
 let mut j:=b.size
 let mut out:Array Keyed:=#[<-elem' a i]
 if i == 0 then return dnH a b out i j
 if j == 1 then return f7 a b out i j
 let mut mg:=gallopOf (<-get)
 for _ in [0:a.size + b.size] do
  let mut ca:=0
  let mut cb:=0
  for _ in [0:a.size + b.size] do
   let some aw <-lt' (<-elem' b (j - 1)) (<-elem' a (i - 1)) | return dnH a b out i j
   if aw then
    i:=i - 1;out:=out.push (<-elem' a i);ca:=ca + 1;cb:=0
    if i == 0 then return dnH a b out i j
    if ca>=mg then break
   else
    j:=j - 1;out:=out.push (<-elem' b j);cb:=cb + 1;ca:=0
    if j == 1 then return f7 a b out i j
    if cb>=mg then break
  rule "list.sort.gallop"
  mg:=mg + 1
  for _ in [0:a.size + b.size] do
   if mg > 1 then mg:=mg - 1
   setG mg
   let some at' <-gal false (<-elem' b (j - 1)) a 0 i (i - 1) | return dnH a b out i j
   let k:=i - at'
   ca:=k
   if k > 0 then
    out:=out++(a.extract at' i).reverse;i:=at'
    if i == 0 then return dnH a b out i j
   j:=j - 1;out:=out.push (<-elem' b j)
   if j == 1 then return f7 a b out i j
   let some at' <-gal true (<-elem' a (i - 1)) b 0 j (j - 1) | return dnH a b out i j
   let k:=j - at'
   cb:=k
   if k > 0 then
    out:=out++(b.extract at' j).reverse;j:=at'
    if j == 1 then return f7 a b out i j
    if j == 0 then return dnH a b out i j
   i:=i - 1;out:=out.push (<-elem' a i)
   if i == 0 then return dnH a b out i j
   if ca < 7 && cb < 7 then break
  mg:=mg + 1
  setG mg
 unsupported "internal:list.sort.merge-bound"):=rfl
abbrev GT:=Option (Array Keyed) × Nat × Nat × Array Keyed × Nat × Nat × Nat
abbrev FT:=Option (Array Keyed) × Nat × Nat × Array Keyed × Nat × Nat
abbrev OT:=Option (Array Keyed) × Nat × Nat × Array Keyed × Nat
def k3 (a b out:Array Keyed)(i j mg ca cb:Nat):StateT SortSt Sem (ForInStep GT):=do
 let y <-elem' a (i - 1)
 if (i - 1 == 0)=true then pure (ForInStep.done (some (dnH a b (out.push y) (i - 1) j),i - 1,j,out.push y,mg,ca,cb))
 else if (decide (ca < 7) && decide (cb < 7))=true then pure (ForInStep.done (none,i - 1,j,out.push y,mg,ca,cb))
 else pure (ForInStep.yield (none,i - 1,j,out.push y,mg,ca,cb))
def k2 (a b out:Array Keyed)(i j mg ca cb:Nat):StateT SortSt Sem (ForInStep GT):=do
 let y <-elem' b (j - 1)
 if (j - 1 == 1)=true then pure (ForInStep.done (some (f7 a b (out.push y) i (j - 1)),i,j - 1,out.push y,mg,ca,cb))
 else do
  let z <-elem' a (i - 1)
  let some at' <-gal true z b 0 (j - 1) (j - 1 - 1) | pure (ForInStep.done (some (dnH a b (out.push y) i (j - 1)),i,j - 1,out.push y,mg,ca,cb))
  if j - 1 - at' > 0 then
    if (at' == 1)=true then pure (ForInStep.done (some (f7 a b (out.push y++(b.extract at' (j - 1)).reverse) i at'),i,at',out.push y++(b.extract at' (j - 1)).reverse,mg,ca,j - 1 - at'))
    else if (at' == 0)=true then pure (ForInStep.done (some (dnH a b (out.push y++(b.extract at' (j - 1)).reverse) i at'),i,at',out.push y++(b.extract at' (j - 1)).reverse,mg,ca,j - 1 - at'))
    else k3 a b (out.push y++(b.extract at' (j - 1)).reverse) i at' mg ca (j - 1 - at')
  else k3 a b (out.push y) i (j - 1) mg ca (j - 1 - at')
def k1 (a b out:Array Keyed)(i j mg ca cb:Nat):StateT SortSt Sem (ForInStep GT):=do
 setG mg
 let y <-elem' b (j - 1)
 let some at' <-gal false y a 0 i (i - 1) | pure (ForInStep.done (some (dnH a b out i j),i,j,out,mg,ca,cb))
 if i - at' > 0 then
   if (at' == 0)=true then pure (ForInStep.done (some (dnH a b (out++(a.extract at' i).reverse) at' j),at',j,out++(a.extract at' i).reverse,mg,i - at',cb))
   else k2 a b (out++(a.extract at' i).reverse) at' j mg (i - at') cb
 else k2 a b out i j mg (i - at') cb
def e1 (a b out:Array Keyed)(i j ca cb mg:Nat):StateT SortSt Sem (ForInStep FT):=do
 let y <-elem' b (j - 1)
 let z <-elem' a (i - 1)
 let some aw <-lt' y z | pure (ForInStep.done (some (dnH a b out i j),i,j,out,ca,cb))
 if aw=true then do
   let z <-elem' a (i - 1)
   if (i - 1 == 0)=true then pure (ForInStep.done (some (dnH a b (out.push z) (i - 1) j),i - 1,j,out.push z,ca + 1,0))
   else if ca + 1>=mg then pure (ForInStep.done (none,i - 1,j,out.push z,ca + 1,0)) else pure (ForInStep.yield (none,i - 1,j,out.push z,ca + 1,0))
 else do
   let y <-elem' b (j - 1)
   if (j - 1 == 1)=true then pure (ForInStep.done (some (f7 a b (out.push y) i (j - 1)),i,j - 1,out.push y,0,cb + 1))
   else if cb + 1>=mg then pure (ForInStep.done (none,i,j - 1,out.push y,0,cb + 1)) else pure (ForInStep.yield (none,i,j - 1,out.push y,0,cb + 1))
def oHi (a b:Array Keyed)(c:OT):StateT SortSt Sem (ForInStep OT):=do
 let r <-forIn [0:a.size + b.size] ((none,c.2.1,c.2.2.1,c.2.2.2.1,0,0):FT) fun _ d=>e1 a b d.2.2.2.1 d.2.1 d.2.2.1 d.2.2.2.2.1 d.2.2.2.2.2 c.2.2.2.2
 match r.1 with
 | some q=>pure (ForInStep.done (some q,r.2.1,r.2.2.1,r.2.2.2.1,c.2.2.2.2))
 | none=>do
  liftM (rule "list.sort.gallop")
  let e <-forIn [0:a.size + b.size] ((none,r.2.1,r.2.2.1,r.2.2.2.1,c.2.2.2.2 + 1,r.2.2.2.2.1,r.2.2.2.2.2):GT) fun _ d=>
   if d.2.2.2.2.1 > 1 then k1 a b d.2.2.2.1 d.2.1 d.2.2.1 (d.2.2.2.2.1 - 1) d.2.2.2.2.2.1 d.2.2.2.2.2.2 else k1 a b d.2.2.2.1 d.2.1 d.2.2.1 d.2.2.2.2.1 d.2.2.2.2.2.1 d.2.2.2.2.2.2
  match e.1 with
  | some q=>pure (ForInStep.done (some q,e.2.1,e.2.2.1,e.2.2.2.1,e.2.2.2.2.1))
  | none=>do
   setG (e.2.2.2.2.1 + 1)
   pure (ForInStep.yield (none,e.2.1,e.2.2.1,e.2.2.2.1,e.2.2.2.2.1 + 1))
set_option maxHeartbeats 2000000 in
theorem AX (a b:Array Keyed):mHi a b=(do
  liftM (rule "list.sort.merge-hi")
  let y <-elem' a (a.size - 1)
  if (a.size - 1 == 0)=true then pure (dnH a b #[y] (a.size - 1) b.size)
  else if (b.size == 1)=true then pure (f7 a b #[y] (a.size - 1) b.size)
  else do
   let st <-get
   let r <-forIn [0:a.size + b.size] ((none,a.size - 1,b.size,#[y],gallopOf st):OT) fun _ c=>oHi a b c
   match r.1 with
   | some q=>pure q
   | none=>liftM (unsupported "internal:list.sort.merge-bound":Sem (Array Keyed))):=by
 rw [Er]
 unfold oHi
 refine congrArg (bind _) (funext fun _=>?_)
 refine congrArg (bind _) (funext fun y=>?_)
 refine ite_congr rfl (fun _=>rfl) (fun _=>?_)
 refine ite_congr rfl (fun _=>rfl) (fun _=>?_)
 refine congrArg (bind _) (funext fun st=>?_)
 refine congr (congrArg bind (congrArg (forIn _ _) (funext fun _=>funext fun c=>?_))) ?_
 ·refine congr (congrArg bind (congrArg (forIn _ _) (funext fun _=>funext fun d=>?_))) ?_
  ·unfold e1
   rfl
  ·funext r
   obtain⟨r1,r2⟩:=r
   cases r1 with
   | some q=>rfl
   | none=>
    refine congrArg (bind _) (funext fun _=>?_)
    refine congr (congrArg bind (congrArg (forIn _ _) (funext fun _=>funext fun d=>?_))) ?_
    ·unfold k1
     refine ite_congr rfl (fun _=>?_) (fun _=>?_)
     all_goals
      refine congrArg (bind _) (funext fun _=>?_)
      refine congrArg (bind _) (funext fun y=>?_)
      refine congrArg (bind _) (funext fun r=>?_)
      cases r with
      | none=>rfl
      | some k=>
       refine ite_congr rfl (fun _=>?_) (fun _=>?_)
       ·refine ite_congr rfl (fun _=>rfl) (fun _=>?_)
        unfold k2
        rfl
       ·unfold k2
        rfl
    ·funext e;obtain⟨e1,e2⟩:=e;cases e1 <;> rfl
 ·funext e;obtain⟨e1,e2⟩:=e;cases e1 <;> rfl
end ZS
namespace ZS
open PySem PyProof.Rows
section
variable {rk:Keyed->Nat}
structure MH (rk:Keyed->Nat) (a b o:List Keyed) (i j:Nat):Prop where
 perm:o.Perm (a.drop i++b.drop j)
 srt:Srt rk o
 le:∀ x∈o,(∀ y∈a.take i,rk y<=rk x)/\∀ y∈b.take j,rk y<=rk x
theorem rh {l:List Keyed}{i t:Nat}(h:t<=i):l.drop t=(l.take i).drop t++l.drop i:=by
 by_cases hi:i<=l.length
 ·have e:=C' i l
  have h2:(l.take i++l.drop i).drop t=(l.take i).drop t++l.drop i:=LZ (by rw [A'];lia)
  rw [e] at h2
  exact h2
 ·rw [JC (by lia),Kd (by lia:l.length<=i),JF]
theorem jw {l:List Keyed}{i t:Nat}(h:t<=i):l.take i=l.take t++(l.take i).drop t:=by
 have:=C' t (l.take i)
 rw [List.take_take,KD h] at this
 exact this.symm
theorem MH.pU {a b o:List Keyed}{i j t:Nat}(h:MH rk a b o i j)(sa:Srt rk a)(ht:t<=i)(hc:∀ y∈(a.take i).drop t,∀ z∈b.take j,rk z<=rk y):MH rk a b ((a.take i).drop t++o) t j:=by
 have st:Srt rk (a.take i):=JR (La _ _) sa
 refine⟨?_,?_,fun x hx=>?_⟩
 ·rw [rh (l:=a) ht,gV]
  exact JD _ h.perm
 ·exact F_.mpr ⟨JR (Lc _ _) st,h.srt,fun x hx y hy=>(h.le y hy).1 x (Lg hx)⟩
 ·rcases G_.mp hx with hx | hx
  ·refine⟨fun y hy=>?_,hc x hx⟩
   rw [jw ht] at st
   exact (F_.mp st).2.2 y hy x hx
  ·refine⟨fun y hy=>(h.le x hx).1 y ?_,(h.le x hx).2⟩
   rw [jw ht]
   exact E_ _ hy
theorem MH.oK {a b o:List Keyed}{i j t:Nat}(h:MH rk a b o i j)(sb:Srt rk b)(ht:t<=j)(hc:∀ y∈(b.take j).drop t,∀ z∈a.take i,rk z<=rk y):MH rk a b ((b.take j).drop t++o) i t:=by
 have st:Srt rk (b.take j):=JR (La _ _) sb
 refine⟨?_,?_,fun x hx=>?_⟩
 ·rw [rh (l:=b) ht]
  refine (JD _ h.perm).trans ?_
  rw [<-gV,<-gV]
  exact MC _ J'
 ·exact F_.mpr ⟨JR (Lc _ _) st,h.srt,fun x hx y hy=>(h.le y hy).2 x (Lg hx)⟩
 ·rcases G_.mp hx with hx | hx
  ·refine⟨hc x hx,fun y hy=>?_⟩
   rw [jw ht] at st
   exact (F_.mp st).2.2 y hy x hx
  ·refine⟨(h.le x hx).1,fun y hy=>(h.le x hx).2 y ?_⟩
   rw [jw ht]
   exact E_ _ hy
theorem MH.done {a b o:List Keyed}{i j:Nat}(h:MH rk a b o i j)(sa:Srt rk a)(sb:Srt rk b)(e:i=0\/j=0):Res rk a b (a.take i++b.take j++o):=by
 have h1:=h.oK (t:=0) sb (B_ _) fun y hy z hz=>by
  rcases e with e | e
  ·rw [e] at hz;simp at hz
  ·rw [e] at hy;simp at hy
 have h2:=h1.pU (t:=0) sa (B_ _) fun y hy z hz=>by simp at hz
 have p:=h2.perm
 have q:=h2.srt
 simp only [KR] at p q
 rw [gV]
 exact⟨p,q⟩
theorem MH.first {a b o:List Keyed}{i j:Nat}(h:MH rk a b o i j)(sa:Srt rk a)(sb:Srt rk b)(e:∀ y∈a.take i,∀ z∈b.take j,rk z<=rk y):Res rk a b (b.take j++a.take i++o):=by
 have h1:=h.pU (t:=0) sa (B_ _) fun y hy z hz=>e y (by rw [KR] at hy;exact hy) z hz
 have h2:=h1.oK (t:=0) sb (B_ _) fun y hy z hz=>by simp at hz
 have p:=h2.perm
 have q:=h2.srt
 simp only [KR] at p q
 rw [gV]
 exact⟨p,q⟩
theorem lq (a:Array Keyed)(i:Nat):(a.extract 0 i).toList=a.toList.take i:=by
 rw [Li,KP,KR,Nz]
theorem uq (a:Array Keyed)(t i:Nat):(a.extract t i).toList=(a.toList.take i).drop t:=by
 rw [Li,KP,List.drop_take]
theorem take_one {l:List Keyed}{i:Nat}{y:Keyed}(h0:0 < i)(h:l[i - 1]?=some y):(l.take i).drop (i - 1)=[y]:=by
 obtain⟨hl,e⟩:=e_.mp h
 have:l.take i=l.take (i - 1)++[y]:=by
  conv=>lhs;rw [show i=i - 1 + 1 by lia,JJ,h]
  rfl
 rw [this,LZ (by rw [A'];omega),Kd (by rw [A'];omega)]
 rfl
theorem gY {l:List Keyed}{i:Nat}{y:Keyed}(h:y∈l.take i):∃ j,j < i/\l[j]?=some y:=by
 obtain⟨j,hj⟩:=Kj.mp h
 rw [K5] at hj
 split at hj
 ·next hlt=>exact⟨j,hlt,hj⟩
 ·cases hj
theorem qu {l:List Keyed}{t i:Nat}{y:Keyed}(h:y∈(l.take i).drop t):∃ j,t<=j/\j < i/\l[j]?=some y:=by
 obtain⟨j,hj⟩:=hG h
 rw [K5] at hj
 split at hj
 ·next hlt=>exact⟨t + j,by lia,hlt,hj⟩
 ·cases hj
end
section
variable {M:Model}{A:Around}{E:Value->Shared->Prop}{s:Shared}{kd:SortKind}{rk:Keyed->Nat}{S:Keyed->Prop}{a b:Array Keyed}
abbrev MHo (rk:Keyed->Nat)(a b out:Array Keyed)(i j:Nat):Prop:=MH rk a.toList b.toList out.toList.reverse i j
theorem LoOk.r6 (h:LoOk rk S a b){out:Array Keyed}{i j:Nat}(m:MHo rk a b out i j)(e:i=0\/j=0):Res rk a.toList b.toList (dnH a b out i j).toList:=by
 unfold dnH
 rw [JE,JE,lq,lq,Lj]
 exact m.done h.sa h.sb e
theorem LoOk.pq (h:LoOk rk S a b){out:Array Keyed}{i j:Nat}(m:MHo rk a b out i j)(e:j=1):Res rk a.toList b.toList (f7 a b out i j).toList:=by
 unfold f7
 rw [JE,JE,lq,lq,Lj]
 refine m.first h.sa h.sb fun y hy z hz=>?_
 subst e
 obtain⟨k,hk,hz'⟩:=gY hz
 have k0:k=0:=by lia
 subst k0
 exact h.first z (by rw [<-i_];exact hz') y (Kl hy)
structure HI (rk:Keyed->Nat) (a b out:Array Keyed) (i j:Nat):Prop where
 m:MHo rk a b out i j
 i0:0 < i
 j1:1 < j
 ia:i<=a.size
 jb:j<=b.size
theorem MH.jS {out:Array Keyed}{i j:Nat}(m:MHo rk a b out i j)(H:LoOk rk S a b)(h0:0 < i){y:Keyed}(hy:a[i - 1]?=some y)(hc:∀ z∈b.toList.take j,rk z<=rk y):MHo rk a b (out.push y) (i - 1) j:=by
 have hy':a.toList[i - 1]?=some y:=by rw [i_];exact hy
 have:=m.pU (t:=i - 1) H.sa (by lia) (by rw [take_one h0 hy'];intro w hw;rw [D'.mp hw];exact hc)
 rw [take_one h0 hy'] at this
 show MH _ _ _ (out.push y).toList.reverse _ _
 rw [Ld,Ln]
 exact this
theorem MH.kB {out:Array Keyed}{i j:Nat}(m:MHo rk a b out i j)(H:LoOk rk S a b)(h0:0 < j){y:Keyed}(hy:b[j - 1]?=some y)(hc:∀ z∈a.toList.take i,rk z<=rk y):MHo rk a b (out.push y) i (j - 1):=by
 have hy':b.toList[j - 1]?=some y:=by rw [i_];exact hy
 have:=m.oK (t:=j - 1) H.sb (by lia) (by rw [take_one h0 hy'];intro w hw;rw [D'.mp hw];exact hc)
 rw [take_one h0 hy'] at this
 show MH _ _ _ (out.push y).toList.reverse _ _
 rw [Ld,Ln]
 exact this
theorem jh {l:Array Keyed}{i:Nat}{y:Keyed}(srt:Srt rk l.toList)(hy:l[i - 1]?=some y):∀ z∈l.toList.take i,rk z<=rk y:=fun z hz=>by
 obtain⟨k,hk,hz'⟩:=gY hz
 exact ng srt (i:=k) (j:=i - 1) (by lia) hz' (by rw [i_];exact hy)
def iO (rk:Keyed->Nat)(a b:Array Keyed)(lo:Nat)(st:SortSt)(r:Option (Array Keyed))(out:Array Keyed)(i j:Nat)(st':SortSt):Prop:=
 Keep st st'/\match r with
 | some q=>Res rk a.toList b.toList q.toList
 | none=>HI rk a b out i j/\i + j < lo
theorem HI.get (I:HI rk a b out i j):(∃ y,b[j - 1]?=some y)/\∃ z,a[i - 1]?=some z:=
 ⟨⟨_,u_ (v_ (Mj (Mk K9 I.j1) K9) I.jb)⟩,⟨_,u_ (v_ (Mj I.i0 K9) I.ia)⟩⟩
theorem Hq {out:Array Keyed}{i j ca cb mg:Nat}{st st':SortSt}{Q:ForInStep FT->SortSt->Prop}(L:dG M A E s kd rk S)(H:LoOk rk S a b)(hk:kindOf st=kd)(K:Keep st st')(I:HI rk a b out i j)
  (h:∀ (d:Bool) (c:FT),iO rk a b (i + j) st c.1 c.2.2.2.1 c.2.1 c.2.2.1 st'->(d=false->c.1=none)->Q (if d=true then ForInStep.done c else ForInStep.yield c) st'):wpS M A E s (e1 a b out i j ca cb mg) Q st':=by
 obtain⟨⟨y,hy⟩,⟨z,hz⟩⟩:=I.get
 have i0:=I.i0
 have j1:=I.j1
 have ia:=I.ia
 have jb:=I.jb
 unfold e1
 refine wpS_bind (aN hy (wpS_bind (aN hz (wpS_bind (L y z st' _ (H.Sb _ _ hy) (H.Sa _ _ hz) (K.k.trans hk) ?_)))))
 dsimp only
 by_cases w:rk y < rk z
 ·rw [decide_eq_true w,if_pos rfl]
  have m:=I.m.jS H i0 hz fun u hu=>r_ (jh H.sb hy u hu) (Jz w)
  refine wpS_bind (aN hz ?_)
  by_cases e:i - 1=0
  ·rw [if_pos (by rw [e];rfl)]
   exact wpS_pure (h true _ ⟨K,H.r6 m (.inl e)⟩ (fun z=>nomatch z))
  ·rw [if_neg (by simpa using e)]
   have I2:HI rk a b (out.push z) (i - 1) j:=⟨m,Kh e,j1,r_ (Km ..) ia,jb⟩
   split
   ·exact wpS_pure (h true _ ⟨K,I2,by dsimp only;lia⟩ (fun z=>nomatch z))
   ·exact wpS_pure (h false _ ⟨K,I2,by dsimp only;lia⟩ (fun _=>rfl))
 ·rw [decide_eq_false w,if_neg (by simp)]
  have m:=I.m.kB H (by lia) hy fun u hu=>r_ (jh H.sa hz u hu) (by lia)
  refine wpS_bind (aN hy ?_)
  by_cases e:j - 1=1
  ·rw [if_pos (by rw [e];rfl)]
   exact wpS_pure (h true _ ⟨K,H.pq m e⟩ (fun z=>nomatch z))
  ·rw [if_neg (by simpa using e)]
   have I2:HI rk a b (out.push y) i (j - 1):=⟨m,i0,by lia,ia,r_ (Km ..) jb⟩
   split
   ·exact wpS_pure (h true _ ⟨K,I2,by dsimp only;lia⟩ (fun z=>nomatch z))
   ·exact wpS_pure (h false _ ⟨K,I2,by dsimp only;lia⟩ (fun _=>rfl))
theorem Du {out:Array Keyed}{i j mg ca cb lo:Nat}{st st':SortSt}{Q:ForInStep GT->SortSt->Prop}(H:LoOk rk S a b)(K:Keep st st')(I:HI rk a b out i j)(hc:∀ z,a[i - 1]?=some z->∀ u∈b.toList.take j,rk u<=rk z)(hl:i + j<=lo)
  (h:∀ (d:Bool) (c:GT),iO rk a b lo st c.1 c.2.2.2.1 c.2.1 c.2.2.1 st'->(d=false->c.1=none)->Q (if d=true then ForInStep.done c else ForInStep.yield c) st'):wpS M A E s (k3 a b out i j mg ca cb) Q st':=by
 obtain⟨⟨y,hy⟩,⟨z,hz⟩⟩:=I.get
 have i0:=I.i0
 have j1:=I.j1
 have ia:=I.ia
 have jb:=I.jb
 unfold k3
 have m:=I.m.jS H i0 hz (hc z hz)
 refine wpS_bind (aN hz ?_)
 by_cases e:i - 1=0
 ·rw [if_pos (by rw [e];rfl)]
  exact wpS_pure (h true _ ⟨K,H.r6 m (.inl e)⟩ (fun z=>nomatch z))
 ·rw [if_neg (by simpa using e)]
  have I2:HI rk a b (out.push z) (i - 1) j:=⟨m,Kh e,j1,r_ (Km ..) ia,jb⟩
  split
  ·exact wpS_pure (h true _ ⟨K,I2,by dsimp only;lia⟩ (fun z=>nomatch z))
  ·exact wpS_pure (h false _ ⟨K,I2,by dsimp only;lia⟩ (fun _=>rfl))
theorem MHo.block {out:Array Keyed}{i j t:Nat}(m:MHo rk a b out i j)(H:LoOk rk S a b)(ht:t<=j)(hc:∀ y∈(b.toList.take j).drop t,∀ z∈a.toList.take i,rk z<=rk y):MHo rk a b (out++(b.extract t j).reverse) i t:=by
 have:=m.oK H.sb ht hc
 show MH _ _ _ (out++(b.extract t j).reverse).toList.reverse _ _
 rw [JE,Ln,Lj,ML,uq]
 exact this
theorem MHo.Fs {out:Array Keyed}{i j t:Nat}(m:MHo rk a b out i j)(H:LoOk rk S a b)(ht:t<=i)(hc:∀ y∈(a.toList.take i).drop t,∀ z∈b.toList.take j,rk z<=rk y):MHo rk a b (out++(a.extract t i).reverse) t j:=by
 have:=m.pU H.sa ht hc
 show MH _ _ _ (out++(a.extract t i).reverse).toList.reverse _ _
 rw [JE,Ln,Lj,ML,uq]
 exact this
theorem DM {out:Array Keyed}{i j mg ca cb lo:Nat}{st st':SortSt}{Q:ForInStep GT->SortSt->Prop}(L:dG M A E s kd rk S)(H:LoOk rk S a b)(hk:kindOf st=kd)(K:Keep st st')(I:HI rk a b out i j)(hc:∀ y,b[j - 1]?=some y->∀ u∈a.toList.take i,rk u<=rk y)(hl:i + j<=lo)
  (h:∀ (d:Bool) (c:GT),iO rk a b lo st c.1 c.2.2.2.1 c.2.1 c.2.2.1 st'->(d=false->c.1=none)->Q (if d=true then ForInStep.done c else ForInStep.yield c) st'):wpS M A E s (k2 a b out i j mg ca cb) Q st':=by
 obtain⟨⟨y,hy⟩,⟨z,hz⟩⟩:=I.get
 have i0:=I.i0
 have j1:=I.j1
 have ia:=I.ia
 have jb:=I.jb
 unfold k2
 have m:=I.m.kB H (by lia) hy (hc y hy)
 refine wpS_bind (aN hy ?_)
 by_cases e:j - 1=1
 ·rw [if_pos (by rw [e];rfl)]
  exact wpS_pure (h true _ ⟨K,H.pq m e⟩ (fun z=>nomatch z))
 rw [if_neg (by simpa using e)]
 refine wpS_bind (aN hz (wpS_bind (hW L (K.k.trans hk) (by lia) (by lia) H.Sb (H.Sa _ _ hz) (fun p q x w h1 h2 h3 h4=>ng H.sb (i:=0 + p) (j:=0 + q) (by lia) (by rw [i_];exact h3) (by rw [i_];exact h4)) fun t t1 t2 t3=>?_)))
 dsimp only
 have before:∀ u∈b.toList.take t,rk u<=rk z:=fun u hu=>by
  obtain⟨p,hp1,hp⟩:=gY hu
  rw [i_] at hp
  have:=t2 p u hp1 (by rw [Lw];exact hp)
  simp at this
  lia
 by_cases pk:j - 1 - t > 0
 ·rw [if_pos pk]
  have m2:MHo rk a b (out.push y++(b.extract t (j - 1)).reverse) i t:=by
   refine MHo.block m H (by omega) fun u hu w hw=>?_
   obtain⟨p,hp0,hp1,hp⟩:=qu hu
   rw [i_] at hp
   have:=t3 p u hp0 hp1 (by rw [Lw];exact hp)
   simp at this
   exact r_ (jh H.sa hz w hw) this
  by_cases e1:t=1
  ·rw [if_pos (by rw [e1];rfl)]
   exact wpS_pure (h true _ ⟨K,H.pq m2 e1⟩ (fun z=>nomatch z))
  rw [if_neg (by simpa using e1)]
  by_cases e2:t=0
  ·rw [if_pos (by rw [e2];rfl)]
   exact wpS_pure (h true _ ⟨K,H.r6 m2 (.inr e2)⟩ (fun z=>nomatch z))
  rw [if_neg (by simpa using e2)]
  refine Du H K ⟨m2,i0,Lx (Kh e2) (Ne.symm e1),ia,r_ t1 (r_ (Km ..) jb)⟩ (fun z' hz'=>?_) (by lia) h
  rw [hz] at hz'
  cases hz'
  exact before
 ·rw [if_neg pk]
  have k0:t=j - 1:=by lia
  refine Du H K ⟨m,i0,by lia,ia,r_ (Km ..) jb⟩ (fun z' hz'=>?_) (by lia) h
  rw [hz] at hz'
  cases hz'
  rw [k0] at before
  exact before
theorem IA {out:Array Keyed}{i j mg ca cb:Nat}{st st':SortSt}{Q:ForInStep GT->SortSt->Prop}(L:dG M A E s kd rk S)(H:LoOk rk S a b)(hk:kindOf st=kd)(K:Keep st st')(I:HI rk a b out i j)
  (h:∀ (d:Bool) (c:GT) (st2:SortSt),iO rk a b (i + j) st c.1 c.2.2.2.1 c.2.1 c.2.2.1 st2->(d=false->c.1=none)->Q (if d=true then ForInStep.done c else ForInStep.yield c) st2):wpS M A E s (k1 a b out i j mg ca cb) Q st':=by
 obtain⟨⟨y,hy⟩,⟨z,hz⟩⟩:=I.get
 have i0:=I.i0
 have j1:=I.j1
 have ia:=I.ia
 have jb:=I.jb
 unfold k1
 refine wpS_bind (l5 (wpS_bind (aN hy ?_)))
 have K2:=K.g mg
 revert K2
 generalize SortSt.mk' (kindOf st') (arrOf st') (pendingOf st') mg (failedOf st')=st2
 intro K2
 refine wpS_bind (hW L (K2.k.trans hk) (by lia) (by lia) H.Sa (H.Sb _ _ hy) (fun p q x w h1 h2 h3 h4=>ng H.sa (i:=0 + p) (j:=0 + q) (by lia) (by rw [i_];exact h3) (by rw [i_];exact h4)) fun t t1 t2 t3=>?_)
 dsimp only
 have before:∀ u∈a.toList.take t,rk u<=rk y:=fun u hu=>by
  obtain⟨p,hp1,hp⟩:=gY hu
  rw [i_] at hp
  have:=t2 p u hp1 (by rw [Lw];exact hp)
  simpa using this
 by_cases pk:i - t > 0
 ·rw [if_pos pk]
  have m2:MHo rk a b (out++(a.extract t i).reverse) t j:=by
   refine MHo.Fs I.m H (by omega) fun u hu w hw=>?_
   obtain⟨p,hp0,hp1,hp⟩:=qu hu
   rw [i_] at hp
   have:=t3 p u hp0 hp1 (by rw [Lw];exact hp)
   simp at this
   exact r_ (jh H.sb hy w hw) (Jz this)
  by_cases e2:t=0
  ·rw [if_pos (by rw [e2];rfl)]
   exact wpS_pure (h true _ _ ⟨K2,H.r6 m2 (.inl e2)⟩ (fun z=>nomatch z))
  rw [if_neg (by simpa using e2)]
  refine DM L H hk K2 ⟨m2,by lia,j1,by lia,jb⟩ (fun y' hy'=>?_) (by lia) fun d c x1 x2=>h d c _ x1 x2
  rw [hy] at hy'
  cases hy'
  exact before
 ·rw [if_neg pk]
  have k0:t=i:=by lia
  rw [k0] at before
  refine DM L H hk K2 I (fun y' hy'=>?_) (c_ _) fun d c x1 x2=>h d c _ x1 x2
  rw [hy] at hy'
  cases hy'
  exact before
theorem E7 {st:SortSt}{Q:Array Keyed->SortSt->Prop}(L:dG M A E s kd rk S)(H:LoOk rk S a b)(hk:kindOf st=kd)(h:∀ r st',Keep st st'->Res rk a.toList b.toList r.toList->Q r st')(hr:∀ x,wpAny M A (rule x) (fun _ s'=>s'=s) E s):wpS M A E s (mHi a b) Q st:=by
 rw [AX]
 have pa:=H.pa
 have pb:=H.pb
 obtain⟨y,hy⟩:∃ y,a[a.size - 1]?=some y:=⟨_,u_ (by lia)⟩
 have rl:∀ {x:String} {R:Unit->SortSt->Prop} {st':SortSt},R () st'->wpS M A E s (liftM (rule x):StateT SortSt Sem Unit) R st':=fun {x R st'} q=>wpS_lift (wpAny_mono (hr x) (fun _ _ z=>⟨z,q⟩) fun _ _ z=>z)
 refine wpS_bind (rl (wpS_bind (aN hy ?_)))
 have m0:MHo rk a b #[] a.size b.size:=⟨by simp,LD,fun x hx=>by simp at hx⟩
 have m1:MHo rk a b #[y] (a.size - 1) b.size:=m0.jS H pa hy fun z hz=>H.last y hy z (Kl hz)
 by_cases e1:a.size - 1=0
 ·rw [if_pos (by rw [e1];rfl)]
  exact wpS_pure (h _ _ .bX (H.r6 m1 (.inl e1)))
 rw [if_neg (by simpa using e1)]
 by_cases e2:b.size=1
 ·rw [if_pos (by rw [e2];rfl)]
  exact wpS_pure (h _ _ .bX (H.pq m1 e2))
 rw [if_neg (by simpa using e2)]
 refine wpS_bind (wpS_get ?_)
 refine wpS_bind (wpS_mono (wpS_forRange (I:=fun x (c:OT) st'=>c.1=none/\Keep st st'/\HI rk a b c.2.2.2.1 c.2.1 c.2.2.1/\c.2.1 + c.2.2.1 + x < a.size + b.size) (Q:=fun (c:OT) st'=>∃ q,c.1=some q/\Keep st st'/\Res rk a.toList b.toList q.toList) ?_ ?_ ⟨rfl,.bX,⟨m1,by dsimp only;lia,by dsimp only;lia,by dsimp only;lia,by dsimp only;lia⟩,by dsimp only;lia⟩) ?_)
 ·rintro x ⟨c1,i,j,out,mg⟩ st1 _ hx ⟨rfl,K1,I1,px⟩
  unfold oHi
  dsimp only at I1 px ⊢
  refine wpS_bind (wpS_mono (wpS_forRange (I:=fun x (c:FT) st'=>c.1=none/\Keep st st'/\HI rk a b c.2.2.2.1 c.2.1 c.2.2.1/\c.2.1 + c.2.2.1 + x<=i + j) (Q:=fun (c:FT) st'=>iO rk a b (i + j) st c.1 c.2.2.2.1 c.2.1 c.2.2.1 st') ?_ ?_ ⟨rfl,K1,I1,c_ _⟩) ?_)
  ·rintro x2 ⟨d1,i2,j2,out2,ca,cb⟩ st2 _ hx2 ⟨rfl,K2,I2,p2⟩
   dsimp only at I2 p2 ⊢
   refine Hq L H hk K2 I2 fun d c hs hn=>?_
   cases d with
   | true=>
    show iO _ _ _ _ _ _ _ _ _ _
    refine⟨hs.1,?_⟩
    have h2:=hs.2
    cases e:c.1 with
    | some q=>rw [e] at h2;exact h2
    | none=>rw [e] at h2;exact⟨h2.1,by have:=h2.2;lia⟩
   | false=>
    have h2:=hs.2
    rw [hn rfl] at h2
    exact⟨hn rfl,hs.1,h2.1,by have:=h2.2;lia⟩
  ·rintro⟨c1,i2,j2,out2,ca,cb⟩ st2 ⟨rfl,K2,I2,p2⟩
   dsimp only at I2 p2 ⊢
   have:=I2.i0
   have:=I2.j1
   lia
  ·rintro⟨c1,i2,j2,out2,ca,cb⟩ st2 ⟨K2,h2⟩
   cases c1 with
   | some q=>exact wpS_pure ⟨q,rfl,K2,h2⟩
   | none=>
    obtain⟨I2,p2⟩:=h2
    dsimp only at I2 p2 ⊢
    refine wpS_bind (rl ?_)
    refine wpS_bind (wpS_mono (wpS_forRange (I:=fun _ (c:GT) st'=>c.1=none/\Keep st st'/\HI rk a b c.2.2.2.1 c.2.1 c.2.2.1/\c.2.1 + c.2.2.1 < i + j) (Q:=fun (c:GT) st'=>iO rk a b (i + j) st c.1 c.2.2.2.1 c.2.1 c.2.2.1 st') ?_ ?_ ⟨rfl,K2,I2,p2⟩) ?_)
    ·rintro x3 ⟨d1,i3,j3,out3,mg3,ca3,cb3⟩ st3 _ hx3 ⟨rfl,K3,I3,p3⟩
     dsimp only at I3 p3 ⊢
     have go:∀ mg',wpS M A E s (k1 a b out3 i3 j3 mg' ca3 cb3) (fun r st'=>match r with | .done c'=>iO rk a b (i + j) st c'.1 c'.2.2.2.1 c'.2.1 c'.2.2.1 st' | .yield c'=>c'.1=none/\Keep st st'/\HI rk a b c'.2.2.2.1 c'.2.1 c'.2.2.1/\c'.2.1 + c'.2.2.1 < i + j) st3:=fun mg'=>by
      refine IA L H hk K3 I3 fun d c st4 hs hn=>?_
      cases d with
      | true=>
       show iO _ _ _ _ _ _ _ _ _ _
       refine⟨hs.1,?_⟩
       have h2:=hs.2
       cases e:c.1 with
       | some q=>rw [e] at h2;exact h2
       | none=>rw [e] at h2;exact⟨h2.1,by have:=h2.2;lia⟩
      | false=>
       have h2:=hs.2
       rw [hn rfl] at h2
       exact⟨hn rfl,hs.1,h2.1,by have:=h2.2;lia⟩
     split
     ·exact wpS_mono (go _) fun r st' h=>by cases r <;> exact h
     ·exact wpS_mono (go _) fun r st' h=>by cases r <;> exact h
    ·rintro⟨c1,i3,j3,out3,mg3,ca3,cb3⟩ st3 ⟨rfl,K3,I3,p3⟩
     exact⟨K3,I3,p3⟩
    ·rintro⟨c1,i3,j3,out3,mg3,ca3,cb3⟩ st3 ⟨K3,h3⟩
     cases c1 with
     | some q=>exact wpS_pure ⟨q,rfl,K3,h3⟩
     | none=>
      obtain⟨I3,p3⟩:=h3
      refine wpS_bind (l5 (wpS_pure ⟨rfl,K3.g _,I3,?_⟩))
      dsimp only at p3 ⊢
      lia
 ·rintro⟨c1,i,j,out,mg⟩ st1 ⟨rfl,K1,I1,px⟩
  dsimp only at px
  lia
 ·rintro⟨c1,i,j,out,mg⟩ st1 ⟨q,e,K1,r⟩
  dsimp only at e
  subst e
  exact wpS_pure (h q st1 K1 r)
end
end ZS
namespace ZS
open PySem PyProof.Rows
def R (rk:Keyed->Nat)(xs:Array Keyed)(i:Nat):Nat:=match xs[i]? with
 | some p=>rk p
 | none=>0
structure Kp2 (st st':SortSt):Prop where
 k:kindOf st'=kindOf st
 p:pendingOf st'=pendingOf st
 f:failedOf st'=failedOf st
 a:(arrOf st').Perm (arrOf st)
theorem Kp2.bX {st:SortSt}:Kp2 st st:=⟨rfl,rfl,rfl,Mz _⟩
theorem Kp2.trans {s1 s2 s3:SortSt}(h:Kp2 s1 s2)(g:Kp2 s2 s3):Kp2 s1 s3:=⟨g.k.trans h.k,g.p.trans h.p,g.f.trans h.f,g.a.trans h.a⟩
theorem Kp2.size {st st':SortSt}(h:Kp2 st st'):(arrOf st').size=(arrOf st).size:=h.a.size_eq
section
variable {rk:Keyed->Nat}
theorem eA {xs ys:Array Keyed}{i j:Nat}(h:xs[i]?=ys[j]?):R rk xs i=R rk ys j:=by unfold R;rw [h]
theorem xX {xs:Array Keyed}{i j:Nat}(hj:j<=xs.size)(k:Nat):R rk (mirror xs i j ((j - i) / 2)) k=if i<=k/\k < j then R rk xs (i + j - 1 - k) else R rk xs k:=by
 have:=getElem?_mirror_all (i:=i) hj k
 split at this <;> rename_i h
 ·rw [if_pos h];exact eA this
 ·rw [if_neg h];exact eA this
theorem AF {xs:Array Keyed}{src d:Nat}(hs:src < xs.size)(hd:d<=src)(k:Nat):R rk (bubble xs src d) k=if k=src - d then R rk xs src else if src - d < k/\k<=src then R rk xs (k - 1) else R rk xs k:=by
 have:=getElem?_bubble hs d hd k
 split at this
 ·rename_i h;rw [if_pos h];exact eA this
 ·rename_i h
  rw [if_neg h]
  split at this
  ·rename_i h2;rw [if_pos h2];exact eA this
  ·rename_i h2;rw [if_neg h2];exact eA this
def cS (rk:Keyed->Nat)(xs:Array Keyed)(lo n:Nat):Prop:=∀ i j,i<=j->j < n->R rk xs (lo + i)<=R rk xs (lo + j)
def se (rk:Keyed->Nat)(xs:Array Keyed)(lo n:Nat):Prop:=∀ i j,i<=j->j < n->R rk xs (lo + j)<=R rk xs (lo + i)
end
structure Within (st st':SortSt) (lo n:Nat):Prop where
 kp:Kp2 st st'
 out:∀ k,(k < lo\/lo + n<=k)->(arrOf st')[k]?=(arrOf st)[k]?
theorem Within.bX {st:SortSt}{lo n:Nat}:Within st st lo n:=⟨.bX,fun _ _=>rfl⟩
theorem Within.trans {s1 s2 s3:SortSt}{lo n:Nat}(h:Within s1 s2 lo n)(g:Within s2 s3 lo n):Within s1 s3 lo n:=⟨h.kp.trans g.kp,fun k hk=>(g.out k hk).trans (h.out k hk)⟩
section
variable {M:Model}{A:Around}{E:Value->Shared->Prop}{s:Shared}{kd:SortKind}{rk:Keyed->Nat}{S:Keyed->Prop}
def kq (S:Keyed->Prop)(st:SortSt):Prop:=∀ p∈(arrOf st).toList,S p
theorem kq.at {st:SortSt}(h:kq S st){i:Nat}{p:Keyed}(e:(arrOf st)[i]?=some p):S p:=h p (by rw [<-i_] at e;exact JK e)
theorem kq.kp {st st':SortSt}(h:kq S st)(k:Kp2 st st'):kq S st':=fun p hp=>h p ((KH.mp k.a).mem_iff.mp hp)
theorem hU {i j:Nat}{st:SortSt}{Q:Option Bool->SortSt->Prop}(L:dG M A E s kd rk S)(hk:kindOf st=kd)(hS:kq S st)(hi:i < (arrOf st).size)(hj:j < (arrOf st).size)(q:Q (some (decide (R rk (arrOf st) i < R rk (arrOf st) j))) st):wpS M A E s (ltAt' i j) Q st:=by
 rw [ltAt'_eq]
 refine wpS_bind (wpS_get ?_)
 have e1:(arrOf st)[i]?=some (arrOf st)[i]:=u_ hi
 have e2:(arrOf st)[j]?=some (arrOf st)[j]:=u_ hj
 refine wpS_bind (aN e1 (wpS_bind (aN e2 (L _ _ st _ (hS.at e1) (hS.at e2) hk ?_))))
 unfold R at q
 rw [e1,e2] at q
 exact q
theorem A3 {i j lo n:Nat}{st:SortSt}{Q:Unit->SortSt->Prop}(hl:lo<=i)(hj:j<=lo + n)(hsz:j<=(arrOf st).size)(h:∀ st',Within st st' lo n->(∀ k,R rk (arrOf st') k=if i<=k/\k < j then R rk (arrOf st) (i + j - 1 - k) else R rk (arrOf st) k)->Q () st'):wpS M A E s (reverseSlice' i j) Q st:=by
 rw [reverseSlice'_eq]
 refine wpS_modify (h _ ⟨⟨rfl,rfl,rfl,mirror_perm _ _ _ _⟩,fun k hk=>?_⟩ fun k=>xX hsz k)
 show (mirror (arrOf st) i j ((j - i) / 2))[k]?=_
 rw [getElem?_mirror_all hsz,if_neg (by lia)]
theorem BL {lo n ok:Nat}{st:SortSt}{Q:Bool->SortSt->Prop}(L:dG M A E s kd rk S)(hk:kindOf st=kd)(hS:kq S st)(hn:lo + n<=(arrOf st).size)(hok:ok<=n)(hs:cS rk (arrOf st) lo ok)
  (h:∀ st',Within st st' lo n->cS rk (arrOf st') lo n->Q true st'):wpS M A E s (binarySort' lo n ok) Q st:=by
 rw [binarySort'_eq]
 refine wpS_bind (wpS_mono (wpS_forRange (I:=fun k c st'=>c=(none,())/\Within st st' lo n/\cS rk (arrOf st') lo k) (Q:=fun c st'=>c=(none,())/\Within st st' lo n/\cS rk (arrOf st') lo (max (max ok 1) n)) ?_ (fun c st' z=>z) ⟨rfl,.bX,fun i j h1 h2=>?_⟩) ?_)
 ·rintro k c st1 hk1 hk2 ⟨rfl,W,s1⟩
  have sz1:=W.kp.size
  have hS1:=hS.kp W.kp
  refine wpS_bind (wpS_mono (wpS_forRange (I:=fun x c st'=>st'=st1/\∃ l r,c=(none,l,r)/\l<=r/\r<=k/\r - l<=k - x/\(∀ i,i < l->R rk (arrOf st1) (lo + i)<=R rk (arrOf st1) (lo + k))/\(∀ i,r<=i->i < k->R rk (arrOf st1) (lo + k) < R rk (arrOf st1) (lo + i)))
   (Q:=fun c st'=>st'=st1/\∃ l,c=(none,l,l)/\l<=k/\(∀ i,i < l->R rk (arrOf st1) (lo + i)<=R rk (arrOf st1) (lo + k))/\(∀ i,l<=i->i < k->R rk (arrOf st1) (lo + k) < R rk (arrOf st1) (lo + i))) ?_ ?_ ⟨rfl,0,k,rfl,B_ _,c_ _,by lia,fun i hi=>by lia,fun i h1 h2=>by lia⟩) ?_)
  ·rintro x c st2 _ hx ⟨rfl,l,r,rfl,g1,g2,g3,g4,g5⟩
   dsimp only
   by_cases z:l>=r
   ·rw [if_pos z]
    have e:l=r:=by lia
    subst e
    exact wpS_pure ⟨rfl,l,rfl,g2,g4,g5⟩
   ·rw [if_neg z]
    have m1:l<=(l + r) / 2:=by omega
    have m2:(l + r) / 2 < r:=by omega
    generalize (l + r) / 2=m at m1 m2 ⊢
    have m3:=v_ m2 g2
    have sz:∀ {y},y<=k->lo + y < (arrOf st2).size:=fun h=>by lia
    refine wpS_bind (hU L (W.kp.k.trans hk) hS1 (sz (c_ _)) (sz (Jz m3)) ?_)
    dsimp only
    by_cases w:R rk (arrOf st2) (lo + k) < R rk (arrOf st2) (lo + m)
    ·rw [decide_eq_true w,if_pos rfl]
     exact wpS_pure ⟨rfl,l,m,rfl,m1,Jz m3,by lia,g4,fun i h1 h2=>v_ w (s1 m i h1 h2)⟩
    ·rw [decide_eq_false w,if_neg (by simp)]
     exact wpS_pure ⟨rfl,m + 1,r,rfl,m2,g2,by lia,fun i hi=>r_ (s1 i m (LG hi) m3) (JN w),g5⟩
  ·rintro c st2 ⟨rfl,l,r,rfl,g1,g2,g3,g4,g5⟩
   have e:l=r:=by lia
   subst e
   exact⟨rfl,l,rfl,g2,g4,g5⟩
  ·rintro c st2 ⟨rfl,l,rfl,g2,g4,g5⟩
   dsimp only
   rw [moveDown'_eq]
   have hk1:lo + k < (arrOf st2).size:=by lia
   have e0:lo + k - (lo + k - (lo + l))=lo + l:=Nat.sub_sub_self (Lm g2 lo)
   have hb:∀ j,R rk (bubble (arrOf st2) (lo + k) (lo + k - (lo + l))) (lo + j)=if j=l then R rk (arrOf st2) (lo + k) else if l < j/\j<=k then R rk (arrOf st2) (lo + (j - 1)) else R rk (arrOf st2) (lo + j):=fun j=>by
    rw [AF hk1 (Km ..),e0]
    by_cases c1:j=l
    ·rw [if_pos c1,if_pos (congrArg (lo + ·) c1)]
    ·rw [if_neg c1,if_neg (fun z=>c1 (Nat.add_left_cancel z))]
     by_cases c2:l < j/\j<=k
     ·rw [if_pos c2,if_pos ⟨L0 c2.1 lo,Lm c2.2 lo⟩,M5 (Nat.one_le_of_lt c2.1)]
     ·rw [if_neg c2,if_neg (fun z=>c2 ⟨Nat.lt_of_add_lt_add_left z.1,Nat.le_of_add_le_add_left z.2⟩)]
   refine wpS_bind (wpS_modify (wpS_pure ⟨rfl,W.trans ⟨⟨rfl,rfl,rfl,bubble_perm _ _ _⟩,fun j hj=>?_⟩,fun i j hij hj=>?_⟩))
   ·show (bubble (arrOf st2) (lo + k) (lo + k - (lo + l)))[j]?=_
    rw [getElem?_bubble hk1 _ (Km ..),e0,if_neg (by lia),if_neg (by lia)]
   ·show R rk (bubble (arrOf st2) (lo + k) (lo + k - (lo + l))) (lo + i)<=R rk (bubble (arrOf st2) (lo + k) (lo + k - (lo + l))) (lo + j)
    rw [hb,hb]
    have ss:∀ p q,p<=q->q < k->R rk (arrOf st2) (lo + p)<=R rk (arrOf st2) (lo + q):=s1
    have hj:j<=k:=LG hj
    have dn:∀ {x},l < x->x<=k->x - 1 < k:=fun a b=>v_ (Nat.sub_one_lt_of_lt a) b
    by_cases i1:i < l
    ·rw [if_neg (q_ i1),if_neg (fun z=>Nat.lt_asymm z.1 i1)]
     by_cases j2:j=l
     ·rw [if_pos j2]
      exact g4 i i1
     ·rw [if_neg j2]
      by_cases j1:l < j
      ·rw [if_pos ⟨j1,hj⟩]
       exact ss i (j - 1) (LX (Mk i1 j1)) (dn j1 hj)
      ·rw [if_neg (fun z=>j1 z.1)]
       exact ss i j hij (v_ (Lx (JN j1) j2) g2)
    ·by_cases i2:i=l
     ·rw [if_pos i2]
      by_cases j2:j=l
      ·rw [if_pos j2]
       exact c_ _
      ·have j1:l < j:=Lx (i2 ▸ hij) (fun z=>j2 z.symm)
       rw [if_neg j2,if_pos ⟨j1,hj⟩]
       exact Jz (g5 (j - 1) (LX j1) (dn j1 hj))
     ·have i3:l < i:=Lx (JN i1) (fun z=>i2 z.symm)
      have j1:=v_ i3 hij
      rw [if_neg i2,if_pos ⟨i3,r_ hij hj⟩,if_neg (fun z=>Kt _ (z ▸ j1)),if_pos ⟨j1,hj⟩]
      exact ss (i - 1) (j - 1) (MM hij 1) (dn j1 hj)
 ·by_cases z:1<=ok
  ·rw [Nat.max_eq_left z] at h2
   exact hs i j h1 h2
  ·have:i=j:=by lia
   subst this
   exact c_ _
 ·rintro c st1 ⟨rfl,W,s1⟩
  exact wpS_pure (h st1 W fun i j h1 h2=>s1 i j h1 (by lia))
end
end ZS
namespace ZS
open PySem PyProof.Rows
theorem xv {l x:Nat}(h:1<=x):l + (x - 1)=l + x - 1:=(M5 h l).symm
theorem Ew {l k:Nat}(h:l<=k):l + (k - l)=k:=Lo h
theorem Hs {l a i:Nat}(h:i < a):l + (l + a) - 1 - (l + i)=l + (a - 1 - i):=by lia
theorem E5 {l x k:Nat}(h0:l<=k)(h:k < l + x):k - l < x:=Lp h0 h
def yt (l0 a0 q0:Nat):StateT SortSt Sem (Option Nat):=do
 let mut n:=a0
 for _ in [a0:q0] do
  let some sm <-ltAt' (l0 + n) (l0 + n - 1) | return none
  if sm then break
  n:=n + 1
 return some n
def pX (l0 a0 q0:Nat):StateT SortSt Sem (Option Nat):=do
 reverseSlice' l0 (l0 + a0)
 yt l0 a0 q0
def oT (l0 a0 q0:Nat):StateT SortSt Sem (Option Nat):=do
 rule "list.sort.descending-run"
 let mut n:=a0 + 1
 let mut eq:=0
 for _ in [n:q0] do
  let some sm <-ltAt' (l0 + n) (l0 + n - 1) | return none
  if sm then
   if eq > 0 then reverseSlice' (l0 + n - (eq + 1)) (l0 + n)
   eq:=0
  else
   let some la <-ltAt' (l0 + n - 1) (l0 + n) | return none
   if la then break
   eq:=eq + 1
  n:=n + 1
 if eq > 0 then
  reverseSlice' (l0 + n - (eq + 1)) (l0 + n)
  pX l0 n q0
 else pX l0 n q0
theorem Hb (l0 q0:Nat):countRun' l0 q0=(do
 let mut n:=1
 for _ in [1:q0] do
  let some sm <-ltAt' (l0 + n) (l0 + n - 1) | return none
  if sm then break
  n:=n + 1
 if n == q0 then return some n
 if n > 1 then
  let some ro <-ltAt' l0 (l0 + n - 1) | return none
  if ro then return some n
  reverseSlice' l0 (l0 + n)
  oT l0 n q0
 else oT l0 n q0):=rfl
section
variable {M:Model}{A:Around}{E:Value->Shared->Prop}{s:Shared}{kd:SortKind}{rk:Keyed->Nat}{S:Keyed->Prop}
theorem cS.snoc {xs:Array Keyed}{lo n:Nat}(h:cS rk xs lo n)(h1:1<=n)(k:R rk xs (lo + n - 1)<=R rk xs (lo + n)):cS rk xs lo (n + 1):=fun i j hij hj=>by
 by_cases z:j < n
 ·exact h i j hij z
 ·have e:j=n:=by lia
  subst e
  by_cases w:i=j
  ·subst w;exact c_ _
  ·have:=h i (j - 1) (by lia) (by lia)
   rw [xv h1] at this
   exact r_ this k
theorem zp {l0 a0 q0:Nat}{st:SortSt}{Q:Option Nat->SortSt->Prop}(L:dG M A E s kd rk S)(hk:kindOf st=kd)(hS:kq S st)(hsz:l0 + q0<=(arrOf st).size)(h1:1<=a0)(h2:a0<=q0)(hs:cS rk (arrOf st) l0 a0)
  (h:∀ n,a0<=n->n<=q0->cS rk (arrOf st) l0 n->Q (some n) st):wpS M A E s (yt l0 a0 q0) Q st:=by
 unfold yt
 dsimp only
 refine wpS_bind (wpS_mono (wpS_forRange (I:=fun x c st'=>st'=st/\c=(none,x)/\cS rk (arrOf st) l0 x) (Q:=fun c st'=>st'=st/\∃ n,c=(none,n)/\a0<=n/\n<=q0/\cS rk (arrOf st) l0 n) ?_ ?_ ⟨rfl,rfl,hs⟩) ?_)
 ·rintro x c st1 hx1 hx2 ⟨rfl,rfl,s1⟩
  dsimp only
  refine wpS_bind (hU L hk hS (by lia) (by lia) ?_)
  dsimp only
  by_cases w:R rk (arrOf st1) (l0 + x) < R rk (arrOf st1) (l0 + x - 1)
  ·rw [decide_eq_true w,if_pos rfl]
   exact wpS_pure ⟨rfl,x,rfl,hx1,by lia,s1⟩
  ·rw [decide_eq_false w,if_neg (by simp)]
   exact wpS_pure ⟨rfl,rfl,s1.snoc (by lia) (by lia)⟩
 ·rintro c st1 ⟨rfl,rfl,s1⟩
  rw [Mo h2] at s1 ⊢
  exact⟨rfl,q0,rfl,h2,c_ _,s1⟩
 ·rintro c st1 ⟨rfl,n,rfl,g1,g2,g3⟩
  exact wpS_pure (h n g1 g2 g3)
theorem nR {l0 a0 q0:Nat}{st:SortSt}{Q:Option Nat->SortSt->Prop}(L:dG M A E s kd rk S)(hk:kindOf st=kd)(hS:kq S st)(hsz:l0 + q0<=(arrOf st).size)(h1:1<=a0)(h2:a0<=q0)(hs:se rk (arrOf st) l0 a0)
  (h:∀ n st',a0<=n->n<=q0->Within st st' l0 q0->cS rk (arrOf st') l0 n->Q (some n) st'):wpS M A E s (pX l0 a0 q0) Q st:=by
 unfold pX
 refine wpS_bind (A3 (rk:=rk) (lo:=l0) (n:=q0) (c_ _) (by lia) (by lia) fun st1 W1 r1=>?_)
 refine zp L (W1.kp.k.trans hk) (hS.kp W1.kp) (by rw [W1.kp.size];exact hsz) h1 h2 (fun i j hij hj=>?_) fun n g1 g2 g3=>h n st1 g1 g2 W1 g3
 have hi:=JM hij hj
 rw [r1,r1,if_pos ⟨Mm ..,L0 hi l0⟩,if_pos ⟨Mm ..,L0 hj l0⟩,Hs hi,Hs hj]
 exact hs (a0 - 1 - j) (a0 - 1 - i) (Nat.sub_le_sub_left hij _) (JM (Km _ _) (Mj h1 K9))
theorem ni {i j lo n:Nat}{st:SortSt}{Q:Unit->SortSt->Prop}(hl:lo<=i)(hj:j<=lo + n)(hsz:j<=(arrOf st).size)(heq:∀ k,i<=k->k < j->R rk (arrOf st) k=R rk (arrOf st) (j - 1))(h:∀ st',Within st st' lo n->(∀ k,R rk (arrOf st') k=R rk (arrOf st) k)->Q () st'):wpS M A E s (reverseSlice' i j) Q st:=by
 refine A3 (rk:=rk) hl hj hsz fun st1 W r1=>h st1 W fun k=>?_
 rw [r1]
 split
 ·rename_i z
  rw [heq k z.1 z.2,heq (i + j - 1 - k) (by (clear r1 W h heq hsz hj hl;lia)) (by (clear r1 W h heq hsz hj hl;lia))]
 ·rfl
theorem se.snoc {xs:Array Keyed}{lo n:Nat}(h:se rk xs lo n)(h1:1<=n)(k:R rk xs (lo + n)<=R rk xs (lo + n - 1)):se rk xs lo (n + 1):=fun i j hij hj=>by
 by_cases z:j < n
 ·exact h i j hij z
 ·have e:j=n:=by lia
  subst e
  by_cases w:i=j
  ·subst w;exact c_ _
  ·have:=h i (j - 1) (by lia) (by lia)
   rw [show lo + (j - 1)=lo + j - 1 by lia] at this
   exact r_ k this
theorem o6 {l0 a0 q0:Nat}{st:SortSt}{Q:Option Nat->SortSt->Prop}(L:dG M A E s kd rk S)(hk:kindOf st=kd)(hS:kq S st)(hsz:l0 + q0<=(arrOf st).size)(h2:a0 + 1<=q0)(hs:se rk (arrOf st) l0 (a0 + 1))(hr:∀ x,wpAny M A (rule x) (fun _ s'=>s'=s) E s)
  (h:∀ n st',1<=n->n<=q0->Within st st' l0 q0->cS rk (arrOf st') l0 n->Q (some n) st'):wpS M A E s (oT l0 a0 q0) Q st:=by
 unfold oT
 refine wpS_bind (wpS_lift (wpAny_mono (hr _) (fun _ _ z=>⟨z,?_⟩) fun _ _ z=>z))
 dsimp only
 refine wpS_bind (wpS_mono (wpS_forRange (I:=fun x c st'=>∃ eq,c=(none,x,eq)/\Within st st' l0 q0/\se rk (arrOf st') l0 x/\eq + 1<=x/\∀ k,x - 1 - eq<=k->k < x->R rk (arrOf st') (l0 + k)=R rk (arrOf st') (l0 + (x - 1)))
  (Q:=fun c st'=>∃ n eq,c=(none,n,eq)/\a0 + 1<=n/\n<=q0/\Within st st' l0 q0/\se rk (arrOf st') l0 n/\eq + 1<=n/\∀ k,n - 1 - eq<=k->k < n->R rk (arrOf st') (l0 + k)=R rk (arrOf st') (l0 + (n - 1))) ?_ ?_ ⟨0,rfl,.bX,hs,by lia,fun k h1 h2=>by rw [show k=a0 + 1 - 1 by lia]⟩) ?_)
 ·rintro x c st1 hx1 hx2 ⟨eq,rfl,W,d1,e1,ev⟩
  dsimp only
  have hk1:=W.kp.k.trans hk
  have hS1:=hS.kp W.kp
  have sz1:=W.kp.size
  have x1:1<=x:=r_ (Ni 1 eq) e1
  have b1:l0 + x < (arrOf st1).size:=by lia
  have b2:l0 + x - 1 < (arrOf st1).size:=JM (Km ..) b1
  refine wpS_bind (hU L hk1 hS1 b1 b2 ?_)
  dsimp only
  by_cases w:R rk (arrOf st1) (l0 + x) < R rk (arrOf st1) (l0 + x - 1)
  ·rw [decide_eq_true w,if_pos rfl]
   have fin:∀ st2,Within st st2 l0 q0->(∀ k,R rk (arrOf st2) k=R rk (arrOf st1) k)->∃ eq',((none,x + 1,0):Option (Option Nat) × Nat × Nat)=(none,x + 1,eq')/\Within st st2 l0 q0/\se rk (arrOf st2) l0 (x + 1)/\eq' + 1<=x + 1/\∀ k,x + 1 - 1 - eq'<=k->k < x + 1->R rk (arrOf st2) (l0 + k)=R rk (arrOf st2) (l0 + (x + 1 - 1)):=fun st2 W2 r2=>by
    refine⟨0,rfl,W2,fun i j hij hj=>?_,by lia,fun k h1 h2=>by rw [show k=x + 1 - 1 by lia]⟩
    rw [r2,r2]
    exact d1.snoc x1 (Jz w) i j hij hj
   by_cases z:eq > 0
   ·rw [if_pos z]
    refine wpS_bind (ni (rk:=rk) (lo:=l0) (n:=q0) (by lia) (by lia) (by lia) (fun k h1 h2=>?_) fun st2 W2 r2=>wpS_pure (fin st2 (W.trans W2) r2))
    have k0:l0<=k:=by lia
    have:=ev (k - l0) (by lia) (E5 k0 h2)
    rw [Ew k0,xv x1] at this
    exact this
   ·rw [if_neg z]
    exact wpS_pure (fin st1 W fun _=>rfl)
  ·rw [decide_eq_false w,if_neg (by simp)]
   refine wpS_bind (hU L hk1 hS1 b2 b1 ?_)
   dsimp only
   by_cases v:R rk (arrOf st1) (l0 + x - 1) < R rk (arrOf st1) (l0 + x)
   ·rw [decide_eq_true v,if_pos rfl]
    exact wpS_pure ⟨x,eq,rfl,hx1,by lia,W,d1,e1,ev⟩
   ·rw [decide_eq_false v,if_neg (by simp)]
    have ee:R rk (arrOf st1) (l0 + x)=R rk (arrOf st1) (l0 + x - 1):=Nj (JN v) (JN w)
    refine wpS_pure ⟨eq + 1,rfl,W,d1.snoc x1 (Lu ee),by lia,fun k h1 h2=>?_⟩
    rw [show l0 + (x + 1 - 1)=l0 + x by lia]
    by_cases y:k=x
    ·rw [y]
    ·have:=ev k (by lia) (by lia)
     rw [xv x1] at this
     exact this.trans ee.symm
 ·rintro c st1 ⟨eq,rfl,W,d1,e1,ev⟩
  rw [Mo h2] at d1 e1 ev ⊢
  exact⟨q0,eq,rfl,h2,c_ _,W,d1,e1,ev⟩
 ·rintro c st1 ⟨n,eq,rfl,g1,g2,W,d1,e1,ev⟩
  have sz1:=W.kp.size
  dsimp only
  by_cases z:eq > 0
  ·rw [if_pos z]
   refine wpS_bind (ni (rk:=rk) (lo:=l0) (n:=q0) (by lia) (by lia) (by lia) (fun k h1 h2=>?_) fun st2 W2 r2=>?_)
   ·have k0:l0<=k:=by lia
    have:=ev (k - l0) (by lia) (E5 k0 h2)
    rw [Ew k0,xv (r_ (Ni 1 eq) e1)] at this
    exact this
   ·refine nR L ((W.trans W2).kp.k.trans hk) (hS.kp (W.trans W2).kp) (by rw [(W.trans W2).kp.size];exact hsz) (by lia) g2 (fun i j hij hj=>by rw [r2,r2];exact d1 i j hij hj) fun m st3 k1 k2 W3 s3=>h m st3 (by lia) k2 ((W.trans W2).trans W3) s3
  ·rw [if_neg z]
   exact nR L (W.kp.k.trans hk) (hS.kp W.kp) (by rw [sz1];exact hsz) (by lia) g2 d1 fun m st3 k1 k2 W3 s3=>h m st3 (by lia) k2 (W.trans W3) s3
theorem rG {l0 q0:Nat}{st:SortSt}{Q:Option Nat->SortSt->Prop}(L:dG M A E s kd rk S)(hk:kindOf st=kd)(hS:kq S st)(hsz:l0 + q0<=(arrOf st).size)(h1:1<=q0)(hr:∀ x,wpAny M A (rule x) (fun _ s'=>s'=s) E s)
  (h:∀ n st',1<=n->n<=q0->Within st st' l0 q0->cS rk (arrOf st') l0 n->Q (some n) st'):wpS M A E s (countRun' l0 q0) Q st:=by
 rw [Hb]
 dsimp only
 refine wpS_bind (wpS_mono (wpS_forRange (I:=fun x c st'=>st'=st/\c=(none,x)/\cS rk (arrOf st) l0 x) (Q:=fun c st'=>st'=st/\∃ n,c=(none,n)/\1<=n/\n<=q0/\cS rk (arrOf st) l0 n/\(n=q0\/R rk (arrOf st) (l0 + n) < R rk (arrOf st) (l0 + n - 1))) ?_ ?_ ⟨rfl,rfl,fun i j h1 h2=>by rw [show i=j by lia];exact c_ _⟩) ?_)
 ·rintro x c st1 hx1 hx2 ⟨rfl,rfl,s1⟩
  dsimp only
  refine wpS_bind (hU L hk hS (by lia) (by lia) ?_)
  dsimp only
  by_cases w:R rk (arrOf st1) (l0 + x) < R rk (arrOf st1) (l0 + x - 1)
  ·rw [decide_eq_true w,if_pos rfl]
   exact wpS_pure ⟨rfl,x,rfl,hx1,by lia,s1,.inr w⟩
  ·rw [decide_eq_false w,if_neg (by simp)]
   exact wpS_pure ⟨rfl,rfl,s1.snoc (by (clear w s1 h hsz hS hk hx2 hr h1 L;omega)) (by lia)⟩
 ·rintro c st1 ⟨rfl,rfl,s1⟩
  rw [Mo h1] at s1 ⊢
  exact⟨rfl,q0,rfl,h1,c_ _,s1,.inl rfl⟩
 ·rintro c st1 ⟨rfl,n,rfl,g1,g2,g3,g4⟩
  dsimp only
  by_cases e:n=q0
  ·rw [if_pos (by rw [e];exact beq_self_eq_true _)]
   exact wpS_pure (h n st1 g1 g2 .bX g3)
  rw [if_neg (by simpa using e)]
  have lt:=g4.resolve_left e
  by_cases z:n > 1
  ·rw [if_pos z]
   refine wpS_bind (hU L hk hS (by lia) (by (clear lt e g4 g3 g1 h hS hk hr h1 L;lia)) ?_)
   dsimp only
   by_cases w:R rk (arrOf st1) l0 < R rk (arrOf st1) (l0 + n - 1)
   ·rw [decide_eq_true w,if_pos rfl]
    exact wpS_pure (h n st1 g1 g2 .bX g3)
   ·rw [decide_eq_false w,if_neg (by simp)]
    have all:∀ k,l0<=k->k < l0 + n->R rk (arrOf st1) k=R rk (arrOf st1) (l0 + n - 1):=fun k h1 h2=>by
     have kn:=E5 h1 h2
     have a:=g3 0 (k - l0) (B_ _) kn
     have b:=g3 (k - l0) (n - 1) (LX kn) (Mj g1 K9)
     rw [Ew h1] at a b
     rw [xv g1] at b
     rw [Ly] at a
     exact Nj b (r_ (JN w) a)
    refine wpS_bind (ni (rk:=rk) (lo:=l0) (n:=q0) (c_ _) (by (clear all w z lt e g4 g3 g1 h hsz hS hk hr h1 L;lia)) (by (clear all w z lt e g4 g3 g1 h hS hk hr h1 L;lia)) all fun st2 W2 r2=>?_)
    refine o6 L (W2.kp.k.trans hk) (hS.kp W2.kp) (by rw [W2.kp.size];exact hsz) (by lia) (fun i j hij hj=>?_) hr fun m st3 k1 k2 W3 s3=>h m st3 k1 k2 (W2.trans W3) s3
    rw [r2,r2]
    by_cases y:j < n
    ·rw [all (l0 + i) (by lia) (by lia),all (l0 + j) (by lia) (by (clear hj hij r2 W2 all w z lt e g4 g3 g2 g1 h hsz hS hk hr h1 L;lia))]
     exact c_ _
    ·rw [show j=n by lia]
     by_cases y2:i < n
     ·rw [all (l0 + i) (by lia) (by (clear y hj hij r2 W2 all w z lt e g4 g3 g2 g1 h hsz hS hk hr h1 L;lia))];exact Jz lt
     ·rw [show i=n by (clear y r2 W2 all w z lt e g4 g3 g2 g1 h hsz hS hk hr h1 L;lia)];exact c_ _
  ·rw [if_neg z]
   have n1:n=1:=by lia
   subst n1
   refine o6 L hk hS hsz (by lia) (fun i j hij hj=>?_) hr fun m st3 k1 k2 W3 s3=>h m st3 k1 k2 W3 s3
   by_cases y:i=j
   ·rw [y];exact c_ _
   ·rw [show i=0 by lia,show j=1 by lia]
    exact Jz lt
end
end ZS
namespace ZS
open PySem PyProof.Rows
def wrote (xs:Array Keyed)(q:Nat)(ys:Array Keyed):Array Keyed:=ys.toList.zipIdx.foldl (fun u (p,j)=>u.setIfInBounds (q + j) p) xs
theorem Fc (i:Nat):mergeAt' i=(do
 let st <-get
 let (some (s1,n1,pw),some (s2,n2,_)):=((pendingOf st)[i]?,(pendingOf st)[i + 1]?) | unsupported "internal:list.sort.pending"
 set (SortSt.mk' (kindOf st) (arrOf st) (((pendingOf st).setIfInBounds i (s1,n1 + n2,pw)).eraseIdxIfInBounds (i + 1)) (gallopOf st) (failedOf st))
 let some k <-gal false (<-elem' (arrOf st) s2) (arrOf st) s1 n1 0 | return false
 let (s1,n1):=(s1 + k,n1 - k)
 if n1 == 0 then return true
 let some n2 <-gal true (<-elem' (arrOf st) (s1 + n1 - 1)) (arrOf st) s2 n2 (n2 - 1) | return false
 if n2 == 0 then return true
 let x:=(arrOf st).extract s1 s2
 let y:=(arrOf st).extract s2 (s2 + n2)
 let mm <-if n1<=n2 then mLo x y else mHi x y
 modify fun z=>setArr z (wrote (arrOf z) s1 mm)
 return (failedOf (<-get)).isNone):=rfl
theorem nP (q:Nat):∀ (l:List Keyed) (n:Nat) (xs:Array Keyed),q + n + l.length<=xs.size->((l.zipIdx n).foldl (fun u (p,j)=>u.setIfInBounds (q + j) p) xs).toList=xs.toList.take (q + n)++(l++xs.toList.drop (q + n + l.length))
 | [],n,xs,_=>by
  simp
 | p::t,n,xs,h=>by
  rw [h_] at h
  rw [Ml,K4,nP q t (n + 1) _ (by rw [Mq];lia),Mg]
  have hl:q + n < xs.toList.length:=by rw [j_];lia
  rw [show q + (n + 1)=q + n + 1 by lia,JJ,List.take_set_of_le (c_ _),K7 hl,List.drop_set_of_lt (by lia),h_,show q + n + 1 + t.length=q + n + (t.length + 1) by lia]
  simp
theorem tP {xs ys:Array Keyed}{q:Nat}(h:q + ys.size<=xs.size):(wrote xs q ys).toList=xs.toList.take q++(ys.toList++xs.toList.drop (q + ys.size)):=by
 have:=nP q ys.toList 0 xs (by rw [j_];exact h)
 rw [j_] at this
 exact this
theorem AA {a b c:List Keyed}{i:Nat}(h:a.length=b.length)(hi:a.length<=i):(a++c)[i]?=(b++c)[i]?:=by rw [Ke hi,Ke (by lia),h]
section
variable {rk:Keyed->Nat}
theorem uw {xs:Array Keyed}{i:Nat}{p:Keyed}(h:xs.toList[i]?=some p):R rk xs i=rk p:=by
 unfold R
 rw [<-i_,h]
theorem gQ {xs:Array Keyed}{lo n:Nat}(h:cS rk xs lo n):Srt rk ((xs.toList.drop lo).take n):=by
 refine Lq.mpr fun i j hi hj hij=>?_
 have hj':j < n:=by rw [A'] at hj;lia
 have ei:=a_ hi
 have ej:=a_ hj
 rw [K5,if_pos (by lia),Kz] at ei ej
 have:=h i j (by lia) hj'
 rw [uw ei,uw ej] at this
 exact this
theorem oO {l k n:Nat}(h:k<=n):l + k + (n - k)=l + n:=by rw [LL,Lo h]
theorem ym {xs:Array Keyed}{lo n:Nat}(hn:lo + n<=xs.size)(h:Srt rk ((xs.toList.drop lo).take n)):cS rk xs lo n:=by
 intro i j hij hj
 by_cases e:i=j
 ·rw [e];exact c_ _
 have len:((xs.toList.drop lo).take n).length=n:=by rw [A',F',j_];lia
 have hi':i < ((xs.toList.drop lo).take n).length:=by lia
 have hj':j < ((xs.toList.drop lo).take n).length:=by lia
 have:=Lq.mp h i j hi' hj' (by lia)
 have ei:=a_ hi'
 have ej:=a_ hj'
 rw [K5,if_pos (by lia),Kz] at ei ej
 rw [uw ei,uw ej]
 exact this
theorem qP {xs:Array Keyed}{lo n m:Nat}(h1:cS rk xs lo n)(h2:cS rk xs (lo + n) m)(h:∀ i j,i < n->j < m->R rk xs (lo + i)<=R rk xs (lo + n + j)):cS rk xs lo (n + m):=by
 intro i j hij hj
 by_cases z:j < n
 ·exact h1 i j hij z
 ·by_cases w:i < n
  ·have:=h i (j - n) w (Lp (JN z) hj)
   rw [oO (JN z)] at this
   exact this
  ·have:=h2 (i - n) (j - n) (MM hij n) (Lp (JN z) hj)
   rw [oO (JN z),oO (JN w)] at this
   exact this
theorem iP {T:List Keyed}{lo k n:Nat}(h:k<=n):(T.drop lo).take n=(T.drop lo).take k++(T.drop (lo + k)).take (n - k):=by
 conv=>lhs;rw [show n=k + (n - k) from (Lo h).symm,Me,LB]
theorem merged {xs r:Array Keyed}{lo k n m c:Nat}(hk:k<=n)(hc:c<=m)(hsz:lo + n + m<=xs.size)(o1:cS rk xs lo n)(o2:cS rk xs (lo + n) m)
  (a1:∀ p∈(xs.toList.drop lo).take k,∀ q∈(xs.toList.drop (lo + n)).take m,rk p<=rk q) (a2:∀ p∈(xs.toList.drop lo).take n,∀ q∈(xs.toList.drop (lo + n + c)).take (m - c),rk p<=rk q)
  (hr:Res rk ((xs.toList.drop (lo + k)).take (n - k)) ((xs.toList.drop (lo + n)).take c) r.toList) :
  (wrote xs (lo + k) r).Perm xs/\(∀ i,(i < lo\/lo + n + m<=i)->(wrote xs (lo + k) r)[i]?=xs[i]?)/\cS rk (wrote xs (lo + k) r) lo (n + m):=by
 have lr:r.size=n - k + c:=by
  have:=hr.1.length_eq
  rw [g_,A',A',F',F',j_,j_] at this
  lia
 have wl:(wrote xs (lo + k) r).toList=xs.toList.take lo++((xs.toList.drop lo).take k++(r.toList++((xs.toList.drop (lo + n + c)).take (m - c)++xs.toList.drop (lo + n + m)))):=by
  rw [tP (by lia),Me,gV,lr,<-LL,oO hk]
  congr 3
  have:=(C' (m - c) (xs.toList.drop (lo + n + c))).symm
  rw [LB,oO hc] at this
  exact this
 have xl:xs.toList=xs.toList.take lo++((xs.toList.drop lo).take k++((xs.toList.drop (lo + k)).take (n - k)++(xs.toList.drop (lo + n)).take c++((xs.toList.drop (lo + n + c)).take (m - c)++xs.toList.drop (lo + n + m)))):=by
  have e1:=(C' lo xs.toList).symm
  have e2:=(C' k (xs.toList.drop lo)).symm
  have e3:=(C' (n - k) (xs.toList.drop (lo + k))).symm
  have e4:=(C' c (xs.toList.drop (lo + n))).symm
  have e5:=(C' (m - c) (xs.toList.drop (lo + n + c))).symm
  rw [LB] at e2 e3 e4 e5
  rw [oO hk] at e3
  rw [oO hc] at e5
  rw [gV,<-e5,<-e4,<-e3,<-e2,<-e1]
 have sz:(wrote xs (lo + k) r).size=xs.size:=by
  have:=congrArg L7 wl
  have h2:=congrArg L7 xl
  have h3:=hr.1.length_eq
  simp only [g_] at this h2 h3
  have e1:=@j_ _ (wrote xs (lo + k) r)
  have e2:=@j_ _ xs
  lia
 have X:(xs.toList.drop lo).take n=(xs.toList.drop lo).take k++(xs.toList.drop (lo + k)).take (n - k):=iP hk
 have Y:(xs.toList.drop (lo + n)).take m=(xs.toList.drop (lo + n)).take c++(xs.toList.drop (lo + n + c)).take (m - c):=iP hc
 have sX:=gQ o1
 have sY:=gQ o2
 rw [X] at sX
 rw [Y] at sY
 obtain⟨sx1,sx2,sx⟩:=F_.mp sX
 obtain⟨sy1,sy2,sy⟩:=F_.mp sY
 refine⟨KH.mpr ?_,fun i hi=>?_,ym (by lia) ?_⟩
 ·rw [wl]
  conv=>rhs;rw [xl]
  exact JD _ (JD _ (MC _ hr.1))
 ·rw [<-i_,<-i_,wl]
  conv=>rhs;rw [xl]
  have hl1:(xs.toList.take lo).length=lo:=by rw [A',j_];lia
  rcases hi with hi | hi
  ·rw [KN (by lia),KN (by lia)]
  ·have hl2:((xs.toList.drop lo).take k).length=k:=by rw [A',F',j_];lia
   have hl3:r.toList.length=n - k + c:=by rw [j_];exact lr
   have hl4:=hr.1.length_eq
   rw [<-gV,<-gV]
   conv=>rhs;rw [<-gV,<-gV]
   refine AA ?_ ?_
   ·rw [g_,g_,g_,g_,hl4]
   ·rw [g_,g_,hl1,hl2,hl3];lia
 ·have hl1:(xs.toList.take lo).length=lo:=by rw [A',j_];lia
  have e:((wrote xs (lo + k) r).toList.drop lo).take (n + m)=(xs.toList.drop lo).take k++(r.toList++(xs.toList.drop (lo + n + c)).take (m - c)):=by
   rw [wl,List.drop_left' hl1,<-gV,<-gV,List.take_left',gV]
   rw [g_,g_,A',A',F',F',j_,j_]
   lia
  rw [e]
  have mr:∀ q∈r.toList,q∈(xs.toList.drop (lo + k)).take (n - k)\/q∈(xs.toList.drop (lo + n)).take c:=fun q hq=>G_.mp (hr.1.mem_iff.mp hq)
  refine F_.mpr ⟨sx1,F_.mpr ⟨hr.2,sy2,fun p hp q hq=>?_⟩,fun p hp q hq=>?_⟩
  ·rcases mr p hp with hp | hp
   ·exact a2 p (by rw [X];exact k_ _ hp) q hq
   ·exact sy p hp q hq
  ·rcases G_.mp hq with hq | hq
   ·rcases mr q hq with hq | hq
    ·exact sx p hp q hq
    ·exact a1 p hp q (by rw [Y];exact E_ _ hq)
   ·exact a1 p hp q (by rw [Y];exact k_ _ hq)
end
end ZS
namespace ZS
open PySem PyProof.Rows
theorem CI {α:Type}{ps:Array α}{pre post:List α}{x y:α}(h:ps.toList=pre++x::y::post):ps[pre.length]?=some x/\ps[pre.length + 1]?=some y:=by
 rw [<-i_,<-i_,h]
 constructor
 ·rw [Ke (c_ _),Mn];rfl
 ·rw [Ke (by lia),LC];rfl
theorem vL {α:Type}{ps:Array α}{pre post:List α}{x y z:α}(h:ps.toList=pre++x::y::post):((ps.setIfInBounds pre.length z).eraseIdxIfInBounds (pre.length + 1)).toList=pre++z::post:=by
 have hs:ps.size=pre.length + (post.length + 2):=by rw [<-j_,h,g_];rfl
 have hb:pre.length + 1 < (ps.setIfInBounds pre.length z).size:=by rw [Mq];lia
 unfold Array.eraseIdxIfInBounds
 rw [dif_pos hb,Array.toList_eraseIdx,Mg,h]
 rw [List.set_append_right _ _ (c_ _),Mn,M1,List.eraseIdx_append_of_length_le (by lia),LC]
 rfl
section
variable {M:Model}{A:Around}{E:Value->Shared->Prop}{s:Shared}{kd:SortKind}{rk:Keyed->Nat}{S:Keyed->Prop}
theorem Ey {σ:Type}{v st:σ}{Q:PUnit->σ->Prop}(q:Q ⟨⟩ v):wpS M A E s (set v:StateT σ Sem PUnit) Q st:=by
 unfold wpS
 rw [StateT.run_set]
 exact wpAny_pure ⟨rfl,q⟩
structure Mgd (rk:Keyed->Nat) (st st':SortSt) (lo n:Nat) (ps:List (Nat × Nat × Nat)):Prop where
 k:kindOf st'=kindOf st
 f:failedOf st'=none
 p:(pendingOf st').toList=ps
 a:(arrOf st').Perm (arrOf st)
 out:∀ i,(i < lo\/lo + n<=i)->(arrOf st')[i]?=(arrOf st)[i]?
 srt:cS rk (arrOf st') lo n
theorem Ea {pre post:List (Nat × Nat × Nat)}{s1 n1 pw n2 p2:Nat}{st:SortSt}{Q:Bool->SortSt->Prop}(L:dG M A E s kd rk S)(hk:kindOf st=kd)(hS:kq S st)(hf:failedOf st=none)(hr:∀ x,wpAny M A (rule x) (fun _ s'=>s'=s) E s)
  (hp:(pendingOf st).toList=pre++(s1,n1,pw)::(s1 + n1,n2,p2)::post) (h1:1<=n1) (h2:1<=n2) (hsz:s1 + n1 + n2<=(arrOf st).size) (o1:cS rk (arrOf st) s1 n1) (o2:cS rk (arrOf st) (s1 + n1) n2)
  (h:∀ st',Mgd rk st st' s1 (n1 + n2) (pre++(s1,n1 + n2,pw)::post)->Q true st'):wpS M A E s (mergeAt' pre.length) Q st:=by
 rw [Fc]
 refine wpS_bind (wpS_get ?_)
 dsimp only
 obtain⟨e1,e2⟩:=CI hp
 rw [e1,e2]
 dsimp only
 refine wpS_bind (Ey ?_)
 generalize hst1:SortSt.mk' (kindOf st) (arrOf st) (((pendingOf st).setIfInBounds pre.length (s1,n1 + n2,pw)).eraseIdxIfInBounds (pre.length + 1)) (gallopOf st) (failedOf st)=st1
 have k1:kindOf st1=kd:=by rw [<-hst1];exact hk
 have a1:arrOf st1=arrOf st:=by rw [<-hst1]
 have f1:failedOf st1=none:=by rw [<-hst1];exact hf
 have p1:(pendingOf st1).toList=pre++(s1,n1 + n2,pw)::post:=by rw [<-hst1];exact vL hp
 have SA:∀ (i:Nat) p,(arrOf st)[i]?=some p->S p:=fun i p e=>hS.at e
 have gt:∀ i,i < (arrOf st).size->∃ p,(arrOf st)[i]?=some p:=fun i hi=>⟨_,u_ hi⟩
 have RR:∀ {i:Nat} {p:Keyed},(arrOf st)[i]?=some p->R rk (arrOf st) i=rk p:=fun {i p} e=>by unfold R;rw [e]
 obtain⟨ky,hky⟩:=gt (s1 + n1) (by lia)
 have i5:cS rk (arrOf st) s1 (n1 + n2)->Q true st1:=fun z=>h st1 ⟨k1.trans hk.symm,f1,p1,by rw [a1],fun i _=>by rw [a1],by rw [a1];exact z⟩
 refine wpS_bind (aN hky (wpS_bind (hW L k1 (by lia) (by lia) SA (SA _ _ hky) (fun i j p q hij hj hp hq=>?_) fun k hk1 g1 g2=>?_)))
 ·have:=o1 i j hij hj
  rw [RR hp,RR hq] at this
  exact this
 dsimp only
 have below:∀ i,i < k->∀ j,j < n2->R rk (arrOf st) (s1 + i)<=R rk (arrOf st) (s1 + n1 + j):=fun i hi j hj=>by
  obtain⟨p,hp⟩:=gt (s1 + i) (by lia)
  have a:=g1 i p hi hp
  rw [if_neg (by simp)] at a
  have b:=o2 0 j (B_ _) hj
  rw [Ly,RR hky] at b
  rw [RR hp]
  exact r_ a b
 by_cases z:n1 - k=0
 ·rw [if_pos (by rw [z];rfl)]
  exact wpS_pure (i5 (qP o1 o2 fun i j hi hj=>below i (by lia) j hj))
 rw [if_neg (by simpa using z)]
 obtain⟨la,hla⟩:=gt (s1 + n1 - 1) (by lia)
 rw [oO hk1]
 refine wpS_bind (aN hla (wpS_bind (hW L k1 (by lia) (by omega) SA (SA _ _ hla) (fun i j p q hij hj hp hq=>?_) fun c hc1 d1 d2=>?_)))
 ·have:=o2 i j hij hj
  rw [RR hp,RR hq] at this
  exact this
 dsimp only
 have above:∀ i,i < n1->∀ j,c<=j->j < n2->R rk (arrOf st) (s1 + i)<=R rk (arrOf st) (s1 + n1 + j):=fun i hi j hj hj2=>by
  obtain⟨p,hp⟩:=gt (s1 + n1 + j) (by lia)
  have a:=d2 j p hj hj2 hp
  rw [if_pos rfl] at a
  have hn1:1<=n1:=by lia
  have b:=o1 i (n1 - 1) (by lia) (Mj hn1 K9)
  rw [xv hn1,RR hla] at b
  rw [RR hp]
  exact r_ b a
 by_cases w:c=0
 ·rw [if_pos (by rw [w];rfl)]
  exact wpS_pure (i5 (qP o1 o2 fun i j hi hj=>above i hi j (by lia) hj))
 rw [if_neg (by simpa using w)]
 have ex:((arrOf st).extract (s1 + k) (s1 + n1)).toList=((arrOf st).toList.drop (s1 + k)).take (n1 - k):=by
  have:=iK (arrOf st) (s1 + k) (n1 - k)
  rw [oO hk1] at this
  exact this
 have ey:=iK (arrOf st) (s1 + n1) c
 have zx:((arrOf st).extract (s1 + k) (s1 + n1)).size=n1 - k:=by rw [M3];lia
 have zy:((arrOf st).extract (s1 + n1) (s1 + n1 + c)).size=c:=by rw [M3];lia
 have T2:∀ {i:Nat} {p:Keyed},(arrOf st).toList[i]?=some p->(arrOf st)[i]?=some p:=fun {i p} e=>by rw [i_] at e;exact e
 have sX:=gQ o1
 have sY:=gQ o2
 rw [iP hk1] at sX
 rw [iP hc1] at sY
 have H:LoOk rk S ((arrOf st).extract (s1 + k) (s1 + n1)) ((arrOf st).extract (s1 + n1) (s1 + n1 + c)):=by
  refine⟨by rw [ex];exact (F_.mp sX).2.1,by rw [ey];exact (F_.mp sY).1,fun i p e=>?_,fun i p e=>?_,by lia,by lia,fun p e u hu=>?_,fun p e u hu=>?_⟩
  ·rw [K_] at e
   split at e
   ·exact SA _ _ e
   ·cases e
  ·rw [K_] at e
   split at e
   ·exact SA _ _ e
   ·cases e
  ·rw [K_,if_pos (by lia),Ly,hky] at e
   cases e
   rw [ex] at hu
   obtain⟨j,hj,ej⟩:=dU hu
   have:=g2 (k + j) u (by lia) (by lia) (by rw [<-LL];exact T2 ej)
   rw [if_neg (by simp)] at this
   exact Jz this
  ·rw [zx,K_,if_pos (by lia),show s1 + k + (n1 - k - 1)=s1 + n1 - 1 by lia,hla] at e
   cases e
   rw [ey] at hu
   obtain⟨j,hj,ej⟩:=dU hu
   have:=d1 j u hj (T2 ej)
   rw [if_pos rfl] at this
   exact Jz this
 have fin:∀ r st2,Keep st1 st2->Res rk ((arrOf st).extract (s1 + k) (s1 + n1)).toList ((arrOf st).extract (s1 + n1) (s1 + n1 + c)).toList r.toList->wpS M A E s (do
   modify fun z=>setArr z (wrote (arrOf z) (s1 + k) r)
   let g <-get
   pure (failedOf g).isNone:StateT SortSt Sem Bool) Q st2:=fun r st2 K hres=>by
  rw [ex,ey] at hres
  refine wpS_bind (wpS_modify (wpS_bind (wpS_get (wpS_pure ?_))))
  have hf2:failedOf st2=none:=K.f.trans f1
  have aa:arrOf st2=arrOf st:=K.a.trans a1
  have q1:∀ p∈((arrOf st).toList.drop s1).take k,∀ q∈((arrOf st).toList.drop (s1 + n1)).take n2,rk p<=rk q:=fun p hp q hq=>by
   obtain⟨i,hi,ei⟩:=dU hp
   obtain⟨j,hj,ej⟩:=dU hq
   have:=below i hi j hj
   rw [RR (T2 ei),RR (T2 ej)] at this
   exact this
  have q2:∀ p∈((arrOf st).toList.drop s1).take n1,∀ q∈((arrOf st).toList.drop (s1 + n1 + c)).take (n2 - c),rk p<=rk q:=fun p hp q hq=>by
   obtain⟨i,hi,ei⟩:=dU hp
   obtain⟨j,hj,ej⟩:=dU hq
   have:=above i hi (c + j) (by lia) (by lia)
   rw [<-LL,RR (T2 ei),RR (T2 ej)] at this
   exact this
  obtain⟨m1,m2,m3⟩:=merged (rk:=rk) (xs:=arrOf st) (r:=r) (lo:=s1) (k:=k) (n:=n1) (m:=n2) (c:=c) hk1 hc1 (by omega) o1 o2 q1 q2 hres
  ·rw [show (failedOf (setArr st2 (wrote (arrOf st2) (s1 + k) r))).isNone=true by show (failedOf st2).isNone=true;rw [hf2];rfl]
   refine h _ ⟨K.k.trans (k1.trans hk.symm),hf2,?_,?_,fun i hi=>?_,?_⟩
   ·show (pendingOf st2).toList=_
    rw [K.p]
    exact p1
   ·show (wrote (arrOf st2) (s1 + k) r).Perm _
    rw [aa]
    exact m1
   ·show (wrote (arrOf st2) (s1 + k) r)[i]?=_
    rw [aa]
    exact m2 i (by lia)
   ·show cS rk (wrote (arrOf st2) (s1 + k) r) _ _
    rw [aa]
    exact m3
 by_cases v:n1 - k<=c
 ·rw [if_pos v]
  exact wpS_bind (En L H k1 fin hr)
 ·rw [if_neg v]
  exact wpS_bind (E7 L H k1 fin hr)
end
end ZS
namespace ZS
open PySem PyProof.Rows
abbrev CS:=Option Unit × Unit
abbrev LS:=Option Unit × Nat
def lE (w0:Nat):StateT SortSt Sem (ForInStep CS):=do
 let g <-get
 match (if (pendingOf g).size > 1 then (pendingOf g)[(pendingOf g).size - 2]? else none) with
 | some (_,_,old)=>
  if old<=w0 then pure (ForInStep.done (none,()))
  else do
   let b <-mergeAt' ((pendingOf g).size - 2)
   if (!b)=true then pure (ForInStep.done (some (),())) else pure (ForInStep.yield (none,()))
 | _=>pure (ForInStep.done (none,()))
def oP (q0 n:Nat):StateT SortSt Sem (ForInStep LS):=do
 modify fun z=>setPending z ((pendingOf z).push (q0,n,0))
 pure (ForInStep.yield (none,q0 + n))
def tl (sz q0 n:Nat):StateT SortSt Sem (ForInStep LS):=do
 let g <-get
 match (pendingOf g).back? with
 | some (s1,n1,_)=>do
  let c <-forIn [0:sz] ((none,()):CS) fun _ _=>lE (power' sz (2 * s1 + n1) (2 * s1 + n1 + n1 + n) sz)
  match c.1 with
  | some r=>pure (ForInStep.done (some r,q0))
  | none=>do
   modify fun z=>setPending z ((pendingOf z).modify ((pendingOf z).size - 1) fun x=>(x.1,x.2.1,power' sz (2 * s1 + n1) (2 * s1 + n1 + n1 + n) sz))
   oP q0 n
 | _=>oP q0 n
def iN (sz q0:Nat):StateT SortSt Sem (ForInStep LS):=
 if q0>=sz then pure (ForInStep.done (none,q0)) else do
  let f <-countRun' q0 (sz - q0)
  match f with
  | some n=>
   if n < minRun' sz sz 0 then do
    rule "list.sort.binary-insertion"
    let b <-binarySort' q0 (min (sz - q0) (minRun' sz sz 0)) n
    if (!b)=true then pure (ForInStep.done (some (),q0)) else tl sz q0 (min (sz - q0) (minRun' sz sz 0))
   else tl sz q0 n
  | _=>pure (ForInStep.done (some (),q0))
def pick (ps:Array (Nat × Nat × Nat)):Nat:=
 if NH (fun x=>decide (x < ps[ps.size - 2 + 1]?.elim 0 fun y=>y.2.1)) (if ps.size - 2 > 0 then Nk (fun y=>y.2.1) ps[ps.size - 2 - 1]? else none)=true then ps.size - 2 - 1 else ps.size - 2
def uS:StateT SortSt Sem (ForInStep CS):=do
 let g <-get
 if (pendingOf g).size<=1 then pure (ForInStep.done (none,()))
 else do
  let b <-mergeAt' (pick (pendingOf g))
  if (!b)=true then pure (ForInStep.done (some (),())) else pure (ForInStep.yield (none,()))
theorem Ih:sortRuns'=(do
 let g <-get
 let c <-forIn [0:(arrOf g).size] ((none,0):LS) fun _ c=>iN (arrOf g).size c.2
 match c.1 with
 | some r=>pure r
 | none=>do
  let d <-forIn [0:(arrOf g).size] ((none,()):CS) fun _ _=>uS
  match d.1 with
  | some r=>pure r
  | none=>pure ()):=by
 rw [sortRuns'_eq]
 dsimp only
 refine congrArg (bind get) (funext fun g=>?_)
 refine congr (congrArg bind ?_) (funext fun c=>?_)
 ·refine congrArg (forIn _ _) (funext fun _=>funext fun c=>?_)
  unfold iN
  refine ite_congr rfl (fun _=>rfl) (fun _=>?_)
  refine congrArg (bind _) (funext fun f=>?_)
  cases f with
  | none=>rfl
  | some n=>
   dsimp only
   refine ite_congr rfl (fun _=>congrArg (bind _) (funext fun _=>congrArg (bind _) (funext fun b=>ite_congr rfl (fun _=>rfl) (fun _=>?_)))) (fun _=>?_)
   all_goals
    unfold tl
    refine congrArg (bind _) (funext fun g=>?_)
    generalize (pendingOf g).back?=bk
    rcases bk with _ | ⟨s1,n1,z⟩
    ·rfl
    ·dsimp only
     refine congr (congrArg bind ?_) (funext fun c=>?_)
     ·refine congrArg (forIn _ _) (funext fun _=>funext fun c=>?_)
      unfold lE
      refine congrArg (bind _) (funext fun g=>?_)
      generalize (if (pendingOf g).size > 1 then (pendingOf g)[(pendingOf g).size - 2]? else none)=o
      rcases o with _ | ⟨_,_,_⟩ <;> rfl
     ·rcases c with⟨_ | _,_⟩ <;> rfl
 ·rcases c with⟨_ | _,_⟩
  ·dsimp only
   refine congr (congrArg bind ?_) (funext fun c=>?_)
   ·rfl
   ·rcases c with⟨_ | _,_⟩ <;> rfl
  ·rfl
end ZS
namespace ZS
open PySem PyProof.Rows
def Pd (rk:Keyed->Nat)(xs:Array Keyed):List (Nat × Nat × Nat)->Nat->Nat->Prop
 | [],a,b=>a=b
 | (c,n,_)::t,a,b=>c=a/\1<=n/\cS rk xs c n/\Pd rk xs t (a + n) b
section
variable {rk:Keyed->Nat}
theorem Pd.le {xs:Array Keyed}:∀ {l:List (Nat × Nat × Nat)} {a b:Nat},Pd rk xs l a b->a + l.length<=b
 | [],_,_,h=>Lu h
 | (c,n,_)::t,a,b,h=>by
  have:=h.2.2.2.le
  have:=h.2.1
  rw [h_]
  lia
theorem Pd.congr {xs ys:Array Keyed}:∀ {l:List (Nat × Nat × Nat)} {a b:Nat},Pd rk xs l a b->(∀ i,a<=i->i < b->R rk ys i=R rk xs i)->Pd rk ys l a b
 | [],_,_,h,_=>h
 | (c,n,_)::t,a,b,h,e=>by
  have le:=h.2.2.2.le
  have ca:=h.1
  refine⟨h.1,h.2.1,fun i j hij hj=>?_,h.2.2.2.congr fun i h1 h2=>e i (by lia) h2⟩
  rw [e _ (by lia) (by lia),e _ (by lia) (by lia)]
  exact h.2.2.1 i j hij hj
theorem fC {xs:Array Keyed}:∀ {l m:List (Nat × Nat × Nat)} {a b:Nat},Pd rk xs (l++m) a b↔∃ c,Pd rk xs l a c/\Pd rk xs m c b
 | [],m,a,b=>⟨fun h=>⟨a,rfl,h⟩,fun ⟨c,e,h⟩=>by cases (show a=c from e);exact h⟩
 | (c,n,_)::t,m,a,b=>⟨fun h=>by
   obtain⟨d,h1,h2⟩:=fC.mp h.2.2.2
   exact⟨d,⟨h.1,h.2.1,h.2.2.1,h1⟩,h2⟩,fun ⟨d,h,h2⟩=>⟨h.1,h.2.1,h.2.2.1,fC.mpr ⟨d,h.2.2.2,h2⟩⟩⟩
theorem Pd.modify {xs:Array Keyed}{w0:Nat}:∀ {l:List (Nat × Nat × Nat)} {i a b:Nat},Pd rk xs l a b->Pd rk xs (l.modify i fun x=>(x.1,x.2.1,w0)) a b
 | [],i,_,_,h=>by cases i <;> exact h
 | (c,n,_)::t,0,a,b,h=>⟨h.1,h.2.1,h.2.2.1,h.2.2.2⟩
 | (c,n,_)::t,i + 1,a,b,h=>⟨h.1,h.2.1,h.2.2.1,h.2.2.2.modify⟩
theorem oY {α:Type}:∀ {l:List α} {i:Nat},i + 1 < l.length->∃ pre x y post,l=pre++x::y::post/\pre.length=i
 | x::y::t,0,_=>⟨[],x,y,t,rfl,rfl⟩
 | [_],0,h=>absurd h (by simp)
 | x::t,i + 1,h=>by
  obtain⟨p,a,b,q,e,f⟩:=oY (l:=t) (i:=i) (by rw [h_] at h;lia)
  exact⟨x::p,a,b,q,by rw [e];rfl,by rw [h_,f]⟩
 | [],_,h=>absurd h (by simp)
end
section
variable {M:Model}{A:Around}{E:Value->Shared->Prop}{s:Shared}{kd:SortKind}{rk:Keyed->Nat}{S:Keyed->Prop}{a0:Array Keyed}
structure Iv (kd:SortKind) (rk:Keyed->Nat) (a0:Array Keyed) (q0:Nat) (st:SortSt):Prop where
 k:kindOf st=kd
 f:failedOf st=none
 a:(arrOf st).Perm a0
 pd:Pd rk (arrOf st) (pendingOf st).toList 0 q0
theorem Iv.all {q0:Nat}{st:SortSt}(h:Iv kd rk a0 q0 st)(hS:∀ p∈a0.toList,S p):kq S st:=fun p hp=>hS p ((KH.mp h.a).mem_iff.mp hp)
theorem rF {q0 i:Nat}{st:SortSt}{Q:Bool->SortSt->Prop}(L:dG M A E s kd rk S)(hS:∀ p∈a0.toList,S p)(hr:∀ x,wpAny M A (rule x) (fun _ s'=>s'=s) E s)(I:Iv kd rk a0 q0 st)(hq:q0<=a0.size)(hi:i + 1 < (pendingOf st).size)
  (h:∀ st',Iv kd rk a0 q0 st'->(pendingOf st').size + 1=(pendingOf st).size->(∀ j,q0<=j->(arrOf st')[j]?=(arrOf st)[j]?)->Q true st'):wpS M A E s (mergeAt' i) Q st:=by
 obtain⟨pre,⟨s1,n1,pw⟩,⟨s2,n2,p2⟩,post,e,el⟩:=oY (l:=(pendingOf st).toList) (i:=i) (by rw [j_];exact hi)
 subst el
 have P:=I.pd
 rw [e] at P
 obtain⟨c,P1,e1,k1,o1,e2,k2,o2,P3⟩:=fC.mp P
 subst e1
 subst e2
 have le:=P3.le
 have sz:=I.a.size_eq
 refine Ea L I.k (I.all hS) I.f hr e k1 k2 (by lia) o1 o2 fun st' m=>?_
 have same:∀ j,(j < s1\/s1 + n1 + n2<=j)->R rk (arrOf st') j=R rk (arrOf st) j:=fun j hj=>eA (m.out j (by lia))
 refine h st' ⟨m.k.trans I.k,m.f,m.a.trans I.a,?_⟩ ?_ fun j hj=>m.out j (by lia)
 ·rw [m.p]
  refine fC.mpr ⟨s1,P1.congr fun j _ hj=>same j (by lia),rfl,by lia,m.srt,?_⟩
  rw [<-LL]
  exact P3.congr fun j hj _=>same j (by lia)
 ·rw [<-j_,<-j_,m.p,e]
  simp only [g_,h_]
  lia
theorem tI {q0 w0:Nat}{st:SortSt}{Q:ForInStep CS->SortSt->Prop}(L:dG M A E s kd rk S)(hS:∀ p∈a0.toList,S p)(hr:∀ x,wpAny M A (rule x) (fun _ s'=>s'=s) E s)(I:Iv kd rk a0 q0 st)(hq:q0<=a0.size)
  (h:∀ st' (d:Bool),Iv kd rk a0 q0 st'->(∀ j,q0<=j->(arrOf st')[j]?=(arrOf st)[j]?)->Q (if d=true then ForInStep.done (none,()) else ForInStep.yield (none,())) st'):wpS M A E s (lE w0) Q st:=by
 unfold lE
 refine wpS_bind (wpS_get ?_)
 generalize ho:(if (pendingOf st).size > 1 then (pendingOf st)[(pendingOf st).size - 2]? else none)=o
 rcases o with _ | ⟨x,y,old⟩
 ·exact wpS_pure (h st true I fun _ _=>rfl)
 ·dsimp only
  have h1:(pendingOf st).size > 1:=by
   by_cases z:(pendingOf st).size > 1
   ·exact z
   ·rw [if_neg z] at ho;cases ho
  by_cases w:old<=w0
  ·rw [if_pos w]
   exact wpS_pure (h st true I fun _ _=>rfl)
  ·rw [if_neg w]
   refine wpS_bind (rF L hS hr I hq (by lia) fun st' I' _ e=>?_)
   rw [if_neg (by simp)]
   exact wpS_pure (h st' false I' e)
theorem oo {q0 n:Nat}{st:SortSt}{Q:ForInStep LS->SortSt->Prop}(I:Iv kd rk a0 q0 st)(hn:1<=n)(o:cS rk (arrOf st) q0 n)(h:∀ st',Iv kd rk a0 (q0 + n) st'->Q (ForInStep.yield (none,q0 + n)) st'):wpS M A E s (oP q0 n) Q st:=by
 unfold oP
 refine wpS_bind (wpS_modify (wpS_pure (h _ ⟨I.k,I.f,I.a,?_⟩)))
 show Pd rk (arrOf st) ((pendingOf st).push (q0,n,0)).toList 0 (q0 + n)
 rw [Ld]
 exact fC.mpr ⟨q0,I.pd,rfl,hn,o,rfl⟩
theorem DP {q0 n:Nat}{st:SortSt}{Q:ForInStep LS->SortSt->Prop}(L:dG M A E s kd rk S)(hS:∀ p∈a0.toList,S p)(hr:∀ x,wpAny M A (rule x) (fun _ s'=>s'=s) E s)(I:Iv kd rk a0 q0 st)(hq:q0<=a0.size)(hn:1<=n)(o:cS rk (arrOf st) q0 n)
  (h:∀ st',Iv kd rk a0 (q0 + n) st'->Q (ForInStep.yield (none,q0 + n)) st'):wpS M A E s (tl a0.size q0 n) Q st:=by
 unfold tl
 refine wpS_bind (wpS_get ?_)
 generalize (pendingOf st).back?=bk
 rcases bk with _ | ⟨s1,n1,z⟩
 ·exact oo I hn o h
 ·dsimp only
  generalize power' a0.size (2 * s1 + n1) (2 * s1 + n1 + n1 + n) a0.size=w0
  refine wpS_bind (wpS_mono (wpS_forRange (I:=fun _ c st'=>c=(none,())/\Iv kd rk a0 q0 st'/\∀ j,q0<=j->(arrOf st')[j]?=(arrOf st)[j]?) (Q:=fun c st'=>c=(none,())/\Iv kd rk a0 q0 st'/\∀ j,q0<=j->(arrOf st')[j]?=(arrOf st)[j]?) ?_ (fun _ _ z=>z) ⟨rfl,I,fun _ _=>rfl⟩) ?_)
  ·rintro x c st1 _ _ ⟨rfl,I1,e1⟩
   refine tI L hS hr I1 hq fun st2 d I2 e2=>?_
   cases d
   ·exact⟨rfl,I2,fun j hj=>(e2 j hj).trans (e1 j hj)⟩
   ·exact⟨rfl,I2,fun j hj=>(e2 j hj).trans (e1 j hj)⟩
  ·rintro c st1 ⟨rfl,I1,e1⟩
   dsimp only
   refine wpS_bind (wpS_modify ?_)
   refine oo ⟨I1.k,I1.f,I1.a,?_⟩ hn (fun i j hij hj=>?_) h
   ·show Pd rk (arrOf st1) ((pendingOf st1).modify ((pendingOf st1).size - 1) fun x=>(x.1,x.2.1,w0)).toList 0 q0
    rw [Array.toList_modify]
    exact I1.pd.modify
   ·show R rk (arrOf st1) (q0 + i)<=R rk (arrOf st1) (q0 + j)
    rw [eA (rk:=rk) (e1 (q0 + i) (by lia)),eA (rk:=rk) (e1 (q0 + j) (by lia))]
    exact o i j hij hj
theorem Iv.within {q0 n:Nat}{st st':SortSt}(I:Iv kd rk a0 q0 st)(W:Within st st' q0 n):Iv kd rk a0 q0 st':=⟨W.kp.k.trans I.k,W.kp.f.trans I.f,W.kp.a.trans I.a,by
 rw [W.kp.p]
 exact I.pd.congr fun i _ hi=>eA (W.out i (.inl hi))⟩
theorem qN {q0:Nat}{st:SortSt}{Q:ForInStep LS->SortSt->Prop}(L:dG M A E s kd rk S)(hS:∀ p∈a0.toList,S p)(hr:∀ x,wpAny M A (rule x) (fun _ s'=>s'=s) E s)(I:Iv kd rk a0 q0 st)(hq:q0<=a0.size)
  (h1:q0=a0.size->Q (ForInStep.done (none,q0)) st) (h2:∀ n st',1<=n->q0 + n<=a0.size->Iv kd rk a0 (q0 + n) st'->Q (ForInStep.yield (none,q0 + n)) st'):wpS M A E s (iN a0.size q0) Q st:=by
 unfold iN
 by_cases z:q0>=a0.size
 ·rw [if_pos z]
  exact wpS_pure (h1 (by lia))
 rw [if_neg z]
 have qz:=Jz (Nc z)
 have sz:=I.a.size_eq
 refine wpS_bind (rG L I.k (I.all hS) (by lia) (by lia) hr fun n st1 g1 g2 W1 o1=>?_)
 dsimp only
 have I1:=I.within W1
 by_cases w:n < minRun' a0.size a0.size 0
 ·rw [if_pos w]
  generalize minRun' a0.size a0.size 0=mr at w ⊢
  refine wpS_bind (wpS_lift (wpAny_mono (hr _) (fun _ _ z=>⟨z,?_⟩) fun _ _ z=>z))
  have sz1:=I1.a.size_eq
  have f1:n<=min (a0.size - q0) mr:=Nat.le_min.mpr ⟨g2,Jz w⟩
  have f4:q0 + min (a0.size - q0) mr<=a0.size:=r_ (Lm (Nat.min_le_left ..) q0) (Lu (Lo qz))
  have f5:=r_ g1 f1
  generalize min (a0.size - q0) mr=fr at f1 f4 f5 ⊢
  refine wpS_bind (BL L I1.k (I1.all hS) (by rw [sz1];exact f4) f1 o1 fun st2 W2 o2=>?_)
  rw [if_neg (by simp)]
  exact DP L hS hr (I1.within W2) hq f5 o2 fun st3 I3=>h2 _ st3 f5 f4 I3
 ·rw [if_neg w]
  exact DP L hS hr I1 hq g1 o1 fun st3 I3=>h2 _ st3 g1 (by lia) I3
theorem CC {ps:Array (Nat × Nat × Nat)}(h:1 < ps.size):pick ps + 1 < ps.size:=by
 unfold pick
 generalize NH (fun x=>decide (x < ps[ps.size - 2 + 1]?.elim 0 fun y=>y.2.1)) (if ps.size - 2 > 0 then Nk (fun y=>y.2.1) ps[ps.size - 2 - 1]? else none)=b
 cases b
 ·rw [if_neg (by simp)];lia
 ·rw [if_pos rfl];lia
theorem rj {st:SortSt}{Q:Unit->SortSt->Prop}(L:dG M A E s kd rk S)(hS:∀ p∈(arrOf st).toList,S p)(hr:∀ x,wpAny M A (rule x) (fun _ s'=>s'=s) E s)(hk:kindOf st=kd)(hf:failedOf st=none)(hp:pendingOf st=#[])
  (h:∀ st',(arrOf st').Perm (arrOf st)->failedOf st'=none->Srt rk (arrOf st').toList->Q () st'):wpS M A E s sortRuns' Q st:=by
 rw [Ih]
 refine wpS_bind (wpS_get ?_)
 have I0:Iv kd rk (arrOf st) 0 st:=⟨hk,hf,Mz _,by rw [hp];exact rfl⟩
 revert I0 hS h
 generalize arrOf st=a0
 intro hS h I0
 refine wpS_bind (wpS_mono (wpS_forRange (I:=fun x c st'=>∃ q0,c=(none,q0)/\x<=q0/\q0<=a0.size/\Iv kd rk a0 q0 st') (Q:=fun c st'=>c=(none,a0.size)/\Iv kd rk a0 a0.size st') ?_ ?_ ⟨0,rfl,c_ _,B_ _,I0⟩) ?_)
 ·rintro x c st1 _ _ ⟨q0,rfl,g1,g2,I⟩
  exact qN L hS hr I g2 (fun e=>by subst e;exact⟨rfl,I⟩) fun n st2 k1 k2 I2=>⟨q0 + n,rfl,by lia,k2,I2⟩
 ·rintro c st1 ⟨q0,rfl,g1,g2,I⟩
  have e:q0=a0.size:=by lia
  subst e
  exact⟨rfl,I⟩
 ·rintro c st1 ⟨rfl,I1⟩
  dsimp only
  refine wpS_bind (wpS_mono (wpS_forRange (I:=fun x c st'=>c=(none,())/\Iv kd rk a0 a0.size st'/\((pendingOf st').size<=1\/(pendingOf st').size + x<=a0.size)) (Q:=fun c st'=>c=(none,())/\Iv kd rk a0 a0.size st'/\(pendingOf st').size<=1) ?_ ?_ ⟨rfl,I1,.inr ?_⟩) ?_)
  ·rintro x c st2 _ _ ⟨rfl,I2,g⟩
   unfold uS
   refine wpS_bind (wpS_get ?_)
   by_cases z:(pendingOf st2).size<=1
   ·rw [if_pos z]
    exact wpS_pure ⟨rfl,I2,z⟩
   ·rw [if_neg z]
    refine wpS_bind (rF L hS hr I2 (c_ _) (CC (by lia)) fun st3 I3 e _=>?_)
    rw [if_neg (by simp)]
    exact wpS_pure ⟨rfl,I3,.inr (by lia)⟩
  ·rintro c st2 ⟨rfl,I2,g⟩
   exact⟨rfl,I2,by lia⟩
  ·have:=I1.pd.le
   rw [j_] at this
   lia
  ·rintro c st2 ⟨rfl,I2,g⟩
   refine wpS_pure (h st2 I2.a I2.f ?_)
   have P:=I2.pd
   have sz:=I2.a.size_eq
   have lp:(pendingOf st2).toList.length<=1:=by rw [j_];exact g
   have o:cS rk (arrOf st2) 0 a0.size:=by
    generalize (pendingOf st2).toList=l at P lp
    match l,P,lp with
    | [],P,_=>
     have e:0=a0.size:=P
     intro i j _ hj
     lia
    | [(c,n,_)],P,_=>
     obtain⟨e1,_,o,e2⟩:=P
     have e2:0 + n=a0.size:=e2
     subst e1
     rw [<-e2,Lw]
     exact o
    | _::_::_,_,lp=>simp at lp
   have:=gQ o
   rw [KR,JC (by rw [j_];lia)] at this
   exact this
end
end ZS
namespace ZS
open PySem PyProof.Rows
section
variable {κ:Type}{lt:κ->κ->Bool}
def rnk (lt:κ->κ->Bool)(ks:List κ)(k:κ):Nat:=ks.countP fun y=>lt y k
theorem count_le {p q:κ->Bool}:∀ {l:List κ},(∀ x∈l,p x=true->q x=true)->l.countP p<=l.countP q
 | [],_=>c_ _
 | x::t,h=>by
  have ih:=count_le (l:=t) fun y hy=>h y (.tail _ hy)
  have hx:=h x (.head _)
  rw [LP,LP]
  cases e:p x
  ·rw [if_neg (by simp)];lia
  ·rw [hx e,if_pos rfl];lia
theorem rq {p q:κ->Bool}:∀ {l:List κ} {z:κ},(∀ x∈l,p x=true->q x=true)->z∈l->p z=false->q z=true->l.countP p < l.countP q
 | x::t,z,h,hz,h1,h2=>by
  have ih:=count_le (l:=t) fun y hy=>h y (.tail _ hy)
  have hx:=h x (.head _)
  rw [LP,LP]
  rcases m_.mp hz with e | e
  ·subst e
   rw [h1,h2,if_neg (by simp),if_pos rfl];lia
  ·have:=rq (l:=t) (fun y hy=>h y (.tail _ hy)) e h1 h2
   cases e:p x
   ·rw [if_neg (by simp)];lia
   ·rw [hx e,if_pos rfl];lia
structure Tot (lt:κ->κ->Bool):Prop where
 irr:∀ a,lt a a=false
 tr:∀ a b c,lt a b=true->lt b c=true->lt a c=true
 tot:∀ a b,lt a b=false->lt b a=false->a=b
theorem Ft (T:Tot lt){ks:List κ}{a b:κ}(h:lt b a=false):rnk lt ks a<=rnk lt ks b:=by
 refine count_le fun y _ hy=>?_
 cases e:lt a b
 ·rw [<-T.tot a b e h];exact hy
 ·exact T.tr _ _ _ hy e
theorem pF (T:Tot lt){ks:List κ}{a b:κ}(ha:a∈ks)(h:lt a b=true):rnk lt ks a < rnk lt ks b:=rq (fun y _ hy=>T.tr _ _ _ hy h) ha (T.irr a) h
theorem vy (T:Tot lt){ks:List κ}{a b:κ}(ha:a∈ks):decide (rnk lt ks a < rnk lt ks b)=lt a b:=by
 cases e:lt a b
 ·exact decide_eq_false (MN.mpr (Ft T e))
 ·exact decide_eq_true (pF T ha e)
end
def ltL:List Int->List Int->Bool
 | _,[]=>false
 | [],_::_=>true
 | a::x,b::y=>if a=b then ltL x y else decide (a < b)
theorem vz:∀ x,ltL x x=false
 | []=>rfl
 | a::x=>by rw [ltL,if_pos rfl];exact vz x
theorem Aa:∀ a b c,ltL a b=true->ltL b c=true->ltL a c=true
 | _,[],_,h,_=>by simp [ltL] at h
 | _,_::_,[],_,h=>by simp [ltL] at h
 | [],_::_,_::_,_,_=>rfl
 | a::x,b::y,c::z,h,g=>by
  rw [ltL] at h g ⊢
  by_cases e1:a=b
  ·subst e1
   rw [if_pos rfl] at h
   by_cases e2:a=c
   ·subst e2
    rw [if_pos rfl] at g ⊢
    exact Aa x y z h g
   ·rw [if_neg e2] at g ⊢
    exact g
  ·rw [if_neg e1] at h
   have h:=of_decide_eq_true h
   by_cases e2:b=c
   ·subst e2
    rw [if_neg e1]
    exact decide_eq_true h
   ·rw [if_neg e2] at g
    have g:=of_decide_eq_true g
    rw [if_neg (by lia)]
    exact decide_eq_true (by lia)
theorem uW:∀ a b,ltL a b=false->ltL b a=false->a=b
 | [],[],_,_=>rfl
 | [],_::_,h,_=>by simp [ltL] at h
 | _::_,[],_,h=>by simp [ltL] at h
 | a::x,b::y,h,g=>by
  rw [ltL] at h g
  by_cases e:a=b
  ·subst e
   rw [if_pos rfl] at h g
   rw [uW x y h g]
  ·rw [if_neg e] at h
   rw [if_neg (fun z=>e z.symm)] at g
   have h:=of_decide_eq_false h
   have g:=of_decide_eq_false g
   lia
theorem wL:Tot ltL:=⟨vz,Aa,uW⟩
def eY:Value->Int
 | .int i _=>i
 | _=>0
def g9 (h:Heap):Value->List Int
 | .ref a=>match h.get? a with
  | some o=>match o.data with
   | .seq xs _=>xs.toList.map eY
   | _=>[]
  | none=>[]
 | _=>[]
def AllInt (l:List Value):Prop:=∀ v∈l,∃ i t,v=.int i t
def Bi (h:Heap)(v:Value):Prop:=∃ a o xs n,v=.ref a/\h.get? a=some o/\o.cls=.type "tuple"/\o.data=.seq xs n/\AllInt xs.toList/\0 < xs.size
theorem qf {h:Heap}{a:Addr}{o:Obj}{xs:Array Value}{n:Nat}(e:h.get? a=some o)(d:o.data=.seq xs n):g9 h (.ref a)=xs.toList.map eY:=by
 unfold g9
 dsimp only
 rw [e]
 dsimp only
 rw [d]
section
variable {prog:Program}{w:World}{A:Around}{E:Value->Shared->Prop}{s:Shared}
theorem uL {Q:Bool->Shared->Prop}{fin:Bool}:∀ (xs ys:List Value) (i:Nat),AllInt xs->AllInt ys->fin=decide (xs.length < ys.length)->Q (ltL (xs.map eY) (ys.map eY)) s->PySem.W.KatLex prog w A true fin Q (xs.zip ys) i s
 | [],[],i,_,_,e,q=>by
  subst e
  exact PySem.W.kat_nil q
 | [],b::y,i,_,_,e,q=>by
  subst e
  exact PySem.W.kat_nil q
 | a::x,[],i,_,_,e,q=>by
  subst e
  exact PySem.W.kat_nil q
 | a::x,b::y,i,ha,hb,e,q=>by
  obtain⟨n,t,rfl⟩:=ha a (.head _)
  obtain⟨m,u,rfl⟩:=hb b (.head _)
  rw [f',f',ltL] at q
  refine PySem.W.kat_cons (wpAny_eqBool_int ?_)
  by_cases z:n=m
  ·have q:Q (ltL (x.map eY) (y.map eY)) s:=by
    rw [if_pos (show eY (.int n t)=eY (.int m u) from z)] at q
    exact q
   rw [show (n == m)=true by simpa using z]
   refine PySem.W.kat_yes (uL x y (i + 1) (fun v hv=>ha v (.tail _ hv)) (fun v hv=>hb v (.tail _ hv)) ?_ q)
   rw [e,h_,h_]
   exact decide_eq_decide.mpr (by lia)
  ·have q:Q (decide (n < m)) s:=by
    rw [if_neg (show ¬ eY (.int n t)=eY (.int m u) from z)] at q
    exact q
   rw [show (n == m)=false by simpa using z]
   refine PySem.W.kat_no ?_
   cases (true && i == 0)
   ·exact PySem.W.kat_one _ _ (lt_int q)
   ·exact oneLt_int q
theorem sf {h0:Heap}{ks:List (List Int)}{S:Keyed->Prop}(hS:∀ x,S x->Bi h0 x.1/\g9 h0 x.1∈ks)(hk:∀ b o,h0.get? b=some o->(∃ x n,o.cls=.type "tuple"/\o.data=.seq x n)->s.heap.get? b=some o) :
  dG (model prog w) A E s (tuples' true) (fun x=>rnk ltL ks (g9 h0 x.1)) S:=by
 intro x y st Q sx sy kd q
 obtain⟨⟨a,oa,xs,na,ea,ga,ca,da,ia,_⟩,ma⟩:=hS x sx
 obtain⟨⟨b,ob,ys,nb,eb,gb,cb,db,ib,_⟩,mb⟩:=hS y sy
 rw [lt'_eq]
 refine wpS_bind (wpS_get ?_)
 rw [kd,ea,eb]
 refine wpS_bind (wpS_lift (wpAny_attempt (PySem.W.kat_lt (hk _ _ ga ⟨_,_,ca,da⟩) da (hk _ _ gb ⟨_,_,cb,db⟩) db (uL _ _ 0 ia ib (by rw [j_,j_]) ⟨rfl,?_⟩))))
 refine wpS_pure ?_
 dsimp only at q
 rw [vy wL ma,ea,eb,qf ga da,qf gb db] at q
 exact q
theorem qQ {M:Model}{h0:Heap}{vs:List Value}{Q:SortKind->Shared->Prop}(hv:∀ v∈vs,Bi h0 v)(hk:∀ b o,h0.get? b=some o->(∃ x n,o.cls=.type "tuple"/\o.data=.seq x n)->s.heap.get? b=some o)(hne:vs≠[])(q:Q (tuples' true) s):wpAny M A (keyKind' vs.toArray) Q E s:=by
 have mk:∀ (l:List Value),(∀ v∈l,Bi h0 v)->∃ fs,PySem.W.KatTups s.heap l fs/\AllInt fs/\fs.length=l.length:=by
  intro l
  induction l with
  | nil=>exact fun _=>⟨[],PySem.W.KatTups.nil,fun v hv=>(nomatch hv),rfl⟩
  | cons v r ih=>
   intro hl
   obtain⟨fs,k1,k2,k3⟩:=ih fun v hv=>hl v (.tail _ hv)
   obtain⟨a,o,xs,n,rfl,g,c,d,i,z⟩:=hl v (.head _)
   obtain⟨f,hf⟩:∃ f,xs[0]?=some f:=⟨_,u_ z⟩
   refine⟨f::fs,PySem.W.KatTups.cons (hk _ _ g ⟨_,_,c,d⟩) c d hf k1,fun v hv=>?_,by rw [h_,h_,k3]⟩
   rcases m_.mp hv with e | e
   ·subst e
    rw [<-i_] at hf
    exact i _ (JK hf)
   ·exact k2 v e
 obtain⟨fs,k1,k2,k3⟩:=mk vs hv
 refine PySem.W.kat_kind (T:=.type "int") k1 ?_ (fun v hv=>?_) rfl q
 ·rw [k3]
  exact MX.mpr hne
 ·obtain⟨i,t,rfl⟩:=k2 v hv
  exact .now
end
end ZS
namespace ZS
open PySem PyProof.Rows
section
variable {prog:Program}{w:World}{A:Around}{E:Value->Shared->Prop}{s:Shared}
theorem mT (vs:List Value):(vs.toArray.zip vs.toArray).toList=vs.map fun v=>(v,v):=by
 rw [Array.toList_zip]
 induction vs with
 | nil=>rfl
 | cons v r ih=>exact congrArg ((v,v)::·) ih
theorem oj {a:Addr}{vs:List Value}{n:Nat}{kd:SortKind}{rk:Keyed->Nat}{S:Keyed->Prop}{P:PySem.Fin->Shared->Prop}(ho:s.heap.get? a=some (seqObj "list" vs.toArray n))(hz:vs.length<=sizeLine)(hS:∀ v∈vs,S (v,v))
  (kind:∀ h',(∀ b o,b≠a->s.heap.get? b=some o->h'.get? b=some o)->∀ {Q:SortKind->Shared->Prop},vs≠[]->Q kd { s with heap:=h' }->wpAny (model prog w) A (keyKind' vs.toArray) Q E { s with heap:=h' })
  (lt:∀ h',(∀ b o,b≠a->s.heap.get? b=some o->h'.get? b=some o)->dG (model prog w) A E { s with heap:=h' } kd rk S)
  (h:∀ (o:List Value) c h',o.Perm vs->o.Pairwise (fun x y=>rk (x,x)<=rk (y,y))->(∀ b u,b≠a->s.heap.get? b=some u->h'.get? b=some u)->h'.get? a=some (seqObj "list" o.toArray c)->P (.done (.ret .none)) { s with heap:=h' }) :
  wpAny (model prog w) A (Builtin.«list.sort» ⟨[.ref a],[]⟩) P E s:=by
 rw [list_sort_plain]
 have ha:a < s.heap.objs.size:=Heap.lt_size ho
 refine wpAny_bind (listItems_at ho rfl ?_)
 refine wpAny_bind (listUpdate_at ho rfl ?_ (by rw [n_];exact hz) (B_ _))
 obtain⟨e1,ho1⟩:∃ e1,(s.heap.update a (Obj.mapSeq fun _=>(#[]:Array Value))).get? a=some (seqObj "list" #[] e1):=⟨_,get?_update_seq ho fun _=>#[]⟩
 refine wpAny_bind (seqEpoch_at ho1 rfl ?_)
 refine wpAny_bind (wpAny_newTuple ?_ hz)
 refine wpAny_bind (wpAny_newList ?_ (B_ _))
 refine wpAny_holding ?_
 have k2:∀ b u,(s.heap.update a (Obj.mapSeq fun _=>(#[]:Array Value))).get? b=some u->(((s.heap.update a (Obj.mapSeq fun _=>(#[]:Array Value))).push (seqObj "tuple" vs.toArray 0)).push (seqObj "list" #[] 0)).get? b=some u:=fun b u e=>Heap.get?_push_of_some _ (Heap.get?_push_of_some _ e)
 have k3:∀ b u,b≠a->s.heap.get? b=some u->(((s.heap.update a (Obj.mapSeq fun _=>(#[]:Array Value))).push (seqObj "tuple" vs.toArray 0)).push (seqObj "list" #[] 0)).get? b=some u:=fun b u hb e=>k2 b u (by rw [Heap.get?_update_ne _ _ _ _ hb];exact e)
 have ho6:=k2 _ _ ho1
 show wpAny (model prog w) A _ P E { s with heap:=((s.heap.update a (Obj.mapSeq fun _=>(#[]:Array Value))).push (seqObj "tuple" vs.toArray 0)).push (seqObj "list" #[] 0) }
 generalize ((s.heap.update a (Obj.mapSeq fun _=>(#[]:Array Value))).push (seqObj "tuple" vs.toArray 0)).push (seqObj "list" #[] 0)=h1 at k3 ho6 ⊢
 dsimp only
 have fin:∀ st':SortSt,(arrOf st').Perm (vs.toArray.zip vs.toArray)->Srt rk (arrOf st').toList->failedOf st'=none->wpAny (model prog w) A (do
   let touched:=(<-seqEpoch a) != e1
   Builtin.List.listUpdate (.ref a) fun _=>(arrOf st').map (·.2)
   if let some e:=failedOf st' then rule "list.sort.comparison-raised";throw e
   if touched then rule "list.sort.modified";raiseError "ValueError" "list modified during sort"
   ret .none) P E { s with heap:=h1 }:=fun st' hp hs hf=>by
  have lp:(arrOf st').toList.Perm (vs.map fun v=>(v,v)):=by
   have:=KH.mp hp
   rw [mT] at this
   exact this
  have op:((arrOf st').toList.map (·.2)).Perm vs:=by
   have:=lp.map (·.2)
   rw [JB,show ((fun x:Keyed=>x.2) ∘ fun v:Value=>(v,v))=id from rfl,MD] at this
   exact this
  have tw:∀ p∈(arrOf st').toList,p=(p.2,p.2):=fun p hp=>by
   obtain⟨v,_,e⟩:=A_.mp (lp.mem_iff.mp hp)
   rw [<-e]
  have osr:((arrOf st').toList.map (·.2)).Pairwise (fun x y=>rk (x,x)<=rk (y,y)):=by
   rw [KJ]
   refine Kn (fun {p q} hp hq hr=>?_) hs
   rw [<-tw p hp,<-tw q hq]
   exact hr
  have os:((arrOf st').map (·.2)).size<=sizeLine + 1:=by
   rw [<-j_,Nd,op.length_eq]
   lia
  refine wpAny_bind (seqEpoch_at ho6 rfl ?_)
  refine wpAny_bind (listUpdate_at ho6 rfl ?_ (B_ _) os)
  rw [hf]
  simp only [bne_self_eq_false,JS,if_false]
  obtain⟨c,hc⟩:∃ c,(h1.update a (Obj.mapSeq fun _=>(arrOf st').map (·.2))).get? a=some (seqObj "list" ((arrOf st').toList.map (·.2)).toArray c):=by
   have:=get?_update_seq ho6 fun _=>(arrOf st').map (·.2)
   rw [show ((arrOf st').toList.map (·.2)).toArray=(arrOf st').map (·.2) by rw [<-Nd]]
   exact⟨_,this⟩
  refine wpAny_pure (h _ c _ op osr (fun b u hb e=>?_) hc)
  rw [Heap.get?_update_ne _ _ _ _ hb]
  exact k3 b u hb e
 by_cases h2:vs.toArray.size < 2
 ·rw [if_pos h2,if_pos h2]
  refine wpAny_bind (wpAny_pure ?_)
  rw [StateT.run_pure]
  refine wpAny_bind (wpAny_pure ?_)
  refine fin (SortSt.mk' general' (vs.toArray.zip vs.toArray) #[] 7 none) (Mz _) ?_ rfl
  show Srt rk (vs.toArray.zip vs.toArray).toList
  rw [mT]
  have h3:vs.length < 2:=h2
  clear fin h lt kind hS ho
  match vs,h3 with
  | [],_=>exact .nil
  | [v],_=>exact Mw _ _
  | _::_::_,h3=>exact absurd h3 (by rw [h_,h_];lia)
 ·rw [if_neg h2,if_neg h2]
  refine wpAny_bind (kind h1 k3 (fun z=>by rw [z] at h2;simp at h2) ?_)
  refine wpAny_bind (wpAny_mono (rj (st:=SortSt.mk' kd (vs.toArray.zip vs.toArray) #[] 7 none) (Q:=fun _ st'=>(arrOf st').Perm (vs.toArray.zip vs.toArray)/\failedOf st'=none/\Srt rk (arrOf st').toList) (lt h1 k3) (fun p hp=>?_) (fun x=>wpAny_rule rfl) rfl rfl rfl fun st' a1 a2 a3=>⟨a1,a2,a3⟩) ?_ fun _ _ e=>e)
  ·rw [show (arrOf (SortSt.mk' kd (vs.toArray.zip vs.toArray) #[] 7 none))=vs.toArray.zip vs.toArray from rfl,mT] at hp
   obtain⟨v,hv,e⟩:=A_.mp hp
   rw [<-e]
   exact hS v hv
  ·rintro⟨⟨⟩,st'⟩ s' ⟨rfl,hp,hf,hs⟩
   exact fin st' hp hs hf
theorem mV {l:Addr}{vs:List Value}{kd:SortKind}{rk:Keyed->Nat}{S:Keyed->Prop}{Q:Value->Shared->Prop}(hl:s.heap.IsList l vs.toArray)(hz:vs.length<=sizeLine)(hS:∀ v∈vs,S (v,v))
  (kind:∀ h',(∀ b o,s.heap.get? b=some o->h'.get? b=some o)->∀ {Q:SortKind->Shared->Prop} {E:Value->Shared->Prop},vs≠[]->Q kd { s with heap:=h' }->wpAny (model prog w) A.in1.in1 (keyKind' vs.toArray) Q E { s with heap:=h' })
  (lt:∀ h' E,(∀ b o,s.heap.get? b=some o->h'.get? b=some o)->dG (model prog w) A.in1.in1 E { s with heap:=h' } kd rk S)
  (h:∀ (o:List Value) a c h',o.Perm vs->o.Pairwise (fun x y=>rk (x,x)<=rk (y,y))->s.heap.objs.size<=a->(∀ b u,s.heap.get? b=some u->h'.get? b=some u)->h'.get? a=some (seqObj "list" o.toArray c)->Q (.ref a) { s with heap:=h' }) :
  wpAny (model prog w) A (call (.builtin "sorted") [.ref l]) Q E s:=by
 refine Calls.call_function_entry kind_sorted plain_sorted entry_sorted (args_sorted1 _) ?_
 unfold Builtin.«sorted»
 refine wpAny_bind (m:=checkCount "sorted" 1 1 _) (wpAny_pure ?_)
 refine wpAny_bind (collect_list hl ?_ hz)
 refine wpAny_bind (wpAny_newList ?_ hz)
 have hsz:((s.heap.push (seqObj "list" #[] 0)).update s.heap.objs.size (Obj.mapSeq (·++vs.toArray))).objs.size=s.heap.objs.size + 1:=by
  rw [Heap.size_update,size_push']
 have hoL:(((s.heap.push (seqObj "list" #[] 0)).update s.heap.objs.size (Obj.mapSeq (·++vs.toArray))).push (seqObj "list" vs.toArray 0)).get? (s.heap.objs.size + 1)=some (seqObj "list" vs.toArray 0):=by
  rw [<-hsz];exact Heap.get?_push_size _ rfl
 have keep:∀ b o,s.heap.get? b=some o->(((s.heap.push (seqObj "list" #[] 0)).update s.heap.objs.size (Obj.mapSeq (·++vs.toArray))).push (seqObj "list" vs.toArray 0)).get? b=some o:=fun b o q=>by
  have hlt:b < s.heap.objs.size:=Heap.lt_size q
  rw [Heap.get?_push_ne _ _ _ (by rw [hsz];exact q_ (M6 hlt)),Heap.get?_update_ne _ _ _ _ (q_ hlt),Heap.get?_push_ne _ _ _ (q_ hlt)]
  exact q
 show wpAny _ _ _ _ _ { s with heap:=((s.heap.push (seqObj "list" #[] 0)).update s.heap.objs.size (Obj.mapSeq (·++vs.toArray))).push (seqObj "list" vs.toArray 0) }
 rw [hsz]
 generalize ((s.heap.push (seqObj "list" #[] 0)).update s.heap.objs.size (Obj.mapSeq (·++vs.toArray))).push (seqObj "list" vs.toArray 0)=h1 at hoL keep ⊢
 have ne:∀ b o,s.heap.get? b=some o->b≠s.heap.objs.size + 1:=fun b o e=>q_ (M6 (Heap.lt_size e))
 refine wpAny_bind (wpAny_holding (wpAny_call_entry slot_list_sort ⟨_,hoL,rfl⟩ entry_list_sort ?body (args_list_sort _)))
 case body=>
  refine oj (s:={ s with heap:=h1 }) (kd:=kd) (rk:=rk) (S:=S) hoL hz hS (fun h' k {Q} hne q=>kind h' (fun b o e=>k b o (ne b o e) (keep b o e)) hne q) (fun h' k=>lt h' _ fun b o e=>k b o (ne b o e) (keep b o e)) fun o c h' g1 g2 g3 g4=>?_
  exact⟨_,rfl,wpAny_pure ⟨_,rfl,h o _ c h' g1 g2 (M' _) (fun b u e=>g3 b u (ne b u e) (keep b u e)) g4⟩⟩
end
end ZS
namespace L2
open PySem PySem.Spec PyProof.Rows
section
variable {X:Cx}
theorem vM:MtM X "list.index" (fun x vs H Q=>∃ l xs ds y d j d',x=.ref l/\vs=[y]/\H l=some (.lst xs)/\ax X.K H ds xs/\Has X.K H d y/\ds[j]?=some d'/\eqD d' d=true/\(∀ (m:Nat) (e:Dt),m < j->ds[m]?=some e->eqD e d=false)/\X.A.units + 5 + br ds < cLine/\Q (.int (j:Nat)) H):=by
 intro pins s σ H x vs v us Q I rx rv h
 obtain⟨l,xs,ds,y,d,j,d',rfl,rfl,hH,hl,hd,hj,hj1,hj2,hA,q⟩:=h
 cases rx
 cases rv with
 | cons r1 rr=>
  cases rr
  rename_i uy
  obtain⟨z,its,n,r,hll,e⟩:=I.Gp hH
  have hlen:=r.length
  have hdl:=hl.len
  have hjd:j < ds.length:=(e_.mp hj).1
  have hji:j < its.length:=by lia
  obtain⟨f,f1,f2,f3⟩:=jM I (A:=X.A.in1) (n:=br ds) (by show X.A.units + 1 + _ < _;lia) hd r1 (c_ _) hl r
  have at_:∀ (m:Nat) (e:Dt) (hm:m < its.length),ds[m]?=some e->f its[m]=eqD e d:=fun m e hm he=>by
   have hmd:m < ds.length:=(e_.mp he).1
   have ee:ds[m]=e:=by rw [a_ hmd] at he;exact x_ he
   have:(its[m],ds[m])∈its.zip ds:=by
    have hz:m < (its.zip ds).length:=by rw [List.length_zip];lia
    have:=Kg hz
    rw [List.getElem_zip] at this
    exact this
   rw [<-ee]
   exact f2 _ this
  refine call_meets F.slot_list_index ⟨_,e,rfl⟩ F.entry_list_index (F.args_list_index_2 _ _) (SeqAt.list_indexAt l its.toArray n _ _ uy f j (by simpa using hji) ?_ ?_ ?_) ⟨e,?_,?_⟩
  ·have:its.length<=2 ^ 24:=by rw [<-hlen];exact z
   lia
  ·simp only [MO]
   rw [at_ j d' hji hj]
   exact hj1
  ·intro m hm hmj
   have hm':m < its.length:=by simpa using hm
   simp only [MO]
   have hmd:m < ds.length:=by lia
   rw [at_ m ds[m] hm' (a_ hmd)]
   exact hj2 m _ hmj (a_ hmd)
  ·intro y hy
   exact f1 y (by simpa using hy)
  ·exact⟨.int (j:Nat),H,I.tok _,⟨_,rfl⟩,q⟩
end
end L2
namespace PL
open PySem L2
inductive T where
 | any | hole (w:V) | bare | kp (G:Hp)
 | non | bl (b:Bool) | int (i:Int) | str (x:Str) | ty (n:String)
 | tup (ts:List T) | cst (ts:List T)
 | lst (o:Bool) (ts:List T)
 | dK (o:Bool) (kvs:List (Key × T))
 | dT (o:Bool) (kvs:List (List Key × T))
mutual
def er:T->T
 | .tup ts=>.tup (erL ts)
 | .cst ts=>.cst (erL ts)
 | .lst _ ts=>.lst false (erL ts)
 | .dK _ kvs=>.dK false (erK kvs)
 | .dT _ kvs=>.dT false (erT kvs)
 | .bare=>.any
 | t=>t
def erL:List T->List T
 | []=>[]
 | t::r=>er t::erL r
def erK:List (Key × T)->List (Key × T)
 | []=>[]
 | (k,t)::r=>(k,er t)::erK r
def erT:List (List Key × T)->List (List Key × T)
 | []=>[]
 | (k,t)::r=>(k,er t)::erT r
end
mutual
def aG:T->Bool
 | .tup ts=>aC ts
 | .cst ts=>aC ts
 | .lst o ts=>!o && aC ts
 | .dK o kvs=>!o && pM kvs
 | .dT o kvs=>!o && dv kvs
 | .bare=>false
 | _=>true
def aC:List T->Bool
 | []=>true
 | t::r=>aG t && aC r
def pM:List (Key × T)->Bool
 | []=>true
 | (_,t)::r=>aG t && pM r
def dv:List (List Key × T)->Bool
 | []=>true
 | (_,t)::r=>aG t && dv r
end
mutual
def bV:T->Bool
 | .tup ts=>bx ts
 | .cst ts=>bx ts
 | .lst o ts=>o && bx ts
 | .dK o kvs=>o && lY kvs
 | .dT o kvs=>o && gD kvs
 | .kp _=>false
 | _=>true
def bx:List T->Bool
 | []=>true
 | t::r=>bV t && bx r
def lY:List (Key × T)->Bool
 | []=>true
 | (_,t)::r=>bV t && lY r
def gD:List (List Key × T)->Bool
 | []=>true
 | (_,t)::r=>bV t && gD r
end
theorem fP {α:Type}(g:α->T):∀ l:List α,erL (l.map g)=l.map fun x=>er (g x)
 | []=>rfl
 | x::r=>by rw [f',erL,fP g r,f']
theorem gH:∀ l:List T,erL l=l.map er
 | []=>rfl
 | x::r=>by rw [erL,gH r,f']
theorem qi (l:List T):(erL l).length=l.length:=by rw [gH,b_]
theorem BB (l m:List T):erL (l++m)=erL l++erL m:=by rw [gH,gH,gH,l_]
theorem dO:∀ l:List T,aC l=l.all aG
 | []=>rfl
 | x::r=>by rw [aC,dO r,LK]
theorem fq:∀ l:List T,bx l=l.all bV
 | []=>rfl
 | x::r=>by rw [bx,fq r,LK]
mutual
theorem fA:∀ t:T,aG (er t)=true
 | .tup ts=>by rw [er,aG,fx ts]
 | .cst ts=>by rw [er,aG,fx ts]
 | .lst _ ts=>by rw [er,aG,fx ts];rfl
 | .dK _ ts=>by rw [er,aG,ot ts];rfl
 | .dT _ ts=>by rw [er,aG,nE ts];rfl
 | .bare=>rfl
 | .any=>rfl
 | .hole _=>rfl
 | .kp _=>rfl
 | .non=>rfl
 | .bl _=>rfl
 | .int _=>rfl
 | .str _=>rfl
 | .ty _=>rfl
theorem fx:∀ t:List T,aC (erL t)=true
 | []=>rfl
 | t::r=>by rw [erL,aC,fA t,fx r];rfl
theorem ot:∀ t:List (Key × T),pM (erK t)=true
 | []=>rfl
 | (_,t)::r=>by rw [erK,pM,fA t,ot r];rfl
theorem nE:∀ t:List (List Key × T),dv (erT t)=true
 | []=>rfl
 | (_,t)::r=>by rw [erT,dv,fA t,nE r];rfl
end
def Gr (G H:Hp):Prop:=∀ b u,Rd G b u->Rd H b u
theorem Gr.bX {H:Hp}:Gr H H:=fun _ _ h=>h
theorem Gr.trans {G H J:Hp}(a:Gr G H)(b:Gr H J):Gr G J:=fun c u h=>b c u (a c u h)
theorem Gr.of {G H:Hp}(h:aO G H):Gr G H:=fun b u r=>by
 rcases r with r | ⟨o,r⟩
 ·exact .inl (h _ _ r)
 ·exact .inr ⟨o,h _ _ r⟩
theorem Rd.some {H:Hp}{a:Addr}{u:HO}(h:Rd H a u):∃ w,H a=some w:=by
 rcases h with h | ⟨o,h⟩
 ·exact⟨_,h⟩
 ·exact⟨_,h⟩
theorem Gr.none {G H:Hp}(h:Gr G H){a:Addr}(e:H a=none):G a=none:=by
 cases q:G a with
 | none=>rfl
 | some u=>
  obtain⟨w,z⟩:=Rd.some (h a u (.inl q))
  rw [e] at z;cases z
def TK (H H':Hp):Prop:=∀ b xs,H b=some (.tup xs)->H' b=some (.tup xs)
theorem aO.tk {G H:Hp}(h:aO G H):TK G H:=fun b xs r=>h _ _ r
theorem Put.tk {H H':Hp}{a:Addr}{o:HO}(p:Put H a o H')(ht:∀ xs,H a≠some (.tup xs)):TK H H':=fun b xs r=>by
 have hb:b≠a:=fun z=>ht xs (z ▸ r)
 rw [p.else_ b hb];exact r
section
variable (K:PySem.W.Frag)(Hz H:Hp)
mutual
inductive RepT:T->V->List Addr->Prop
 | any {v:V}:RepT .any v []
 | hole {w:V}:RepT (.hole w) w []
 | bare {a:Addr} {u:HO} (h:H a=some u) (ht:∀ xs,H a≠some (.tup xs)):RepT .bare (.ref a) [a]
 | kp {G:Hp} {v:V} (h:Gr G Hz):RepT (.kp G) v []
 | non:RepT .non .non []
 | bl {b:Bool}:RepT (.bl b) (.bl b) []
 | int {i:Int}:RepT (.int i) (.int i) []
 | str {x:Str}:RepT (.str x) (.str x) []
 | ty {n:String}:RepT (.ty n) (.ty n) []
 | tup {a:Addr} {ts:List T} {vs:List V} {L:List Addr} (h:H a=some (.tup vs)) (c:RepTs ts vs L):RepT (.tup ts) (.ref a) L
 | cst {a:Addr} {ts:List T} {vs:List V} (h:SqT K (fun _=>none) a vs) (c:RepTs ts vs []):RepT (.cst ts) (.ref a) []
 | lstO {a:Addr} {ts:List T} {vs:List V} {L:List Addr} (h:H a=some (.lst vs)) (c:RepTs ts vs L):RepT (.lst true ts) (.ref a) (a::L)
 | lstZ {a:Addr} {ts:List T} {vs:List V} (h:Rd Hz a (.lst vs)) (c:RepTs ts vs []):RepT (.lst false ts) (.ref a) []
 | dKO {a:Addr} {ts:List (Key × T)} {vs:List (Key × V)} {L:List Addr} (h:H a=some (.dK vs)) (c:RepKs ts vs L):RepT (.dK true ts) (.ref a) (a::L)
 | dKZ {a:Addr} {ts:List (Key × T)} {vs:List (Key × V)} (h:Rd Hz a (.dK vs)) (c:RepKs ts vs []):RepT (.dK false ts) (.ref a) []
 | dTO {a:Addr} {ts:List (List Key × T)} {vs:List (List Key × V)} {L:List Addr} (h:H a=some (.dT vs)) (c:RepXs ts vs L):RepT (.dT true ts) (.ref a) (a::L)
 | dTZ {a:Addr} {ts:List (List Key × T)} {vs:List (List Key × V)} (h:Rd Hz a (.dT vs)) (c:RepXs ts vs []):RepT (.dT false ts) (.ref a) []
inductive RepTs:List T->List V->List Addr->Prop
 | nil:RepTs [] [] []
 | cons {t:T} {v:V} {L M N:List Addr} {ts:List T} {vs:List V} (e:N=L++M) (h:RepT t v L) (c:RepTs ts vs M):RepTs (t::ts) (v::vs) N
inductive RepKs:List (Key × T)->List (Key × V)->List Addr->Prop
 | nil:RepKs [] [] []
 | cons {k:Key} {t:T} {v:V} {L M N:List Addr} {ts:List (Key × T)} {vs:List (Key × V)} (e:N=L++M) (h:RepT t v L) (c:RepKs ts vs M):RepKs ((k,t)::ts) ((k,v)::vs) N
inductive RepXs:List (List Key × T)->List (List Key × V)->List Addr->Prop
 | nil:RepXs [] [] []
 | cons {k:List Key} {t:T} {v:V} {L M N:List Addr} {ts:List (List Key × T)} {vs:List (List Key × V)} (e:N=L++M) (h:RepT t v L) (c:RepXs ts vs M):RepXs ((k,t)::ts) ((k,v)::vs) N
end
end
section
variable {K:PySem.W.Frag}
theorem hX {Hz H:Hp}{P:T->V->List Addr->Prop}{Ps:List T->List V->List Addr->Prop}{Pk:List (Key × T)->List (Key × V)->List Addr->Prop}{Px:List (List Key × T)->List (List Key × V)->List Addr->Prop}
  (c1:∀ {v},P .any v []) (c2:∀ {w},P (.hole w) w []) (c3:∀ {a u},H a=some u->(∀ xs,H a≠some (.tup xs))->P .bare (.ref a) [a]) (c4:∀ {G v},Gr G Hz->P (.kp G) v [])
  (c5:P .non .non []) (c6:∀ {b},P (.bl b) (.bl b) []) (c7:∀ {i},P (.int i) (.int i) []) (c8:∀ {x},P (.str x) (.str x) []) (c9:∀ {n},P (.ty n) (.ty n) [])
  (c10:∀ {a ts vs L},H a=some (.tup vs)->Ps ts vs L->P (.tup ts) (.ref a) L) (c11:∀ {a ts vs},SqT K (fun _=>none) a vs->Ps ts vs []->P (.cst ts) (.ref a) [])
  (c12:∀ {a ts vs L},H a=some (.lst vs)->Ps ts vs L->P (.lst true ts) (.ref a) (a::L)) (c13:∀ {a ts vs},Rd Hz a (.lst vs)->Ps ts vs []->P (.lst false ts) (.ref a) [])
  (c14:∀ {a ts vs L},H a=some (.dK vs)->Pk ts vs L->P (.dK true ts) (.ref a) (a::L)) (c15:∀ {a ts vs},Rd Hz a (.dK vs)->Pk ts vs []->P (.dK false ts) (.ref a) [])
  (c16:∀ {a ts vs L},H a=some (.dT vs)->Px ts vs L->P (.dT true ts) (.ref a) (a::L)) (c17:∀ {a ts vs},Rd Hz a (.dT vs)->Px ts vs []->P (.dT false ts) (.ref a) [])
  (s0:Ps [] [] []) (s1:∀ {t v L M ts vs},P t v L->Ps ts vs M->Ps (t::ts) (v::vs) (L++M))
  (k0:Pk [] [] []) (k1:∀ {k t v L M ts vs},P t v L->Pk ts vs M->Pk ((k,t)::ts) ((k,v)::vs) (L++M))
  (x0:Px [] [] []) (x1:∀ {k t v L M ts vs},P t v L->Px ts vs M->Px ((k,t)::ts) ((k,v)::vs) (L++M)) :
  (∀ {t v L},RepT K Hz H t v L->P t v L)/\(∀ {t v L},RepTs K Hz H t v L->Ps t v L)/\(∀ {t v L},RepKs K Hz H t v L->Pk t v L)/\(∀ {t v L},RepXs K Hz H t v L->Px t v L):=by
 have m1:∀ {t v L},RepT K Hz H t v L->P t v L:=fun h=>RepT.rec (motive_1:=fun t v L _=>P t v L) (motive_2:=fun t v L _=>Ps t v L) (motive_3:=fun t v L _=>Pk t v L) (motive_4:=fun t v L _=>Px t v L)
  c1 c2 c3 c4 c5 c6 c7 c8 c9 (fun h _ i=>c10 h i) (fun h _ i=>c11 h i) (fun h _ i=>c12 h i) (fun h _ i=>c13 h i) (fun h _ i=>c14 h i) (fun h _ i=>c15 h i) (fun h _ i=>c16 h i) (fun h _ i=>c17 h i)
  s0 (fun e _ _ i j=>e ▸ s1 i j) k0 (fun e _ _ i j=>e ▸ k1 i j) x0 (fun e _ _ i j=>e ▸ x1 i j) h
 refine⟨m1,fun h=>?_,fun h=>?_,fun h=>?_⟩
 ·exact RepTs.rec (motive_1:=fun t v L _=>True) (motive_2:=fun t v L _=>Ps t v L) (motive_3:=fun t v L _=>True) (motive_4:=fun t v L _=>True)
   trivial trivial (fun _ _=>trivial) (fun _=>trivial) trivial trivial trivial trivial trivial (fun _ _ _=>trivial) (fun _ _ _=>trivial) (fun _ _ _=>trivial) (fun _ _ _=>trivial) (fun _ _ _=>trivial) (fun _ _ _=>trivial) (fun _ _ _=>trivial) (fun _ _ _=>trivial)
   s0 (fun e h _ _ j=>e ▸ s1 (m1 h) j) trivial (fun _ _ _ _ _=>trivial) trivial (fun _ _ _ _ _=>trivial) h
 ·exact RepKs.rec (motive_1:=fun t v L _=>True) (motive_2:=fun t v L _=>True) (motive_3:=fun t v L _=>Pk t v L) (motive_4:=fun t v L _=>True)
   trivial trivial (fun _ _=>trivial) (fun _=>trivial) trivial trivial trivial trivial trivial (fun _ _ _=>trivial) (fun _ _ _=>trivial) (fun _ _ _=>trivial) (fun _ _ _=>trivial) (fun _ _ _=>trivial) (fun _ _ _=>trivial) (fun _ _ _=>trivial) (fun _ _ _=>trivial)
   trivial (fun _ _ _ _ _=>trivial) k0 (fun e h _ _ j=>e ▸ k1 (m1 h) j) trivial (fun _ _ _ _ _=>trivial) h
 ·exact RepXs.rec (motive_1:=fun t v L _=>True) (motive_2:=fun t v L _=>True) (motive_3:=fun t v L _=>True) (motive_4:=fun t v L _=>Px t v L)
   trivial trivial (fun _ _=>trivial) (fun _=>trivial) trivial trivial trivial trivial trivial (fun _ _ _=>trivial) (fun _ _ _=>trivial) (fun _ _ _=>trivial) (fun _ _ _=>trivial) (fun _ _ _=>trivial) (fun _ _ _=>trivial) (fun _ _ _=>trivial) (fun _ _ _=>trivial)
   trivial (fun _ _ _ _ _=>trivial) trivial (fun _ _ _ _ _=>trivial) x0 (fun e h _ _ j=>e ▸ x1 (m1 h) j) h
def Kps (H H':Hp)(L:List Addr):Prop:=∀ a∈L,∀ u,H a=some u->H' a=some u/\((∀ xs,H a≠some (.tup xs))->∀ xs,H' a≠some (.tup xs))
theorem Kps.hd {H H':Hp}{a:Addr}{L:List Addr}(h:Kps H H' (a::L)){u:HO}(e:H a=some u):H' a=some u/\((∀ xs,H a≠some (.tup xs))->∀ xs,H' a≠some (.tup xs)):=h _ t_ _ e
theorem Kps.tl {H H':Hp}{a:Addr}{L:List Addr}(h:Kps H H' (a::L)):Kps H H' L:=fun a m=>h a (o_ _ m)
theorem Kps.l {H H':Hp}{L M:List Addr}(h:Kps H H' (L++M)):Kps H H' L:=fun a m=>h a (E_ _ m)
theorem Kps.r {H H':Hp}{L M:List Addr}(h:Kps H H' (L++M)):Kps H H' M:=fun a m=>h a (k_ _ m)
theorem rL {Hz H Hz' H':Hp}(ht:TK H H')(hz:Gr Hz Hz'):(∀ {t v L},RepT K Hz H t v L->Kps H H' L->RepT K Hz' H' t v L)/\(∀ {t v L},RepTs K Hz H t v L->Kps H H' L->RepTs K Hz' H' t v L)/\(∀ {t v L},RepKs K Hz H t v L->Kps H H' L->RepKs K Hz' H' t v L)/\(∀ {t v L},RepXs K Hz H t v L->Kps H H' L->RepXs K Hz' H' t v L):=
 hX (P:=fun t v L=>Kps H H' L->RepT K Hz' H' t v L) (Ps:=fun t v L=>Kps H H' L->RepTs K Hz' H' t v L) (Pk:=fun t v L=>Kps H H' L->RepKs K Hz' H' t v L) (Px:=fun t v L=>Kps H H' L->RepXs K Hz' H' t v L)
  (fun _=>.any) (fun _=>.hole) (fun h t o=>.bare (o.hd h).1 ((o.hd h).2 t)) (fun h _=>.kp (h.trans hz)) (fun _=>.non) (fun _=>.bl) (fun _=>.int) (fun _=>.str) (fun _=>.ty)
  (fun h c o=>.tup (ht _ _ h) (c o)) (fun h c o=>.cst h (c o)) (fun h c o=>.lstO (o.hd h).1 (c o.tl)) (fun h c o=>.lstZ (hz _ _ h) (c o)) (fun h c o=>.dKO (o.hd h).1 (c o.tl)) (fun h c o=>.dKZ (hz _ _ h) (c o)) (fun h c o=>.dTO (o.hd h).1 (c o.tl)) (fun h c o=>.dTZ (hz _ _ h) (c o))
  (fun _=>.nil) (fun i j o=>.cons rfl (i o.l) (j o.r)) (fun _=>.nil) (fun i j o=>.cons rfl (i o.l) (j o.r)) (fun _=>.nil) (fun i j o=>.cons rfl (i o.l) (j o.r))
theorem RepT.move {Hz H Hz' H':Hp}(ht:TK H H')(hz:Gr Hz Hz'){t:T}{v:V}{L:List Addr}(o:Kps H H' L)(h:RepT K Hz H t v L):RepT K Hz' H' t v L:=(rL ht hz).1 h o
theorem RepXs.move {Hz H Hz' H':Hp}(ht:TK H H')(hz:Gr Hz Hz'){t:List (List Key × T)}{v:List (List Key × V)}{L:List Addr}(o:Kps H H' L)(h:RepXs K Hz H t v L):RepXs K Hz' H' t v L:=(rL ht hz).2.2.2 h o
def Thr (H:Hp)(L:List Addr):Prop:=∀ a∈L,(∃ u,H a=some u)/\∀ xs,H a≠some (.tup xs)
theorem Thr.nil {H:Hp}:Thr H []:=fun a m=>nomatch m
theorem Thr.cons {H:Hp}{a:Addr}{u:HO}{L:List Addr}(h:H a=some u)(t:∀ xs,H a≠some (.tup xs))(c:Thr H L):Thr H (a::L):=fun b m=>by
 rcases m_.mp m with rfl | m
 ·exact⟨⟨_,h⟩,t⟩
 ·exact c b m
theorem Thr.app {H:Hp}{L M:List Addr}(c:Thr H L)(d:Thr H M):Thr H (L++M):=fun b m=>(G_.mp m).elim (c b) (d b)
theorem xE {Hz H:Hp}:(∀ {t v L},RepT K Hz H t v L->Thr H L)/\(∀ {t v L},RepTs K Hz H t v L->Thr H L)/\(∀ {t v L},RepKs K Hz H t v L->Thr H L)/\(∀ {t v L},RepXs K Hz H t v L->Thr H L):=
 hX (P:=fun t v L=>Thr H L) (Ps:=fun t v L=>Thr H L) (Pk:=fun t v L=>Thr H L) (Px:=fun t v L=>Thr H L)
  .nil .nil (fun h t=>.cons h t .nil) (fun _=>.nil) .nil .nil .nil .nil .nil (fun _ c=>c) (fun _ c=>c) (fun h c=>.cons h (fun xs r=>by rw [h] at r;cases r) c) (fun _ c=>c) (fun h c=>.cons h (fun xs r=>by rw [h] at r;cases r) c) (fun _ c=>c) (fun h c=>.cons h (fun xs r=>by rw [h] at r;cases r) c) (fun _ c=>c)
  .nil (fun c d=>c.app d) .nil (fun c d=>c.app d) .nil (fun c d=>c.app d)
theorem RepT.there {Hz H:Hp}{t:T}{v:V}{L:List Addr}(h:RepT K Hz H t v L):Thr H L:=xE.1 h
def Fzn (H Z:Hp)(L:List Addr):Prop:=∀ a∈L,Z a=H a
theorem Fzn.hd {H Z:Hp}{a:Addr}{L:List Addr}(h:Fzn H Z (a::L)){u:HO}(e:H a=some u):Rd Z a u:=.inl (by rw [h _ t_];exact e)
theorem Fzn.tl {H Z:Hp}{a:Addr}{L:List Addr}(h:Fzn H Z (a::L)):Fzn H Z L:=fun a m=>h a (o_ _ m)
theorem Fzn.l {H Z:Hp}{L M:List Addr}(h:Fzn H Z (L++M)):Fzn H Z L:=fun a m=>h a (E_ _ m)
theorem Fzn.r {H Z:Hp}{L M:List Addr}(h:Fzn H Z (L++M)):Fzn H Z M:=fun a m=>h a (k_ _ m)
theorem B1 {Hz H Z:Hp}(hz:Gr Hz Z):(∀ {t v L},RepT K Hz H t v L->Fzn H Z L->RepT K Z H (er t) v [])/\(∀ {t v L},RepTs K Hz H t v L->Fzn H Z L->RepTs K Z H (erL t) v [])/\(∀ {t v L},RepKs K Hz H t v L->Fzn H Z L->RepKs K Z H (erK t) v [])/\(∀ {t v L},RepXs K Hz H t v L->Fzn H Z L->RepXs K Z H (erT t) v []):=
 hX (P:=fun t v L=>Fzn H Z L->RepT K Z H (er t) v []) (Ps:=fun t v L=>Fzn H Z L->RepTs K Z H (erL t) v []) (Pk:=fun t v L=>Fzn H Z L->RepKs K Z H (erK t) v []) (Px:=fun t v L=>Fzn H Z L->RepXs K Z H (erT t) v [])
  (fun _=>.any) (fun _=>.hole) (fun _ _ _=>.any) (fun h _=>.kp (h.trans hz)) (fun _=>.non) (fun _=>.bl) (fun _=>.int) (fun _=>.str) (fun _=>.ty)
  (fun h c o=>.tup h (c o)) (fun h c o=>.cst h (c o)) (fun h c o=>.lstZ (o.hd h) (c o.tl)) (fun h c o=>.lstZ (hz _ _ h) (c o)) (fun h c o=>.dKZ (o.hd h) (c o.tl)) (fun h c o=>.dKZ (hz _ _ h) (c o)) (fun h c o=>.dTZ (o.hd h) (c o.tl)) (fun h c o=>.dTZ (hz _ _ h) (c o))
  (fun _=>.nil) (fun i j o=>.cons rfl (i o.l) (j o.r)) (fun _=>.nil) (fun i j o=>.cons rfl (i o.l) (j o.r)) (fun _=>.nil) (fun i j o=>.cons rfl (i o.l) (j o.r))
theorem RepT.frz {Hz H Z:Hp}(hz:Gr Hz Z){t:T}{v:V}{L:List Addr}(o:Fzn H Z L)(h:RepT K Hz H t v L):RepT K Z H (er t) v []:=(B1 hz).1 h o
theorem AV {Hz H:Hp}:(∀ {t v L},RepT K Hz H t v L->aG t=true->L=[])/\(∀ {t v L},RepTs K Hz H t v L->aC t=true->L=[])/\(∀ {t v L},RepKs K Hz H t v L->True)/\(∀ {t v L},RepXs K Hz H t v L->True):=
 hX (P:=fun t v L=>aG t=true->L=[]) (Ps:=fun t v L=>aC t=true->L=[]) (Pk:=fun t v L=>True) (Px:=fun t v L=>True)
  (fun _=>rfl) (fun _=>rfl) (fun _ _ n=>nomatch n) (fun _ _=>rfl) (fun _=>rfl) (fun _=>rfl) (fun _=>rfl) (fun _=>rfl) (fun _=>rfl)
  (fun _ c n=>c (by rw [aG] at n;exact n)) (fun _ _ _=>rfl) (fun _ _ n=>nomatch n) (fun _ _ _=>rfl) (fun _ _ n=>nomatch n) (fun _ _ _=>rfl) (fun _ _ n=>nomatch n) (fun _ _ _=>rfl)
  (fun _=>rfl) (fun i j n=>by
   rw [aC,C_] at n
   rw [i n.1,j n.2]
   rfl) trivial (fun _ _=>trivial) trivial (fun _ _=>trivial)
theorem RepT.nil_of {Hz H:Hp}{t:T}{v:V}{L:List Addr}(n:aG t=true)(h:RepT K Hz H t v L):L=[]:=AV.1 h n
theorem yM {Hz H Z H':Hp}(ht:TK H H'):(∀ {t v L},RepT K Hz H t v L->bV t=true->Kps H H' L->RepT K Z H' t v L)/\(∀ {t v L},RepTs K Hz H t v L->bx t=true->Kps H H' L->RepTs K Z H' t v L)/\(∀ {t v L},RepKs K Hz H t v L->lY t=true->Kps H H' L->RepKs K Z H' t v L)/\(∀ {t v L},RepXs K Hz H t v L->gD t=true->Kps H H' L->RepXs K Z H' t v L):=
 hX (P:=fun t v L=>bV t=true->Kps H H' L->RepT K Z H' t v L) (Ps:=fun t v L=>bx t=true->Kps H H' L->RepTs K Z H' t v L) (Pk:=fun t v L=>lY t=true->Kps H H' L->RepKs K Z H' t v L) (Px:=fun t v L=>gD t=true->Kps H H' L->RepXs K Z H' t v L)
  (fun _ _=>.any) (fun _ _=>.hole) (fun h t _ o=>.bare (o.hd h).1 ((o.hd h).2 t)) (fun _ n=>nomatch n) (fun _ _=>.non) (fun _ _=>.bl) (fun _ _=>.int) (fun _ _=>.str) (fun _ _=>.ty)
  (fun h c n o=>.tup (ht _ _ h) (c (by rw [bV] at n;exact n) o)) (fun h c n o=>.cst h (c (by rw [bV] at n;exact n) o)) (fun h c n o=>.lstO (o.hd h).1 (c (by rw [bV,KI] at n;exact n) o.tl)) (fun _ _ n=>nomatch n) (fun h c n o=>.dKO (o.hd h).1 (c (by rw [bV,KI] at n;exact n) o.tl)) (fun _ _ n=>nomatch n) (fun h c n o=>.dTO (o.hd h).1 (c (by rw [bV,KI] at n;exact n) o.tl)) (fun _ _ n=>nomatch n)
  (fun _ _=>.nil) (fun i j n o=>.cons rfl (i (by rw [bx,C_] at n;exact n.1) o.l) (j (by rw [bx,C_] at n;exact n.2) o.r)) (fun _ _=>.nil) (fun i j n o=>.cons rfl (i (by rw [lY,C_] at n;exact n.1) o.l) (j (by rw [lY,C_] at n;exact n.2) o.r)) (fun _ _=>.nil) (fun i j n o=>.cons rfl (i (by rw [gD,C_] at n;exact n.1) o.l) (j (by rw [gD,C_] at n;exact n.2) o.r))
theorem RepT.FJ {Hz H Z H':Hp}(ht:TK H H'){t:T}{v:V}{L:List Addr}(n:bV t=true)(o:Kps H H' L)(h:RepT K Hz H t v L):RepT K Z H' t v L:=(yM ht).1 h n o
abbrev Ev:=List T
abbrev Fm:=List (T × Option V)
def nr (K:PySem.W.Frag)(Hz H:Hp)(t:T)(x:Option V)(L:List Addr):Prop:=(t=.any/\L=[])\/∃ v,x=some v/\RepT K Hz H t v L
inductive RepL (K:PySem.W.Frag) (Hz H:Hp):Fm->List Addr->Prop
 | nil:RepL K Hz H [] []
 | cons {t:T} {x:Option V} {L M N:List Addr} {r:Fm} (e:N=L++M) (h:nr K Hz H t x L) (c:RepL K Hz H r M):RepL K Hz H ((t,x)::r) N
def Rp (K:PySem.W.Frag)(H:Hp)(Γ:Fm):Prop:=∃ Hz L,RepL K Hz H Γ L/\L.Nodup/\Gr Hz H/\∀ b∈L,Hz b=none
theorem nr.move {Hz H Hz' H':Hp}(ht:TK H H')(hz:Gr Hz Hz'){t:T}{x:Option V}{L:List Addr}(ho:∀ a∈L,∀ u,H a=some u->H' a=some u/\((∀ xs,H a≠some (.tup xs))->∀ xs,H' a≠some (.tup xs)))(h:nr K Hz H t x L):nr K Hz' H' t x L:=by
 rcases h with⟨rfl,rfl⟩ | ⟨v,rfl,h⟩
 ·exact .inl ⟨rfl,rfl⟩
 ·exact .inr ⟨v,rfl,h.move ht hz ho⟩
theorem nr.there {Hz H:Hp}{t:T}{x:Option V}{L:List Addr}(h:nr K Hz H t x L):∀ a∈L,(∃ u,H a=some u)/\∀ xs,H a≠some (.tup xs):=by
 rcases h with⟨rfl,rfl⟩ | ⟨v,rfl,h⟩
 ·intro a m;cases m
 ·exact h.there
theorem RepL.move {Hz H Hz' H':Hp}(ht:TK H H')(hz:Gr Hz Hz'):∀ {Γ:Fm} {L:List Addr},(∀ a∈L,∀ u,H a=some u->H' a=some u/\((∀ xs,H a≠some (.tup xs))->∀ xs,H' a≠some (.tup xs)))->RepL K Hz H Γ L->RepL K Hz' H' Γ L
 | _,_,_,.nil=>.nil
 | _,_,ho,.cons e h c=>.cons e (h.move ht hz fun a m=>ho a (by rw [e];exact E_ _ m)) (c.move ht hz fun a m=>ho a (by rw [e];exact k_ _ m))
theorem RepL.there {Hz H:Hp}:∀ {Γ:Fm} {L:List Addr},RepL K Hz H Γ L->∀ a∈L,(∃ u,H a=some u)/\∀ xs,H a≠some (.tup xs)
 | _,_,.nil,a,m=>by cases m
 | _,_,.cons e h c,a,m=>by
  rw [e] at m
  rcases G_.mp m with m | m
  ·exact h.there a m
  ·exact c.there a m
theorem RepL.app {Hz H:Hp}:∀ {Γ Δ:Fm} {L M:List Addr},RepL K Hz H Γ L->RepL K Hz H Δ M->RepL K Hz H (Γ++Δ) (L++M)
 | _,_,_,_,.nil,d=>d
 | _,_,_,_,.cons e h c,d=>.cons (by rw [e,gV]) h (c.app d)
theorem RepL.split {Hz H:Hp}:∀ {Γ Δ:Fm} {N:List Addr},RepL K Hz H (Γ++Δ) N->∃ L M,N=L++M/\RepL K Hz H Γ L/\RepL K Hz H Δ M
 | [],_,N,h=>⟨[],N,rfl,.nil,h⟩
 | (t,x)::r,_,N,.cons e h c=>by
  obtain⟨L,M,rfl,h1,h2⟩:=c.split
  exact⟨_,M,by rw [e,gV],.cons rfl h h1,h2⟩
theorem RepL.perm {Hz H:Hp}{Γ Δ:Fm}(p:Γ.Perm Δ):∀ {L:List Addr},RepL K Hz H Γ L->∃ M,L.Perm M/\RepL K Hz H Δ M:=by
 induction p with
 | nil=>intro L h;exact⟨L,.refl _,h⟩
 | cons x q ih=>
  intro L h
  cases h with
  | cons e h c=>
   obtain⟨M,p1,h1⟩:=ih c
   exact⟨_,by rw [e];exact p1.append_left _,.cons rfl h h1⟩
 | swap x y l=>
  intro L h
  cases h with
  | cons e h c=>
   cases c with
   | cons e' h' c'=>
    refine⟨_,?_,.cons rfl h' (.cons rfl h c')⟩
    rw [e,e',<-gV,<-gV]
    exact J'.append_right _
 | trans p q ih1 ih2=>
  intro L h
  obtain⟨M,p1,h1⟩:=ih1 h
  obtain⟨N,p2,h2⟩:=ih2 h1
  exact⟨N,p1.trans p2,h2⟩
theorem Rp.perm {H:Hp}{Γ Δ:Fm}(h:Rp K H Γ)(p:Γ.Perm Δ):Rp K H Δ:=by
 obtain⟨Hz,L,h,nd,g,d⟩:=h
 obtain⟨M,q,h'⟩:=h.perm p
 exact⟨Hz,M,h',q.nodup_iff.mp nd,g,fun b m=>d b (q.mem_iff.mpr m)⟩
theorem Rp.part {H:Hp}{Γ Δ:Fm}(h:Rp K H (Γ++Δ)):Rp K H Δ:=by
 obtain⟨Hz,L,h,nd,g,d⟩:=h
 obtain⟨L1,L2,rfl,_,h2⟩:=h.split
 exact⟨Hz,L2,h2,(Ks.mp nd).2.1,g,fun b m=>d b (k_ _ m)⟩
theorem Rp.tail {H:Hp}{x:T × Option V}{Γ:Fm}(h:Rp K H (x::Γ)):Rp K H Γ:=Rp.part (Γ:=[x]) h
theorem fE {H H':Hp}(s:aO H H')(a:Addr)(u:HO)(e:H a=some u):H' a=some u/\((∀ xs,H a≠some (.tup xs))->∀ xs,H' a≠some (.tup xs)):=
 ⟨s _ _ e,fun n xs r=>n xs (by rw [s _ _ e] at r;exact e.trans r)⟩
theorem Rp.same {H H':Hp}{Γ:Fm}(h:Rp K H Γ)(s:aO H H'):Rp K H' Γ:=by
 obtain⟨Hz,L,h,nd,g,d⟩:=h
 exact⟨Hz,L,h.move (aO.tk s) .bX (fun a m u e=>fE s a u e),nd,g.trans (.of s),d⟩
end
end PL
namespace PL
open PySem L2
section
variable {K:PySem.W.Frag}
theorem rE {H H':Hp}{p:Addr}{o:HO}(s:Put H p o H')(a:Addr)(n:a≠p)(u:HO)(e:H a=some u):H' a=some u/\((∀ xs,H a≠some (.tup xs))->∀ xs,H' a≠some (.tup xs)):=
 ⟨by rw [s.else_ a n];exact e,fun m xs r=>m xs (by rw [s.else_ a n] at r;exact r)⟩
theorem RepTs.len {Hz H:Hp}:∀ {ts:List T} {vs:List V} {L:List Addr},RepTs K Hz H ts vs L->ts.length=vs.length
 | _,_,_,.nil=>rfl
 | _,_,_,.cons _ _ c=>by rw [h_,h_,c.len]
abbrev zz (ts:List T)(vs:List V):Fm:=ts.zip (vs.map some)
theorem RepTs.toL {Hz H:Hp}:∀ {ts:List T} {vs:List V} {L:List Addr},RepTs K Hz H ts vs L->RepL K Hz H (zz ts vs) L
 | _,_,_,.nil=>.nil
 | _,_,_,.cons e h c=>.cons e (.inr ⟨_,rfl,h⟩) c.toL
theorem RepL.nv {Hz H:Hp}:∀ {ts:List T} {vs:List V} {L:List Addr},ts.length=vs.length->RepL K Hz H (zz ts vs) L->RepTs K Hz H ts vs L
 | [],[],_,_,.nil=>.nil
 | [],v::vs,_,l,_=>by simp at l
 | t::ts,[],_,l,_=>by simp at l
 | t::ts,v::vs,L,l,h=>by
  have h:RepL K Hz H ((t,some v)::zz ts vs) L:=h
  cases h with
  | cons e h c=>
   refine .cons e ?_ (c.nv (by simpa using l))
   rcases h with⟨rfl,rfl⟩ | ⟨w,e2,h⟩
   ·exact .any
   ·cases e2;exact h
theorem RepKs.toL {Hz H:Hp}:∀ {ts:List (Key × T)} {vs:List (Key × V)} {L:List Addr},RepKs K Hz H ts vs L->ts.map (·.1)=vs.map (·.1)/\RepTs K Hz H (ts.map (·.2)) (vs.map (·.2)) L
 | _,_,_,.nil=>⟨rfl,.nil⟩
 | _,_,_,.cons e h c=>by
  obtain⟨e1,c1⟩:=c.toL
  exact⟨by rw [f',f',e1],.cons e h c1⟩
theorem RepKs.ofL {Hz H:Hp}:∀ {ts:List (Key × T)} {vs:List (Key × V)} {L:List Addr},ts.map (·.1)=vs.map (·.1)->RepTs K Hz H (ts.map (·.2)) (vs.map (·.2)) L->RepKs K Hz H ts vs L
 | [],[],_,_,.nil=>.nil
 | [],_::_,_,e,_=>by simp at e
 | _::_,[],_,e,_=>by simp at e
 | (k,t)::ts,(k',v)::vs,L,e,.cons e2 h c=>by
  rw [f',f',Ko] at e
  have e0:k=k':=e.1
  subst e0
  exact .cons e2 h (RepKs.ofL e.2 c)
theorem RepXs.toL {Hz H:Hp}:∀ {ts:List (List Key × T)} {vs:List (List Key × V)} {L:List Addr},RepXs K Hz H ts vs L->ts.map (·.1)=vs.map (·.1)/\RepTs K Hz H (ts.map (·.2)) (vs.map (·.2)) L
 | _,_,_,.nil=>⟨rfl,.nil⟩
 | _,_,_,.cons e h c=>by
  obtain⟨e1,c1⟩:=c.toL
  exact⟨by rw [f',f',e1],.cons e h c1⟩
theorem RepXs.ofL {Hz H:Hp}:∀ {ts:List (List Key × T)} {vs:List (List Key × V)} {L:List Addr},ts.map (·.1)=vs.map (·.1)->RepTs K Hz H (ts.map (·.2)) (vs.map (·.2)) L->RepXs K Hz H ts vs L
 | [],[],_,_,.nil=>.nil
 | [],_::_,_,e,_=>by simp at e
 | _::_,[],_,e,_=>by simp at e
 | (k,t)::ts,(k',v)::vs,L,e,.cons e2 h c=>by
  rw [f',f',Ko] at e
  have e0:k=k':=e.1
  subst e0
  exact .cons e2 h (RepXs.ofL e.2 c)
theorem AE {H H':Hp}{p:Addr}{o:HO}{t:T}{Γ Δ:Fm}(h:Rp K H (Γ++Δ))(hp:H p=none)(s:aO H H')(hn:H' p=some o)
  (mk:∀ Hz L,RepL K Hz H' Γ L->RepT K Hz H' t (.ref p) (p::L)):Rp K H' ((t,some (.ref p))::Δ):=by
 obtain⟨Hz,N,h,nd,g,d⟩:=h
 obtain⟨L,M,rfl,h1,h2⟩:=h.split
 have mv:∀ a∈L++M,∀ u,H a=some u->H' a=some u/\((∀ xs,H a≠some (.tup xs))->∀ xs,H' a≠some (.tup xs)):=fun a _ u e=>fE s a u e
 have h1':=h1.move (aO.tk s) .bX fun a m=>mv a (E_ _ m)
 have h2':=h2.move (aO.tk s) .bX fun a m=>mv a (k_ _ m)
 refine⟨Hz,(p::L)++M,.cons rfl (.inr ⟨_,rfl,mk Hz L h1'⟩) h2',?_,g.trans (.of s),?_⟩
 ·rw [JH,H_]
  refine⟨fun m=>?_,nd⟩
  obtain⟨⟨u,e⟩,_⟩:=h.there p m
  rw [hp] at e;cases e
 ·intro b m
  rcases m_.mp m with rfl | m
  ·exact g.none hp
  ·exact d b m
theorem fN {H H':Hp}{p:Addr}{ts:List T}{vs:List V}{Δ:Fm}(h:Rp K H (zz ts vs++Δ))(l:ts.length=vs.length)(hp:H p=none)(s:aO H H')(hn:H' p=some (.lst vs)):Rp K H' ((.lst true ts,some (.ref p))::Δ):=
 AE h hp s hn fun _ _ q=>.lstO hn (q.nv l)
theorem gG {H H':Hp}{p:Addr}{ts:List T}{vs:List V}{Δ:Fm}(h:Rp K H (zz ts vs++Δ))(l:ts.length=vs.length)(s:aO H H')(hn:H' p=some (.tup vs)):Rp K H' ((.tup ts,some (.ref p))::Δ):=by
 obtain⟨Hz,N,h,nd,g,d⟩:=h.same s
 obtain⟨L,M,rfl,h1,h2⟩:=h.split
 exact⟨Hz,L++M,.cons rfl (.inr ⟨_,rfl,.tup hn (h1.nv l)⟩) h2,nd,g,d⟩
theorem hZ {H:Hp}{ts:List T}{x:Option V}{Γ:Fm}(h:Rp K H ((.lst true ts,x)::Γ)):∃ a vs,x=some (.ref a)/\H a=some (.lst vs)/\ts.length=vs.length/\Rp K H ((.bare,some (.ref a))::(zz ts vs++Γ)):=by
 obtain⟨Hz,N,h,nd,g,d⟩:=h
 cases h with
 | cons e h c=>
  rcases h with⟨h,_⟩ | ⟨v,rfl,h⟩
  ·cases h
  ·cases h with
   | lstO h1 c1=>
    refine⟨_,_,rfl,h1,c1.len,Hz,N,.cons (L:=[_]) (M:=_++_) (by rw [e];rfl) (.inr ⟨_,rfl,.bare h1 fun xs r=>?_⟩) (c1.toL.app c),nd,g,d⟩
    rw [h1] at r;cases r
theorem pK {H H':Hp}{a:Addr}{o:HO}{t:T}{Γ Δ:Fm}(h:Rp K H ((.bare,some (.ref a))::(Γ++Δ)))(p:Put H a o H')
  (mk:∀ Hz L,RepL K Hz H' Γ L->RepT K Hz H' t (.ref a) (a::L)):Rp K H' ((t,some (.ref a))::Δ):=by
 obtain⟨Hz,N,h,nd,g,d⟩:=h
 cases h with
 | cons e h c=>
  rcases h with⟨h,_⟩ | ⟨v,ev,h⟩
  ·cases h
  ·cases ev
   cases h with
   | bare h1 nt=>
    obtain⟨L,M,e2,h2,h3⟩:=c.split
    subst e;subst e2
    rw [LR,H_] at nd
    have tk:TK H H':=Put.tk p nt
    have ne:∀ b∈L++M,b≠a:=fun b m z=>nd.1 (z ▸ m)
    have g':Gr Hz H':=fun b u r=>by
     have hb:b≠a:=fun z=>by
      obtain⟨w,q⟩:=Rd.some r
      rw [z,d a (by rw [LR];exact t_)] at q
      cases q
     rcases g b u r with r | ⟨o,r⟩
     ·exact .inl (by rw [p.else_ b hb];exact r)
     ·exact .inr ⟨o,by rw [p.else_ b hb];exact r⟩
    refine⟨Hz,(a::L)++M,.cons rfl (.inr ⟨_,rfl,mk Hz L ?_⟩) ?_,?_,g',?_⟩
    ·exact h2.move tk .bX fun b m=>rE p b (ne b (E_ _ m))
    ·exact h3.move tk .bX fun b m=>rE p b (ne b (k_ _ m))
    ·rw [JH,H_];exact nd
    ·exact d
theorem jy {H H':Hp}{a:Addr}{ts:List T}{vs:List V}{Γ:Fm}(h:Rp K H ((.bare,some (.ref a))::(zz ts vs++Γ)))(l:ts.length=vs.length)(p:Put H a (.lst vs) H'):Rp K H' ((.lst true ts,some (.ref a))::Γ):=
 pK h p fun _ _ q=>.lstO p.at_ (q.nv l)
theorem rB {H:Hp}{ts:List (Key × T)}{x:Option V}{Γ:Fm}(h:Rp K H ((.dK true ts,x)::Γ)):∃ a vs,x=some (.ref a)/\H a=some (.dK vs)/\ts.map (·.1)=vs.map (·.1)/\Rp K H ((.bare,some (.ref a))::(zz (ts.map (·.2)) (vs.map (·.2))++Γ)):=by
 obtain⟨Hz,N,h,nd,g,d⟩:=h
 cases h with
 | cons e h c=>
  rcases h with⟨h,_⟩ | ⟨v,rfl,h⟩
  ·cases h
  ·cases h with
   | dKO h1 c1=>
    obtain⟨e1,c2⟩:=c1.toL
    refine⟨_,_,rfl,h1,e1,Hz,N,.cons (L:=[_]) (M:=_++_) (by rw [e];rfl) (.inr ⟨_,rfl,.bare h1 fun xs r=>?_⟩) (c2.toL.app c),nd,g,d⟩
    rw [h1] at r;cases r
theorem zU {H:Hp}{ts:List (List Key × T)}{x:Option V}{Γ:Fm}(h:Rp K H ((.dT true ts,x)::Γ)):∃ a vs,x=some (.ref a)/\H a=some (.dT vs)/\ts.map (·.1)=vs.map (·.1)/\Rp K H ((.bare,some (.ref a))::(zz (ts.map (·.2)) (vs.map (·.2))++Γ)):=by
 obtain⟨Hz,N,h,nd,g,d⟩:=h
 cases h with
 | cons e h c=>
  rcases h with⟨h,_⟩ | ⟨v,rfl,h⟩
  ·cases h
  ·cases h with
   | dTO h1 c1=>
    obtain⟨e1,c2⟩:=c1.toL
    refine⟨_,_,rfl,h1,e1,Hz,N,.cons (L:=[_]) (M:=_++_) (by rw [e];rfl) (.inr ⟨_,rfl,.bare h1 fun xs r=>?_⟩) (c2.toL.app c),nd,g,d⟩
    rw [h1] at r;cases r
theorem cL {κ α β:Type}{ts:List (κ × α)}{vs:List (κ × β)}(e:ts.map (·.1)=vs.map (·.1)):ts.length=vs.length:=by
 have:=congrArg L7 e
 rwa [b_,b_] at this
theorem o7 {H H':Hp}{a:Addr}{ts:List (Key × T)}{vs:List (Key × V)}{Γ:Fm}(h:Rp K H ((.bare,some (.ref a))::(zz (ts.map (·.2)) (vs.map (·.2))++Γ)))(l:ts.map (·.1)=vs.map (·.1))(p:Put H a (.dK vs) H'):Rp K H' ((.dK true ts,some (.ref a))::Γ):=
 pK h p fun _ _ q=>.dKO p.at_ (RepKs.ofL l (q.nv (by rw [b_,b_];exact cL l)))
theorem vH {H H':Hp}{a:Addr}{ts:List (List Key × T)}{vs:List (List Key × V)}{Γ:Fm}(h:Rp K H ((.bare,some (.ref a))::(zz (ts.map (·.2)) (vs.map (·.2))++Γ)))(l:ts.map (·.1)=vs.map (·.1))(p:Put H a (.dT vs) H'):Rp K H' ((.dT true ts,some (.ref a))::Γ):=
 pK h p fun _ _ q=>.dTO p.at_ (RepXs.ofL l (q.nv (by rw [b_,b_];exact cL l)))
theorem BH {H H':Hp}{p:Addr}{Δ:Fm}(h:Rp K H Δ)(hp:H p=none)(s:aO H H')(hn:H' p=some (.dT [])):Rp K H' ((.dT true [],some (.ref p))::Δ):=
 AE (Γ:=[]) h hp s hn fun _ _ q=>by cases q;exact .dTO hn .nil
theorem yk {H:Hp}{t:T}{x:Option V}{Γ:Fm}(h:Rp K H ((t,x)::Γ)):Rp K H ((er t,x)::Γ):=by
 obtain⟨Hz,N,h,nd,g,d⟩:=h
 cases h with
 | @cons _ _ L M _ _ e h c=>
  rcases h with⟨rfl,rfl⟩ | ⟨v,rfl,h⟩
  ·exact⟨Hz,N,.cons e (.inl ⟨rfl,rfl⟩) c,nd,g,d⟩
  ·subst e
   have dz:∀ b∈L,Hz b=none:=fun b m=>d b (E_ _ m)
   let Z:Hp:=fun b=>if b∈L then H b else Hz b
   have hz:Gr Hz Z:=fun b u r=>by
    have nb:b ∉ L:=fun m=>by
     obtain⟨w,q⟩:=Rd.some r
     rw [dz b m] at q;cases q
    rcases r with r | ⟨o,r⟩
    ·exact .inl (by show (if b∈L then H b else Hz b)=_;rw [if_neg nb];exact r)
    ·exact .inr ⟨o,by show (if b∈L then H b else Hz b)=_;rw [if_neg nb];exact r⟩
   have zh:Gr Z H:=fun b u r=>by
    by_cases nb:b∈L
    ·rcases r with r | ⟨o,r⟩
     ·exact .inl (by have r:(if b∈L then H b else Hz b)=_:=r;rw [if_pos nb] at r;exact r)
     ·exact .inr ⟨o,by have r:(if b∈L then H b else Hz b)=_:=r;rw [if_pos nb] at r;exact r⟩
    ·refine g b u ?_
     rcases r with r | ⟨o,r⟩
     ·exact .inl (by have r:(if b∈L then H b else Hz b)=_:=r;rw [if_neg nb] at r;exact r)
     ·exact .inr ⟨o,by have r:(if b∈L then H b else Hz b)=_:=r;rw [if_neg nb] at r;exact r⟩
   have nd2:=Ks.mp nd
   refine⟨Z,[]++M,.cons rfl (.inr ⟨v,rfl,h.frz hz fun b m=>?_⟩) (c.move (fun _ _ r=>r) hz fun b m u e=>⟨e,fun n=>n⟩),nd2.2.1,zh,fun b m=>?_⟩
   ·show (if b∈L then H b else Hz b)=_
    rw [if_pos m]
   ·show (if b∈L then H b else Hz b)=_
    rw [if_neg (fun z=>nd2.2.2 b z b m rfl)]
    exact d b (k_ _ m)
theorem mP {H:Hp}{t:T}{x:Option V}{Γ:Fm}(h:Rp K H ((t,x)::Γ))(n:aG t=true):Rp K H ((t,x)::(t,x)::Γ):=by
 obtain⟨Hz,N,h,nd,g,d⟩:=h
 cases h with
 | @cons _ _ L M _ _ e h c=>
  have hL:L=[]:=by
   rcases h with⟨_,rfl⟩ | ⟨v,_,h⟩
   ·rfl
   ·exact h.nil_of n
  subst hL
  exact⟨Hz,N,.cons (L:=[]) (M:=N) rfl h (.cons e h c),nd,g,d⟩
theorem nr.view {Hz H:Hp}(g:Gr Hz H){t:T}{x:Option V}{L:List Addr}(h:nr K Hz H t x L):nr K H H (er t) x []:=by
 rcases h with⟨rfl,rfl⟩ | ⟨v,rfl,h⟩
 ·exact .inl ⟨rfl,rfl⟩
 ·exact .inr ⟨v,rfl,h.frz g fun _ _=>rfl⟩
theorem RepL.view {Hz H:Hp}(g:Gr Hz H):∀ {Γ:Fm} {L:List Addr},RepL K Hz H Γ L->RepL K H H (Γ.map fun p=>(er p.1,p.2)) []
 | _,_,.nil=>.nil
 | _,_,.cons e h c=>.cons rfl (h.view g) (c.view g)
theorem pJ {H:Hp}{Γ:Fm}(h:Rp K H Γ):Rp K H ((Γ.map fun p=>(er p.1,p.2))++[(.kp H,some .non)]):=by
 obtain⟨Hz,N,h,nd,g,d⟩:=h
 refine⟨H,[]++[],(h.view g).app (.cons rfl (.inr ⟨_,rfl,.kp .bX⟩) .nil),L4,.bX,fun b m=>by cases m⟩
def over (H H':Hp):Hp:=fun b=>match H b with
 | some u=>some u
 | none=>H' b
theorem fF {H H':Hp}{b:Addr}{u:HO}(e:H b=some u):over H H' b=some u:=by unfold over;rw [e]
theorem kC {H H':Hp}{b:Addr}(e:H b=none):over H H' b=H' b:=by unfold over;rw [e]
theorem xh (H H':Hp):aO H (over H H'):=fun b u e=>fF e
theorem oF {H H':Hp}(g:Gr H H'){b:Addr}:over H H' b=H' b\/∃ o u,H' b=some (.frz o u)/\over H H' b=some u:=by
 cases q:H b with
 | none=>exact .inl (kC q)
 | some u=>
  rw [fF q]
  rcases g b u (.inl q) with r | ⟨o,r⟩
  ·exact .inl r.symm
  ·exact .inr ⟨o,u,r,rfl⟩
theorem qG {H H':Hp}(g:Gr H H'){b:Addr}{xs:List V}(r:H' b=some (.tup xs)):over H H' b=some (.tup xs):=by
 rcases oF g (b:=b) with e | ⟨o,u,e,_⟩
 ·rw [e];exact r
 ·rw [r] at e;cases e
theorem pZ {H H':Hp}{t:T}{x:Option V}{Γ Δ:Fm}(h:Rp K H Γ)(q:Rp K H' ((t,x)::(Δ++[(.kp H,some .non)])))(n:bV t=true):Gr H H'/\Rp K (over H H') ((t,x)::Γ):=by
 obtain⟨Hy,N',q,nd',g',d'⟩:=q
 cases q with
 | @cons _ _ L M _ _ e h1 c=>
  have hkp:Gr H Hy:=by
   obtain⟨_,_,_,_,c2⟩:=c.split
   cases c2 with
   | cons _ h2 _=>
    rcases h2 with⟨z,_⟩ | ⟨_,_,h2⟩
    ·cases z
    ·cases h2 with
     | kp z=>exact z
  have gr:=hkp.trans g'
  refine⟨gr,?_⟩
  subst e
  have nd2:=Ks.mp nd'
  have hL:∀ b∈L,H b=none:=fun b m=>hkp.none (d' b (E_ _ m))
  obtain⟨Hz,N,h,nd,g,d⟩:=h
  have so:=xh H H'
  have tk:TK H' (over H H'):=fun b xs r=>qG gr r
  have h1':nr K Hz (over H H') t x L:=by
   rcases h1 with⟨rfl,rfl⟩ | ⟨v,rfl,h1⟩
   ·exact .inl ⟨rfl,rfl⟩
   ·refine .inr ⟨v,rfl,h1.FJ tk n fun b m u e=>?_⟩
    have eo:=kC (H':=H') (hL b m)
    exact⟨eo.trans e,fun nt xs r=>nt xs (by rw [<-eo];exact r)⟩
  refine⟨Hz,L++N,.cons rfl h1' (h.move (aO.tk so) .bX fun b m u e=>fE so b u e),?_,g.trans (.of so),?_⟩
  ·rw [Ks]
   refine⟨nd2.1,nd,fun b m b' m' z=>?_⟩
   subst z
   obtain⟨⟨u,e⟩,_⟩:=h.there b m'
   rw [hL b m] at e;cases e
  ·intro b m
   rcases G_.mp m with m | m
   ·exact g.none (hL b m)
   ·exact d b m
theorem Ax:∀ {ts:List T} {vs:List V} {i:Nat} {t:T},ts.length=vs.length->ts[i]?=some t->∃ w,vs[i]?=some w
 | ts,vs,i,t,l,e=>by
  have h:i < ts.length:=(e_.mp e).1
  exact⟨vs[i]'(by omega),a_ (by omega)⟩
theorem js {α:Type}:∀ {l:List α} {i:Nat} {x y:α},l[i]?=some y->(l.set i x).set i y=l
 | [],i,x,y,e=>by simp at e
 | a::l,0,x,y,e=>by simp at e;subst e;rfl
 | a::l,i + 1,x,y,e=>by
  simp only [Kv] at e
  rw [L_,L_,js e]
end
end PL
namespace PL
open PySem L2
theorem lC {α β:Type}:∀ {l:List α} {m:List β} {i:Nat} {a:α} {b:β} (t:α) (y:β),l[i]?=some a->m[i]?=some b->((a,b)::(l.set i t).zip (m.set i y)).Perm ((t,y)::l.zip m)
 | [],m,i,a,b,t,y,h,_=>by simp at h
 | x::l,[],i,a,b,t,y,_,h=>by simp at h
 | x::l,z::m,0,a,b,t,y,h,g=>by
  simp only [KZ,Mi] at h g
  subst h;subst g
  exact .swap _ _ _
 | x::l,z::m,i + 1,a,b,t,y,h,g=>by
  simp only [Kv] at h g
  have p:=lC t y h g
  show Nr ((a,b)::(x,z)::(l.set i t).zip (m.set i y)) ((t,y)::(x,z)::l.zip m)
  exact (MJ _ _ _).trans ((p.cons _).trans (.swap _ _ _))
theorem set_same {α:Type}{l:List α}{i:Nat}{x:α}(h:l[i]?=some x):l.set i x=l:=by
 have:=js (x:=x) h
 rw [Mr] at this
 exact this
section
variable {K:PySem.W.Frag}
def Rs (K:PySem.W.Frag)(H:Hp)(env:Ev)(σ:St)(Fr:Fm):Prop:=env.length=σ.length/\Rp K H (env.zip σ++Fr)
theorem gE {H:Hp}{x:Option V}{Γ:Fm}(h:Rp K H Γ):Rp K H ((.any,x)::Γ):=by
 obtain⟨Hz,N,h,nd,g,d⟩:=h
 exact⟨Hz,N,.cons (L:=[]) rfl (.inl ⟨rfl,rfl⟩) h,nd,g,d⟩
theorem Rs.perm {H:Hp}{env:Ev}{σ:St}{Fr Gr:Fm}(h:Rs K H env σ Fr)(p:Fr.Perm Gr):Rs K H env σ Gr:=⟨h.1,h.2.perm (p.append_left _)⟩
theorem Rs.drop {H:Hp}{env:Ev}{σ:St}{x:T × Option V}{Fr:Fm}(h:Rs K H env σ (x::Fr)):Rs K H env σ Fr:=⟨h.1,(h.2.perm f_).tail⟩
theorem Rs.head {H:Hp}{env:Ev}{σ:St}{x:T × Option V}{Fr:Fm}(h:Rs K H env σ (x::Fr)):Rp K H (x::(env.zip σ++Fr)):=h.2.perm f_
theorem Rs.of {H:Hp}{env:Ev}{σ:St}{x:T × Option V}{Fr:Fm}(l:env.length=σ.length)(h:Rp K H (x::(env.zip σ++Fr))):Rs K H env σ (x::Fr):=⟨l,h.perm f_.symm⟩
theorem Rs.chg {H H':Hp}{env:Ev}{σ:St}{Δ Δ' Fr:Fm}(h:Rs K H env σ (Δ++Fr))(f:∀ Γ,Rp K H (Δ++Γ)->Rp K H' (Δ'++Γ)):Rs K H' env σ (Δ'++Fr):=by
 refine⟨h.1,?_⟩
 have p:∀ A:Fm,(A++(env.zip σ++Fr)).Perm (env.zip σ++(A++Fr)):=fun A=>by
  rw [<-gV,<-gV]
  exact J'.append_right _
 exact (f _ (h.2.perm (p Δ).symm)).perm (p Δ')
theorem Rs.slot {H:Hp}{env:Ev}{σ:St}{Fr:Fm}{i:Nat}{t:T}(h:Rs K H env σ Fr)(e:env[i]?=some t):∃ x,σ[i]?=some x/\Rs K H (env.set i .any) σ ((t,x)::Fr):=by
 have hi:i < env.length:=(e_.mp e).1
 have hs:i < σ.length:=by rw [<-h.1];exact hi
 have ex:σ[i]?=some σ[i]:=a_ hs
 refine⟨σ[i],ex,by rw [I_];exact h.1,?_⟩
 have p:=lC (T.any) σ[i] e ex
 rw [set_same ex] at p
 refine (gE (x:=σ[i]) h.2).perm ?_
 refine s_ ?_ f_.symm
 exact (p.symm.append_right Fr)
theorem Rs.iG {H:Hp}{env:Ev}{σ:St}{Fr:Fm}{i:Nat}{t:T}{x:Option V}(h:Rs K H env σ ((t,x)::Fr))(hi:i < env.length)(ex:σ[i]?=some x):Rs K H (env.set i t) σ Fr:=by
 have e:env[i]?=some env[i]:=a_ hi
 refine⟨by rw [I_];exact h.1,?_⟩
 have p:=lC t x e ex
 rw [set_same ex] at p
 refine Rp.tail (x:=(env[i],x)) (h.2.perm ?_)
 refine f_.trans ?_
 exact (p.symm.append_right Fr)
theorem Rs.store {H:Hp}{env:Ev}{σ:St}{Fr:Fm}{i:Nat}{t:T}{v:V}(h:Rs K H env σ ((t,some v)::Fr))(hi:i < env.length):Rs K H (env.set i t) (σ.set i (some v)) Fr:=by
 have e:env[i]?=some env[i]:=a_ hi
 have hs:i < σ.length:=by rw [<-h.1];exact hi
 have ex:σ[i]?=some σ[i]:=a_ hs
 refine⟨by rw [I_,I_];exact h.1,?_⟩
 have p:=lC t (some v) e ex
 refine Rp.tail (x:=(env[i],σ[i])) (h.2.perm ?_)
 refine f_.trans ?_
 exact (p.symm.append_right Fr)
end
theorem lK {X:Cx}{pins:List (Addr × Obj)}{σ σ':St}{H H':Hp}{s s':Shared}(I:Inv X pins σ H s)(J:Inv X pins σ' H' s')(g:Gr H H'):Inv X pins σ' (over H H') s':=by
 have nn:∀ b,H' b=none->over H H' b=none:=fun b e=>by rw [kC (g.none e)];exact e
 refine⟨J.ok,J.os,J.bare,⟨J.base.keep,J.base.slot,?_,J.base.there,?_,?_,?_⟩,J.loc,J.cell,nn _ J.free,fun x c e=>nn _ (J.freeC x c e),fun p hp=>?_,?_,J.len⟩
 ·exact fun b o e1 e2 e3=>nn _ (J.base.free b o e1 e2 e3)
 ·exact fun b xs e=>fF (I.base.tups b xs e)
 ·exact fun b o u e=>fF (I.base.frzs b o u e)
 ·exact fun b ps e=>by
   obtain⟨m,em⟩:=I.base.tbls b ps e
   exact⟨m,fF em⟩
 ·obtain⟨h1,h2,h3⟩:=J.pin p hp
  exact⟨h1,nn _ h2,h3⟩
 ·intro b u e
  have ho:∀ c y,H' c=some (.own y)->over H H' c=some (.own y):=fun c y q=>by
   rcases oF g (b:=c) with z | ⟨o,w,z,_⟩
   ·rw [z];exact q
   ·rw [q] at z;cases z
  have ht:∀ c xs,H' c=some (.tup xs)->over H H' c=some (.tup xs):=fun c xs q=>qG g q
  have key:bu X.prog X.w H' s'.heap b u:=by
   rcases oF g (b:=b) with z | ⟨o,w,z,zw⟩
   ·rw [z] at e;exact J.hok b u e
   ·rw [zw] at e
    cases e
    exact (J.hok b _ z).2
  exact key.i5 (fun c v _ q=>q) (fun c=>ho c b) ht
theorem CG {X:Cx}{e:Expr}{t:TE}(h:PE X e t):PE X e (fun σ H Q=>t σ H fun v H'=>Gr H H'/\Q v (over H H')):=fun pins s σ H Q I q=>
 thn (h pins s σ H _ I q) fun u s' ⟨v,H',I',r,g,q'⟩=>⟨v,over H H',lK I I' g,r,q'⟩
theorem AQ {X:Cx}{e:Expr}{t:TT}(h:PT X e t):PT X e (fun σ H Q=>t σ H fun b H'=>Gr H H'/\Q b (over H H')):=fun pins s σ H Q I q=>
 thn (h pins s σ H _ I q) fun b s' ⟨H',I',g,q'⟩=>⟨over H H',lK I I' g,q'⟩
abbrev PF:=Ev->(T->Ev->Prop)->Prop
abbrev PB:=Ev->(Bool->Ev->Prop)->Prop
abbrev PFs:=Ev->(List T->Ev->Prop)->Prop
def wE (K:PySem.W.Frag)(f:PF):TE:=fun σ H Q=>∃ env Fr k,Rs K H env σ Fr/\f env k/\∀ t env' v H',k t env'->Rs K H' env' σ ((t,some v)::Fr)->Q v H'
def wB (K:PySem.W.Frag)(f:PB):TT:=fun σ H Q=>∃ env Fr k,Rs K H env σ Fr/\f env k/\∀ b env' H',k b env'->Rs K H' env' σ Fr->Q b H'
def wA (K:PySem.W.Frag)(f:PFs):TA:=fun σ H Q=>∃ env Fr k,Rs K H env σ Fr/\f env k/\∀ ts env' vs H',k ts env'->ts.length=vs.length->Rs K H' env' σ (zz ts vs++Fr)->Q vs H'
def GE (X:Cx)(e:Expr)(f:PF):Prop:=PE X e (wE X.K f)
def GT (X:Cx)(e:Expr)(f:PB):Prop:=PT X e (wB X.K f)
def GW (X:Cx)(e:Expr)(f:PB):Prop:=PW X e (wB X.K f)
def GA (X:Cx)(es:List Expr)(f:PFs):Prop:=PA X es (wA X.K f)
theorem PE.imp {X:Cx}{e:Expr}{t t':TE}(h:PE X e t)(k:∀ σ H Q,t' σ H Q->t σ H Q):PE X e t':=fun pins s σ H Q I q=>h pins s σ H Q I (k _ _ _ q)
theorem PT.imp {X:Cx}{e:Expr}{t t':TT}(h:PT X e t)(k:∀ σ H Q,t' σ H Q->t σ H Q):PT X e t':=fun pins s σ H Q I q=>h pins s σ H Q I (k _ _ _ q)
theorem PW.imp {X:Cx}{e:Expr}{t t':TT}(h:PW X e t)(k:∀ σ H Q,t' σ H Q->t σ H Q):PW X e t':=fun wh pins s σ H Q I q=>h wh pins s σ H Q I (k _ _ _ q)
theorem PA.imp {X:Cx}{es:List Expr}{t t':TA}(h:PA X es t)(k:∀ σ H Q,t' σ H Q->t σ H Q):PA X es t':=fun pos pins s σ H Q I q=>h pos pins s σ H Q I (k _ _ _ q)
def fQ (f:PF):PF:=fun env k=>f (erL env) fun t _=>bV t=true/\k t env
def fQT (f:PB):PB:=fun env k=>f (erL env) fun b _=>k b env
theorem lA:∀ (env:Ev) (σ:St),(env.zip σ).map (fun p=>(er p.1,p.2))=(erL env).zip σ
 | [],σ=>by simp [erL]
 | t::env,[]=>by simp
 | t::env,x::σ=>by
  rw [erL,Kx,f',Kx,lA env σ]
theorem aV {X:Cx}{e:Expr}{f:PF}(h:GE X e f):GE X e (fQ f):=by
 refine PE.imp (CG h) ?_
 rintro σ H Q ⟨env,Fr,k,rs,q,c⟩
 have rv:Rs X.K H (erL env) σ ((Fr.map fun p=>(er p.1,p.2))++[(.kp H,some .non)]):=by
  refine⟨by rw [qi];exact rs.1,?_⟩
  have:=pJ rs.2
  rw [l_,lA,gV] at this
  exact this
 refine⟨erL env,_,_,rv,q,?_⟩
 rintro t env' v H' ⟨n,kt⟩ rs'
 obtain⟨g,r2⟩:=pZ rs.2 (Δ:=env'.zip σ++(Fr.map fun p=>(er p.1,p.2))) (by rw [gV];exact rs'.head) n
 exact⟨g,c t env v _ kt (.of rs.1 r2)⟩
theorem Ac {K:PySem.W.Frag}{H H':Hp}{Γ Δ:Fm}(h:Rp K H Γ)(q:Rp K H' (Δ++[(.kp H,some .non)])):Gr H H'/\Rp K (over H H') Γ:=by
 obtain⟨g,r⟩:=pZ (t:=.any) (x:=none) h (gE q) rfl
 exact⟨g,r.tail⟩
theorem fT {X:Cx}{e:Expr}{f:PB}(h:GT X e f):GT X e (fQT f):=by
 refine PT.imp (AQ h) ?_
 rintro σ H Q ⟨env,Fr,k,rs,q,c⟩
 have rv:Rs X.K H (erL env) σ ((Fr.map fun p=>(er p.1,p.2))++[(.kp H,some .non)]):=by
  refine⟨by rw [qi];exact rs.1,?_⟩
  have:=pJ rs.2
  rw [l_,lA,gV] at this
  exact this
 refine⟨erL env,_,_,rv,q,?_⟩
 rintro b env' H' kt rs'
 obtain⟨g,r2⟩:=Ac rs.2 (Δ:=env'.zip σ++(Fr.map fun p=>(er p.1,p.2))) (by rw [gV];exact rs'.2)
 exact⟨g,c b env _ kt ⟨rs.1,r2⟩⟩
def fK (t:T):PF:=fun env k=>k t env
section
variable {X:Cx}{pos:Pos}
theorem me {K:PySem.W.Frag}{H:Hp}{env:Ev}{σ:St}{Fr:Fm}{t:T}{v:V}(h:Rs K H env σ Fr)(r:∀ Hz,RepT K Hz H t v []):Rs K H env σ ((t,some v)::Fr):=by
 refine .of h.1 ?_
 obtain⟨Hz,N,q,nd,g,d⟩:=h.2
 exact⟨Hz,N,.cons (L:=[]) rfl (.inr ⟨v,rfl,r Hz⟩) q,nd,g,d⟩
theorem ge_int {i:Int}{j:Nat}:GE X (.Constant (.int i) j pos) (fK (.int i)):=PE.imp cM fun σ H Q ⟨env,Fr,k,rs,q,c⟩=>c _ _ _ _ q (me rs fun _=>.int)
theorem fY {b:Bool}{j:Nat}:GE X (.Constant (.bool b) j pos) (fK (.bl b)):=PE.imp yd fun σ H Q ⟨env,Fr,k,rs,q,c⟩=>c _ _ _ _ q (me rs fun _=>.bl)
theorem lU {j:Nat}:GE X (.Constant .none j pos) (fK .non):=PE.imp EG fun σ H Q ⟨env,Fr,k,rs,q,c⟩=>c _ _ _ _ q (me rs fun _=>.non)
theorem AY {x:Str}{t:T}{v:V}{u:Value}(hg:Gl X x)(hm:X.mg x=some u)(r:RelV v u)(ht:∀ Hz H,RepT X.K Hz H t v [])(hd:(x == ("__debug__":Str))=false:=by decide):GE X (.Name x pos) (fK t):=
 PE.imp (Ci hg hm r hd) fun σ H Q ⟨env,Fr,k,rs,q,c⟩=>c _ _ _ _ q (me rs fun Hz=>ht Hz H)
def isAny:T->Bool
 | .any=>true
 | _=>false
def C3 (i:Nat):PF:=fun env k=>match env[i]? with
 | some t=>isAny t=false/\aG t=true/\k t env
 | none=>False
def fFz (i:Nat):PF:=fun env k=>match env[i]? with
 | some t=>isAny t=false/\k (er t) (env.set i (er t))
 | none=>False
def fMv (i:Nat):PF:=fun env k=>match env[i]? with
 | some t=>isAny t=false/\k t (env.set i .any)
 | none=>False
theorem dY {K:PySem.W.Frag}{H:Hp}{env:Ev}{σ:St}{Fr:Fm}{t:T}{x:Option V}(h:Rs K H env σ ((t,x)::Fr))(n:isAny t=false):∃ v,x=some v:=by
 obtain⟨Hz,N,q,_⟩:=h.head
 cases q with
 | cons e h c=>
  rcases h with⟨rfl,_⟩ | ⟨v,e,_⟩
  ·cases n
  ·exact⟨v,e⟩
theorem ab (i:Nat){x:Str}(hN:X.N[i]?=some x:=by rfl)(hv:Vis X.env.scope x:=by first | exact p_ rfl | exact D_ (p_ rfl) | exact D_ (D_ rfl))(hd:(x == ("__debug__":Str))=false:=by decide)(hcd:(x == ("__classdict__":Str))=false:=by decide):GE X (.Name x pos) (C3 i):=by
 refine PE.imp (fO hN hv hd hcd) ?_
 rintro σ H Q ⟨env,Fr,k,rs,q,c⟩
 unfold C3 at q
 split at q
 ·rename_i t e
  obtain⟨na,no,q⟩:=q
  obtain⟨y,ey,rs2⟩:=rs.slot e
  obtain⟨v,rfl⟩:=dY rs2 na
  refine⟨v,ey,c _ _ _ _ q ?_⟩
  have hi:i < env.length:=(e_.mp e).1
  have r3:Rs X.K H (env.set i .any) σ ((t,some v)::(t,some v)::Fr):=.of rs2.1 ((mP rs2.head no).perm (by
   refine MK _ ?_
   exact f_.symm))
  have r4:=Rs.iG (i:=i) r3 (by rw [I_];exact hi) ey
  rw [js e] at r4
  exact r4
 ·exact q.elim
theorem cP (i:Nat){x:Str}(hN:X.N[i]?=some x:=by rfl)(hv:Vis X.env.scope x:=by first | exact p_ rfl | exact D_ (p_ rfl) | exact D_ (D_ rfl))(hd:(x == ("__debug__":Str))=false:=by decide)(hcd:(x == ("__classdict__":Str))=false:=by decide):GE X (.Name x pos) (fFz i):=by
 refine PE.imp (fO hN hv hd hcd) ?_
 rintro σ H Q ⟨env,Fr,k,rs,q,c⟩
 unfold fFz at q
 split at q
 ·rename_i t e
  obtain⟨na,q⟩:=q
  obtain⟨y,ey,rs2⟩:=rs.slot e
  obtain⟨v,rfl⟩:=dY rs2 na
  refine⟨v,ey,c _ _ _ _ q ?_⟩
  have hi:i < env.length:=(e_.mp e).1
  have no:aG (er t)=true:=fA t
  have r3:Rs X.K H (env.set i .any) σ ((er t,some v)::(er t,some v)::Fr):=.of rs2.1 ((mP (yk rs2.head) no).perm (by
   refine MK _ ?_
   exact f_.symm))
  have r4:=Rs.iG (i:=i) r3 (by rw [I_];exact hi) ey
  rw [Mr] at r4
  exact r4
 ·exact q.elim
theorem nV (i:Nat){x:Str}(hN:X.N[i]?=some x:=by rfl)(hv:Vis X.env.scope x:=by first | exact p_ rfl | exact D_ (p_ rfl) | exact D_ (D_ rfl))(hd:(x == ("__debug__":Str))=false:=by decide)(hcd:(x == ("__classdict__":Str))=false:=by decide):GE X (.Name x pos) (fMv i):=by
 refine PE.imp (fO hN hv hd hcd) ?_
 rintro σ H Q ⟨env,Fr,k,rs,q,c⟩
 unfold fMv at q
 split at q
 ·rename_i t e
  obtain⟨na,q⟩:=q
  obtain⟨y,ey,rs2⟩:=rs.slot e
  obtain⟨v,rfl⟩:=dY rs2 na
  exact⟨v,ey,c _ _ _ _ q rs2⟩
 ·exact q.elim
end
end PL
namespace PL
open PySem L2
section
variable {K:PySem.W.Frag}{H:Hp}{Γ:Fm}
theorem gJ {t:T}{y:V}(h:Rp K H ((t,some y)::Γ))(n:isAny t=false):∃ Hz L,RepT K Hz H t y L/\Gr Hz H:=by
 obtain⟨Hz,N,h,nd,g,d⟩:=h
 cases h with
 | cons e h c=>
  rcases h with⟨rfl,_⟩ | ⟨v,e2,h⟩
  ·cases n
  ·cases e2
   exact⟨Hz,_,h,g⟩
theorem aB {i:Int}{y:V}(h:Rp K H ((.int i,some y)::Γ)):y=.int i:=by
 obtain⟨_,_,r,_⟩:=gJ h rfl
 cases r;rfl
theorem ug {i:Bool}{y:V}(h:Rp K H ((.bl i,some y)::Γ)):y=.bl i:=by
 obtain⟨_,_,r,_⟩:=gJ h rfl
 cases r;rfl
theorem eZ {i:Str}{y:V}(h:Rp K H ((.str i,some y)::Γ)):y=.str i:=by
 obtain⟨_,_,r,_⟩:=gJ h rfl
 cases r;rfl
theorem yh {y:V}(h:Rp K H ((.non,some y)::Γ)):y=.non:=by
 obtain⟨_,_,r,_⟩:=gJ h rfl
 cases r;rfl
theorem bS {t:T}{v:V}(h:Rp K H Γ)(r:∀ Hz,RepT K Hz H t v []):Rp K H ((t,some v)::Γ):=by
 obtain⟨Hz,N,q,nd,g,d⟩:=h
 exact⟨Hz,N,.cons (L:=[]) rfl (.inr ⟨v,rfl,r Hz⟩) q,nd,g,d⟩
def items:T->Option (List T)
 | .tup ts=>some ts
 | .cst ts=>some ts
 | .lst _ ts=>some ts
 | _=>none
def mM:T->Bool
 | .tup _=>true
 | .cst _=>true
 | _=>false
theorem uj {a:Addr}{vs:List V}(h:SqT K (fun _=>none) a vs)(H:Hp):SqT K H a vs:=by
 rcases h with (h | ⟨_,h⟩) | h
 ·cases h
 ·cases h
 ·exact .inr h
theorem aH {t:T}{ts:List T}{y:V}(e:items t=some ts)(h:Rp K H ((t,some y)::Γ)):∃ a vs,y=.ref a/\SqG (mM t) K H a vs/\ts.length=vs.length/\Rp K H (zz ts vs++Γ):=by
 obtain⟨Hz,N,h,nd,g,d⟩:=h
 cases h with
 | cons e1 h c=>
  rcases h with⟨rfl,_⟩ | ⟨v,e2,h⟩
  ·cases e
  ·cases e2
   cases h <;> cases e
   ·rename_i a vs h c1
    exact⟨a,vs,rfl,SqT.of h,c1.len,Hz,_,c1.toL.app c,by rw [<-e1];exact nd,g,fun b m=>d b (by rw [e1];exact m)⟩
   ·rename_i a vs h c1
    exact⟨a,vs,rfl,uj h H,c1.len,Hz,_,c1.toL.app c,by rw [<-e1];exact nd,g,fun b m=>d b (by rw [e1];exact m)⟩
   ·rename_i a vs L h c1
    rw [e1,JH,H_] at nd
    exact⟨a,vs,rfl,SqL.of h,c1.len,Hz,_,c1.toL.app c,nd.2,g,fun b m=>d b (by rw [e1,JH];exact o_ _ m)⟩
   ·rename_i a vs h c1
    exact⟨a,vs,rfl,.inl (g _ _ h),c1.len,Hz,_,c1.toL.app c,by rw [<-e1];exact nd,g,fun b m=>d b (by rw [e1];exact m)⟩
theorem pj:∀ {ts:List T} {vs:List V} {i:Nat} {t:T} {w:V},ts[i]?=some t->vs[i]?=some w->∃ r,(zz ts vs).Perm ((t,some w)::r)
 | [],vs,i,t,w,e,f=>by simp at e
 | t::ts,[],i,_,w,e,f=>by simp at f
 | t::ts,v::vs,0,u,w,e,f=>by
  simp only [KZ,Mi] at e f
  subst e;subst f
  exact⟨_,.refl _⟩
 | t::ts,v::vs,i + 1,u,w,e,f=>by
  simp only [Kv] at e f
  obtain⟨r,h⟩:=pj (ts:=ts) (vs:=vs) e f
  exact⟨(t,some v)::r,(h.cons _).trans (.swap _ _ _)⟩
theorem gZ {ts:List T}{vs:List V}{i:Nat}{t:T}{w:V}(h:Rp K H (zz ts vs++Γ))(e:ts[i]?=some t)(f:vs[i]?=some w):Rp K H ((t,some w)::Γ):=by
 obtain⟨r,p⟩:=pj e f
 refine Rp.part (Γ:=r) (h.perm ?_)
 refine (p.append_right Γ).trans ?_
 exact f_.symm
theorem yQ {ts:List T}{vs:List V}{i:Int}{t:T}(l:ts.length=vs.length)(e:atI ts i=some t)(h:Rp K H (zz ts vs++Γ)):∃ w,atI vs i=some w/\Rp K H ((t,some w)::Γ):=by
 unfold atI at e ⊢
 rw [l] at e
 cases q:ixN vs.length i with
 | none=>rw [q] at e;cases e
 | some j=>
  rw [q] at e
  have e:ts[j]?=some t:=e
  obtain⟨w,f⟩:=Ax l e
  exact⟨w,f,gZ h e f⟩
end
def got {α:Type}(o:Option α)(k:α->Prop):Prop:=match o with
 | some u=>k u
 | none=>False
theorem sZ {α:Type}{o:Option α}{u:α}{k:α->Prop}(e:o=some u)(h:k u):got o k:=by rw [e];exact h
theorem az {α:Type}{o:Option α}{k:α->Prop}(h:got o k):∃ u,o=some u/\k u:=by
 cases o with
 | none=>exact h.elim
 | some u=>exact⟨u,rfl,h⟩
def cnd (b:Bool)(A B:Prop):Prop:=(b=true->A)/\(b=false->B)
theorem Ic {A B:Prop}(h:A):cnd true A B:=⟨fun _=>h,fun e=>by cases e⟩
theorem HA {A B:Prop}(h:B):cnd false A B:=⟨fun e=>(by cases e),fun _=>h⟩
theorem jz {b:Bool}{A B:Prop}(h:cnd b A B):if b=true then A else B:=by
 cases b with
 | true=>rw [if_pos rfl];exact h.1 rfl
 | false=>rw [if_neg (by decide)];exact h.2 rfl
abbrev P2:=T->T->(T->Prop)->Prop
def w2 (K:PySem.W.Frag)(g:P2):R2:=fun x y H Q=>∃ tx ty Γ k,Rp K H ((ty,some y)::(tx,some x)::Γ)/\g tx ty k/\∀ t v H',k t->Rp K H' ((t,some v)::Γ)->Q v H'
def OpP (X:Cx)(f:Value->Value->Sem Value)(g:P2):Prop:=OpR X f (w2 X.K g)
theorem OpP.of {X:Cx}{f:Value->Value->Sem Value}{g:P2}{r:R2}(h:OpR X f r)(k:∀ tx ty x y H Γ (k:T->Prop) (Q:VK),Rp X.K H ((ty,some y)::(tx,some x)::Γ)->g tx ty k->(∀ t v H',k t->Rp X.K H' ((t,some v)::Γ)->Q v H')->r x y H Q):OpP X f g:=
 fun pins s σ H x y v u Q I rx ry ⟨tx,ty,Γ,kk,rp,g,c⟩=>h pins s σ H x y v u Q I rx ry (k tx ty x y H Γ kk Q rp g c)
def xI (g:P2)(a b:PF):PF:=fun env k=>a env fun x env1=>b env1 fun y env2=>g x y fun t=>k t env2
theorem uN {X:Cx}{g:P2}{fa fb:PF}:∀ σ H Q,wE X.K (xI g fa fb) σ H Q->tOp (w2 X.K g) (wE X.K fa) (wE X.K fb) σ H Q:=by
 rintro σ H Q ⟨env,Fr,k,rs,q,c⟩
 refine⟨env,Fr,_,rs,q,fun tx env1 x H1 q1 rs1=>⟨env1,_,_,rs1,q1,fun ty env2 y H2 q2 rs2=>?_⟩⟩
 refine⟨tx,ty,env2.zip σ++Fr,_,?_,q2,fun t v H' kt rp=>c _ _ _ _ kt (.of rs2.1 rp)⟩
 exact rs2.head.perm (.cons _ f_)
section
variable {X:Cx}{a b c d:Expr}{fa fb fc fd:PF}{pos:Pos}
theorem aj {op:Operator}{g:P2}(ho:OpP X (binaryOp op) g)(ha:GE X a fa)(hb:GE X b fb):GE X (.BinOp a op b pos) (xI g fa fb):=PE.imp (de ho ha hb) uN
theorem Gj {op:CmpOp}{g:P2}(ho:OpP X (compareOp op) g)(ha:GE X a fa)(hb:GE X b fb)(hm:behindInMarks op b=false):GE X (.Compare a [op] [b] pos) (xI g fa fb):=PE.imp (pQ ho ha hb hm) uN
def Ed (f:PF):PB:=fun env k=>f env fun t env'=>match t with
 | .bl b=>k b env'
 | _=>False
theorem Ep {K:PySem.W.Frag}{f:PF}:∀ σ H Q,wB K (Ed f) σ H Q->Dh (wE K f) σ H Q:=by
 rintro σ H Q ⟨env,Fr,k,rs,q,c⟩
 refine⟨env,Fr,_,rs,q,fun t env' v H' q1 rs1=>?_⟩
 cases t <;> first | exact q1.elim | skip
 rename_i b
 exact⟨b,ug rs1.head,c _ _ _ q1 rs1.drop⟩
theorem bF {op:CmpOp}{g:P2}(ho:OpP X (compareOp op) g)(ha:GE X a fa)(hb:GE X b fb)(hm:behindInMarks op b=false):GT X (.Compare a [op] [b] pos) (Ed (xI g fa fb)):=by
 refine PT.imp (hE ho ha hb hm) fun σ H Q h=>?_
 obtain⟨env,Fr,k,rs,q,c⟩:=Ep σ H Q h
 exact uN σ H _ ⟨env,Fr,k,rs,q,c⟩
def Cp:T->(Bool->Prop)->Prop
 | .non,k=>k false
 | .bl b,k=>k b
 | .int i,k=>k (i != 0)
 | .str x,k=>x.length<=sizeLine/\k ((x.length:Int) != 0)
 | .tup ts,k=>k (!ts.isEmpty)
 | .cst ts,k=>k (!ts.isEmpty)
 | .lst _ ts,k=>k (!ts.isEmpty)
 | _,_=>False
def Hd (f:PF):PB:=fun env k=>f env fun t env'=>Cp t fun b=>k b env'
theorem qt {α β:Type}{l:List α}{m:List β}(h:l.length=m.length):l.isEmpty=m.isEmpty:=by
 cases l <;> cases m <;> first | rfl | simp at h
theorem mY (ha:GE X a fa)(he:∀ whole,isTrue a X.env whole=(do let v <-whole;standAt a.pos;holding [v] (truthy v)):=by intro _;rfl):GT X a (Hd fa):=by
 refine PT.imp (y6 ha he) ?_
 rintro σ H Q ⟨env,Fr,k,rs,q,c⟩
 refine⟨env,Fr,_,rs,q,fun t env' v H' q1 rs1=>?_⟩
 have fin:∀ b,k b env'->Q b H':=fun b kb=>c _ _ _ kb rs1.drop
 have sq:∀ ts b,items t=some ts->b=(!ts.isEmpty)->k b env'->∃ b,EC X.K v H' b/\Q b H':=fun ts b e eb kb=>by
  obtain⟨a,vs,rfl,hq,l,_⟩:=aH e rs1.head
  refine⟨b,?_,fin b kb⟩
  rw [qt l] at eb
  revert hq
  cases mM t with
  | true=>exact fun hq=>.inr (.inl ⟨vs,hq,eb⟩)
  | false=>exact fun hq=>.inl ⟨vs,hq,eb⟩
 cases t with
 | non=>rw [yh rs1.head];exact⟨_,rfl,fin _ q1⟩
 | bl b=>rw [ug rs1.head];exact⟨_,rfl,fin _ q1⟩
 | int i=>rw [aB rs1.head];exact⟨_,rfl,fin _ q1⟩
 | str x=>rw [eZ rs1.head];exact⟨_,⟨q1.1,rfl⟩,fin _ q1.2⟩
 | tup ts=>exact sq _ _ rfl rfl q1
 | cst ts=>exact sq _ _ rfl rfl q1
 | lst o ts=>exact sq _ _ rfl rfl q1
 | _=>exact q1.elim
def DS (ta tb:PB):PB:=fun env k=>ta env fun b env1=>cnd b (tb env1 k) (k false env1)
def De (ta:PB):PB:=fun env k=>ta env fun b env1=>k (!b) env1
variable {ta tb:PB}{rest:List Expr}
theorem pg (ha:GT X a ta):GW X (.BoolOp .And [a] pos) ta:=B3 ha
theorem nj (ha:GT X a ta)(hb:GW X (.BoolOp .And (b::rest) pos) tb):GW X (.BoolOp .And (a::b::rest) pos) (DS ta tb):=by
 refine PW.imp (EH ha hb) ?_
 rintro σ H Q ⟨env,Fr,k,rs,q,c⟩
 refine⟨env,Fr,_,rs,q,fun b env' H' q1 rs1=>jz ⟨fun e=>?_,fun e=>?_⟩⟩
 ·exact⟨env',Fr,k,rs1,q1.1 e,c⟩
 ·exact c _ _ _ (q1.2 e) rs1
theorem Gf {f:PB}(h:GW X a f):GT X a f:=PW.pt h
theorem FI (ha:GT X a ta):GT X (.UnaryOp .Not a pos) (De ta):=by
 refine PT.imp (F1 ha) ?_
 rintro σ H Q ⟨env,Fr,k,rs,q,c⟩
 exact⟨env,Fr,_,rs,q,fun b env' H' q1 rs1=>c _ _ _ q1 rs1⟩
def fIf (tc:PB)(fa fb:PF):PF:=fun env k=>tc env fun b env1=>cnd b (fa env1 k) (fb env1 k)
theorem ge_if (hc:GT X c ta)(ha:GE X a fa)(hb:GE X b fb):GE X (.IfExp c a b pos) (fIf ta fa fb):=by
 refine PE.imp (yP hc ha hb) ?_
 rintro σ H Q ⟨env,Fr,k,rs,q,c⟩
 refine⟨env,Fr,_,rs,q,fun b env' H' q1 rs1=>jz ⟨fun e=>?_,fun e=>?_⟩⟩
 ·exact⟨env',Fr,k,rs1,q1.1 e,c⟩
 ·exact⟨env',Fr,k,rs1,q1.2 e,c⟩
def Hc:PFs:=fun env k=>k [] env
def DB (f:PF)(r:PFs):PFs:=fun env k=>f env fun t env1=>r env1 fun ts env2=>k (t::ts) env2
variable {es:List Expr}{fr:PFs}
theorem ag:GA X [] Hc:=PA.imp bC fun σ H Q ⟨env,Fr,k,rs,q,c⟩=>c [] env [] H q rfl rs
theorem ae (ha:GE X a fa)(hr:GA X es fr)(hs:starEach (a::es) X.env=(false,eval a X.env)::starEach es X.env:=by rfl):GA X (a::es) (DB fa fr):=by
 refine PA.imp (av ha hr hs) ?_
 rintro σ H Q ⟨env,Fr,k,rs,q,c⟩
 refine⟨env,Fr,_,rs,q,fun t env1 v H1 q1 rs1=>⟨env1,_,_,rs1,q1,fun ts env2 vs H2 q2 l rs2=>c _ _ _ _ q2 (by rw [h_,h_,l]) ?_⟩⟩
 exact rs2.perm f_
def IT (fr:PFs):PF:=fun env k=>fr env fun ts env1=>ts.length<=sizeLine/\k (.tup ts) env1
def Hv (fr:PFs):PF:=fun env k=>fr env fun ts env1=>ts.length<=sizeLine/\k (.lst true ts) env1
theorem bB {x1}(h:GA X es fr):GE X (.Tuple es x1 pos) (IT fr):=by
 refine PE.imp (BO h) ?_
 rintro σ H Q ⟨env,Fr,k,rs,q,c⟩
 refine⟨env,Fr,_,rs,q,fun ts env1 vs H1 ⟨z,q1⟩ l rs1=>⟨by rw [<-l];exact z,fun p H2 hp g e=>c _ _ _ _ q1 ?_⟩⟩
 exact Rs.chg (Δ:=zz ts vs) (Δ':=[(.tup ts,some (.ref p))]) rs1 fun Γ r=>gG r l g e
theorem d3 (h:GA X es fr):GE X (.List es pos) (Hv fr):=by
 refine PE.imp (Cj h) ?_
 rintro σ H Q ⟨env,Fr,k,rs,q,c⟩
 refine⟨env,Fr,_,rs,q,fun ts env1 vs H1 ⟨z,q1⟩ l rs1=>⟨by rw [<-l];exact z,fun p H2 hp g e=>c _ _ _ _ q1 ?_⟩⟩
 exact Rs.chg (Δ:=zz ts vs) (Δ':=[(.lst true ts,some (.ref p))]) rs1 fun Γ r=>fN r l hp g e
end
end PL
namespace PL
open PySem PySem.Spec PyProof.Rows L2
mutual
def dt:T->Dt
 | .int i=>.int i
 | .bl b=>.bl b
 | .str x=>.str x
 | .tup ts=>.tup (dtL ts)
 | .cst ts=>.tup (dtL ts)
 | .lst _ ts=>.lst (dtL ts)
 | _=>.non
def dtL:List T->List Dt
 | []=>[]
 | t::r=>dt t::dtL r
end
mutual
def isD:T->Bool
 | .tup ts=>cU ts
 | .cst ts=>cU ts
 | .lst _ ts=>cU ts
 | .int _=>true
 | .bl _=>true
 | .str _=>true
 | .non=>true
 | _=>false
def cU:List T->Bool
 | []=>true
 | t::r=>isD t && cU r
end
theorem uF {α:Type}(g:α->T):∀ l:List α,dtL (l.map g)=l.map fun x=>dt (g x)
 | []=>rfl
 | x::r=>by rw [f',dtL,uF g r,f']
theorem kA (l:List T):dtL l=l.map dt:=by
 have:=uF (fun x=>x) l
 rw [List.map_id'] at this
 exact this
theorem qK:∀ l:List T,cU l=l.all isD
 | []=>rfl
 | x::r=>by rw [cU,qK r,LK]
section
variable {K:PySem.W.Frag}
theorem uz {Hz H:Hp}(g:Gr Hz H):(∀ {t v L},RepT K Hz H t v L->isD t=true->Has K H (dt t) v)/\(∀ {t v L},RepTs K Hz H t v L->cU t=true->ax K H (dtL t) v)/\(∀ {t v L},RepKs K Hz H t v L->True)/\(∀ {t v L},RepXs K Hz H t v L->True):=
 hX (P:=fun t v L=>isD t=true->Has K H (dt t) v) (Ps:=fun t v L=>cU t=true->ax K H (dtL t) v) (Pk:=fun t v L=>True) (Px:=fun t v L=>True)
  (fun n=>nomatch n) (fun n=>nomatch n) (fun _ _ n=>nomatch n) (fun _ n=>nomatch n) (fun _=>by show Has K H .non .non;rw [Has]) (fun _=>by rw [dt,Has]) (fun _=>by rw [dt,Has]) (fun _=>by rw [dt,Has]) (fun n=>nomatch n)
  (fun h c n=>by rw [dt,Has];exact⟨_,_,rfl,SqT.of h,c (by rw [isD] at n;exact n)⟩) (fun h c n=>by rw [dt,Has];exact⟨_,_,rfl,uj h H,c (by rw [isD] at n;exact n)⟩)
  (fun h c n=>by rw [dt,Has];exact⟨_,_,rfl,SqL.of h,c (by rw [isD] at n;exact n)⟩) (fun h c n=>by rw [dt,Has];exact⟨_,_,rfl,.inl (g _ _ h),c (by rw [isD] at n;exact n)⟩)
  (fun _ _ n=>nomatch n) (fun _ _ n=>nomatch n) (fun _ _ n=>nomatch n) (fun _ _ n=>nomatch n)
  (fun _=>by rw [dtL];exact iW) (fun i j n=>by
   rw [cU,C_] at n
   rw [dtL]
   exact jW (i n.1) (j n.2)) trivial (fun _ _=>trivial) trivial (fun _ _=>trivial)
theorem RepT.has {Hz H:Hp}(g:Gr Hz H){t:T}{v:V}{L:List Addr}(n:isD t=true)(h:RepT K Hz H t v L):Has K H (dt t) v:=(uz g).1 h n
theorem RepTs.has {Hz H:Hp}(g:Gr Hz H){t:List T}{v:List V}{L:List Addr}(n:cU t=true)(h:RepTs K Hz H t v L):ax K H (dtL t) v:=(uz g).2.1 h n
theorem BS {t:T}(h:isD t=true):isAny t=false:=by cases t <;> first | rfl | cases h
theorem eB {H:Hp}{Γ:Fm}{t:T}{y:V}(h:Rp K H ((t,some y)::Γ))(n:isD t=true):Has K H (dt t) y:=by
 obtain⟨Hz,L,r,g⟩:=gJ h (BS n)
 exact r.has g n
theorem iY {H:Hp}{Γ:Fm}{ts:List T}{vs:List V}(h:Rp K H (zz ts vs++Γ))(l:ts.length=vs.length)(n:cU ts=true):ax K H (dtL ts) vs:=by
 obtain⟨Hz,N,h,nd,g,d⟩:=h
 obtain⟨L,M,_,h1,_⟩:=h.split
 exact (h1.nv l).has g n
end
def E3:P2
 | .int i,.int j,k=>k (.int (i + j))
 | .str x,.str y,k=>x.length + y.length<=sizeLine/\k (.str (x++y))
 | .lst _ ts,.lst _ us,k=>ts.length + us.length<=sizeLine/\k (.lst true (ts++us))
 | .tup ts,.tup us,k=>ts.length + us.length<=sizeLine/\k (.tup (ts++us))
 | _,_,_=>False
def GF:P2
 | .int i,.int j,k=>k (.int (i - j))
 | _,_,_=>False
def GV:P2
 | .int i,.int j,k=>w6 i j/\k (.int (i * j))
 | _,_,_=>False
def Gw:P2
 | .int i,.int j,k=>zq i j/\k (.int (i / j))
 | _,_,_=>False
def Hf:P2
 | .int i,.int j,k=>0 < j/\k (.int (i % j))
 | _,_,_=>False
def E8 (p:Int->Int->Bool):P2
 | .int i,.int j,k=>k (.bl (p i j))
 | _,_,_=>False
def ltT:P2:=E8 fun i j=>decide (i < j)
def leT:P2:=E8 fun i j=>decide (i<=j)
def gtT:P2:=E8 fun i j=>decide (j < i)
def isV:T->Bool
 | .any=>false
 | .hole _=>false
 | .bare=>false
 | .kp _=>false
 | _=>true
def nF:T->Bool
 | .non=>true
 | _=>false
def DH:P2
 | t,.non,k=>isV t=true/\k (.bl (!nF t))
 | _,_,_=>False
def eqT:P2:=fun t u k=>isD t=true/\isD u=true/\dpt (dt t) < 190/\k (.bl (eqD (dt t) (dt u)))
def neT:P2:=fun t u k=>isD t=true/\isD u=true/\dpt (dt t) < 190/\k (.bl (!eqD (dt t) (dt u)))
section
variable {X:Cx}
theorem pD {f:Value->Value->Sem Value}{C:Int->Int->Prop}{r:Int->Int->T}{r':Int->Int->V}(h:OpR X f (rI C r'))(hr:∀ i j K Hz H,RepT K Hz H (r i j) (r' i j) []):OpP X f (fun t u k=>match t,u with | .int i,.int j=>C i j/\k (r i j) | _,_=>False):=by
 refine .of h ?_
 intro tx ty x y H Γ k Q rp g c
 cases tx <;> cases ty <;> first | exact g.elim | skip
 rename_i i j
 rw [aB rp,aB rp.tail]
 exact⟨i,j,rfl,rfl,g.1,c _ _ _ g.2 (bS rp.tail.tail fun Hz=>hr i j _ _ _)⟩
theorem ji {f:Value->Value->Sem Value}{r:Int->Int->T}{r':Int->Int->V}(h:OpR X f (rI0 r'))(hr:∀ i j K Hz H,RepT K Hz H (r i j) (r' i j) []):OpP X f (fun t u k=>match t,u with | .int i,.int j=>k (r i j) | _,_=>False):=by
 refine .of h ?_
 intro tx ty x y H Γ k Q rp g c
 cases tx <;> cases ty <;> first | exact g.elim | skip
 rename_i i j
 rw [aB rp,aB rp.tail]
 exact⟨i,j,rfl,rfl,c _ _ _ g (bS rp.tail.tail fun Hz=>hr i j _ _ _)⟩
theorem OpP.imp {f:Value->Value->Sem Value}{g g':P2}(h:OpP X f g)(k:∀ tx ty k,g' tx ty k->g tx ty k):OpP X f g':=OpR.imp h fun x y H Q ⟨tx,ty,Γ,kk,rp,gg,c⟩=>⟨tx,ty,Γ,kk,rp,k _ _ _ gg,c⟩
theorem Inv.Hi {pins:List (Addr × Obj)}{σ:L2.St}{H:Hp}{s:Shared}{l:Addr}{xs:List V}(I:Inv X pins σ H s)(hH:Rd H l (.lst xs)):xs.length<=sizeLine/\∃ (its:List Value) (n:Nat),Vals xs its/\xs.length=its.length/\s.heap.get? l=some { cls:=.type "list",data:=.seq its.toArray n }:=by
 obtain⟨z,its,n,r,e⟩:=hH.ok I.hok
 exact⟨z,its,n,r,r.length,e⟩
theorem BU:OpR X (binaryOp .Add) (fun x y H Q=>∃ l b xs zs,x=.ref l/\y=.ref b/\Rd H l (.lst xs)/\Rd H b (.lst zs)/\xs.length + zs.length<=sizeLine/\New (.lst (xs++zs)) H Q):=by
 intro pins s σ H x y v u Q I rx ry h
 obtain⟨l,b,xs,zs,rfl,rfl,hH,hB,hz,q⟩:=h
 cases rx
 cases ry
 obtain⟨z,its,n,r,hl,e⟩:=Inv.Hi I hH
 obtain⟨z2,its2,n2,r2,hl2,e2⟩:=Inv.Hi I hB
 refine PySem.P.add_list e e2 ?_ (by rw [n_,n_];lia)
 have ea:its.toArray++its2.toArray=(its++its2).toArray:=by simp
 rw [ea]
 exact⟨.ref _,_,I.Jc (t':=s.toks) (r.append r2) (by rw [g_];omega),rfl,q.at I.fresh⟩
theorem l8 {K:PySem.W.Frag}{H:Hp}{Γ:Fm}{o:Bool}{ts:List T}{y:V}(h:Rp K H ((.lst o ts,some y)::Γ)):∃ a vs,y=.ref a/\Rd H a (.lst vs)/\ts.length=vs.length/\Rp K H (zz ts vs++Γ):=by
 obtain⟨Hz,N,h,nd,g,d⟩:=h
 cases h with
 | cons e1 h c=>
  rcases h with⟨z,_⟩ | ⟨v,e2,h⟩
  ·cases z
  ·cases e2
   cases h
   ·rename_i a vs L h c1
    rw [e1,JH,H_] at nd
    exact⟨a,vs,rfl,.inl h,c1.len,Hz,_,c1.toL.app c,nd.2,g,fun b m=>d b (by rw [e1,JH];exact o_ _ m)⟩
   ·rename_i a vs h c1
    exact⟨a,vs,rfl,g _ _ h,c1.len,Hz,_,c1.toL.app c,by rw [<-e1];exact nd,g,fun b m=>d b (by rw [e1];exact m)⟩
theorem oZ {K:PySem.W.Frag}{H:Hp}{Γ:Fm}{ts:List T}{y:V}(h:Rp K H ((.tup ts,some y)::Γ)):∃ a vs,y=.ref a/\H a=some (.tup vs)/\ts.length=vs.length/\Rp K H (zz ts vs++Γ):=by
 obtain⟨Hz,N,h,nd,g,d⟩:=h
 cases h with
 | cons e1 h c=>
  rcases h with⟨z,_⟩ | ⟨v,e2,h⟩
  ·cases z
  ·cases e2
   cases h with
   | tup h c1=>exact⟨_,_,rfl,h,c1.len,Hz,_,c1.toL.app c,by rw [<-e1];exact nd,g,fun b m=>d b (by rw [e1];exact m)⟩
theorem k7 {ts us:List T}{vs ws:List V}(l:ts.length=vs.length):zz (ts++us) (vs++ws)=zz ts vs++zz us ws:=by
 show (ts++us).zip ((vs++ws).map some)=_
 rw [l_,Nl (by rw [b_];exact l)]
theorem Bj:OpR X (binaryOp .Add) (fun x y H Q=>∃ a b ys,x=.ref a/\y=.ref b/\SqT X.K H a []/\SqT X.K H b ys/\Q (.ref b) H):=by
 intro pins s σ H x y v u Q I rx ry h
 obtain⟨a,b,ys,rfl,rfl,ha,hb,q⟩:=h
 cases rx
 cases ry
 obtain⟨its,r1,p1,_⟩:=I.tuple ha
 obtain⟨its2,r2,p2,_⟩:=I.tuple hb
 cases r1
 obtain⟨⟨cls,dd,data,sl⟩,ho,hc,n,hd⟩:=id p1
 obtain⟨⟨cls2,dd2,data2,sl2⟩,ho2,hc2,n2,hd2⟩:=id p2
 simp only at hc hd hc2 hd2
 subst hc hd hc2 hd2
 exact concat_meets ⟨_,ho,rfl⟩ ⟨_,ho2,rfl⟩ noFill_tuple_add seq_tuple_add PySem.F.slot_tuple_add PySem.F.entry_tuple_add (PySem.F.args_tuple_add_2 _ _)
  (tuple_addW0 a b _ its2.toArray n n2 dd dd2 sl sl2 (by simp)) ⟨ho,ho2,⟨.ref b,H,I,rfl,q⟩⟩
theorem aE:OpP X (binaryOp .Add) E3:=by
 rintro pins s σ H x y v u Q I rx ry ⟨tx,ty,Γ,k,rp,g,c⟩
 cases tx <;> cases ty <;> first | exact False.elim g | skip
 ·rename_i i j
  rw [aB rp] at ry;rw [aB rp.tail] at rx
  exact lP pins s σ H _ _ v u Q I rx ry ⟨i,j,rfl,rfl,c _ _ _ g (bS rp.tail.tail fun _=>.int)⟩
 ·rename_i i j
  rw [eZ rp] at ry;rw [eZ rp.tail] at rx
  exact tG pins s σ H _ _ v u Q I rx ry ⟨i,j,rfl,rfl,g.1,c _ _ _ g.2 (bS rp.tail.tail fun _=>.str)⟩
 ·rename_i ts us
  obtain⟨b,ws,rfl,hb,lb,rp2⟩:=oZ rp
  obtain⟨a,vs,rfl,ha,la,rp3⟩:=oZ (rp2.perm f_)
  have lz:vs.length + ws.length<=sizeLine:=by rw [<-la,<-lb];exact g.1
  have rp4:Rp X.K H (zz (ts++us) (vs++ws)++Γ):=by
   rw [k7 la,gV];exact rp3
  by_cases hx:vs=[]
  ·subst hx
   refine Bj pins s σ H _ _ v u Q I rx ry ⟨a,b,ws,rfl,rfl,SqT.of ha,SqT.of hb,?_⟩
   refine c _ _ _ g.2 (gG rp4 (by rw [g_,g_,la,lb]) .bX ?_)
   rw [Kq];exact hb
  ·refine CD pins s σ H _ _ v u Q I rx ry ⟨a,b,vs,ws,rfl,rfl,SqT.of ha,SqT.of hb,hx,lz,fun e=>?_,fun _ p hp=>c _ _ _ g.2 (gG rp4 (by rw [g_,g_,la,lb]) (bR hp _) aF)⟩
   refine c _ _ _ g.2 (gG rp4 (by rw [g_,g_,la,lb]) .bX ?_)
   rw [e,JF];exact ha
 ·rename_i o ts o' us
  obtain⟨b,ws,rfl,hb,lb,rp2⟩:=l8 rp
  obtain⟨a,vs,rfl,ha,la,rp3⟩:=l8 (rp2.perm f_)
  have lz:vs.length + ws.length<=sizeLine:=by rw [<-la,<-lb];exact g.1
  have rp4:Rp X.K H (zz (ts++us) (vs++ws)++Γ):=by
   rw [k7 la,gV];exact rp3
  exact BU pins s σ H _ _ v u Q I rx ry ⟨a,b,vs,ws,rfl,rfl,ha,hb,lz,fun p H' hp g' e=>c _ _ _ g.2 (fN rp4 (by rw [g_,g_,la,lb]) hp g' e)⟩
theorem bT:OpP X (binaryOp .Sub) GF:=(ji (r:=fun i j=>.int (i - j)) Fj fun _ _ _ _ _=>.int).imp fun tx ty k g=>by cases tx <;> cases ty <;> exact g
theorem j8:OpP X (binaryOp .Mult) GV:=(pD (r:=fun i j=>.int (i * j)) iE fun _ _ _ _ _=>.int).imp fun tx ty k g=>by cases tx <;> cases ty <;> exact g
theorem Cn:OpP X (binaryOp .FloorDiv) Gw:=(pD (r:=fun i j=>.int (i / j)) um fun _ _ _ _ _=>.int).imp fun tx ty k g=>by cases tx <;> cases ty <;> exact g
theorem oD:OpP X (binaryOp .Mod) Hf:=(pD (r:=fun i j=>.int (i % j)) iA fun _ _ _ _ _=>.int).imp fun tx ty k g=>by cases tx <;> cases ty <;> exact g
theorem tM:OpP X (compareOp .Lt) ltT:=(ji (r:=fun i j=>.bl (decide (i < j))) Ir fun _ _ _ _ _=>.bl).imp fun tx ty k g=>by cases tx <;> cases ty <;> exact g
theorem Fi:OpP X (compareOp .LtE) leT:=(ji (r:=fun i j=>.bl (decide (i<=j))) Iq fun _ _ _ _ _=>.bl).imp fun tx ty k g=>by cases tx <;> cases ty <;> exact g
theorem pf:OpP X (compareOp .Gt) gtT:=(ji (r:=fun i j=>.bl (decide (j < i))) II fun _ _ _ _ _=>.bl).imp fun tx ty k g=>by cases tx <;> cases ty <;> exact g
theorem DI {k:Nat}{A:Around}(r:Room k A){n:Nat}(h:n < 190):A.units + n < cLine:=by have:=r.un;lia
theorem gF {k:Nat}(hr:Room k X.A):OpP X (compareOp .Eq) eqT:=.of yO fun tx ty x y H Γ k Q rp ⟨d1,d2,z,g⟩ c=>
 ⟨dt tx,dt ty,eB rp.tail d1,eB rp d2,DI hr z,c _ _ _ g (bS rp.tail.tail fun _=>.bl)⟩
theorem sU {k:Nat}(hr:Room k X.A):OpP X (compareOp .NotEq) neT:=.of EJ fun tx ty x y H Γ k Q rp ⟨d1,d2,z,g⟩ c=>
 ⟨dt tx,dt ty,eB rp.tail d1,eB rp d2,DI hr z,c _ _ _ g (bS rp.tail.tail fun _=>.bl)⟩
theorem Bk {K:PySem.W.Frag}{H:Hp}{Γ:Fm}{t:T}{x:V}(rp:Rp K H ((t,some x)::Γ))(n:isV t=true):decide (x=.non)=nF t:=by
 obtain⟨Hz,L,r,g⟩:=gJ rp (by cases t <;> first | rfl | cases n)
 cases r <;> first | rfl | cases n
theorem rb:OpP X (compareOp .IsNot) DH:=.of D3 fun tx ty x y H Γ k Q rp g c=>by
 cases ty <;> first | exact False.elim g | skip
 refine⟨yh rp,?_⟩
 rw [Bk rp.tail g.1]
 exact c _ _ _ g.2 (bS rp.tail.tail fun _=>.bl)
end
end PL
namespace PL
open PySem PySem.Spec PyProof.Rows L2
def pG:T->Option Key
 | .int i=>some (.inl i)
 | .str x=>some (.inr x)
 | _=>none
def i4:List T->Option (List Key)
 | []=>some []
 | t::r=>match pG t,i4 r with
  | some k,some ks=>some (k::ks)
  | _,_=>none
section
variable {κ:Type}[DecidableEq κ]
def dM (kvs:List (κ × T))(k:κ):Option T:=(kvs.find? fun kv=>decide (kv.1=k)).map (·.2)
def dZ (kvs:List (κ × T))(k:κ)(v:T):List (κ × T):=
 if (kvs.any fun kv=>decide (kv.1=k))=true then kvs.map (fun kv=>if kv.1=k then (kv.1,v) else kv) else kvs++[(k,v)]
theorem fj:∀ {ts:List (κ × T)} {vs:List (κ × V)} {q:κ} {u:T},ts.map (·.1)=vs.map (·.1)->dM ts q=some u->∃ (w:V) (i:Nat),dP vs q=some w/\(ts.map (·.2))[i]?=some u/\(vs.map (·.2))[i]?=some w
 | [],vs,q,u,e,h=>by cases h
 | (k,t)::ts,[],q,u,e,h=>by cases e
 | (k,t)::ts,(k',v)::vs,q,u,e,h=>by
  rw [f',f',Ko] at e
  have e0:k=k':=e.1
  subst e0
  unfold dM at h
  rw [JG] at h
  unfold dP
  rw [JG]
  by_cases hk:k=q
  ·have hk':decide (k=q)=true:=decide_eq_true hk
   rw [show decide ((k,t).1=q)=true from hk'] at h
   rw [show decide ((k,v).1=q)=true from hk']
   cases h
   exact⟨v,0,rfl,rfl,rfl⟩
  ·have hk':decide (k=q)=false:=decide_eq_false hk
   rw [show decide ((k,t).1=q)=false from hk'] at h
   rw [show decide ((k,v).1=q)=false from hk']
   obtain⟨w,i,h1,h2,h3⟩:=fj (ts:=ts) (vs:=vs) e.2 h
   exact⟨w,i + 1,h1,by simpa using h2,by simpa using h3⟩
theorem fg:∀ {ts:List (κ × T)} {vs:List (κ × V)} (q:κ),ts.map (·.1)=vs.map (·.1)->(dM ts q).isSome=(dP vs q).isSome
 | [],[],q,e=>rfl
 | [],_::_,q,e=>by cases e
 | (k,t)::ts,[],q,e=>by cases e
 | (k,t)::ts,(k',v)::vs,q,e=>by
  rw [f',f',Ko] at e
  have e0:k=k':=e.1
  subst e0
  have ih:=fg (ts:=ts) (vs:=vs) q e.2
  unfold dM dP at ih ⊢
  rw [JG,JG]
  by_cases hk:k=q
  ·have hk':decide (k=q)=true:=decide_eq_true hk
   rw [show decide ((k,t).1=q)=true from hk']
   rfl
  ·have hk':decide (k=q)=false:=decide_eq_false hk
   rw [show decide ((k,t).1=q)=false from hk']
   exact ih
end
section
variable {K:PySem.W.Frag}{H:Hp}{Γ:Fm}
theorem jU {o:Bool}{ts:List (Key × T)}{y:V}(h:Rp K H ((.dK o ts,some y)::Γ)):∃ a vs,y=.ref a/\Rd H a (.dK vs)/\ts.map (·.1)=vs.map (·.1)/\Rp K H (zz (ts.map (·.2)) (vs.map (·.2))++Γ):=by
 obtain⟨Hz,N,h,nd,g,d⟩:=h
 cases h with
 | cons e1 h c=>
  rcases h with⟨z,_⟩ | ⟨v,e2,h⟩
  ·cases z
  ·cases e2
   cases h
   ·rename_i a vs L h c1
    obtain⟨ek,c2⟩:=c1.toL
    rw [e1,JH,H_] at nd
    exact⟨a,vs,rfl,.inl h,ek,Hz,_,c2.toL.app c,nd.2,g,fun b m=>d b (by rw [e1,JH];exact o_ _ m)⟩
   ·rename_i a vs h c1
    obtain⟨ek,c2⟩:=c1.toL
    exact⟨a,vs,rfl,g _ _ h,ek,Hz,_,c2.toL.app c,by rw [<-e1];exact nd,g,fun b m=>d b (by rw [e1];exact m)⟩
theorem iw {o:Bool}{ts:List (List Key × T)}{y:V}(h:Rp K H ((.dT o ts,some y)::Γ)):∃ a vs,y=.ref a/\Rd H a (.dT vs)/\ts.map (·.1)=vs.map (·.1)/\Rp K H (zz (ts.map (·.2)) (vs.map (·.2))++Γ):=by
 obtain⟨Hz,N,h,nd,g,d⟩:=h
 cases h with
 | cons e1 h c=>
  rcases h with⟨z,_⟩ | ⟨v,e2,h⟩
  ·cases z
  ·cases e2
   cases h
   ·rename_i a vs L h c1
    obtain⟨ek,c2⟩:=c1.toL
    rw [e1,JH,H_] at nd
    exact⟨a,vs,rfl,.inl h,ek,Hz,_,c2.toL.app c,nd.2,g,fun b m=>d b (by rw [e1,JH];exact o_ _ m)⟩
   ·rename_i a vs h c1
    obtain⟨ek,c2⟩:=c1.toL
    exact⟨a,vs,rfl,g _ _ h,ek,Hz,_,c2.toL.app c,by rw [<-e1];exact nd,g,fun b m=>d b (by rw [e1];exact m)⟩
theorem jC {t:T}{k:Key}{y:V}(e:pG t=some k)(h:Rp K H ((t,some y)::Γ)):y=kV k:=by
 cases t <;> cases e
 ·rw [aB h];rfl
 ·rw [eZ h];rfl
theorem yN {Hz:Hp}{t:T}{k:Key}{v:V}{L:List Addr}(e:pG t=some k)(h:RepT K Hz H t v L):v=kV k:=by
 cases t <;> cases e
 ·cases h;rfl
 ·cases h;rfl
theorem kc {Hz:Hp}:∀ {ts:List T} {ks:List Key} {vs:List V} {L:List Addr},i4 ts=some ks->RepTs K Hz H ts vs L->vs=ks.map kV
 | [],ks,_,_,e,r=>by cases r;cases e;rfl
 | t::ts,ks,_,_,e,r=>by
  cases r with
  | cons _ h c=>
   rw [i4] at e
   split at e
   ·rename_i k r e1 e2
    cases e
    rw [yN e1 h,kc e2 c]
    rfl
   ·cases e
theorem iJ {ts:List T}{ks:List Key}{y:V}(e:i4 ts=some ks)(h:Rp K H ((.tup ts,some y)::Γ)):∃ b,y=.ref b/\H b=some (.tup (ks.map kV)):=by
 obtain⟨Hz,L,r,g⟩:=gJ h rfl
 cases r with
 | tup h1 c1=>exact⟨_,rfl,by rw [h1,kc e c1]⟩
end
def ixT:P2
 | .tup ts,.int i,k=>got (atI ts i) k
 | .cst ts,.int i,k=>got (atI ts i) k
 | .lst _ ts,.int i,k=>got (atI ts i) k
 | .str x,.int i,k=>x.length<=sizeLine/\got (atI x.cps.toList i) fun c=>k (.str ⟨#[c]⟩)
 | .dK _ kvs,y,k=>got (pG y) fun q=>got (dM kvs q) k
 | .dT _ kvs,.tup ts,k=>got (i4 ts) fun q=>got (dM kvs q) k
 | _,_,_=>False
section
variable {X:Cx}
theorem uH (hu:X.A.units + 1 < cLine):IxR X (fun x y H Q=>∃ a v,x=.ref a/\gq H a y (some v)/\Q v H):=by
 intro value slice pins s σ H x y v u Q I rx ry h hs
 obtain⟨a,z,rfl,g,q⟩:=h
 cases rx
 have hT:=kG I g
 unfold subscriptTail
 refine wpAny_bind ?_
 rw [getitemInPython_of_ne hT.not_modules]
 refine wpAny_bind (wpAny_specialOf hT PySem.F.slot_dict_getitem.lookup ?_)
 have fin:wpAny (model X.prog X.w) X.A (subscripted slice false (.ref a) u) (fun r s₃=>wpAny (model X.prog X.w) X.A (letTemporaryGo value (.ref a) r >>= fun _=>pure r) (EP X pins σ Q) X.xe s₃) X.xe s:=by
  rw [hs]
  refine wpAny_operating (nJ hu I g ry fun w' s' I' r'=>wpAny_bind (wpAny_letTemporaryGo (wpAny_pure ⟨z,H,I',r',q⟩)))
 first
  | exact wpAny_pure (wpAny_bind fin)
  | exact wpAny_bind (wpAny_pure (wpAny_bind fin))
  | exact wpAny_bind fin
theorem Jo {kr:Nat}(hr:Room kr X.A):IxR X (w2 X.K ixT):=by
 rintro value slice pins s σ H x y v u Q I rx ry ⟨tx,ty,Γ,k,rp,g,c⟩ hs
 have sq:∀ ts i,items tx=some ts->ty=.int i->got (atI ts i) k->wpAny (model X.prog X.w) X.A (subscriptTail value slice v u) (EP X pins σ Q) X.xe s:=fun ts i e1 e2 g=>by
  obtain⟨t,et,kt⟩:=az g
  subst e2
  rw [aB rp] at ry
  obtain⟨a,vs,rfl,hq,l,rp2⟩:=aH e1 rp.tail
  obtain⟨w,ew,rp3⟩:=yQ l et rp2
  exact Jm value slice pins s σ H _ _ v u Q I rx ry ⟨_,a,vs,i,w,rfl,rfl,hq,ew,c _ _ _ kt rp3⟩ hs
 cases tx with
 | tup ts=>cases ty <;> first | exact False.elim g | exact sq _ _ rfl rfl g
 | cst ts=>cases ty <;> first | exact False.elim g | exact sq _ _ rfl rfl g
 | lst o ts=>cases ty <;> first | exact False.elim g | exact sq _ _ rfl rfl g
 | str z=>
  cases ty <;> first | exact False.elim g | skip
  rename_i i
  obtain⟨hz,g⟩:=g
  obtain⟨t,et,kt⟩:=az g
  rw [aB rp] at ry
  rw [eZ rp.tail] at rx
  exact AD value slice pins s σ H _ _ v u Q I rx ry ⟨z,i,t,rfl,rfl,hz,et,c _ _ _ kt (bS rp.tail.tail fun _=>.str)⟩ hs
 | dK o kvs=>
  have g:got (pG ty) fun q=>got (dM kvs q) k:=by cases ty <;> exact g
  obtain⟨q,eq,g⟩:=az g
  obtain⟨t,et,kt⟩:=az g
  rw [jC eq rp] at ry
  obtain⟨a,vs,rfl,hq,ek,rp2⟩:=jU rp.tail
  obtain⟨w,i,ew,e1,e2⟩:=fj ek et
  exact uH (gv hr) value slice pins s σ H _ _ v u Q I rx ry ⟨a,w,rfl,.inl ⟨vs,q,hq,rfl,ew.symm⟩,c _ _ _ kt (gZ rp2 e1 e2)⟩ hs
 | dT o kvs=>
  cases ty <;> first | exact False.elim g | skip
  rename_i ts
  obtain⟨q,eq,g⟩:=az g
  obtain⟨t,et,kt⟩:=az g
  obtain⟨b,rfl,hb⟩:=iJ eq rp
  obtain⟨a,vs,rfl,hq,ek,rp2⟩:=iw rp.tail
  obtain⟨w,i,ew,e1,e2⟩:=fj ek et
  exact uH (gv hr) value slice pins s σ H _ _ v u Q I rx ry ⟨a,w,rfl,.inr ⟨vs,q,b,hq,rfl,hb,ew.symm⟩,c _ _ _ kt (gZ rp2 e1 e2)⟩ hs
 | _=>cases ty <;> exact False.elim g
theorem bo {kr:Nat}{a b:Expr}{fa fb:PF}{pos:Pos}(hr:Room kr X.A)(ha:GE X a fa)(hb:GE X b fb)(hs:oH b:=by intro _ _;rfl):GE X (.Subscript a b pos) (xI ixT fa fb):=PE.imp (AN (Jo hr) ha hb hs) uN
def kZ (x:T)(ts:List T):Bool:=ts.any fun e=>eqD (dt e) (dt x)
def inT:P2:=fun x y k=>match y with
 | .dK _ kvs=>got (pG x) fun q=>k (.bl (dM kvs q).isSome)
 | .dT _ kvs=>match x with
  | .tup ts=>got (i4 ts) fun q=>k (.bl (dM kvs q).isSome)
  | _=>False
 | .str b=>match x with
  | .str a=>k (.bl (!(Builtin.Str.occurrences b a 0 b.length 1).isEmpty))
  | _=>False
 | y=>got (items y) fun ts=>isD x=true/\cU ts=true/\br (dtL ts) < 180/\k (.bl (kZ x ts))
def C8:P2:=fun x y k=>inT x y fun t=>match t with
 | .bl b=>k (.bl (!b))
 | _=>False
theorem yw:OpR X (compareOp .In) (fun x y H Q=>∃ p xs d ds,y=.ref p/\SqT X.K H p xs/\Has X.K H d x/\ax X.K H ds xs/\X.A.in1.units + br ds < cLine/\Q (.bl (ds.any fun e=>eqD e d)) H):=by
 intro pins s σ H x y v u Q I rx ry h
 obtain⟨p,xs,d,ds,rfl,hq,hd,hl,hA,q⟩:=h
 cases ry
 obtain⟨its,r,pl,hz⟩:=I.tuple hq
 obtain⟨e,e1,_,e3⟩:=jM I (A:=X.A.in1) hA hd rx (c_ _) hl r
 refine SeqAt.in_tupleAt e pl (fun w hw=>e1 w (by simpa using hw)) ⟨.bl _,H,I,rfl,?_⟩
 rw [show its.toArray.any e=its.any e by simp,e3]
 exact q
theorem wm:OpR X (compareOp .NotIn) (fun x y H Q=>∃ p xs d ds,y=.ref p/\SqT X.K H p xs/\Has X.K H d x/\ax X.K H ds xs/\X.A.in1.units + br ds < cLine/\Q (.bl (!ds.any fun e=>eqD e d)) H):=by
 intro pins s σ H x y v u Q I rx ry h
 obtain⟨p,xs,d,ds,rfl,hq,hd,hl,hA,q⟩:=h
 cases ry
 obtain⟨its,r,pl,hz⟩:=I.tuple hq
 obtain⟨e,e1,_,e3⟩:=jM I (A:=X.A.in1) hA hd rx (c_ _) hl r
 refine SeqAt.notIn_tupleAt e pl (fun w hw=>e1 w (by simpa using hw)) ⟨.bl _,H,I,rfl,?_⟩
 rw [show its.toArray.any e=its.any e by simp,e3]
 exact q
theorem vh (x:T)(ts:List T):kZ x ts=(dtL ts).any fun e=>eqD e (dt x):=by
 unfold kZ
 rw [kA,LY]
 rfl
theorem G3 {kr:Nat}(hr:Room kr X.A):OpP X (compareOp .In) inT:=by
 rintro pins s σ H x y v u Q I rx ry ⟨tx,ty,Γ,k,rp,g,c⟩
 have sq:(got (items ty) fun ts=>isD tx=true/\cU ts=true/\br (dtL ts) < 180/\k (.bl (kZ tx ts)))->wpAny (model X.prog X.w) X.A (compareOp .In v u) (EP X pins σ Q) X.xe s:=fun g=>by
  obtain⟨ts,e,d1,d2,z,kt⟩:=az g
  obtain⟨a,vs,rfl,hq,l,rp2⟩:=aH e rp
  have fin:=c _ _ _ kt (bS (H:=H) (v:=.bl (kZ tx ts)) rp.tail.tail fun _=>.bl)
  rw [vh] at fin
  have hA:X.A.in1.units + br (dtL ts) < cLine:=by have:=hr.un;show X.A.units + 1 + _ < _;omega
  revert hq
  cases mM ty with
  | true=>exact fun hq=>yw pins s σ H _ _ v u Q I rx ry ⟨a,vs,_,_,rfl,hq,eB rp.tail d1,iY rp2 l d2,hA,fin⟩
  | false=>exact fun hq=>Ef pins s σ H _ _ v u Q I rx ry ⟨a,vs,_,_,rfl,hq,eB rp.tail d1,iY rp2 l d2,hA,fin⟩
 cases ty with
 | tup ts=>exact sq g
 | cst ts=>exact sq g
 | lst o ts=>exact sq g
 | str b=>
  cases tx <;> first | exact False.elim g | skip
  rename_i a
  rw [eZ rp] at ry
  rw [eZ rp.tail] at rx
  exact vY pins s σ H _ _ v u Q I rx ry ⟨a,b,rfl,rfl,c _ _ _ g (bS rp.tail.tail fun _=>.bl)⟩
 | dK o kvs=>
  obtain⟨q,eq,g⟩:=az g
  rw [jC eq rp.tail] at rx
  obtain⟨a,vs,rfl,hq,ek,rp2⟩:=jU rp
  cases ry
  rw [fg q ek] at g
  exact HZ (gv hr) I (.inl ⟨vs,q,hq,rfl,rfl⟩) rx fun s' I'=>⟨.bl _,H,I',rfl,c _ _ _ g (bS rp.tail.tail fun _=>.bl)⟩
 | dT o kvs=>
  cases tx <;> first | exact False.elim g | skip
  rename_i ts
  obtain⟨q,eq,g⟩:=az g
  obtain⟨b,rfl,hb⟩:=iJ eq rp.tail
  obtain⟨a,vs,rfl,hq,ek,rp2⟩:=iw rp
  cases ry
  rw [fg q ek] at g
  exact HZ (gv hr) I (.inr ⟨vs,q,b,hq,rfl,hb,rfl⟩) rx fun s' I'=>⟨.bl _,H,I',rfl,c _ _ _ g (bS rp.tail.tail fun _=>.bl)⟩
 | _=>exact False.elim g
theorem BQ {kr:Nat}(hr:Room kr X.A):OpP X (compareOp .NotIn) C8:=by
 rintro pins s σ H x y v u Q I rx ry ⟨tx,ty,Γ,k,rp,g,c⟩
 unfold C8 at g
 have sq:(got (items ty) fun ts=>isD tx=true/\cU ts=true/\br (dtL ts) < 180/\k (.bl (!kZ tx ts)))->wpAny (model X.prog X.w) X.A (compareOp .NotIn v u) (EP X pins σ Q) X.xe s:=fun g=>by
  obtain⟨ts,e,d1,d2,z,kt⟩:=az g
  obtain⟨a,vs,rfl,hq,l,rp2⟩:=aH e rp
  have fin:=c _ _ _ kt (bS (H:=H) (v:=.bl (!kZ tx ts)) rp.tail.tail fun _=>.bl)
  rw [vh] at fin
  have hA:X.A.in1.units + br (dtL ts) < cLine:=by have:=hr.un;show X.A.units + 1 + _ < _;omega
  revert hq
  cases mM ty with
  | true=>exact fun hq=>wm pins s σ H _ _ v u Q I rx ry ⟨a,vs,_,_,rfl,hq,eB rp.tail d1,iY rp2 l d2,hA,fin⟩
  | false=>exact fun hq=>xC pins s σ H _ _ v u Q I rx ry ⟨a,vs,_,_,rfl,hq,eB rp.tail d1,iY rp2 l d2,hA,fin⟩
 cases ty with
 | tup ts=>exact sq g
 | cst ts=>exact sq g
 | lst o ts=>exact sq g
 | str b=>
  cases tx <;> first | exact False.elim g | skip
  rename_i a
  rw [eZ rp] at ry
  rw [eZ rp.tail] at rx
  exact pz pins s σ H _ _ v u Q I rx ry ⟨a,b,rfl,rfl,c _ _ _ g (bS rp.tail.tail fun _=>.bl)⟩
 | dK o kvs=>
  obtain⟨q,eq,g⟩:=az g
  rw [jC eq rp.tail] at rx
  obtain⟨a,vs,rfl,hq,ek,rp2⟩:=jU rp
  cases ry
  rw [fg q ek] at g
  exact vw (gv hr) I (.inl ⟨vs,q,hq,rfl,rfl⟩) rx fun s' I'=>⟨.bl _,H,I',rfl,c _ _ _ g (bS rp.tail.tail fun _=>.bl)⟩
 | dT o kvs=>
  cases tx <;> first | exact False.elim g | skip
  rename_i ts
  obtain⟨q,eq,g⟩:=az g
  obtain⟨b,rfl,hb⟩:=iJ eq rp.tail
  obtain⟨a,vs,rfl,hq,ek,rp2⟩:=iw rp
  cases ry
  rw [fg q ek] at g
  exact vw (gv hr) I (.inr ⟨vs,q,b,hq,rfl,hb,rfl⟩) rx fun s' I'=>⟨.bl _,H,I',rfl,c _ _ _ g (bS rp.tail.tail fun _=>.bl)⟩
 | _=>exact False.elim g
def fUn (g:T->(T->Prop)->Prop)(fa:PF):PF:=fun env k=>fa env fun t env1=>g t fun u=>k u env1
def GX:T->(T->Prop)->Prop
 | .int i,k=>k (.int (-i))
 | _,_=>False
theorem cR {a:Expr}{fa:PF}{pos:Pos}(ha:GE X a fa):GE X (.UnaryOp .USub a pos) (fUn GX fa):=by
 refine PE.imp (HV F5 ha) ?_
 rintro σ H Q ⟨env,Fr,k,rs,q,c⟩
 refine⟨env,Fr,_,rs,q,fun t env1 v H1 q1 rs1=>?_⟩
 cases t <;> first | exact False.elim q1 | skip
 rename_i i
 exact⟨i,aB rs1.head,c _ _ _ _ q1 (me rs1.drop fun _=>.int)⟩
end
end PL
namespace PL
open PySem PySem.Spec PyProof.Rows L2
abbrev P1s:=List T->(T->Prop)->Prop
def w1s (K:PySem.W.Frag)(g:P1s):List V->Hp->VK->Prop:=fun xs H Q=>∃ ts Γ k,ts.length=xs.length/\Rp K H (zz ts xs++Γ)/\g ts k/\∀ t v H',k t->Rp K H' ((t,some v)::Γ)->Q v H'
def i8 (X:Cx)(f:Value)(g:P1s):Prop:=bE X f (w1s X.K g)
def fCl (g:P1s)(fr:PFs):PF:=fun env k=>fr env fun ts env1=>g ts fun t=>k t env1
section
variable {X:Cx}{e:Expr}{es:List Expr}{fr:PFs}{pos p:Pos}{x:Str}{g:P1s}
theorem DK:∀ σ H Q,wE X.K (fCl g fr) σ H Q->tCB (w1s X.K g) (wA X.K fr) σ H Q:=by
 rintro σ H Q ⟨env,Fr,k,rs,q,c⟩
 refine⟨env,Fr,_,rs,q,fun ts env1 vs H1 q1 l rs1=>?_⟩
 refine⟨ts,env1.zip σ++Fr,_,l,?_,q1,fun t v H' kt rp=>c _ _ _ _ kt (.of rs1.1 rp)⟩
 refine rs1.2.perm ?_
 rw [<-gV,<-gV]
 exact J'.append_right _
theorem bt {id:String}(hc:i8 X (.builtin id) g)(hg:Gl X x)(hm:X.mg x=none)(hv:bootBuiltins x=some (.builtin id))(ha:GA X (e::es) fr)(hn:x≠"__name__":=by decide)(hdb:(x == ("__debug__":Str))=false:=by decide)
  (he:starEach (e::es) X.env=(false,eval e X.env)::starEach es X.env:=by rfl) (hpl:(backTo pos (starEach es X.env)).any (·.1)=false:=by rfl):GE X (.Call (.Name x p) (e::es) [] pos) (fCl g fr):=PE.imp (aX hc hg hm hv ha hn hdb he hpl) DK
theorem cY {id:String}(hc:i8 X (.type id) g)(hg:Gl X x)(hm:X.mg x=none)(hv:bootBuiltins x=some (.type id))(ha:GA X (e::es) fr)(hn:x≠"__name__":=by decide)(hdb:(x == ("__debug__":Str))=false:=by decide)
  (he:starEach (e::es) X.env=(false,eval e X.env)::starEach es X.env:=by rfl) (hpl:(backTo pos (starEach es X.env)).any (·.1)=false:=by rfl):GE X (.Call (.Name x p) (e::es) [] pos) (fCl g fr):=PE.imp (nN hc hg hm hv ha hn hdb he hpl) DK
end
section
variable {X:Cx}
theorem zz1 {ts:List T}{xs:List V}{t:T}(l:ts.length=xs.length)(e:ts=[t]):∃ x,xs=[x]:=by
 subst e
 rcases xs with _ | ⟨x,_ | ⟨y,xs⟩⟩
 ·cases l
 ·exact⟨x,rfl⟩
 ·cases l
theorem zz2 {ts:List T}{xs:List V}{t u:T}(l:ts.length=xs.length)(e:ts=[t,u]):∃ x y,xs=[x,y]:=by
 subst e
 rcases xs with _ | ⟨x,xs⟩
 ·cases l
 obtain⟨y,rfl⟩:=zz1 (ts:=[u]) (Ky l) rfl
 exact⟨x,y,rfl⟩
theorem zz3 {ts:List T}{xs:List V}{t u w:T}(l:ts.length=xs.length)(e:ts=[t,u,w]):∃ x y z,xs=[x,y,z]:=by
 subst e
 rcases xs with _ | ⟨x,xs⟩
 ·cases l
 obtain⟨y,z,rfl⟩:=zz2 (ts:=[u,w]) (Ky l) rfl
 exact⟨x,y,z,rfl⟩
theorem u7 {prog:Program}{w:World}(d:Addr)(nd:(d == sysModules)=false) :
  MeetsIn prog w (Builtin.«dict.__len__» ⟨[.ref d],[]⟩) (fun _ R s=>∃ o es ep,s.heap.get? d=some o/\o.data=.dict es ep/\R (.ok (.ret (.int es.size s.toks))) { s with toks:=s.toks + 1 }):=
 .of_wp fun A R s ⟨o,es,ep,ho,hdat,q⟩=>by
  show wpAny _ _ (dictSize d >>= _) _ _ s
  unfold dictSize
  refine wpAny_bind (wpAny_bind (wpAny_dictEntries ho hdat (wpAny_pure ?_)))
  show wpAny _ _ (Builtin.Dict.pendingCount d >>= _) _ _ s
  exact wpAny_bind (wpAny_pendingCount_other nd (wpAny_ret_mkInt (by rw [Ly];exact q)))
theorem Ck {prog:Program}{w:World}{A:Around}{E:Value->Shared->Prop}{s:Shared}{d:Addr}{o:Obj}{es:Array DictEntry}{ep:Nat}{Q:Value->Shared->Prop}(nd:(d == sysModules)=false)(ho:s.heap.get? d=some o)(hc:o.ExactDict)(hdat:o.data=.dict es ep)
  (fit:(es.size:Int) < 2 ^ 63) (q:∀ t tk,Q (.int es.size t) { s with toks:=tk }):wpAny (model prog w) A (call (.builtin "len") [.ref d]) Q E s:=by
 have ty:s.TypeIs (.ref d) "dict":=⟨_,ho,hc.1⟩
 refine Calls.call_function_entry kind_len plain_len entry_len (args_len1 _) ?_
 unfold Builtin.«len»
 refine wpAny_bind (m:=oneArg "len" _) (wpAny_pure ?_)
 refine wpAny_bind (m:=callSpecial? (.ref d) (Str.ofString "__len__")) (wpAny_callSpecial?_slot (name:=Str.ofString "__len__") ty PySem.F.slot_dict_len
  (call_meetsIn PySem.F.slot_dict_len ty PySem.F.entry_dict_len (PySem.F.args_dict_len_1 _) (u7 d nd) ⟨o,es,ep,ho,hdat,?_⟩))
 show wpAny _ _ _ _ _ { s with toks:=s.toks + 1 }
 refine wpAny_bind (wpAny_holding (wpAny_pure (wpAny_bind (wpAny_letGo ?_))))
 show wpAny _ _ (if ((es.size:Nat):Int) < 0 then _ else _) _ _ _
 rw [if_neg (by lia)]
 show wpAny _ _ (if ((es.size:Nat):Int)>=2 ^ 63 then _ else _) _ _ _
 rw [if_neg (by lia)]
 exact wpAny_bind (wpAny_mkInt (wpAny_pure ⟨_,rfl,q _ _⟩))
theorem Eh {pins:List (Addr × Obj)}{σ:L2.St}{H:Hp}{s:Shared}{a:Addr}{kvs:List (List Key × V)}{Q:Value->Shared->Prop}{E:Value->Shared->Prop}(I:Inv X pins σ H s)(e:Rd H a (.dT kvs))(q:∀ t s',Inv X pins σ H s'->Q (.int kvs.length t) s'):wpAny (model X.prog X.w) X.A (call (.builtin "len") [.ref a]) Q E s:=by
 obtain⟨z,hd,xs,rel,o,es,ep,h1,h2,h3,h4,_⟩:=gp I.hok e
 have hs:es.size=kvs.length:=by
  have:=congrArg L7 h4
  rw [b_] at this
  rw [<-j_,this]
  exact (Paired.length rel).symm
 refine Ck hd h1 h2 h3 (by rw [sizeLine_eq] at z;lia) fun t tk=>?_
 rw [hs]
 exact q _ _ (I.tok _)
def ET:P1s
 | [t],k=>match t with
  | .str x=>x.length<=sizeLine/\k (.int x.length)
  | .dK _ kvs=>k (.int kvs.length)
  | .dT _ kvs=>k (.int kvs.length)
  | t=>got (items t) fun ts=>k (.int ts.length)
 | _,_=>False
theorem d0:i8 X (.builtin "len") ET:=by
 rintro pins s σ H xs us Q I r ⟨ts,Γ,k,l,rp,g,c⟩
 match ts,l,g with
 | [t],l,g=>
  obtain⟨x,rfl⟩:=zz1 l rfl
  have rp:Rp X.K H ((t,some x)::Γ):=rp
  have sq:(got (items t) fun ts=>k (.int ts.length))->wpAny (model X.prog X.w) X.A (call (.builtin "len") us) (EP X pins σ Q) X.xe s:=fun g=>by
   obtain⟨us',e,kt⟩:=az g
   obtain⟨a,vs,rfl,hq,l2,rp2⟩:=aH e rp
   rw [l2] at kt
   exact xG pins s σ H _ us Q I r ⟨_,a,vs,rfl,hq,c _ _ _ kt (bS rp.tail fun _=>.int)⟩
  cases t with
  | str z=>
   rw [eZ rp] at r
   exact oE pins s σ H _ us Q I r ⟨z,rfl,g.1,c _ _ _ g.2 (bS rp.tail fun _=>.int)⟩
  | dK o kvs=>
   obtain⟨a,vs,rfl,hq,ek,rp2⟩:=jU rp
   obtain⟨u,rfl,ru⟩:=vals1 r
   cases ru
   have g:k (.int kvs.length):=g
   rw [cL ek] at g
   exact IJ I hq fun t s' I'=>⟨.int vs.length,H,I',⟨t,rfl⟩,c _ _ _ g (bS rp.tail fun _=>.int)⟩
  | dT o kvs=>
   obtain⟨a,vs,rfl,hq,ek,rp2⟩:=iw rp
   obtain⟨u,rfl,ru⟩:=vals1 r
   cases ru
   have g:k (.int kvs.length):=g
   rw [cL ek] at g
   exact Eh I hq fun t s' I'=>⟨.int vs.length,H,I',⟨t,rfl⟩,c _ _ _ g (bS rp.tail fun _=>.int)⟩
  | _=>exact sq g
 | [],_,g=>exact False.elim g
 | _::_::_,_,g=>exact False.elim g
def Gn:P1s
 | [.int i],k=>k (.int i.natAbs)
 | _,_=>False
theorem nZ:i8 X (.builtin "abs") Gn:=by
 rintro pins s σ H xs us Q I r ⟨ts,Γ,k,l,rp,g,c⟩
 match ts,l,g with
 | [.int i],l,g=>
  obtain⟨x,rfl⟩:=zz1 l rfl
  have rp:Rp X.K H ((.int i,some x)::Γ):=rp
  rw [aB rp] at r
  refine y9 pins s σ H _ us Q I r ⟨i,rfl,?_⟩
  have e:(if i < 0 then -i else i)=(i.natAbs:Int):=by split <;> lia
  rw [e]
  exact c _ _ _ g (bS rp.tail fun _=>.int)
def intsOf:List T->Option (List Int)
 | []=>some []
 | .int i::r=>match intsOf r with
  | some ns=>some (i::ns)
  | none=>none
 | _::_=>none
theorem fw:∀ {ts:List T} {ns:List Int},intsOf ts=some ns->ts=ns.map T.int
 | [],ns,e=>by cases e;rfl
 | t::ts,ns,e=>by
  cases t <;> first | cases e | skip
  rename_i i
  rw [intsOf] at e
  split at e
  ·rename_i ms em
   cases e
   rw [f',fw em]
  ·cases e
theorem fI {K:PySem.W.Frag}{H:Hp}{Γ:Fm}:∀ {ns:List Int} {vs:List V},(ns.map T.int).length=vs.length->Rp K H (zz (ns.map T.int) vs++Γ)->vs=ns.map V.int
 | [],[],_,_=>rfl
 | [],_::_,l,_=>by simp at l
 | _::_,[],l,_=>by simp at l
 | n::ns,v::vs,l,h=>by
  have h:Rp K H ((.int n,some v)::(zz (ns.map T.int) vs++Γ)):=h
  rw [aB h,fI (by simpa using l) h.tail]
  rfl
def Fl:P1s
 | [.int i,.int j],k=>k (.int (max i j))
 | [.int i,.int j,.int l],k=>k (.int (max (max i j) l))
 | [t],k=>got (items t) fun ts=>got (intsOf ts) fun ns=>ns≠[]/\∀ r,ze ns r->k (.int r)
 | _,_=>False
def Ej:P1s
 | [.int i,.int j],k=>k (.int (min i j))
 | [.int i,.int j,.int l],k=>k (.int (min (min i j) l))
 | [t],k=>got (items t) fun ts=>got (intsOf ts) fun ns=>ns≠[]/\∀ r,xY ns r->k (.int r)
 | _,_=>False
theorem xc (hc:X.calm=true):i8 X (.builtin "max") Fl:=by
 rintro pins s σ H xs us Q I r ⟨ts,Γ,k,l,rp,g,c⟩
 unfold Fl at g
 split at g
 ·rename_i k i j
  obtain⟨x,y,rfl⟩:=zz2 l rfl
  have rp:Rp X.K H ((.int i,some x)::(.int j,some y)::Γ):=rp
  rw [aB rp,aB rp.tail] at r
  refine wk hc pins s σ H _ us Q I r ⟨i,j,rfl,?_⟩
  have e:(if j > i then j else i)=max i j:=by split <;> lia
  rw [e]
  exact c _ _ _ g (bS rp.tail.tail fun _=>.int)
 ·rename_i k i j m
  obtain⟨x,y,z,rfl⟩:=zz3 l rfl
  have rp:Rp X.K H ((.int i,some x)::(.int j,some y)::(.int m,some z)::Γ):=rp
  rw [aB rp,aB rp.tail,aB rp.tail.tail] at r
  refine vX hc pins s σ H _ us Q I r ⟨i,j,m,rfl,fun w h1 h2 h3 h4=>?_⟩
  have e:w=max (max i j) m:=by lia
  rw [e]
  exact c _ _ _ g (bS rp.tail.tail.tail fun _=>.int)
 ·rename_i k t
  obtain⟨x,rfl⟩:=zz1 l rfl
  have rp:Rp X.K H ((t,some x)::Γ):=rp
  obtain⟨us',e,g⟩:=az g
  obtain⟨ns,en,ne,kt⟩:=az g
  have:=fw en
  subst this
  obtain⟨a,vs,rfl,hq,l2,rp2⟩:=aH e rp
  have:=fI l2 rp2
  subst this
  revert hq
  cases mM t with
  | true=>exact fun hq=>vI hc pins s σ H _ us Q I r ⟨a,ns,rfl,hq,ne,fun w hw=>c _ _ _ (kt w hw) (bS rp.tail fun _=>.int)⟩
  | false=>exact fun hq=>x8 hc pins s σ H _ us Q I r ⟨a,ns,rfl,hq,ne,fun w hw=>c _ _ _ (kt w hw) (bS rp.tail fun _=>.int)⟩
 ·exact False.elim g
theorem jX (hc:X.calm=true):i8 X (.builtin "min") Ej:=by
 rintro pins s σ H xs us Q I r ⟨ts,Γ,k,l,rp,g,c⟩
 unfold Ej at g
 split at g
 ·rename_i k i j
  obtain⟨x,y,rfl⟩:=zz2 l rfl
  have rp:Rp X.K H ((.int i,some x)::(.int j,some y)::Γ):=rp
  rw [aB rp,aB rp.tail] at r
  refine xF hc pins s σ H _ us Q I r ⟨i,j,rfl,?_⟩
  have e:(if j < i then j else i)=min i j:=by split <;> lia
  rw [e]
  exact c _ _ _ g (bS rp.tail.tail fun _=>.int)
 ·rename_i k i j m
  obtain⟨x,y,z,rfl⟩:=zz3 l rfl
  have rp:Rp X.K H ((.int i,some x)::(.int j,some y)::(.int m,some z)::Γ):=rp
  rw [aB rp,aB rp.tail,aB rp.tail.tail] at r
  refine x4 hc pins s σ H _ us Q I r ⟨i,j,m,rfl,fun w h1 h2 h3 h4=>?_⟩
  have e:w=min (min i j) m:=by lia
  rw [e]
  exact c _ _ _ g (bS rp.tail.tail.tail fun _=>.int)
 ·rename_i k t
  obtain⟨x,rfl⟩:=zz1 l rfl
  have rp:Rp X.K H ((t,some x)::Γ):=rp
  obtain⟨us',e,g⟩:=az g
  obtain⟨ns,en,ne,kt⟩:=az g
  have:=fw en
  subst this
  obtain⟨a,vs,rfl,hq,l2,rp2⟩:=aH e rp
  have:=fI l2 rp2
  subst this
  revert hq
  cases mM t with
  | true=>exact fun hq=>xf hc pins s σ H _ us Q I r ⟨a,ns,rfl,hq,ne,fun w hw=>c _ _ _ (kt w hw) (bS rp.tail fun _=>.int)⟩
  | false=>exact fun hq=>w9 hc pins s σ H _ us Q I r ⟨a,ns,rfl,hq,ne,fun w hw=>c _ _ _ (kt w hw) (bS rp.tail fun _=>.int)⟩
 ·exact False.elim g
def G6:P1s
 | [.int i],k=>k (.int i)
 | [.bl b],k=>k (.int (if b then 1 else 0))
 | _,_=>False
theorem xK:i8 X (.type "int") G6:=by
 rintro pins s σ H xs us Q I r ⟨ts,Γ,k,l,rp,g,c⟩
 unfold G6 at g
 split at g
 ·rename_i k i
  obtain⟨x,rfl⟩:=zz1 l rfl
  have rp:Rp X.K H ((.int i,some x)::Γ):=rp
  rw [aB rp] at r
  exact oA pins s σ H _ us Q I r (.inl ⟨i,rfl,c _ _ _ g (bS rp.tail fun _=>.int)⟩)
 ·rename_i k i
  obtain⟨x,rfl⟩:=zz1 l rfl
  have rp:Rp X.K H ((.bl i,some x)::Γ):=rp
  rw [ug rp] at r
  exact oA pins s σ H _ us Q I r (.inr ⟨i,rfl,c _ _ _ g (bS rp.tail fun _=>.int)⟩)
 ·exact False.elim g
def qg:P1s
 | [.tup ts],k=>k (.tup ts)
 | [.cst ts],k=>k (.cst ts)
 | [.lst _ ts],k=>k (.tup ts)
 | _,_=>False
theorem dS:i8 X (.type "tuple") qg:=by
 rintro pins s σ H xs us Q I r ⟨ts,Γ,k,l,rp,g,c⟩
 unfold qg at g
 split at g
 ·rename_i k ts
  obtain⟨x,rfl⟩:=zz1 l rfl
  have rp:Rp X.K H ((.tup ts,some x)::Γ):=rp
  obtain⟨a,vs,rfl,hq,l2,rp2⟩:=aH rfl rp
  exact kP pins s σ H _ us Q I r ⟨a,vs,rfl,hq,c _ _ _ g rp⟩
 ·rename_i k ts
  obtain⟨x,rfl⟩:=zz1 l rfl
  have rp:Rp X.K H ((.cst ts,some x)::Γ):=rp
  obtain⟨a,vs,rfl,hq,l2,rp2⟩:=aH rfl rp
  exact kP pins s σ H _ us Q I r ⟨a,vs,rfl,hq,c _ _ _ g rp⟩
 ·rename_i k o ts
  obtain⟨x,rfl⟩:=zz1 l rfl
  have rp:Rp X.K H ((.lst o ts,some x)::Γ):=rp
  obtain⟨a,vs,rfl,hq,l2,rp2⟩:=aH rfl rp
  exact qR pins s σ H _ us Q I r ⟨a,vs,rfl,hq,fun p H' hp g' e'=>c _ _ _ g (gG rp2 l2 g' e')⟩
 ·exact False.elim g
abbrev PO':=Ev->(Option Int->Ev->Prop)->Prop
def wO (K:PySem.W.Frag)(f:PO'):TO:=fun σ H Q=>∃ env Fr k,Rs K H env σ Fr/\f env k/\∀ o env' H',k o env'->Rs K H' env' σ Fr->Q o H'
def GO (X:Cx)(e:Option Expr)(f:PO'):Prop:=PO X e (wO X.K f)
def Ip:PO':=fun env k=>k none env
def IE (f:PF):PO':=fun env k=>f env fun t env1=>match t with
 | .int i=>k (some i) env1
 | _=>False
theorem lG:GO X none Ip:=fun pins s σ H Q I ⟨env,Fr,k,rs,q,c⟩=>uC pins s σ H Q I (c _ _ _ q rs)
theorem l9 {e:Expr}{f:PF}(h:GE X e f):GO X (some e) (IE f):=by
 rintro pins s σ H Q I ⟨env,Fr,k,rs,q,c⟩
 refine uU h pins s σ H Q I ⟨env,Fr,_,rs,q,fun t env1 v H1 q1 rs1=>?_⟩
 cases t <;> first | exact False.elim q1 | skip
 exact⟨_,aB rs1.head,c _ _ _ q1 rs1.drop⟩
def fZ (ts:List T)(lo hi:Option Int):List T:=(ts.drop (HT.sIx ts.length 0 lo)).take (HT.sIx ts.length ts.length hi - HT.sIx ts.length 0 lo)
def slT:T->Option Int->Option Int->(T->Prop)->Prop
 | .lst _ ts,lo,hi,k=>k (.lst true (fZ ts lo hi))
 | .tup ts,lo,hi,k=>¬ (HT.sIx ts.length 0 lo=0/\HT.sIx ts.length ts.length hi=ts.length)/\k (.tup (fZ ts lo hi))
 | .cst ts,lo,hi,k=>¬ (HT.sIx ts.length 0 lo=0/\HT.sIx ts.length ts.length hi=ts.length)/\k (.tup (fZ ts lo hi))
 | _,_,_,_=>False
theorem uJ:∀ (ts:List T) (vs:List V) (n:Nat),zz (ts.drop n) (vs.drop n)=(zz ts vs).drop n
 | ts,vs,0=>rfl
 | [],vs,n + 1=>by simp [zz]
 | t::ts,[],n + 1=>by simp [zz]
 | t::ts,v::vs,n + 1=>by
  show zz (ts.drop n) (vs.drop n)=(zz ts vs).drop n
  exact uJ ts vs n
theorem vx:∀ (ts:List T) (vs:List V) (n:Nat),zz (ts.take n) (vs.take n)=(zz ts vs).take n
 | ts,vs,0=>by simp [zz]
 | [],vs,n + 1=>by simp [zz]
 | t::ts,[],n + 1=>by simp [zz]
 | t::ts,v::vs,n + 1=>by
  show (t,some v)::zz (ts.take n) (vs.take n)=(t,some v)::(zz ts vs).take n
  rw [vx ts vs n]
theorem sL {K:PySem.W.Frag}{H:Hp}{Γ:Fm}{ts:List T}{vs:List V}(l:ts.length=vs.length)(lo hi:Option Int)(h:Rp K H (zz ts vs++Γ)):Rp K H (zz (fZ ts lo hi) (gM vs lo hi)++Γ)/\(fZ ts lo hi).length=(gM vs lo hi).length:=by
 unfold fZ gM
 rw [<-l]
 refine⟨?_,?_⟩
 ·rw [vx,uJ]
  have e1:=C' (HT.sIx ts.length 0 lo) (zz ts vs)
  have e2:=C' (HT.sIx ts.length ts.length hi - HT.sIx ts.length 0 lo) ((zz ts vs).drop (HT.sIx ts.length 0 lo))
  have h2:Rp K H ((zz ts vs).drop (HT.sIx ts.length 0 lo)++Γ):=by
   rw [<-e1,gV] at h
   exact h.part
  rw [<-e2,gV] at h2
  have h3:=h2.perm (i' _ _ _)
  exact h3.part
 ·rw [A',A',F',F',l]
def fSl (fa:PF)(fl fh:PO'):PF:=fun env k=>fa env fun t env1=>fl env1 fun lo env2=>fh env2 fun hi env3=>slT t lo hi fun u=>k u env3
theorem jo {e:Expr}{lo hi:Option Expr}{fa:PF}{fl fh:PO'}{p2 pos:Pos}(he:GE X e fa)(hl:GO X lo fl)(hh:GO X hi fh):GE X (.Subscript e (.Slice lo hi none p2) pos) (fSl fa fl fh):=by
 have sl:SlR X (fun x lo hi H Q=>∃ t Γ k,Rp X.K H ((t,some x)::Γ)/\slT t lo hi k/\∀ u v H',k u->Rp X.K H' ((u,some v)::Γ)->Q v H'):=by
  rintro pins s σ H x v vl vu lo hi sl Q I rx hs pl pu ⟨t,Γ,k,rp,g,c⟩
  cases t with
  | lst o ts=>
   obtain⟨a,vs,rfl,hq,l,rp2⟩:=aH rfl rp
   obtain⟨rp3,l3⟩:=sL l lo hi rp2
   exact Ae pins s σ H _ v vl vu lo hi sl Q I rx hs pl pu ⟨a,vs,rfl,hq,fun p H' hp g' e=>c _ _ _ g (fN rp3 l3 hp g' e)⟩
  | tup ts=>
   obtain⟨a,vs,rfl,hq,l,rp2⟩:=aH rfl rp
   obtain⟨rp3,l3⟩:=sL l lo hi rp2
   exact vo pins s σ H _ v vl vu lo hi sl Q I rx hs pl pu ⟨a,vs,rfl,hq,by rw [<-l];exact g.1,fun p H' hp g' e=>c _ _ _ g.2 (gG rp3 l3 g' e)⟩
  | cst ts=>
   obtain⟨a,vs,rfl,hq,l,rp2⟩:=aH rfl rp
   obtain⟨rp3,l3⟩:=sL l lo hi rp2
   exact vo pins s σ H _ v vl vu lo hi sl Q I rx hs pl pu ⟨a,vs,rfl,hq,by rw [<-l];exact g.1,fun p H' hp g' e=>c _ _ _ g.2 (gG rp3 l3 g' e)⟩
  | _=>exact False.elim g
 refine PE.imp (qM sl he hl hh) ?_
 rintro σ H Q ⟨env,Fr,k,rs,q,c⟩
 refine⟨env,Fr,_,rs,q,fun t env1 v H1 q1 rs1=>⟨env1,_,_,rs1,q1,fun lo env2 H2 q2 rs2=>⟨env2,_,_,rs2,q2,fun hi env3 H3 q3 rs3=>?_⟩⟩⟩
 exact⟨t,_,_,rs3.head,q3,fun u w H' ku rp=>c _ _ _ _ ku (.of rs3.1 rp)⟩
end
end PL
namespace PL
open PySem PySem.Spec PyProof.Rows L2
inductive Arg where
 | val (t:T) | bor (i:Nat)
def mf:Arg->T
 | .val t=>t
 | .bor _=>.any
def lend:List Arg->Ev->List T × Ev
 | [],env=>([],env)
 | .val t::r,env=>(t::(lend r env).1,(lend r env).2)
 | .bor i::r,env=>match env[i]? with
  | some t=>(t::(lend r (env.set i .any)).1,(lend r (env.set i .any)).2)
  | none=>(.any::(lend r env).1,(lend r env).2)
def back:List Arg->List T->Ev->Ev
 | .bor i::r,t::ts,env=>back r ts (env.set i t)
 | .val _::r,_::ts,env=>back r ts env
 | _,_,env=>env
def j7:List Arg->List (Option V)->L2.St->Prop
 | [],[],_=>True
 | .val _::r,_::xs,σ=>j7 r xs σ
 | .bor i::r,x::xs,σ=>(σ[i]?=some x\/σ.length<=i)/\j7 r xs σ
 | _,_,_=>False
section
variable {K:PySem.W.Frag}{H:Hp}{σ:L2.St}
theorem jl:∀ {as:List Arg} {xs:List (Option V)} {env:Ev} {Fr:Fm},j7 as xs σ->Rs K H env σ ((as.map mf).zip xs++Fr)->Rs K H (lend as env).2 σ ((lend as env).1.zip xs++Fr)
 | [],[],env,Fr,_,h=>h
 | [],_::_,env,Fr,o,_=>o.elim
 | .val t::r,[],env,Fr,o,_=>o.elim
 | .bor i::r,[],env,Fr,o,_=>o.elim
 | .val t::r,x::xs,env,Fr,o,h=>by
  have h:Rs K H env σ ((t,x)::((r.map mf).zip xs++Fr)):=h
  have h2:Rs K H env σ ((r.map mf).zip xs++((t,x)::Fr)):=h.perm f_.symm
  exact (jl (as:=r) o h2).perm f_
 | .bor i::r,x::xs,env,Fr,o,h=>by
  have h:Rs K H env σ ((.any,x)::((r.map mf).zip xs++Fr)):=h
  have h:=h.drop
  rw [lend]
  split
  ·rename_i t e
   obtain⟨y,ey,h2⟩:=h.slot e
   have o1:σ[i]?=some x:=by
    rcases o.1 with z | z
    ·exact z
    ·have:=(e_.mp ey).1
     lia
   rw [o1] at ey
   cases ey
   have h3:Rs K H (env.set i .any) σ ((r.map mf).zip xs++((t,x)::Fr)):=h2.perm f_.symm
   exact (jl (as:=r) o.2 h3).perm f_
  ·have h3:Rs K H env σ ((r.map mf).zip xs++((.any,x)::Fr)):=(Rs.of h.1 (gE (x:=x) h.2)).perm f_.symm
   exact (jl (as:=r) o.2 h3).perm f_
theorem iZ:∀ {as:List Arg} {xs:List (Option V)} {ts:List T} {env:Ev} {Fr:Fm},j7 as xs σ->Rs K H env σ (ts.zip xs++Fr)->Rs K H (back as ts env) σ Fr
 | [],xs,ts,env,Fr,_,h=>by
  have:back [] ts env=env:=by cases ts <;> rfl
  rw [this]
  exact⟨h.1,(h.2.perm (i' _ _ _)).part⟩
 | a::r,xs,[],env,Fr,_,h=>by
  have:back (a::r) [] env=env:=by cases a <;> rfl
  rw [this]
  exact h
 | .val t::r,[],u::ts,env,Fr,o,_=>o.elim
 | .bor i::r,[],u::ts,env,Fr,o,_=>o.elim
 | .val t::r,x::xs,u::ts,env,Fr,o,h=>by
  have h:Rs K H env σ ((u,x)::(ts.zip xs++Fr)):=h
  exact iZ (as:=r) o h.drop
 | .bor i::r,x::xs,u::ts,env,Fr,o,h=>by
  have h:Rs K H env σ ((u,x)::(ts.zip xs++Fr)):=h
  rw [back]
  by_cases hi:i < env.length
  ·have o1:σ[i]?=some x:=by
    rcases o.1 with z | z
    ·exact z
    ·have:=h.1
     lia
   exact iZ (as:=r) o.2 (h.iG hi o1)
  ·have e:env.set i u=env:=Lz (by lia)
   rw [e]
   exact iZ (as:=r) o.2 h.drop
theorem Rs.put {env:Ev}{Fr:Fm}{i:Nat}{t:T}{v:V}(h:Rs K H env σ ((t,some v)::Fr)):Rs K H (env.set i t) (σ.set i (some v)) Fr:=by
 by_cases hi:i < env.length
 ·exact h.store hi
 ·rw [Lz (by lia),Lz (by rw [<-h.1];lia)]
  exact h.drop
end
abbrev PAs:=Ev->(List Arg->Ev->Prop)->Prop
def wR (K:PySem.W.Frag)(f:PAs):TA:=fun σ H Q=>∃ env Fr k,Rs K H env σ Fr/\f env k/\∀ as env' vs H',k as env'->as.length=vs.length->j7 as (vs.map some) σ->Rs K H' env' σ ((as.map mf).zip (vs.map some)++Fr)->Q vs H'
def GR (X:Cx)(es:List Expr)(f:PAs):Prop:=PA X es (wR X.K f)
def DY:PAs:=fun env k=>k [] env
def Ig (f:PF)(r:PAs):PAs:=fun env k=>f env fun t env1=>r env1 fun as env2=>k (.val t::as) env2
def ER (i:Nat)(r:PAs):PAs:=fun env k=>(match env[i]? with
 | some t=>isAny t=false
 | none=>False)/\r env fun as env2=>k (.bor i::as) env2
section
variable {X:Cx}{e:Expr}{es:List Expr}{f:PF}{fr:PAs}
theorem aJ:GR X [] DY:=PA.imp bC fun σ H Q ⟨env,Fr,k,rs,q,c⟩=>c [] env [] H q rfl trivial rs
theorem ah (he:GE X e f)(hr:GR X es fr)(hs:starEach (e::es) X.env=(false,eval e X.env)::starEach es X.env:=by rfl):GR X (e::es) (Ig f fr):=by
 refine PA.imp (av he hr hs) ?_
 rintro σ H Q ⟨env,Fr,k,rs,q,c⟩
 refine⟨env,Fr,_,rs,q,fun t env1 v H1 q1 rs1=>⟨env1,_,_,rs1,q1,fun as env2 vs H2 q2 l ao rs2=>c _ _ _ _ q2 (by rw [h_,h_,l]) ao ?_⟩⟩
 exact rs2.perm f_
theorem eI (i:Nat){x:Str}{pos:Pos}(hr:GR X es fr)(hN:X.N[i]?=some x:=by rfl)(hv:Vis X.env.scope x:=by first | exact p_ rfl | exact D_ (p_ rfl) | exact D_ (D_ rfl))(hd:(x == ("__debug__":Str))=false:=by decide)(hcd:(x == ("__classdict__":Str))=false:=by decide)
  (hs:starEach (.Name x pos::es) X.env=(false,eval (.Name x pos) X.env)::starEach es X.env:=by rfl):GR X (.Name x pos::es) (ER i fr):=by
 refine PA.imp (av (fO hN hv hd hcd) hr hs) ?_
 rintro σ H Q ⟨env,Fr,k,rs,⟨na,q⟩,c⟩
 split at na
 ·rename_i t e
  obtain⟨y,ey,rs2⟩:=rs.slot e
  obtain⟨v,rfl⟩:=dY rs2 na
  refine⟨v,ey,env,Fr,_,rs,q,fun as env2 vs H2 q2 l ao rs2=>c _ _ _ _ q2 (by rw [h_,h_,l]) ⟨.inl ey,ao⟩ ?_⟩
  exact .of rs2.1 (gE rs2.2)
 ·exact na.elim
end
abbrev FP:=List T->(T->List T->Prop)->Prop
def aU (K:PySem.W.Frag)(n:Nat)(P:FP):Sp:=fun vs H Q _=>∃ ts Fr k,ts.length=vs.length/\vs.length=n/\Rp K H (zz ts vs++Fr)/\P ts k/\∀ t ts' v H',k t ts'->Rp K H' ((t,some v)::(zz ts' vs++Fr))->Q v H'
def HH (P:FP)(ts:List T)(k:T->List T->Prop):Prop:=P ts k
def C1 (n:Nat)(P:FP)(fr:PAs):PF:=fun env k=>fr env fun as env1=>as.length=n/\HH P (lend as env1).1 fun t ts'=>k t (back as ts' (lend as env1).2)
section
variable {X:Cx}
theorem gf:∀ (as:List Arg) (env:Ev),(lend as env).1.length=as.length
 | [],env=>rfl
 | .val t::r,env=>by rw [lend,h_,h_,gf r]
 | .bor i::r,env=>by
  rw [lend]
  split
  ·rw [h_,h_,gf r]
  ·rw [h_,h_,gf r]
theorem vB {n:Nat}{P:FP}{fr:PAs}:∀ σ H Q,wE X.K (C1 n P fr) σ H Q->uB (aU X.K n P) [] E0 (wR X.K fr) σ H Q:=by
 rintro σ H Q ⟨env,Fr,k,rs,q,c⟩
 refine⟨env,Fr,_,rs,q,fun as env1 vs H1 ⟨hn,q1⟩ l ao rs1=>?_⟩
 show aU X.K n P (vs++[]) H1 Q E0
 rw [JF]
 have rs2:=jl ao rs1
 refine⟨(lend as env1).1,(lend as env1).2.zip σ++Fr,_,by rw [gf,l],by rw [<-l];exact hn,?_,q1,fun t ts' v H' kt rp=>c _ _ _ _ kt ?_⟩
 ·exact rs2.2.perm (i' _ _ _)
 ·have h3:Rs X.K H' (lend as env1).2 σ (zz ts' vs++((t,some v)::Fr)):=⟨rs2.1,rp.perm (by
   refine s_ ?_ (i' _ _ _)
   refine s_ f_.symm ?_
   exact JD _ f_.symm)⟩
  exact iZ ao h3
theorem aI {j k n:Nat}{x:Str}{ps:List Str}{P:FP}{e:Expr}{es:List Expr}{fr:PAs}{p pos:Pos}(D:Cal X.prog X.w X.K X.mg X.base j x ps (aU X.K n P))(hr:Room k X.A)(hg:Gl X x)(ha:GR X (e::es) fr)(hjk:j<=k:=by omega)(hdb:(x == ("__debug__":Str))=false:=by decide)
  (he:starEach (e::es) X.env=(false,eval e X.env)::starEach es X.env:=by rfl) (hpl:(backTo pos (starEach es X.env)).any (·.1)=false:=by rfl):GE X (.Call (.Name x p) (e::es) [] pos) (C1 n P fr):=PE.imp (xT D hr hg ha hjk hdb he hpl) vB
theorem D5 {j k:Nat}{x:Str}{P:FP}{p pos:Pos}(D:Cal X.prog X.w X.K X.mg X.base j x [] (aU X.K 0 P))(hr:Room k X.A)(hg:Gl X x)(hjk:j<=k:=by omega)(hdb:(x == ("__debug__":Str))=false:=by decide):GE X (.Call (.Name x p) [] [] pos) (C1 0 P DY):=by
 obtain⟨f,fd,F,hm,hk,hb⟩:=D.ex
 refine PE.imp (yU F (hr.mono hjk) hg hm hk hb .nil DE hdb) fun σ H Q h=>?_
 obtain⟨env,Fr,kk,rs,q,c⟩:=vB σ H Q h
 exact c [] env [] H q rfl trivial rs
end
structure PEn where
 nx:Ev->Prop
 rt:T->Ev->Prop
 bk:Ev->Prop:=fun _=>False
 ct:Ev->Prop:=fun _=>False
abbrev PSt:=PEn->Ev->Prop
def Kept (κ:Nat->Bool)(σ σ':L2.St):Prop:=σ'.length=σ.length/\∀ j,κ j=true->σ'[j]?=σ[j]?
theorem Kept.refl {κ:Nat->Bool}{σ:L2.St}:Kept κ σ σ:=⟨rfl,fun _ _=>rfl⟩
theorem Kept.trans {κ:Nat->Bool}{σ σ' σ'':L2.St}(a:Kept κ σ σ')(b:Kept κ σ' σ''):Kept κ σ σ'':=⟨b.1.trans a.1,fun j h=>(b.2 j h).trans (a.2 j h)⟩
theorem Kept.set {κ:Nat->Bool}{σ:L2.St}{i:Nat}{x:Option V}(h:κ i=false):Kept κ σ (σ.set i x):=⟨I_,fun j hj=>by
 by_cases e:i=j
 ·subst e;rw [h] at hj;cases hj
 ·rw [KL e]⟩
structure EndOk (K:PySem.W.Frag) (κ:Nat->Bool) (σ:L2.St) (Fr:Fm) (pe:PEn) (D:Ends):Prop where
 nx:∀ env' σ' H',pe.nx env'->Rs K H' env' σ' Fr->Kept κ σ σ'->D.nx σ' H'
 rt:∀ t env' v σ' H',pe.rt t env'->Rs K H' env' σ' ((t,some v)::Fr)->Kept κ σ σ'->D.rt v H'
 bk:∀ env' σ' H',pe.bk env'->Rs K H' env' σ' Fr->Kept κ σ σ'->D.bk σ' H'
 ct:∀ env' σ' H',pe.ct env'->Rs K H' env' σ' Fr->Kept κ σ σ'->D.ct σ' H'
theorem EndOk.later {K:PySem.W.Frag}{κ:Nat->Bool}{σ σ':L2.St}{Fr:Fm}{pe:PEn}{D:Ends}(h:EndOk K κ σ Fr pe D)(k:Kept κ σ σ'):EndOk K κ σ' Fr pe D:=
 ⟨fun a b c p q r=>h.nx a b c p q (k.trans r),fun a b c d e p q r=>h.rt a b c d e p q (k.trans r),fun a b c p q r=>h.bk a b c p q (k.trans r),fun a b c p q r=>h.ct a b c p q (k.trans r)⟩
def wS (K:PySem.W.Frag)(κ:Nat->Bool)(f:PSt):TS:=fun D σ H=>∃ env Fr pe,Rs K H env σ Fr/\f pe env/\EndOk K κ σ Fr pe D
def GS (κ:Nat->Bool)(X:Cx)(st:Stmt)(f:PSt):Prop:=PS X st (wS X.K κ f)
def GSs (κ:Nat->Bool)(X:Cx)(sts:List Stmt)(f:PSt):Prop:=PSs X sts (wS X.K κ f)
theorem PS.imp {X:Cx}{st:Stmt}{t t':TS}(h:PS X st t)(k:∀ D σ H,t' D σ H->t D σ H):PS X st t':=fun pins s σ H D I q=>h pins s σ H D I (k _ _ _ q)
theorem PSs.imp {X:Cx}{st:List Stmt}{t t':TS}(h:PSs X st t)(k:∀ D σ H,t' D σ H->t D σ H):PSs X st t':=fun pins s σ H D I q=>h pins s σ H D I (k _ _ _ q)
def DN:PSt:=fun pe env=>pe.nx env
def GZ (f g:PSt):PSt:=fun pe env=>f { pe with nx:=g pe } env
section
variable {X:Cx}{κ:Nat->Bool}{pos:Pos}{st:Stmt}{rest:List Stmt}{f g:PSt}{e:Expr}{fe:PF}
theorem cz:GSs κ X [] DN:=PSs.imp e9 fun D σ H ⟨env,Fr,pe,rs,q,c⟩=>c.nx _ _ _ q rs .refl
theorem af (h1:GS κ X st f)(h2:GSs κ X rest g):GSs κ X (st::rest) (GZ f g):=by
 refine PSs.imp (aR h1 h2) ?_
 rintro D σ H ⟨env,Fr,pe,rs,q,c⟩
 refine⟨env,Fr,_,rs,q,⟨fun env' σ' H' q1 rs1 k1=>⟨env',Fr,pe,rs1,q1,c.later k1⟩,c.rt,c.bk,c.ct⟩⟩
theorem ai (h1:GS κ X st f):GSs κ X [st] f:=dB h1
def Dw (fe:PF):PSt:=fun pe env=>fe env fun _ env1=>pe.nx env1
theorem eT (he:GE X e fe)(hs:swapsWith e none pos.line X.env=pure false:=by rfl):GS κ X (.Expr e pos) (Dw fe):=by
 refine PS.imp (BI he hs) ?_
 rintro D σ H ⟨env,Fr,pe,rs,q,c⟩
 exact⟨env,Fr,_,rs,q,fun t env' v H' q1 rs1=>c.nx _ _ _ q1 rs1.drop .refl⟩
def GH (fe:PF):PSt:=fun pe env=>fe env fun t env1=>pe.rt t env1
theorem aL (he:GE X e fe):GS κ X (.Return (some e) pos) (GH fe):=by
 refine PS.imp (eW he) ?_
 rintro D σ H ⟨env,Fr,pe,rs,q,c⟩
 exact⟨env,Fr,_,rs,q,fun t env' v H' q1 rs1=>c.rt _ _ _ _ _ q1 rs1 .refl⟩
def sIf (tc:PB)(f g:PSt):PSt:=fun pe env=>tc env fun b env1=>cnd b (f pe env1) (g pe env1)
theorem eP {c:Expr}{a b:List Stmt}{tc:PB}(hc:GT X c tc)(ha:GSs κ X a f)(hb:GSs κ X b g):GS κ X (.If c a b pos) (sIf tc f g):=by
 refine PS.imp (jf hc ha hb) ?_
 rintro D σ H ⟨env,Fr,pe,rs,q,c⟩
 refine⟨env,Fr,_,rs,q,fun b env' H' q1 rs1=>jz ⟨fun h=>⟨env',Fr,pe,rs1,q1.1 h,c⟩,fun h=>⟨env',Fr,pe,rs1,q1.2 h,c⟩⟩⟩
def Fo (i:Nat)(fe:PF):PSt:=fun pe env=>fe env fun t env1=>pe.nx (env1.set i t)
theorem aA {i:Nat}{x:Str}{pos':Pos}(hN:X.N.Nodup)(hi:X.N[i]?=some x)(hx:Loc X.env.scope x)(hκ:κ i=false)(he:GE X e fe)(hs:swapsWith e (some (.Name x pos')) pos.line X.env=pure false:=by rfl)(hf:X.fn x=true\/X.env.scope.names.lookup x=some .local:=by first | exact .inl rfl | exact .inr rfl | assumption) :
  GS κ X (.Assign [.Name x pos'] e pos) (Fo i fe):=by
 refine PS.imp (gK hN hi hx he hs hf) ?_
 rintro D σ H ⟨env,Fr,pe,rs,q,c⟩
 exact⟨env,Fr,_,rs,q,fun t env' v H' q1 rs1=>c.nx _ _ _ q1 rs1.put (.set hκ)⟩
abbrev PG':=T->Ev->(Ev->Prop)->Prop
abbrev mN:=List T->Ev->(Ev->Prop)->Prop
def wG (K:PySem.W.Frag)(κ:Nat->Bool)(f:PG'):TG:=fun v σ H Q=>∃ t env Fr k,Rs K H env σ ((t,some v)::Fr)/\f t env k/\∀ env' σ' H',k env'->Rs K H' env' σ' Fr->Kept κ σ σ'->Q σ' H'
def wGs (K:PySem.W.Frag)(κ:Nat->Bool)(f:mN):TGs:=fun vs σ H Q=>∃ ts env Fr k,ts.length=vs.length/\Rs K H env σ (zz ts vs++Fr)/\f ts env k/\∀ env' σ' H',k env'->Rs K H' env' σ' Fr->Kept κ σ σ'->Q σ' H'
def GG (κ:Nat->Bool)(X:Cx)(tg:Expr)(f:PG'):Prop:=PG X tg (wG X.K κ f)
def GGs (κ:Nat->Bool)(X:Cx)(tgs:List Expr)(f:mN):Prop:=PGs X tgs (wGs X.K κ f)
def gN (i:Nat):PG':=fun t env k=>k (env.set i t)
theorem ay {i:Nat}{x:Str}(hN:X.N.Nodup)(hi:X.N[i]?=some x)(hx:Loc X.env.scope x)(hκ:κ i=false)(hf:X.fn x=true\/X.env.scope.names.lookup x=some .local:=by first | exact .inl rfl | exact .inr rfl | assumption):GG κ X (.Name x pos) (gN i):=
 fun pins s σ H v u Q I r ⟨t,env,Fr,k,rs,q,c⟩=>lj hN hi hx hf pins s σ H v u Q I r (c _ _ _ q rs.put (.set hκ))
def Dv:mN:=fun ts env k=>ts=[]/\k env
def yq (f:PG')(r:mN):mN:=fun ts env k=>match ts with
 | t::ts=>f t env fun env1=>r ts env1 k
 | []=>False
def gTp (n:Nat)(f:mN):PG':=fun t env k=>match t with
 | .tup ts=>ts.length=n/\f ts env k
 | .cst ts=>ts.length=n/\f ts env k
 | _=>False
end
end PL
namespace PL
open PySem PySem.Spec PyProof.Rows L2
section
variable {X:Cx}{κ:Nat->Bool}{pos:Pos}{e tg:Expr}{es:List Expr}{fe:PF}{g:PG'}{gs:mN}
theorem pN:GGs κ X [] Dv:=by
 rintro pins s σ H vs us Q I r ⟨ts,env,Fr,k,l,rs,⟨e,q⟩,c⟩
 subst e
 have:vs=[]:=by cases vs with | nil=>rfl | cons _ _=>cases l
 subst this
 exact p9 pins s σ H [] us Q I r ⟨rfl,c _ _ _ q rs .refl⟩
theorem fu (h1:GG κ X e g)(h2:GGs κ X es gs)(hs:(assignEach (e::es) X.env).map (·.2)=assign e X.env::(assignEach es X.env).map (·.2):=by rfl):GGs κ X (e::es) (yq g gs):=by
 rintro pins s σ H vs us Q I r ⟨ts,env,Fr,k,l,rs,q,c⟩
 cases ts with
 | nil=>exact False.elim q
 | cons t ts=>
  cases vs with
  | nil=>cases l
  | cons v vs=>
   have q:g t env fun env1=>gs ts env1 k:=q
   refine gR h1 h2 hs pins s σ H (v::vs) us Q I r ⟨v,vs,rfl,t,env,zz ts vs++Fr,_,rs,q,fun env1 σ1 H1 q1 rs1 k1=>?_⟩
   exact⟨ts,env1,Fr,k,by simpa using l,rs1,q1,fun env2 σ2 H2 q2 rs2 k2=>c _ _ _ q2 rs2 (k1.trans k2)⟩
theorem sR {x1 n:Nat}(hc:X.calm=true)(h:GGs κ X es gs)(hn:(assignEach es X.env).length=n:=by rfl)(hst:(assignEach es X.env).findIdx? (·.1)=none:=by rfl):GG κ X (.Tuple es x1 pos) (gTp n gs):=by
 rintro pins s σ H v u Q I r ⟨t,env,Fr,k,rs,q,c⟩
 have go:∀ ts,items t=some ts->mM t=true->ts.length=n->gs ts env k->wpAny (model X.prog X.w) X.A (assign (.Tuple es x1 pos) X.env u) (fun _ s'=>∃ σ' H',Inv X pins σ' H' s'/\Q σ' H') X.xe s:=fun ts e1 e2 e3 q=>by
  obtain⟨a,vs,rfl,hq,l,rp⟩:=aH e1 rs.head
  rw [e2] at hq
  refine tQ hc h hn hst pins s σ H _ u Q I r ⟨a,vs,rfl,hq,by rw [<-l];exact e3,ts,env,Fr,k,l,⟨rs.1,?_⟩,q,c⟩
  exact rp.perm (i' _ _ _)
 cases t with
 | tup ts=>exact go ts rfl rfl q.1 q.2
 | cst ts=>exact go ts rfl rfl q.1 q.2
 | _=>exact False.elim q
def GC (fe:PF)(g:PG'):PSt:=fun pe env=>fe env fun t env1=>g t env1 pe.nx
theorem mS (he:GE X e fe)(hg:GG κ X tg g)(hs:swapsWithSole [tg] e pos.line X.env=pure false:=by rfl)(hw:swappedStores [tg] e X.env=pure none:=by rfl)(h1:(assignEach [tg] X.env).map (·.2)=[assign tg X.env]:=by rfl) :
  GS κ X (.Assign [tg] e pos) (GC fe g):=by
 refine PS.imp (AG he hg hs hw h1) ?_
 rintro D σ H ⟨env,Fr,pe,rs,q,c⟩
 exact⟨env,Fr,_,rs,q,fun t env' v H' q1 rs1=>⟨t,env',Fr,_,rs1,q1,fun env2 σ2 H2 q2 rs2 k2=>c.nx _ _ _ q2 rs2 k2⟩⟩
def E2 (i:Nat)(fe:PF)(g:P2):PSt:=fun pe env=>(match env[i]? with
 | some t=>isAny t=false/\aG t=true
 | none=>False)/\fe env fun u env1=>match env[i]? with
 | some t=>g t u fun w=>pe.nx (env1.set i w)
 | none=>False
def IpP (X:Cx)(op:Operator)(g:P2):Prop:=PIp X op (w2 X.K g)
theorem El {i:Nat}{x:Str}{op:Operator}{g:P2}{pos':Pos}(hN:X.N.Nodup)(hi:X.N[i]?=some x)(hx:Loc X.env.scope x)(hκ:κ i=false)(he:GE X e fe)(ho:IpP X op g)(hf:X.fn x=true\/X.env.scope.names.lookup x=some .local:=by first | exact .inl rfl | exact .inr rfl | assumption) :
  GS κ X (.AugAssign (.Name x pos') op e pos) (E2 i fe g):=by
 refine PS.imp (FG hN hi hx he ho hf) ?_
 rintro D σ H ⟨env,Fr,pe,rs,⟨q0,q⟩,c⟩
 cases e0:env[i]? with
 | none=>rw [e0] at q0;exact q0.elim
 | some t=>
  simp only [e0] at q0 q
  obtain⟨y,ey,rs2⟩:=rs.slot e0
  obtain⟨v,rfl⟩:=dY rs2 q0.1
  have hi':i < env.length:=(e_.mp e0).1
  have r3:Rs X.K H (env.set i .any) σ ((t,some v)::(t,some v)::Fr):=.of rs2.1 ((mP rs2.head q0.2).perm (MK _ f_.symm))
  have r4:=Rs.iG (i:=i) r3 (by rw [I_];exact hi') ey
  rw [js e0] at r4
  refine⟨v,ey,env,(t,some v)::Fr,_,r4,q,fun u env1 w H1 q1 rs1=>?_⟩
  refine⟨t,u,env1.zip σ++Fr,_,rs1.head.perm (.cons _ f_),q1,fun z b H2 kz rp=>?_⟩
  exact c.nx _ _ _ kz (Rs.put (.of rs1.1 rp)) (.set hκ)
def Dz:P2
 | .int i,.int j,k=>k (.int (i + j))
 | _,_,_=>False
theorem Cr:IpP X .Add Dz:=by
 rintro pins s σ H x y v u Q I rx ry ⟨tx,ty,Γ,k,rp,g,c⟩
 cases tx <;> cases ty <;> first | exact False.elim g | skip
 rename_i i j
 rw [aB rp] at ry
 rw [aB rp.tail] at rx
 exact Fd pins s σ H _ _ v u Q I rx ry ⟨i,j,rfl,rfl,c _ _ _ g (bS rp.tail.tail fun _=>.int)⟩
def tL (tc:PB)(fb:PSt)(pe:PEn)(env:Ev):Prop:=∃ W:Nat->Ev->Prop,(∃ m,W m env)/\∀ m env,W m env->tc env fun b env1=>cnd b (fb { pe with nx:=fun e=>∃ m',m' < m/\W m' e,ct:=fun e=>∃ m',m' < m/\W m' e,bk:=pe.nx } env1) (pe.nx env1)
def AL (tc:PB)(fb:PSt):PSt:=fun pe env=>tL tc fb pe env
theorem j9 {c:Expr}{body:List Stmt}{tc:PB}{fb:PSt}(hp:PassesOwn (model X.prog X.w) X.A X.env X.xe)(hc:GT X c tc)(hb:GSs κ X body fb):GS κ X (.While c body [] pos) (AL tc fb):=by
 refine PS.imp (AM hp hc hb) ?_
 rintro D σ H ⟨env,Fr,pe,rs,⟨W,⟨m0,w0⟩,wt⟩,c⟩
 refine⟨fun m σ' H'=>∃ env',W m env'/\Rs X.K H' env' σ' Fr/\Kept κ σ σ',⟨m0,env,w0,rs,.refl⟩,?_⟩
 rintro m σ1 H1 ⟨env1,w1,rs1,k1⟩
 refine⟨env1,Fr,_,rs1,wt m env1 w1,fun b env2 H2 q2 rs2=>jz ⟨fun h=>?_,fun h=>c.nx _ _ _ (q2.2 h) rs2 k1⟩⟩
 refine⟨fun σ' H'=>∃ m' env',m' < m/\W m' env'/\Rs X.K H' env' σ' Fr/\Kept κ σ σ',fun σ' H' ⟨m',env',hm,w',r',k'⟩=>⟨m',hm,env',w',r',k'⟩,env2,Fr,_,rs2,q2.1 h,⟨?_,?_,?_,?_⟩⟩
 ·exact fun env' σ' H' ⟨m',hm,w'⟩ r' k'=>⟨m',env',hm,w',r',k1.trans k'⟩
 ·exact fun t env' v σ' H' p r' k'=>c.rt _ _ _ _ _ p r' (k1.trans k')
 ·exact fun env' σ' H' p r' k'=>c.nx _ _ _ p r' (k1.trans k')
 ·exact fun env' σ' H' ⟨m',hm,w'⟩ r' k'=>⟨m',env',hm,w',r',k1.trans k'⟩
structure ItOk (K:PySem.W.Frag) (J:It) (its:List T) (Fg:Fm):Prop where
 turn:∀ i t H Γ,its[i]?=some t->Rp K H (Fg++Γ)->J.go i H/\∀ x H',J.yld i H x H'->Rp K H' ((t,some x)::(Fg++Γ))
 stop:∀ H Γ,Rp K H (Fg++Γ)->J.stop its.length H
abbrev PIt:=Ev->(List T->Ev->Prop)->Prop
def wI (K:PySem.W.Frag)(f:PIt):TI:=fun σ H R=>∃ env Fr k,Rs K H env σ Fr/\f env k/\∀ its env' J Fg H',k its env'->Rs K H' env' σ (Fg++Fr)->ItOk K J its Fg->R J H'
def GI (X:Cx)(tg iter:Expr)(f:PIt):Prop:=PI X tg iter (wI X.K f)
def forL (its:List T)(g:PG')(fb:PSt)(pe:PEn)(env1:Ev):Prop:=∃ W:Nat->Ev->Prop,W 0 env1/\(∀ i t env,W i env->its[i]?=some t->g t env fun env2=>fb { pe with nx:=W (i + 1),ct:=W (i + 1),bk:=pe.nx } env2)/\∀ env,W its.length env->pe.nx env
def HU (fi:PIt)(g:PG')(fb:PSt):PSt:=fun pe env=>fi env fun its env1=>forL its g fb pe env1
theorem mq {K:PySem.W.Frag}{H:Hp}{env:Ev}{σ:L2.St}{Fg Fr:Fm}(h:Rs K H env σ (Fg++Fr)):Rs K H env σ Fr:=⟨h.1,(h.2.perm (i' _ _ _)).part⟩
theorem eG {iter:Expr}{body:List Stmt}{fi:PIt}{g:PG'}{fb:PSt}(hp:PassesOwn (model X.prog X.w) X.A X.env X.xe)(hc:X.calm=true)(hi:GI X tg iter fi)(hg:GG κ X tg g)(hb:GSs κ X body fb)(hs:∀ x,foldedSetIterable iter X.env x=pure x:=by intro _;rfl):GS κ X (.For tg iter body [] pos) (HU fi g fb):=by
 refine PS.imp (FR hp hc hi hg hb hs) ?_
 rintro D σ H ⟨env,Fr,pe,rs,q,c⟩
 refine⟨env,Fr,_,rs,q,?_⟩
 rintro its env1 J Fg H1 ⟨W,w0,wt,we⟩ rs1 ok
 refine⟨fun i m σ' H'=>∃ env',W i env'/\Rs X.K H' env' σ' (Fg++Fr)/\Kept κ σ σ'/\m + i=its.length,⟨its.length,env1,w0,rs1,.refl,rfl⟩,?_⟩
 rintro i m σ1 H2 ⟨env2,w2,rs2,k2,hm⟩
 have rp2:Rp X.K H2 (Fg++(env2.zip σ1++Fr)):=rs2.2.perm (i' _ _ _)
 by_cases hlt:i < its.length
 ·have ei:its[i]?=some its[i]:=a_ hlt
  obtain⟨hgo,hy⟩:=ok.turn i its[i] H2 _ ei rp2
  refine .inr ⟨hgo,fun σ' H'=>∃ env',W (i + 1) env'/\Rs X.K H' env' σ' (Fg++Fr)/\Kept κ σ σ',fun σ' H' ⟨env',w',r',k'⟩=>⟨m - 1,by lia,env',w',r',k',by lia⟩,fun x H' hx=>?_⟩
  have rp3:=hy x H' hx
  have rs3:Rs X.K H' env2 σ1 ((its[i],some x)::(Fg++Fr)):=.of rs2.1 (rp3.perm (.cons _ (i' _ _ _)))
  refine⟨its[i],env2,Fg++Fr,_,rs3,wt i its[i] env2 w2 ei,fun env3 σ3 H3 q3 rs4 k4=>?_⟩
  refine⟨env3,Fg++Fr,_,rs4,q3,⟨?_,?_,?_,?_⟩⟩
  ·exact fun env' σ' H' w' r' k'=>⟨env',w',r',k2.trans (k4.trans k')⟩
  ·exact fun t env' v σ' H' p r' k'=>c.rt _ _ _ _ _ p (mq (Fg:=Fg) (r'.perm f_.symm)) (k2.trans (k4.trans k'))
  ·exact fun env' σ' H' p r' k'=>c.nx _ _ _ p (mq r') (k2.trans (k4.trans k'))
  ·exact fun env' σ' H' w' r' k'=>⟨env',w',r',k2.trans (k4.trans k')⟩
 ·have:i=its.length:=by lia
  subst this
  exact .inl ⟨ok.stop H2 _ rp2,c.nx _ _ _ (we env2 w2) (mq rs2) k2⟩
end
section
variable {X:Cx}{pos:Pos}{e tg:Expr}{fe:PF}
def HP (fe:PF):PIt:=fun env k=>fe env fun t env1=>got (items t) fun ts=>k (erL ts) env1
theorem FU {K:PySem.W.Frag}{t:T}{ts:List T}{a:Addr}(e:items t=some ts)(n:aG t=true):ItOk K (Its K (mM t) a) ts [(t,some (.ref a))] where
 turn:=fun i u H Γ ei rp=>by
  obtain⟨a',vs,ea,hq,l,rp2⟩:=aH e (mP rp n)
  cases ea
  obtain⟨w,ew⟩:=Ax l ei
  refine⟨Ez hq rfl i H .bX (by have:=(e_.mp ew).1;exact this),fun x H' hy=>?_⟩
  obtain⟨rfl,hx⟩:=D6 hq .bX hy
  rw [ew] at hx
  cases hx
  exact gZ rp2 ei ew
 stop:=fun H Γ rp=>by
  obtain⟨a',vs,ea,hq,l,rp2⟩:=aH e rp
  cases ea
  exact AH hq l.symm H .bX
theorem zG {t:T}{ts:List T}(e:items t=some ts):items (er t)=some (erL ts)/\mM (er t)=mM t:=by
 cases t <;> cases e <;> exact⟨rfl,rfl⟩
theorem cV (h:GE X e fe):GI X tg e (HP fe):=by
 rintro pins s σ H R I ⟨env,Fr,k,rs,q,c⟩
 refine EF h pins s σ H R I ⟨env,Fr,_,rs,q,fun t env1 v H1 q1 rs1=>?_⟩
 obtain⟨ts,e1,kt⟩:=az q1
 have rf:Rp X.K H1 ((er t,some v)::(env1.zip σ++Fr)):=yk rs1.head
 obtain⟨e2,e3⟩:=zG e1
 obtain⟨a,vs,rfl,hq,l,rp2⟩:=aH e2 rf
 exact⟨mM (er t),a,vs,rfl,hq,c _ _ _ _ _ kt (Rs.of (Fr:=Fr) rs1.1 rf) (FU e2 (fA t))⟩
def jT (lo:Int)(n:Nat):List T:=(y_ n).map fun (i:Nat)=>.int (lo + (i:Int))
theorem zR {K:PySem.W.Frag}(lo:Int)(n:Nat):ItOk K (Itr lo n) (jT lo n) [] where
 turn:=fun i t H Γ ei rp=>by
  unfold jT at ei
  rw [w_] at ei
  have hi:i < n:=by
   cases h:(y_ n)[i]? with
   | none=>rw [h] at ei;cases ei
   | some j=>
    have:=(e_.mp h).1
    simpa using this
  rw [JQ hi] at ei
  cases ei
  refine⟨hi,fun x H' ⟨e1,e2⟩=>?_⟩
  subst e1;subst e2
  exact bS rp fun _=>.int
 stop:=fun H Γ rp=>by
  show n<=_
  unfold jT
  rw [b_,JI]
  exact c_ _
def iR1 (fr:PFs):PIt:=fun env k=>fr env fun ts env1=>match ts with
 | [.int j]=>(-(2 ^ 62)<=j/\j < 2 ^ 62)/\k (jT 0 j.toNat) env1
 | _=>False
def iR2 (fr:PFs):PIt:=fun env k=>fr env fun ts env1=>match ts with
 | [.int i,.int j]=>(-(2 ^ 62)<=i/\i < 2 ^ 62/\-(2 ^ 62)<=j/\j < 2 ^ 62)/\k (jT i (j - i).toNat) env1
 | _=>False
variable {a b c:Expr}{fr:PFs}{p:Pos}
theorem cX (hg:Gl X "range")(hm:X.mg "range"=none)(ha:GA X [a] fr)(hs:starEach [a] X.env=[(false,eval a X.env)]:=by rfl):GI X tg (.Call (.Name "range" p) [a] [] pos) (iR1 fr):=by
 rintro pins s σ H R I ⟨env,Fr,k,rs,q,c⟩
 refine xr hg hm ha hs pins s σ H R I ⟨env,Fr,_,rs,q,fun ts env1 vs H1 q1 l rs1=>?_⟩
 rcases ts with _ | ⟨t,_ | ⟨t2,ts⟩⟩
 ·exact q1.elim
 ·cases t <;> first | exact q1.elim | skip
  rename_i j
  rcases vs with _ | ⟨v,_ | ⟨v2,vs⟩⟩
  ·cases l
  ·have rs1:Rs X.K H1 env1 σ ((.int j,some v)::Fr):=rs1
   rw [aB rs1.head]
   exact⟨j,rfl,q1.1.1,q1.1.2,c _ _ _ [] _ q1.2 rs1.drop (zR 0 _)⟩
  ·cases l
 ·cases t <;> exact q1.elim
theorem xA (hg:Gl X "range")(hm:X.mg "range"=none)(ha:GA X [a,b] fr)(hs:starEach [a,b] X.env=[(false,eval a X.env),(false,eval b X.env)]:=by rfl)(hs2:starEach [b] X.env=[(false,eval b X.env)]:=by rfl):GI X tg (.Call (.Name "range" p) [a,b] [] pos) (iR2 fr):=by
 rintro pins s σ H R I ⟨env,Fr,k,rs,q,c⟩
 refine wM hg hm ha hs hs2 pins s σ H R I ⟨env,Fr,_,rs,q,fun ts env1 vs H1 q1 l rs1=>?_⟩
 match ts,vs,l,q1 with
 | [.int i,.int j],[v,w],l,q1=>
  have rs1:Rs X.K H1 env1 σ ((.int i,some v)::(.int j,some w)::Fr):=rs1
  rw [aB rs1.head,aB rs1.drop.head]
  exact⟨i,j,rfl,q1.1,c _ _ _ [] _ q1.2 rs1.drop.drop (zR i _)⟩
def dnT (lo:Int)(n:Nat):List T:=(y_ n).map fun (i:Nat)=>.int (lo - (i:Int))
theorem HQ {K:PySem.W.Frag}(lo:Int)(n:Nat):ItOk K (Idn lo n) (dnT lo n) [] where
 turn:=fun i t H Γ ei rp=>by
  unfold dnT at ei
  rw [w_] at ei
  have hi:i < n:=by
   cases h:(y_ n)[i]? with
   | none=>rw [h] at ei;cases ei
   | some j=>
    have:=(e_.mp h).1
    simpa using this
  rw [JQ hi] at ei
  cases ei
  refine⟨hi,fun x H' ⟨e1,e2⟩=>?_⟩
  subst e1;subst e2
  exact bS rp fun _=>.int
 stop:=fun H Γ rp=>by
  show n<=_
  unfold dnT
  rw [b_,JI]
  exact c_ _
end
end PL
namespace PL
open PySem PySem.Spec PyProof.Rows L2
def frA (fr:List (Option Nat)):List Arg:=fr.map fun o=>match o with
 | some j=>.bor j
 | none=>.val .any
def κc (fr:List (Option Nat))(j:Nat):Bool:=match fr[j]? with
 | some (some _)=>true
 | _=>false
theorem fV:∀ (fr:List (Option Nat)) (σ:L2.St),j7 (frA fr) (cQ fr σ) σ
 | [],σ=>trivial
 | none::r,σ=>fV r σ
 | some j::r,σ=>by
  refine⟨?_,fV r σ⟩
  by_cases h:j < σ.length
  ·refine .inl ?_
   show σ[j]?=some ((σ[j]?).join)
   rw [a_ h]
   rfl
  ·exact .inr (by lia)
theorem iz:∀ (fr:List (Option Nat)) (τ τ':List (Option V)) (σ:L2.St),τ'.length=τ.length->(∀ j,κc fr j=true->τ'[j]?=τ[j]?)->j7 (frA fr) τ σ->j7 (frA fr) τ' σ
 | [],[],τ',σ,l,_,_=>by
  have:τ'=[]:=by cases τ' with | nil=>rfl | cons _ _=>cases l
  subst this
  trivial
 | [],_::_,_,_,_,_,o=>o.elim
 | none::r,[],_,_,_,_,o=>o.elim
 | some j::r,[],_,_,_,_,o=>o.elim
 | none::r,x::τ,[],σ,l,_,_=>by cases l
 | some j::r,x::τ,[],σ,l,_,_=>by cases l
 | none::r,x::τ,y::τ',σ,l,k,o=>iz r τ τ' σ (by simpa using l) (fun j hj=>by simpa using k (j + 1) hj) o
 | some i::r,x::τ,y::τ',σ,l,k,o=>by
  have e:y=x:=by
   have:=k 0 rfl
   simpa using this
  subst e
  exact⟨o.1,iz r τ τ' σ (by simpa using l) (fun j hj=>by simpa using k (j + 1) hj) o.2⟩
def Dm (fr:List (Option Nat))(its:List T)(g:PG')(ft:PB)(fe:PF)(env1:Ev)(k:T->Ev->Prop):Prop:=its.length < sizeLine/\∃ W:Nat->List T->Ev->Prop,W 0 [] (lend (frA fr) env1).1/\
 (∀ i t acc ie,W i acc ie->its[i]?=some t->g t ie fun ie2=>ft ie2 fun b ie3=>cnd b (fe ie3 fun u ie4=>W (i + 1) (acc++[u]) ie4) (W (i + 1) acc ie3))/\
 ∀ acc ie,W its.length acc ie->k (.lst true acc) (back (frA fr) ie (lend (frA fr) env1).2)
def uY (fr:List (Option Nat))(fi:PIt)(g:PG')(ft:PB)(fe:PF):PF:=fun env k=>fi env fun its env1=>Dm fr its g ft fe env1 k
theorem pL:∀ fr:List (Option Nat),(frA fr).map mf=fr.map fun _=>T.any
 | []=>rfl
 | none::r=>by
  show T.any::(frA r).map mf=T.any::r.map fun _=>T.any
  rw [pL r]
 | some j::r=>by
  show T.any::(frA r).map mf=T.any::r.map fun _=>T.any
  rw [pL r]
theorem uu {K:PySem.W.Frag}{H:Hp}{Γ:Fm}:∀ (fr:List (Option Nat)) (xs:List (Option V)),Rp K H Γ->Rp K H ((fr.map fun _=>T.any).zip xs++Γ)
 | [],xs,h=>h
 | _::r,[],h=>h
 | _::r,x::xs,h=>gE (uu r xs h)
theorem C2 (fr:List (Option Nat)):(frA fr).length=fr.length:=by unfold frA;rw [b_]
theorem sN (fr:List (Option Nat))(σ:L2.St):(cQ fr σ).length=fr.length:=by unfold cQ;rw [b_]
theorem zD {K:PySem.W.Frag}{fr:List (Option Nat)}{fi:PIt}{g:PG'}{ft:PB}{fe:PF}:∀ σ H Q,wE K (uY fr fi g ft fe) σ H Q->v3 (wI K fi) fr (fun _ _ _=>wG K (κc fr) g) (fun _ _ _=>wB K ft) (fun _ _ _=>wE K fe) σ H Q:=by
 rintro σ H Q ⟨env,Fr,k,rs,q,c⟩
 refine⟨env,Fr,_,rs,q,?_⟩
 rintro its env1 J Fg H1 ⟨hz,W,w0,wt,we⟩ rs1 ok
 intro p hp s3 H3' fp
 have l0:Rs K H1 env1 σ (((frA fr).map mf).zip (cQ fr σ)++(Fg++Fr)):=⟨rs1.1,by
  refine Rp.perm ?_ (i' _ _ _)
  rw [pL]
  exact uu fr _ rs1.2⟩
 have l1:=jl (fV fr σ) l0
 obtain⟨ie0,ou,e0⟩:∃ ie0 ou,lend (frA fr) env1=(ie0,ou):=⟨_,_,rfl⟩
 have lie:ie0.length=(cQ fr σ).length:=by
  have:=gf (frA fr) env1
  rw [e0,C2] at this
  rw [sN];exact this
 rw [e0] at l1 w0
 have rp0:Rp K (upd H1 p (.lst [])) ((.lst true [],some (.ref p))::(ie0.zip (cQ fr σ)++(Fg++(ou.zip σ++Fr)))):=by
  refine fN (ts:=[]) (vs:=[]) (l1.2.perm ?_) rfl hp (bR hp _) aF
  show Nr (ou.zip σ++(ie0.zip (cQ fr σ)++(Fg++Fr))) (ie0.zip (cQ fr σ)++(Fg++(ou.zip σ++Fr)))
  exact (i' _ _ _).trans ((i' _ _ _).append_left _)
 refine⟨fun i m σ' H'=>∃ acc ie,W i acc ie/\Rs K H' ie σ' ((.lst true acc,some (.ref p))::(Fg++(ou.zip σ++Fr)))/\Kept (κc fr) (cQ fr σ) σ'/\m + i=its.length/\acc.length<=i,⟨its.length,[],ie0,w0,.of lie rp0,.refl,rfl,c_ _⟩,?_⟩
 rintro i m σ1 H2 ⟨acc,ie,w2,rs2,k2,hm,ha⟩
 have rp2:Rp K H2 (Fg++((.lst true acc,some (.ref p))::(ie.zip σ1++(ou.zip σ++Fr)))):=by
  refine rs2.head.perm ?_
  refine s_ ?_ f_.symm
  exact .cons _ (i' _ _ _)
 by_cases hlt:i < its.length
 ·have ei:its[i]?=some its[i]:=a_ hlt
  obtain⟨hgo,hy⟩:=ok.turn i its[i] H2 _ ei rp2
  refine .inr ⟨hgo,fun x H' hx=>?_⟩
  have rp3:=hy x H' hx
  have rs3:Rs K H' ie σ1 ((its[i],some x)::((.lst true acc,some (.ref p))::(Fg++(ou.zip σ++Fr)))):=.of rs2.1 (rp3.perm (.cons _ (by
   refine f_.trans ?_
   refine s_ ?_ f_.symm
   exact .cons _ (i' _ _ _))))
  refine⟨its[i],ie,_,_,rs3,wt i its[i] acc ie w2 ei,fun ie3 σ3 H3 q3 rs4 k4=>?_⟩
  refine⟨ie3,_,_,rs4,q3,fun b ie4 H4 q4 rs5=>jz ⟨fun hb=>?_,fun hb=>?_⟩⟩
  ·refine⟨ie4,_,_,rs5,q4.1 hb,fun u ie5 v H5 q5 rs6=>?_⟩
   have r7:=rs6.perm (.swap _ _ _)
   obtain⟨a',ys,ea,hys,ly,r8⟩:=hZ r7.head
   cases ea
   refine⟨ys,hys,by rw [<-ly];exact JM ha (Mk hlt hz),m - 1,by lia,acc++[u],ie5,q5,.of r7.1 ?_,k2.trans k4,by lia,by rw [g_];simp;omega⟩
   refine jy (ts:=acc++[u]) (vs:=ys++[v]) (r8.perm (.cons _ ?_)) (by rw [g_,g_,ly];rfl) Put.up
   rw [k7 ly,gV]
   refine JD _ ?_
   exact f_
  ·exact⟨m - 1,by lia,acc,ie4,q4.2 hb,rs5,k2.trans k4,by lia,by lia⟩
 ·have:i=its.length:=by lia
  subst this
  refine .inl ⟨ok.stop H2 _ rp2,c _ _ _ _ (we acc ie w2) ?_⟩
  rw [e0]
  have ao:j7 (frA fr) σ1 σ:=iz fr (cQ fr σ) σ1 σ k2.1 k2.2 (fV fr σ)
  refine iZ ao (env:=ou) ⟨l1.1,?_⟩
  refine rp2.part.perm ?_
  refine s_ ?_ (i' _ _ _)
  refine s_ f_.symm ?_
  exact JD _ f_.symm
def GTs (X:Cx)(ifs:List Expr)(f:PB):Prop:=PTs X ifs (wB X.K f)
def iI:PB:=fun env k=>k true env
theorem cx {X:Cx}:GTs X [] iI:=fun pins s σ H Q I ⟨env,Fr,k,rs,q,c⟩=>uK pins s σ H Q I (c _ _ _ q rs)
theorem B8 {X:Cx}{c:Expr}{f:PB}(h:GT X c f):GTs X [c] f:=CP h
theorem cO {X:Cx}{N ps:List Str}{esc:Scope}(S:FnScope N ps esc)(N':List Str)(fr:List (Option Nat))(nd:N'.Nodup){elt target iter:Expr}{ifs:List Expr}{sc:Scope}{pos:Pos}{fi:PIt}{g:PG'}{ft:PB}{fe:PF}(C:iu N esc sc N' fr=true)
  (hi:GI X target iter fi) (hg:∀ s3 H3 fp,GG (κc fr) (aP X N' sc s3 H3 fp) target g) (ht:∀ s3 H3 fp,GTs (aP X N' sc s3 H3 fp) ifs ft) (he:∀ s3 H3 fp,GE (aP X N' sc s3 H3 fp) elt fe)
  (hc:X.calm=true:=by rfl) (hN:X.N=N:=by rfl) (hS:X.env.scope=esc:=by rfl) (hs:∀ x,foldedSetIterable iter X.env x=pure x:=by intro _;rfl):GE X (.ListComp elt [⟨target,iter,ifs,0⟩] sc pos) (uY fr fi g ft fe):=
 PE.imp (qY S N' fr nd C hi hg ht he hc hN hS hs) zD
abbrev PM:=T->List T->(T->T->Prop)->Prop
def MtP (X:Cx)(id:String)(m:PM):Prop:=MtM X id (fun x xs H Q=>∃ t ts Γ k,ts.length=xs.length/\Rp X.K H ((t,some x)::(zz ts xs++Γ))/\m t ts k/\∀ t' r v H',k t' r->Rp X.K H' ((r,some v)::(t',some x)::Γ)->Q v H')
def isL:T->Bool
 | .lst _ _=>true
 | _=>false
def zO (i:Nat)(m:PM)(fr:PFs):PF:=fun env k=>got (env[i]?) fun t0=>isL t0=true/\fr env fun ts env1=>got (env1[i]?) fun t=>m t ts fun t' r=>k r (env1.set i t')
def yS (m:PM)(fe:PF)(fr:PFs):PF:=fun env k=>fe env fun t env1=>isL t=true/\fr env1 fun ts env2=>m t ts fun _ r=>k r env2
section
variable {X:Cx}{e o:Expr}{es:List Expr}{fr:PFs}{fe:PF}{m:PM}{name:Str}{id:String}{apos cpos pos:Pos}
theorem pW {H:Hp}{Γ:Fm}{t:T}{v:V}(h:isL t=true)(rp:Rp X.K H ((t,some v)::Γ)):tyV X.K "list" v H:=by
 cases t <;> first | cases h | skip
 obtain⟨a,vs,rfl,hq,l,_⟩:=l8 rp
 exact .inl ⟨rfl,vs,.inl hq⟩
theorem AO {t:T}(h:isL t=true):isAny t=false:=by cases t <;> first | rfl | cases h
theorem Ii {i:Nat}:∀ σ H Q,wE X.K (zO i m fr) σ H Q->tBM X.K "list" (fun x xs H Q=>∃ t ts Γ k,ts.length=xs.length/\Rp X.K H ((t,some x)::(zz ts xs++Γ))/\m t ts k/\∀ t' r v H',k t' r->Rp X.K H' ((r,some v)::(t',some x)::Γ)->Q v H') (Al i) (wA X.K fr) σ H Q:=by
 rintro σ H Q ⟨env,Fr,k,rs,q,c⟩
 obtain⟨t0,e0,hl,q⟩:=az q
 obtain⟨y,ey,rs2⟩:=rs.slot e0
 obtain⟨v,rfl⟩:=dY rs2 (AO hl)
 refine⟨v,ey,pW hl rs2.head,env,Fr,_,rs,q,fun ts env1 vs H1 q1 l rs1=>?_⟩
 obtain⟨t,et,q1⟩:=az q1
 obtain⟨y',ey',rs3⟩:=rs1.slot et
 rw [ey] at ey'
 cases ey'
 have hi:i < env1.length:=(e_.mp et).1
 refine⟨t,ts,(env1.set i .any).zip σ++Fr,_,l,?_,q1,fun t' r w H' kt rp=>c _ _ _ _ kt ?_⟩
 ·refine rs3.head.perm (.cons _ ?_)
  exact i' _ _ _
 ·have r4:Rs X.K H' (env1.set i .any) σ ((t',some v)::(r,some w)::Fr):=.of rs3.1 (rp.perm (by
   refine s_ (.swap _ _ _) ?_
   exact .cons _ f_.symm))
  have r5:=Rs.iG (i:=i) r4 (by rw [I_];exact hi) ey
  rw [Mr] at r5
  exact r5
theorem fU (i:Nat){x:Str}{xp:Pos}(slot:Slot "list" name id)(hty:typeOf (.builtin id)=pure (.type "method_descriptor"))(hm:MtP X id m)(ha:GA X (e::es) fr)(hN:X.N[i]?=some x:=by rfl)(hv:Vis X.env.scope x:=by first | exact p_ rfl | exact D_ (p_ rfl) | exact D_ (D_ rfl))(hd:(x == ("__debug__":Str))=false:=by decide)(hcd:(x == ("__classdict__":Str))=false:=by decide)
  (hbase:attributeBase (.Name x xp) name X.env (eval (.Name x xp) X.env)=eval (.Name x xp) X.env:=by rfl)
  (hfew:((backTo cpos (starEach (e::es) X.env)).all (fun x=>!x.1) && (backToKw cpos (keywordEach [] X.env)).all (fun x=>x.1.isSome) && decide ((e::es).length + ([]:List Keyword).length + (if ([]:List Keyword).isEmpty then 0 else 1) < 30))=true:=by rfl)
  (hline:(apos.endLine == cpos.line)=true:=by rfl) (hs:starEach (e::es) X.env=(false,eval e X.env)::starEach es X.env:=by rfl) (hplain:(backTo cpos (starEach es X.env)).any (·.1)=false:=by rfl) :
  GE X (.Call (.Attribute (.Name x xp) name apos) (e::es) [] cpos) (zO i m fr):=PE.imp (zE PySem.F.plainAttrs_list slot hty hm (fO hN hv hd hcd) ha hbase hfew hline hs hplain) Ii
theorem Aj (slot:Slot "list" name id)(hty:typeOf (.builtin id)=pure (.type "method_descriptor"))(hm:MtP X id m)(ho:GE X o fe)(ha:GA X (e::es) fr)
  (hbase:attributeBase o name X.env (eval o X.env)=eval o X.env:=by rfl)
  (hfew:((backTo cpos (starEach (e::es) X.env)).all (fun x=>!x.1) && (backToKw cpos (keywordEach [] X.env)).all (fun x=>x.1.isSome) && decide ((e::es).length + ([]:List Keyword).length + (if ([]:List Keyword).isEmpty then 0 else 1) < 30))=true:=by rfl)
  (hline:(apos.endLine == cpos.line)=true:=by rfl) (hs:starEach (e::es) X.env=(false,eval e X.env)::starEach es X.env:=by rfl) (hplain:(backTo cpos (starEach es X.env)).any (·.1)=false:=by rfl) :
  GE X (.Call (.Attribute o name apos) (e::es) [] cpos) (yS m fe fr):=by
 refine PE.imp (zE PySem.F.plainAttrs_list slot hty hm ho ha hbase hfew hline hs hplain) ?_
 rintro σ H Q ⟨env,Fr,k,rs,q,c⟩
 refine⟨env,Fr,_,rs,q,fun t env1 v H1 ⟨hl,q1⟩ rs1=>⟨pW hl rs1.head,env1,_,_,rs1,q1,fun ts env2 vs H2 q2 l rs2=>?_⟩⟩
 refine⟨t,ts,env2.zip σ++Fr,_,l,?_,q2,fun t' r w H' kt rp=>c _ _ _ _ kt (.of rs2.1 ?_)⟩
 ·refine rs2.2.perm ?_
  refine s_ (i' _ _ _) ?_
  refine s_ (JD _ f_) ?_
  exact f_
 ·exact (rp.perm (.swap _ _ _)).tail
def oJ:PM
 | .lst true ts,[t],k=>ts.length < sizeLine/\k (.lst true (ts++[t])) .non
 | _,_,_=>False
theorem cN:MtP X "list.append" oJ:=by
 rintro pins s σ H x xs v us Q I rx r ⟨t,ts,Γ,k,l,rp,g,c⟩
 unfold oJ at g
 split at g
 ·rename_i k ts t
  obtain⟨y,rfl⟩:=zz1 l rfl
  obtain⟨a,vs,ea,ha,la,rp2⟩:=hZ rp
  cases ea
  refine tW pins s σ H _ _ v us Q I rx r ⟨a,vs,y,rfl,rfl,ha,by rw [<-la];exact g.1,fun H' hp=>c _ _ _ _ g.2 (bS ?_ fun _=>.non)⟩
  refine jy (ts:=ts++[t]) (vs:=vs++[y]) ?_ (by rw [g_,g_,la];rfl) hp
  rw [k7 la,gV]
  exact rp2
 ·exact False.elim g
theorem zZ:∀ {ts:List T} {vs:List V},ts.length=vs.length->zz ts.reverse vs.reverse=(zz ts vs).reverse
 | [],[],_=>rfl
 | [],_::_,l=>by cases l
 | _::_,[],l=>by cases l
 | t::ts,v::vs,l=>by
  have l':ts.length=vs.length:=by simpa using l
  rw [Kr,Kr,k7 (by rw [JY,JY];exact l'),zZ l']
  show _=((t,some v)::zz ts vs).reverse
  rw [Kr]
  rfl
end
def outs (ms:List Bool)(env:Ev):List T:=ms.zipWith (fun b t=>if b then t else .any) env
def κm (ms:List Bool)(j:Nat):Bool:=match ms[j]? with
 | some b=>b
 | none=>false
theorem jn {K:PySem.W.Frag}{H:Hp}{Γ:Fm}:∀ {ms:List Bool} {env:Ev} {σ:L2.St} {vs:List V},ms.length=vs.length->(∀ j,κm ms j=true->σ[j]?=(vs[j]?).map some)->Rp K H (env.zip σ++Γ)->Rp K H (zz (outs ms env) vs++Γ)
 | [],env,σ,vs,l,k,h=>h.part
 | _::_,_,_,[],l,_,_=>by cases l
 | m::ms,[],σ,v::vs,l,k,h=>h
 | m::ms,t::env,[],v::vs,l,k,h=>by
  have ih:=jn (ms:=ms) (env:=env) (σ:=[]) (vs:=vs) (by simpa using l) (fun j hj=>by
   have:=k (j + 1) hj
   simpa using this) (by simpa using h)
  cases m with
  | true=>have:=k 0 rfl;simp at this
  | false=>exact gE ih
 | m::ms,t::env,x::σ,v::vs,l,k,h=>by
  have h:Rp K H ((t,x)::(env.zip σ++Γ)):=h
  have ks:∀ j,κm ms j=true->σ[j]?=(vs[j]?).map some:=fun j hj=>by
   have:=k (j + 1) hj
   simpa using this
  cases m with
  | true=>
   have e:x=some v:=by
    have:=k 0 rfl
    simpa using this
   subst e
   have h2:Rp K H (env.zip σ++((t,some v)::Γ)):=h.perm f_.symm
   exact (jn (ms:=ms) (by simpa using l) ks h2).perm f_
  | false=>exact gE (jn (ms:=ms) (by simpa using l) ks h.tail)
theorem yG {K:PySem.W.Frag}{H:Hp}{Γ:Fm}{ts:List T}{vs:List V}(l:ts.length=vs.length)(n:Nat)(h:Rp K H (zz ts vs++Γ)):Rp K H ((ts++JA n T.any).zip (vs.map some++JA n none)++Γ):=by
 rw [Nl (by rw [b_];exact l),gV]
 have:∀ n,Rp K H (zz ts vs++((JA n T.any).zip (JA n (none:Option V))++Γ)):=by
  intro n
  induction n with
  | zero=>exact h
  | succ n ih=>
   rw [Kw,Kw]
   exact (gE (x:=none) ih).perm f_.symm
 exact this n
theorem dF {P:Program}{w:World}{K:PySem.W.Frag}{mg:Str->Option Value}{base:Heap}{x qual:Str}{st:Stmt}{f:Addr}{fd:FuncData}{N ps:List Str}{k:Nat}{Pr:FP}(F:Fun K x qual st f fd)(S:FnScope N ps (ak st))(ms:List Bool)(hms:ms.length=ps.length)
  (body:∀ (cdv:Value) (A:Around) (outer:List Env) (s:Shared) (H:Hp) (E:XK),Room k (A.deeper (envOfC qual (ak st) s.heap.objs.size f cdv))->
   ∃ fb,GSs (κm ms) (tR CX0 P w K mg base N qual (ak st) f cdv A outer s H E).nox (dQ st) fb/\∀ ts kk,ts.length=ps.length->Pr ts kk->fb { nx:=fun env=>kk .non (outs ms env),rt:=fun t env=>kk t (outs ms env) } (ts++JA (N.length - ps.length) .any)) :
  FnOk P w K mg base CX0 (k + 1) f fd ps (aU K ps.length Pr):=by
 refine F.ok S (fun vs H Q E ⟨ts,Fr,kk,h1,h2,_⟩=>h2) (fun cdv A outer s H vs Q E hr ⟨ts,Fr,kk,h1,h2,rp,pr,c⟩=>?_)
 obtain⟨fb,hb,q⟩:=body cdv A outer s H E hr
 refine⟨_,hb,ts++JA (N.length - ps.length) .any,Fr,_,?_,q ts kk (by rw [h1,h2]) pr,?_⟩
 ·unfold L2.start
  rw [h2]
  refine⟨by simp [h1],yG h1 _ rp⟩
 ·have kv:∀ {σ'},Kept (κm ms) (L2.start N vs) σ'->∀ j,κm ms j=true->σ'[j]?=(vs[j]?).map some:=fun {σ'} kp j hj=>by
   rw [kp.2 j hj]
   unfold L2.start
   have hj2:j < vs.length:=by
    rw [h2,<-hms]
    unfold κm at hj
    split at hj
    ·rename_i b e
     exact (e_.mp e).1
    ·cases hj
   rw [KN (by rw [b_];exact hj2),w_]
  refine⟨fun env' σ' H' q' rs' k'=>c _ _ _ _ q' ?_,fun t env' v σ' H' q' rs' k'=>c _ _ _ _ q' ?_,fun _ _ _ z=>z.elim,fun _ _ _ z=>z.elim⟩
  ·exact bS (jn (by rw [hms,h2]) (kv k') rs'.2) fun _=>.non
  ·exact (jn (Γ:=(t,some v)::Fr) (by rw [hms,h2]) (kv k') rs'.2).perm f_
end PL
namespace PL
open PySem PySem.Spec PyProof.Rows L2
section
variable {X:Cx}{pos:Pos}
theorem A2 {st:Stmt}{te:TE}{i:Nat}(h:PS X st (CU te (uv i))):PS X st (fun D σ H=>te σ H fun v H'=>Gr H H'/\D.nx (σ.set i (some v)) (over H H')):=by
 intro pins s σ H D I q
 have key:=h pins s σ H { nx:=fun σ' H'=>Gr H H'/\D.nx σ' (over H H'),rt:=fun _ _=>False } I q
 refine thn key fun f s' hs=>?_
 cases f with
 | next=>
  obtain⟨σ',H',I',g,q'⟩:=hs
  exact⟨σ',over H H',lK I I' g,q'⟩
 | brk=>obtain⟨_,_,_,z⟩:=hs;exact z.elim
 | cont=>obtain⟨_,_,_,z⟩:=hs;exact z.elim
 | ret u=>obtain⟨_,_,_,_,_,z⟩:=hs;exact z.elim
theorem B4 {K:PySem.W.Frag}{f:PF}{σ:L2.St}{H:Hp}{Q:VK}(h:wE K (fQ f) σ H Q):wE K f σ H fun v H'=>Gr H H'/\Q v (over H H'):=by
 obtain⟨env,Fr,k,rs,q,c⟩:=h
 have rv:Rs K H (erL env) σ ((Fr.map fun p=>(er p.1,p.2))++[(.kp H,some .non)]):=by
  refine⟨by rw [qi];exact rs.1,?_⟩
  have:=pJ rs.2
  rw [l_,lA,gV] at this
  exact this
 refine⟨erL env,_,_,rv,q,?_⟩
 rintro t env' v H' ⟨n,kt⟩ rs'
 obtain⟨g,r2⟩:=pZ rs.2 (Δ:=env'.zip σ++(Fr.map fun p=>(er p.1,p.2))) (by rw [gV];exact rs'.head) n
 exact⟨g,c t env v _ kt (.of rs.1 r2)⟩
theorem rQ {κ:Nat->Bool}{N ps:List Str}{esc:Scope}(S:FnScope N ps esc){i:Nat}{x:Str}{pos pos':Pos}(N':List Str)(fr:List (Option Nat))(nd:N'.Nodup){elt target iter:Expr}{ifs:List Expr}{sc:Scope}{pos2:Pos}{fi:PIt}{g:PG'}{ft:PB}{fe:PF}(C:iu N esc sc N' fr=true)
  (hi:X.N[i]?=some x) (hx:Loc X.env.scope x) (hκ:κ i=false) (hit:GI X target iter fi) (hg:∀ s3 H3 fp,GG (κc fr) (aP X N' sc s3 H3 fp) target g) (ht:∀ s3 H3 fp,GTs (aP X N' sc s3 H3 fp) ifs ft) (he:∀ s3 H3 fp,GE (aP X N' sc s3 H3 fp) elt fe)
  (hsw:swapsWith (.ListComp elt [⟨target,iter,ifs,0⟩] sc pos2) (some (.Name x pos')) pos.line X.env=pure true) (hf:X.fn x=true:=by rfl)
  (hc:X.calm=true:=by rfl) (hN:X.N=N:=by rfl) (hS:X.env.scope=esc:=by rfl) (hs:∀ x,foldedSetIterable iter X.env x=pure x:=by intro _;rfl):GS κ X (.Assign [.Name x pos'] (.ListComp elt [⟨target,iter,ifs,0⟩] sc pos2) pos) (Fo i (fQ (uY fr fi g ft fe))):=by
 refine PS.imp (A2 (Bn S N' fr nd C hi hx hit hg ht he hsw hf hc hN hS hs)) ?_
 rintro D σ H ⟨env,Fr,pe,rs,q,c⟩
 exact zD σ H _ (B4 (Q:=fun v H'=>D.nx (σ.set i (some v)) H') ⟨env,Fr,_,rs,q,fun t env' v H' q1 rs1=>c.nx _ _ _ q1 rs1.put (.set hκ)⟩)
def Glb (K:PySem.W.Frag)(mg:Str->Option Value)(x:Str)(t:T):Prop:=∃ v u,mg x=some u/\RelV v u/\∀ Hz H,RepT K Hz H t v []
theorem jV {x:Str}{t:T}(G:Glb X.K X.mg x t)(hg:Gl X x)(hd:(x == ("__debug__":Str))=false:=by decide):GE X (.Name x pos) (fK t):=by
 obtain⟨v,u,hm,r,ht⟩:=G
 exact AY hg hm r ht hd
theorem F2:GE X (.Dict [] [] pos) (fK (.dT true [])):=PE.imp yX fun σ H Q ⟨env,Fr,k,rs,q,c⟩=>fun p hp=>c _ _ _ _ q (.of rs.1 (BH rs.2 hp (bR hp _) aF))
def Im:T->(T->Prop)->Prop
 | .lst _ ts,k=>k (.lst true ts.reverse)
 | _,_=>False
theorem DT {K:PySem.W.Frag}{H H':Hp}{Γ:Fm}{ts:List T}{vs:List V}{p:Addr}(rp:Rp K H (zz ts vs++Γ))(l:ts.length=vs.length)(hp:H p=none)(g:aO H H')(e:H' p=some (.lst vs.reverse)):Rp K H' ((.lst true ts.reverse,some (.ref p))::Γ):=
 fN (ts:=ts.reverse) (vs:=vs.reverse) (rp.perm (by rw [zZ l];exact (M7 _).symm.append_right _)) (by rw [JY,JY,l]) hp g e
theorem nk {e:Expr}{fe:PF}{p1 p2 pos1 pos2:Pos}(hc:X.calm=true)(hg1:Gl X "list")(hm1:X.mg "list"=none)(hg2:Gl X "reversed")(hm2:X.mg "reversed"=none)(he:GE X e fe)
  (hs1:starEach [e] X.env=[(false,eval e X.env)]:=by rfl) (hs2:starEach [.Call (.Name "reversed" p2) [e] [] pos2] X.env=[(false,eval (.Call (.Name "reversed" p2) [e] [] pos2) X.env)]:=by rfl) :
  GE X (.Call (.Name "list" p1) [.Call (.Name "reversed" p2) [e] [] pos2] [] pos1) (fUn Im fe):=by
 refine PE.imp (tN hc hg1 hm1 hg2 hm2 he hs1 hs2) ?_
 rintro σ H Q ⟨env,Fr,k,rs,q,c⟩
 refine⟨env,Fr,_,rs,q,fun t env1 v H1 q1 rs1=>?_⟩
 cases t <;> first | exact False.elim q1 | skip
 obtain⟨a,vs,rfl,hq,l,rp⟩:=aH rfl rs1.head
 exact⟨a,vs,rfl,hq,fun p H' hp g e=>c _ _ _ _ q1 (.of rs1.1 (DT rp l hp g e))⟩
end
section
variable {κ':Type}[DecidableEq κ']
theorem qE:∀ {ts:List (κ' × T)} {vs:List (κ' × V)} (q:κ') (t:T) (w:V),ts.map (·.1)=vs.map (·.1)->(dZ ts q t).map (·.1)=(putK vs q w).map (·.1):=by
 intro ts vs q t w e
 have ha:(ts.any fun kv=>decide (kv.1=q))=(vs.any fun kv=>decide (kv.1=q)):=by
  have e1:(ts.any fun kv=>decide (kv.1=q))=(ts.map (·.1)).any fun k=>decide (k=q):=by rw [LY];rfl
  have e2:(vs.any fun kv=>decide (kv.1=q))=(vs.map (·.1)).any fun k=>decide (k=q):=by rw [LY];rfl
  rw [e1,e2,e]
 unfold dZ putK
 rw [ha]
 split
 ·rw [JB,JB]
  have f1:((fun x:κ' × T=>x.1) ∘ fun kv=>if kv.1=q then (kv.1,t) else kv)=fun x=>x.1:=by funext kv;show (if kv.1=q then (kv.1,t) else kv).1=kv.1;split <;> rfl
  have f2:((fun x:κ' × V=>x.1) ∘ fun kv=>if kv.1=q then (kv.1,w) else kv)=fun x=>x.1:=by funext kv;show (if kv.1=q then (kv.1,w) else kv).1=kv.1;split <;> rfl
  rw [f1,f2,e]
 ·rw [l_,l_,e]
  rfl
theorem ox:∀ {ts:List (κ' × T)} {vs:List (κ' × V)} (q:κ') (t:T) (w:V),ts.map (·.1)=vs.map (·.1)->(vs.map (·.1)).Nodup->∃ r,((t,some w)::zz (ts.map (·.2)) (vs.map (·.2))).Perm (r++zz ((dZ ts q t).map (·.2)) ((putK vs q w).map (·.2))):=by
 intro ts vs q t w e nd
 by_cases hm:q∈vs.map (·.1)
 ·
  have ha:(vs.any fun kv=>decide (kv.1=q))=true:=by
   obtain⟨kv,h1,h2⟩:=A_.mp hm
   exact KW.mpr ⟨kv,h1,decide_eq_true h2⟩
  have hb:(ts.any fun kv=>decide (kv.1=q))=true:=by
   rw [<-e] at hm
   obtain⟨kv,h1,h2⟩:=A_.mp hm
   exact KW.mpr ⟨kv,h1,decide_eq_true h2⟩
  unfold dZ putK
  rw [if_pos ha,if_pos hb]
  clear ha hb
  induction ts generalizing vs with
  | nil=>
   have:vs=[]:=by cases vs with | nil=>rfl | cons _ _=>cases e
   subst this
   cases hm
  | cons a ts ih=>
   cases vs with
   | nil=>cases e
   | cons b vs=>
    obtain⟨k1,t1⟩:=a
    obtain⟨k2,v1⟩:=b
    rw [f',f',Ko] at e
    have ek:k1=k2:=e.1
    subst ek
    rw [f',H_] at nd
    by_cases hk:k1=q
    ·subst hk
     have n1:∀ kv∈ts,kv.1≠k1:=fun kv hkv z=>nd.1 (by
      rw [<-e.2]
      exact A_.mpr ⟨kv,hkv,z⟩)
     have n2:∀ kv∈vs,kv.1≠k1:=fun kv hkv z=>nd.1 (A_.mpr ⟨kv,hkv,z⟩)
     have m1:ts.map (fun kv=>if kv.1=k1 then (kv.1,t) else kv)=ts:=by
      conv=>rhs;rw [<-MD ts]
      exact B' fun kv hkv=>if_neg (n1 kv hkv)
     have m2:vs.map (fun kv=>if kv.1=k1 then (kv.1,w) else kv)=vs:=by
      conv=>rhs;rw [<-MD vs]
      exact B' fun kv hkv=>if_neg (n2 kv hkv)
     refine⟨[(t1,some v1)],?_⟩
     simp only [f',if_true,m1,m2]
     exact .swap _ _ _
    ·have hm':q∈vs.map (·.1):=by
      rcases m_.mp hm with z | z
      ·exact absurd z.symm hk
      ·exact z
     obtain⟨r,p⟩:=ih e.2 nd.2 hm'
     refine⟨r,?_⟩
     simp only [f',if_neg hk]
     show Nr ((t,some w)::(t1,some v1)::zz (ts.map (·.2)) (vs.map (·.2))) (r++((t1,some v1)::zz ((ts.map fun kv=>if kv.1=q then (kv.1,t) else kv).map (·.2)) ((vs.map fun kv=>if kv.1=q then (kv.1,w) else kv).map (·.2))))
     exact (MJ _ _ _).trans ((p.cons _).trans f_.symm)
 ·have ha:(vs.any fun kv=>decide (kv.1=q))=false:=by
   rw [Lb]
   intro z
   obtain⟨kv,h1,h2⟩:=KW.mp z
   exact hm (A_.mpr ⟨kv,h1,of_decide_eq_true h2⟩)
  have hb:(ts.any fun kv=>decide (kv.1=q))=false:=by
   rw [Lb]
   intro z
   obtain⟨kv,h1,h2⟩:=KW.mp z
   exact hm (by rw [<-e];exact A_.mpr ⟨kv,h1,of_decide_eq_true h2⟩)
  unfold dZ putK
  rw [ha,hb]
  refine⟨[],?_⟩
  simp only [JS,if_false,Kq]
  rw [l_,l_,k7 (by rw [b_,b_];exact cL e)]
  exact (J' (l₁:=[(t,some w)]))
end
def BM:T->T->T->(T->Prop)->Prop
 | .lst true ts,.int i,v,k=>got (ixN ts.length i) fun j=>k (.lst true (ts.set j v))
 | .dK true kvs,y,v,k=>got (pG y) fun q=>kvs.length < sizeLine/\k (.dK true (dZ kvs q v))
 | .dT true kvs,.tup ks,v,k=>got (i4 ks) fun q=>kvs.length < sizeLine/\k (.dT true (dZ kvs q v))
 | _,_,_,_=>False
section
variable {X:Cx}{κ:Nat->Bool}{pos:Pos}
theorem Af {P:Program}{w:World}{H:Hp}{h:Heap}{a:Addr}{kvs:List (List Key × V)}(ok:HOk P w H h)(e:H a=some (.dT kvs)):(kvs.map (·.1)).Nodup:=by
 obtain⟨z,y,xs,r,o,es,ep,h1,h2,h3,h4,h5⟩:=ok a _ e
 have:kvs.map (·.1)=xs.map (·.1):=by
  clear h4 h5 h1 z e
  induction r with
  | nil=>rfl
  | cons q _ ih=>rw [f',f',ih,q.1]
 rw [this];exact h5
theorem yD {P:Program}{w:World}{H:Hp}{h:Heap}{a:Addr}{kvs:List (Key × V)}(ok:HOk P w H h)(e:H a=some (.dK kvs)):(kvs.map (·.1)).Nodup:=by
 obtain⟨z,y,vs,r,o,es,ep,h1,h2,h3,h4,h5,h6⟩:=ok a _ e
 have:kvs.map (·.1)=vs.map (·.1):=by
  clear h6 h5 h4 h1 z e
  induction r with
  | nil=>rfl
  | cons q _ ih=>rw [f',f',ih,q.1]
 rw [this];exact h6
theorem Am:∀ {ts:List T} {vs:List V} {j:Nat} {t:T} {w:V},ts.length=vs.length->j < ts.length->∃ r,((t,some w)::zz ts vs).Perm (r::zz (ts.set j t) (vs.set j w))
 | [],vs,j,t,w,l,h=>by cases h
 | a::ts,[],j,t,w,l,h=>by cases l
 | a::ts,b::vs,0,t,w,l,h=>⟨(a,some b),.swap _ _ _⟩
 | a::ts,b::vs,j + 1,t,w,l,h=>by
  obtain⟨r,p⟩:=Am (ts:=ts) (vs:=vs) (j:=j) (t:=t) (w:=w) (by simpa using l) (by simpa using h)
  exact⟨r,(MJ _ _ _).trans ((p.cons _).trans (.swap _ _ _))⟩
theorem IC {kr:Nat}(hr:Room kr X.A):sT X (fun o i v H Q=>∃ t ti tv Γ k,Rp X.K H ((t,some o)::(ti,some i)::(tv,some v)::Γ)/\BM t ti tv k/\∀ t' H',k t'->Rp X.K H' ((t',some o)::Γ)->Q H'):=by
 rintro pins s σ H o i v ov iv u Q I ro ri rv ⟨t,ti,tv,Γ,k,rp,g,c⟩
 cases t with
 | lst own ts=>
  cases own <;> cases ti <;> first | exact False.elim g | skip
  rename_i j
  obtain⟨m,em,kt⟩:=az g
  rw [aB rp.tail] at ri
  obtain⟨a,vs,ea,ha,la,rp2⟩:=hZ rp
  cases ea
  have hm:m < ts.length:=by have:=(pY em).2.1;exact this
  rw [la] at em
  refine xM pins s σ H _ _ v ov iv u Q I ro ri rv ⟨a,vs,j,m,rfl,rfl,ha,em,fun H' hp=>c _ _ kt ?_⟩
  obtain⟨r,p⟩:=Am (t:=tv) (w:=v) la hm
  have rp3:Rp X.K H ((.bare,some (.ref a))::(zz ts vs++((tv,some v)::Γ))):=by
   have:Rp X.K H ((.int j,some i)::((.bare,some (.ref a))::(zz ts vs++((tv,some v)::Γ)))):=rp2.perm (by
    refine s_ (.cons _ f_) ?_
    exact .swap _ _ _)
   exact this.tail
  have rp4:Rp X.K H (r::((.bare,some (.ref a))::(zz (ts.set m tv) (vs.set m v)++Γ))):=rp3.perm (by
   refine s_ (.cons _ (f_.trans (p.append_right Γ))) ?_
   exact .swap _ _ _)
  exact jy rp4.tail (by rw [I_,I_,la]) hp
 | dK own kvs=>
  cases own <;> first | exact False.elim g | skip
  have g:got (pG ti) fun q=>kvs.length < sizeLine/\k (.dK true (dZ kvs q tv)):=by cases ti <;> exact g
  obtain⟨q,eq,hz,kt⟩:=az g
  rw [jC eq rp.tail] at ri
  obtain⟨a,vs,ea,ha,la,rp2⟩:=rB rp
  cases ea
  cases ro
  have hl:vs.length < sizeLine:=by rw [<-cL la];exact hz
  refine jQ (gv hr) I (.inl ⟨vs,q,ha,rfl,hl,rfl⟩) ri rv fun s' I'=>⟨_,I',c _ _ kt ?_⟩
  obtain⟨r,p⟩:=ox q tv v la (yD I.hok ha)
  have rp3:Rp X.K H ((.bare,some (.ref a))::(zz (kvs.map (·.2)) (vs.map (·.2))++((tv,some v)::Γ))):=by
   have:Rp X.K H ((ti,some i)::((.bare,some (.ref a))::(zz (kvs.map (·.2)) (vs.map (·.2))++((tv,some v)::Γ)))):=rp2.perm (by
    refine s_ (.cons _ f_) ?_
    exact .swap _ _ _)
   exact this.tail
  have rp4:Rp X.K H (r++((.bare,some (.ref a))::(zz ((dZ kvs q tv).map (·.2)) ((putK vs q v).map (·.2))++Γ))):=rp3.perm (by
   refine s_ (.cons _ (f_.trans (p.append_right Γ))) ?_
   rw [gV]
   exact f_.symm)
  exact o7 rp4.part (qE q tv v la) Put.up
 | dT own kvs=>
  cases own <;> cases ti <;> first | exact False.elim g | skip
  rename_i ks
  obtain⟨q,eq,hz,kt⟩:=az g
  obtain⟨b,rfl,hb⟩:=iJ eq rp.tail
  obtain⟨a,vs,ea,ha,la,rp2⟩:=zU rp
  cases ea
  cases ro
  have hl:vs.length < sizeLine:=by rw [<-cL la];exact hz
  refine jQ (gv hr) I (.inr ⟨vs,q,b,ha,rfl,hb,hl,rfl⟩) ri rv fun s' I'=>⟨_,I',c _ _ kt ?_⟩
  obtain⟨r,p⟩:=ox q tv v la (Af I.hok ha)
  have rp3:Rp X.K H ((.bare,some (.ref a))::(zz (kvs.map (·.2)) (vs.map (·.2))++((tv,some v)::Γ))):=by
   have:Rp X.K H ((.tup ks,some (.ref b))::((.bare,some (.ref a))::(zz (kvs.map (·.2)) (vs.map (·.2))++((tv,some v)::Γ)))):=rp2.perm (by
    refine s_ (.cons _ f_) ?_
    exact .swap _ _ _)
   exact this.tail
  have rp4:Rp X.K H (r++((.bare,some (.ref a))::(zz ((dZ kvs q tv).map (·.2)) ((putK vs q v).map (·.2))++Γ))):=rp3.perm (by
   refine s_ (.cons _ (f_.trans (p.append_right Γ))) ?_
   rw [gV]
   exact f_.symm)
  exact vH rp4.part (qE q tv v la) Put.up
 | _=>cases ti <;> exact False.elim g
def Dq (i:Nat)(fi:PF):PG':=fun v env k=>got (env[i]?) fun t0=>isAny t0=false/\fi env fun ti env1=>got (env1[i]?) fun t=>BM t ti v fun t'=>k (env1.set i t')
theorem t6 {kr i:Nat}{x:Str}{xp:Pos}{ix:Expr}{fi:PF}(hr:Room kr X.A)(hi:GE X ix fi)(hN:X.N[i]?=some x:=by rfl)(hv:Vis X.env.scope x:=by first | exact p_ rfl | exact D_ (p_ rfl) | exact D_ (D_ rfl))(hd:(x == ("__debug__":Str))=false:=by decide)(hcd:(x == ("__classdict__":Str))=false:=by decide)
  (ha:∀ v,assign (.Subscript (.Name x xp) ix pos) X.env v=(do
   let ov <-holding [v] (eval (.Name x xp) X.env)
   let iv <-holding [v,ov] (eval ix X.env)
   standAt pos
   holding [v,ov,iv] (setItem ov iv v)
   release [v,ov,iv] []):=by intro _;rfl):GG κ X (.Subscript (.Name x xp) ix pos) (Dq i fi):=by
 rintro pins s σ H v u Q I r ⟨tv,env,Fr,k,rs,q,c⟩
 obtain⟨t0,e0,na,q⟩:=az q
 obtain⟨y,ey,rs2⟩:=rs.slot e0
 obtain⟨w,rfl⟩:=dY rs2 na
 refine zP (fO hN hv hd hcd) hi (IC hr) ha pins s σ H v u Q I r ⟨w,ey,env,(tv,some v)::Fr,_,rs,q,fun ti env1 iv H1 q1 rs1=>?_⟩
 obtain⟨t,et,q1⟩:=az q1
 obtain⟨y',ey',rs3⟩:=rs1.slot et
 rw [ey] at ey'
 cases ey'
 have hi':i < env1.length:=(e_.mp et).1
 refine⟨t,ti,tv,(env1.set i .any).zip σ++Fr,_,?_,q1,fun t' H' kt rp=>c _ _ _ kt ?_ .refl⟩
 ·refine rs3.head.perm (.cons _ ?_)
  refine s_ f_ (.cons _ ?_)
  exact f_
 ·have r4:Rs X.K H' (env1.set i .any) σ ((t',some w)::Fr):=.of rs3.1 rp
  have r5:=Rs.iG (i:=i) r4 (by rw [I_];exact hi') ey
  rw [Mr] at r5
  exact r5
end
end PL
namespace PL
open PySem PySem.Spec PyProof.Rows L2
class Th (α:Type) where
 v:α
def GD (P:FP)(ts:List T)[k:Th (T->List T->Prop)]:Prop:=P ts k.v
def nh (b:Bool)[A:Th Prop][B:Th Prop]:Prop:=cnd b A.v B.v
def fM {α:Type}(o:Option α)[k:Th (α->Prop)]:Prop:=got o k.v
def Dp (fr:List (Option Nat))(its:List T)(g:PG')(ft:PB)(fe:PF)(env:Ev)[k:Th (T->Ev->Prop)]:Prop:=Dm fr its g ft fe env k.v
theorem aY {α:Type}{u:α}{k:Th (α->Prop)}:fM (some u) (k:=k)=k.v u:=rfl
theorem bU {α:Type}{o:Option α}{u:α}{k:Th (α->Prop)}(e:o=some u)(h:k.v u):fM o (k:=k):=sZ e h
theorem sD {A B:Th Prop}:nh true (A:=A) (B:=B)=A.v:=propext ⟨fun h=>h.1 rfl,fun h=>Ic h⟩
theorem nU {A B:Th Prop}:nh false (A:=A) (B:=B)=B.v:=propext ⟨fun h=>h.2 rfl,fun h=>HA h⟩
theorem Bd {b:Bool}{A B:Th Prop}:nh (!b) (A:=A) (B:=B)=nh b (A:=B) (B:=A):=by cases b <;> simp only [MU,L5,sD,nU]
theorem zH {b:Bool}{A B:Th Prop}(h1:b=true->A.v)(h2:b=false->B.v):nh b (A:=A) (B:=B):=⟨h1,h2⟩
theorem aT {p:Prop}{d:Decidable p}{A B:Th Prop}(h1:p->A.v)(h2:¬ p->B.v):nh (decide p) (A:=A) (B:=B):=⟨fun h=>h1 (of_decide_eq_true h),fun h=>h2 (of_decide_eq_false h)⟩
section
variable {f g:PF}{env:Ev}{k:T->Ev->Prop}{kb:Bool->Ev->Prop}{tc td:PB}{pe:PEn}{u v:PSt}{fs:PFs}{fa:PAs}{ks:List T->Ev->Prop}{ka:List Arg->Ev->Prop}
theorem eV:fQ f env k=f (erL env) fun t _=>bV t=true/\k t env:=rfl
theorem dq:fQT tc env kb=tc (erL env) fun b _=>kb b env:=rfl
theorem eJ {t:T}:fK t env k=k t env:=rfl
theorem BV {i:Nat}:C3 i env k=fM (env[i]?) (k:=⟨fun t=>isAny t=false/\aG t=true/\k t env⟩):=by unfold C3;cases env[i]? <;> rfl
theorem G1 {i:Nat}:fFz i env k=fM (env[i]?) (k:=⟨fun t=>isAny t=false/\k (er t) (env.set i (er t))⟩):=by unfold fFz;cases env[i]? <;> rfl
theorem EV {i:Nat}:fMv i env k=fM (env[i]?) (k:=⟨fun t=>isAny t=false/\k t (env.set i .any)⟩):=by unfold fMv;cases env[i]? <;> rfl
theorem cD {p:P2}:xI p f g env k=f env fun x env1=>g env1 fun y env2=>p x y fun t=>k t env2:=rfl
theorem dk {p:T->(T->Prop)->Prop}:fUn p f env k=f env fun t env1=>p t fun u=>k u env1:=rfl
def asB (t:T)[k:Th (Bool->Prop)]:Prop:=match t with
 | .bl b=>k.v b
 | _=>False
theorem du {b:Bool}{k:Th (Bool->Prop)}:asB (.bl b) (k:=k)=k.v b:=rfl
theorem cw:Ed f env kb=f env fun t env1=>asB t (k:=⟨fun b=>kb b env1⟩):=rfl
theorem Cb:Hd f env kb=f env fun t env1=>Cp t fun b=>kb b env1:=rfl
theorem A7:DS tc td env kb=tc env fun b env1=>nh b (A:=⟨td env1 kb⟩) (B:=⟨kb false env1⟩):=rfl
theorem xU:De tc env kb=tc env fun b env1=>kb (!b) env1:=rfl
theorem G5:fIf tc f g env k=tc env fun b env1=>nh b (A:=⟨f env1 k⟩) (B:=⟨g env1 k⟩):=rfl
theorem cq:Hc env ks=ks [] env:=rfl
theorem bP:DB f fs env ks=f env fun t env1=>fs env1 fun ts env2=>ks (t::ts) env2:=rfl
theorem cF:IT fs env k=fs env fun ts env1=>ts.length<=sizeLine/\k (.tup ts) env1:=rfl
theorem CB:Hv fs env k=fs env fun ts env1=>ts.length<=sizeLine/\k (.lst true ts) env1:=rfl
theorem d7 {p:P1s}:fCl p fs env k=fs env fun ts env1=>p ts fun t=>k t env1:=rfl
theorem cG:DY env ka=ka [] env:=rfl
theorem cg:Ig f fa env ka=f env fun t env1=>fa env1 fun as env2=>ka (.val t::as) env2:=rfl
theorem B7 {i:Nat}:ER i fa env ka=fM (env[i]?) (k:=⟨fun t=>isAny t=false/\fa env fun as env2=>ka (.bor i::as) env2⟩):=by
 unfold ER
 cases env[i]? with
 | none=>exact propext ⟨fun h=>h.1,fun h=>h.elim⟩
 | some t=>rfl
theorem cy {n:Nat}{P:FP}:C1 n P fa env k=fa env fun as env1=>as.length=n/\GD P (lend as env1).1 (k:=⟨fun t ts'=>k t (back as ts' (lend as env1).2)⟩):=rfl
theorem bI {fr:List (Option Nat)}{fi:PIt}{gt:PG'}{ft:PB}{fe:PF}:uY fr fi gt ft fe env k=fi env fun its env1=>Dp fr its gt ft fe env1 (k:=⟨k⟩):=rfl
theorem zg {i:Nat}{m:PM}:zO i m fs env k=fM (env[i]?) (k:=⟨fun t0=>isL t0=true/\fs env fun ts env1=>fM (env1[i]?) (k:=⟨fun t=>m t ts fun t' r=>k r (env1.set i t')⟩)⟩):=rfl
theorem vZ {m:PM}:yS m f fs env k=f env fun t env1=>isL t=true/\fs env1 fun ts env2=>m t ts fun _ r=>k r env2:=rfl
theorem EX {fl fh:PO'}:fSl f fl fh env k=f env fun t env1=>fl env1 fun lo env2=>fh env2 fun hi env3=>slT t lo hi fun u=>k u env3:=rfl
theorem BR {ko:Option Int->Ev->Prop}:Ip env ko=ko none env:=rfl
def asI (t:T)[k:Th (Int->Prop)]:Prop:=match t with
 | .int b=>k.v b
 | _=>False
theorem Bb {b:Int}{k:Th (Int->Prop)}:asI (.int b) (k:=k)=k.v b:=rfl
theorem BK {ko:Option Int->Ev->Prop}:IE f env ko=f env fun t env1=>asI t (k:=⟨fun i=>ko (some i) env1⟩):=rfl
theorem bO:DN pe env=pe.nx env:=rfl
theorem cj:GZ u v pe env=u { pe with nx:=v pe } env:=rfl
theorem xV:Dw f pe env=f env fun _ env1=>pe.nx env1:=rfl
theorem cK:GH f pe env=f env fun t env1=>pe.rt t env1:=rfl
theorem df:sIf tc u v pe env=tc env fun b env1=>nh b (A:=⟨u pe env1⟩) (B:=⟨v pe env1⟩):=rfl
theorem cC {i:Nat}:Fo i f pe env=f env fun t env1=>pe.nx (env1.set i t):=rfl
theorem BG {gt:PG'}:GC f gt pe env=f env fun t env1=>gt t env1 pe.nx:=rfl
theorem CN {i:Nat}{p:P2}:E2 i f p pe env=fM (env[i]?) (k:=⟨fun t=>isAny t=false/\aG t=true/\f env fun u env1=>p t u fun w=>pe.nx (env1.set i w)⟩):=by
 unfold E2
 cases env[i]? with
 | none=>exact propext ⟨fun h=>h.1,fun h=>h.elim⟩
 | some t=>exact propext ⟨fun ⟨⟨a,b⟩,c⟩=>⟨a,b,c⟩,fun ⟨a,b,c⟩=>⟨⟨a,b⟩,c⟩⟩
theorem xq:AL tc u pe env=tL tc u pe env:=rfl
theorem AU {fi:PIt}{gt:PG'}:HU fi gt u pe env=fi env fun its env1=>forL its gt u pe env1:=rfl
variable {t:T}{ke:Ev->Prop}{ts:List T}{gt:PG'}{gts:mN}
theorem eR {i:Nat}:gN i t env ke=ke (env.set i t):=rfl
theorem C6:Dv [] env ke=ke env:=propext ⟨fun h=>h.2,fun h=>⟨rfl,h⟩⟩
theorem AJ:yq gt gts (t::ts) env ke=gt t env fun env1=>gts ts env1 ke:=rfl
theorem B0 {n:Nat}:gTp n gts (.tup ts) env ke=(ts.length=n/\gts ts env ke):=rfl
theorem yK {i:Nat}{fi:PF}:Dq i fi t env ke=fM (env[i]?) (k:=⟨fun t0=>isAny t0=false/\fi env fun ti env1=>fM (env1[i]?) (k:=⟨fun t1=>BM t1 ti t fun t'=>ke (env1.set i t')⟩)⟩):=rfl
variable {ki:List T->Ev->Prop}
theorem cJ:HP f env ki=f env fun t env1=>fM (items t) (k:=⟨fun ts=>ki (erL ts) env1⟩):=rfl
def as1 (ts:List T)(k:Int->Prop):Prop:=match ts with
 | [.int j]=>k j
 | _=>False
def as2 (ts:List T)(k:Int->Int->Prop):Prop:=match ts with
 | [.int i,.int j]=>k i j
 | _=>False
theorem Gg {j:Int}{k:Int->Prop}:as1 [.int j] k=k j:=rfl
theorem Fu {i j:Int}{k:Int->Int->Prop}:as2 [.int i,.int j] k=k i j:=rfl
theorem Fe:iR1 fs env ki=fs env fun ts env1=>as1 ts fun j=>(-(2 ^ 62)<=j/\j < 2 ^ 62)/\ki (jT 0 j.toNat) env1:=rfl
theorem Fv:iR2 fs env ki=fs env fun ts env1=>as2 ts fun i j=>(-(2 ^ 62)<=i/\i < 2 ^ 62/\-(2 ^ 62)<=j/\j < 2 ^ 62)/\ki (jT i (j - i).toNat) env1:=rfl
end
section
variable {k:T->Prop}{i j l:Int}{x y:Str}{ts us:List T}{o o' b c:Bool}{t:T}
theorem cm:E3 (.int i) (.int j) k=k (.int (i + j)):=rfl
theorem Co:E3 (.lst o ts) (.lst o' us) k=(ts.length + us.length<=sizeLine/\k (.lst true (ts++us))):=rfl
theorem bZ:GF (.int i) (.int j) k=k (.int (i - j)):=rfl
theorem BC:GV (.int i) (.int j) k=(w6 i j/\k (.int (i * j))):=rfl
theorem D7:Gw (.int i) (.int j) k=(zq i j/\k (.int (i / j))):=rfl
theorem CJ:Hf (.int i) (.int j) k=(0 < j/\k (.int (i % j))):=rfl
theorem y3:Dz (.int i) (.int j) k=k (.int (i + j)):=rfl
theorem DX:ltT (.int i) (.int j) k=k (.bl (decide (i < j))):=rfl
theorem Ek:leT (.int i) (.int j) k=k (.bl (decide (i<=j))):=rfl
theorem Es:gtT (.int i) (.int j) k=k (.bl (decide (j < i))):=rfl
theorem dh:GX (.int i) k=k (.int (-i)):=rfl
theorem G4:eqT (.int i) (.int j) k=k (.bl (decide (i=j))):=by
 unfold eqT
 refine propext ⟨fun h=>?_,fun h=>⟨rfl,rfl,show (0:Nat) < 190 by decide,?_⟩⟩
 ·have:=h.2.2.2
  rw [dt,dt,eqD] at this
  rw [KG] at this
  exact this
 ·rw [dt,dt,eqD,KG];exact h
theorem Fy:neT (.int i) (.int j) k=k (.bl (!decide (i=j))):=by
 unfold neT
 refine propext ⟨fun h=>?_,fun h=>⟨rfl,rfl,show (0:Nat) < 190 by decide,?_⟩⟩
 ·have:=h.2.2.2
  rw [dt,dt,eqD,KG] at this
  exact this
 ·rw [dt,dt,eqD,KG];exact h
def iT (ns:List Int):T:=.tup (ns.map T.int)
theorem jN (ns:List Int):cU (ns.map T.int)=true:=by
 rw [qK]
 exact Kf.mpr fun x hx=>by
  obtain⟨n,_,rfl⟩:=A_.mp hx
  rfl
theorem EO {a b c d:Int}:eqT (.tup [.int a,.int b]) (.tup [.int c,.int d]) k=k (.bl (decide (a=c/\b=d))):=by
 have e:eqD (dt (.tup [.int a,.int b])) (dt (.tup [.int c,.int d]))=decide (a=c/\b=d):=by
  simp only [dt,dtL,eqD,eqL,KG,LM,Bool.decide_and]
 unfold eqT
 rw [e]
 exact propext ⟨fun h=>h.2.2.2,fun h=>⟨rfl,rfl,(by simp [dt,dtL,dpt,br]),h⟩⟩
theorem yA:DH t .non k=(isV t=true/\k (.bl (!nF t))):=by cases t <;> rfl
theorem Ct:ixT (.tup ts) (.int i) k=fM (atI ts i) (k:=⟨k⟩):=rfl
theorem Bm:ixT (.cst ts) (.int i) k=fM (atI ts i) (k:=⟨k⟩):=rfl
theorem cI:ixT (.lst o ts) (.int i) k=fM (atI ts i) (k:=⟨k⟩):=rfl
theorem FW {kvs:List (List Key × T)}:inT (.tup ts) (.dT o kvs) k=fM (i4 ts) (k:=⟨fun q=>k (.bl (dM kvs q).isSome)⟩):=rfl
theorem Cq:inT t (.lst o ts) k=(isD t=true/\cU ts=true/\br (dtL ts) < 180/\k (.bl (kZ t ts))):=rfl
theorem Bh {u:T}:C8 t u k=inT t u fun w=>asB w (k:=⟨fun b=>k (.bl (!b))⟩):=rfl
theorem zm:i4 []=some []:=rfl
theorem zk:i4 (.int i::ts)=(i4 ts).map fun ks=>Sum.inl i::ks:=by
 rw [i4]
 cases i4 ts <;> rfl
theorem IM {α:Type}(a:α)(l:List α):atI (a::l) 0=some a:=lh (j:=0) rfl
theorem Hw {α:Type}(a b:α)(l:List α):atI (a::b::l) 1=some b:=lh (j:=1) rfl
theorem Av:ET [.lst o ts] k=k (.int ts.length):=rfl
theorem Ao:ET [.cst ts] k=k (.int ts.length):=rfl
theorem F9:Gn [.int i] k=k (.int i.natAbs):=rfl
theorem Eb:Fl [.int i,.int j] k=k (.int (max i j)):=rfl
theorem E6:Ej [.int i,.int j] k=k (.int (min i j)):=rfl
theorem FZ:G6 [.bl b] k=k (.int (if b then 1 else 0)):=rfl
theorem Ex:Im (.lst o ts) k=k (.lst true ts.reverse):=rfl
theorem Il {lo hi:Option Int}:slT (.lst o ts) lo hi k=k (.lst true (fZ ts lo hi)):=rfl
theorem EE {kb:Bool->Prop}:Cp (.bl b) kb=kb b:=rfl
theorem EW {kb:Bool->Prop}:Cp (.lst o ts) kb=kb (!ts.isEmpty):=rfl
variable {km:T->T->Prop}
theorem sQ:oJ (.lst true ts) [t] km=(ts.length < sizeLine/\km (.lst true (ts++[t])) .non):=rfl
end
theorem eE {α:Type}(g:α->T)(l:List α):aC (l.map g)=l.all fun x=>aG (g x):=by rw [dO,LU];rfl
theorem fH {α:Type}(g:α->T)(l:List α):bx (l.map g)=l.all fun x=>bV (g x):=by rw [fq,LU];rfl
theorem t4 (l m:List T):aC (l++m)=(aC l && aC m):=by rw [dO,dO,dO,MA]
theorem wg (l m:List T):bx (l++m)=(bx l && bx m):=by rw [fq,fq,fq,MA]
theorem ir {α:Type}(l:List α):(l.all fun _=>true)=true:=by induction l with | nil=>rfl | cons _ _ ih=>rw [LK,ih];rfl
theorem vS:isAny (.non)=false:=rfl
theorem Dc:isV (.non)=true:=rfl
theorem vU:nF (.non)=true:=rfl
theorem aZ {i:Int}:isAny (.int i)=false:=rfl
theorem BW {i:Int}:isV (.int i)=true:=rfl
theorem vV {i:Int}:nF (.int i)=false:=rfl
theorem xu {ts:List T}:isAny (.tup ts)=false:=rfl
theorem Cz {ts:List T}:isV (.tup ts)=true:=rfl
theorem vT {ts:List T}:nF (.tup ts)=false:=rfl
theorem xi {ts:List T}:isAny (.cst ts)=false:=rfl
theorem bh {o:Bool}{ts:List T}:isAny (.lst o ts)=false:=rfl
theorem Ar {o:Bool}{kvs:List (List Key × T)}:isAny (.dT o kvs)=false:=rfl
theorem Cw {o:Bool}{ts:List T}:isL (.lst o ts)=true:=rfl
theorem wC {ts:List T}:items (.cst ts)=some ts:=rfl
theorem vO {o:Bool}{ts:List T}:items (.lst o ts)=some ts:=rfl
theorem dA {its:List T}{g:PG'}{fb:PSt}{pe:PEn}{env:Ev}(W:Nat->Ev->Prop)(h0:W 0 env)(ht:∀ i t env,W i env->its[i]?=some t->g t env fun env2=>fb { pe with nx:=W (i + 1),ct:=W (i + 1),bk:=pe.nx } env2)(he:∀ env,W its.length env->pe.nx env):forL its g fb pe env:=⟨W,h0,ht,he⟩
theorem gX {tc:PB}{fb:PSt}{pe:PEn}{env:Ev}(W:Nat->Ev->Prop)(m:Nat)(h0:W m env)(ht:∀ m env,W m env->tc env fun b env1=>nh b (A:=⟨fb { pe with nx:=fun e=>∃ m',m' < m/\W m' e,ct:=fun e=>∃ m',m' < m/\W m' e,bk:=pe.nx } env1⟩) (B:=⟨pe.nx env1⟩)):tL tc fb pe env:=⟨W,⟨m,h0⟩,ht⟩
theorem bz {fr:List (Option Nat)}{its:List T}{g:PG'}{ft:PB}{fe:PF}{env:Ev}{k:Th (T->Ev->Prop)}(hz:its.length < sizeLine)(W:Nat->List T->Ev->Prop)(h0:W 0 [] (lend (frA fr) env).1)(ht:∀ i t acc ie,W i acc ie->its[i]?=some t->g t ie fun ie2=>ft ie2 fun b ie3=>nh b (A:=⟨fe ie3 fun u ie4=>W (i + 1) (acc++[u]) ie4⟩) (B:=⟨W (i + 1) acc ie3⟩))
  (he:∀ acc ie,W its.length acc ie->k.v (.lst true acc) (back (frA fr) ie (lend (frA fr) env).2)):Dp fr its g ft fe env (k:=k):=⟨hz,W,h0,ht,he⟩
def sq (b:Bool)(ts:List T):T:=match b with
 | true=>.tup ts
 | false=>.lst false ts
section
variable {b:Bool}{ts:List T}{k:T->Prop}{i:Int}{t:T}
theorem Ie:er (sq b ts)=sq b (erL ts):=by cases b <;> rfl
theorem yH:aG (sq b ts)=aC ts:=by cases b <;> simp only [sq,aG,L5,KI]
theorem zM:isAny (sq b ts)=false:=by cases b <;> rfl
theorem yV:items (sq b ts)=some ts:=by cases b <;> rfl
theorem wq:qg [sq b ts] k=k (.tup ts):=by cases b <;> rfl
end
abbrev pt (x y:Int):T:=.tup [.int x,.int y]
end PL
namespace ZG
open PySem
open Sem (wp)
theorem xm {prog:Program}{w:World}{A:Around}(hh:A.handled=none)(it d:Addr)(hne:d≠it)(o:Obj)(es:Array DictEntry)(ep:Nat)(hd:o.data=.dict es ep) :
  Walks prog w A it [it,d] [it] es.size (fun i v=>∃ e,es[i]?=some e/\v=e.key) (fun i h=>h.IsKeyIter it d i es.size ep/\h.get? d=some o) where
 sub:=fun b hb=>by simp at hb;simp [hb]
 frame:=fun _ _ _ st hk=>⟨st.1.at fun o e=>hk it (by simp) o e,hk d (by simp) o st.2⟩
 item:=fun i s Q E hi st hQ=>by
  have hx:es[i]?=some es[i]:=u_ hi
  refine HS st.1 st.2 hd hx fun h' hit' hs'=>?_
  exact hQ _ h' s.toks ⟨_,hx,rfl⟩ ⟨hit',hs'.extBut d o hne st.2⟩ fun b o hb e=>hs'.extBut b o (fun z=>hb (by simp [z])) e
 done:=fun s Q E st hQ=>J9 hh st.1 st.2 hd (K8 (c_ _)) fun h' he'=>hQ h' s.toks fun b o hb e=>he' b o (fun z=>hb (by simp [z])) e
 self:=fun _ _ _ _ st hQ=>wpAny_pyIter_keyiter st.1 hQ
theorem CZ {prog:Program}{w:World}{d:Addr}{o:Obj}{es:Array DictEntry}{ep:Nat}(lo:(d == sysModules)=false)(hc:o.ExactDict)(hd:o.data=.dict es ep) :
  PySem.W.KdlSrc prog w "dict" d d es.size (fun i v=>∃ e,es[i]?=some e/\v=e.key) (fun h=>h.get? d=some o) where
 type:=fun _ hm=>⟨o,hm,hc.1⟩
 there:=fun _ hm=>⟨Heap.lt_size hm,Heap.lt_size hm⟩
 keep:=fun _ _ hm hk=>hk d (.inl rfl) o hm
 notList:=by decide
 notTuple:=by decide
 hint:=fun _ _ _ _ hm hq=>PySem.W.kdl_hint_dict ⟨o,hm,hc.1⟩ hq
 iter:=fun _ _ hh hm=>⟨_,_,(fun _ _ hq=>HB lo hm hc hd hq),xm hh _ d (q_ (Heap.lt_size hm)) o es ep hd,⟨⟨_,Heap.get?_push_size _ rfl,rfl,rfl⟩,Heap.get?_push_of_some _ hm⟩⟩
end ZG
namespace L2
open PySem PySem.Spec PyProof.Rows
section
variable {X:Cx}
abbrev m9 (K:PySem.W.Frag)(H:Hp):List V->List (List Int)->Prop:=Paired fun v k=>k≠[]/\∃ b,v=.ref b/\SqT K H b (k.map V.int)
theorem lR {pins:List (Addr × Obj)}{σ:St}{H:Hp}{s:Shared}(I:Inv X pins σ H s):∀ {ys:List V} {its:List Value} {ks:List (List Int)},Vals ys its->m9 X.K H ys ks->(∀ v∈its,ZS.Bi s.heap v/\∃ b,v=.ref b/\ZS.g9 s.heap v≠[]/\SqT X.K H b ((ZS.g9 s.heap v).map V.int))/\its.map (ZS.g9 s.heap)=ks
 | _,_,_,.nil,.nil=>⟨fun v hv=>(nomatch hv),rfl⟩
 | _,_,_,@Paired.cons _ _ _ _ v _ its hv tv,@Paired.cons _ _ _ _ k _ ks hk tk=>by
  obtain⟨hne,b,rfl,hb⟩:=hk
  cases hv
  obtain⟨j1,j2⟩:=lR I tv tk
  obtain⟨its',r',⟨o,ho,hc,n,hd⟩,hz⟩:=I.tuple hb
  obtain⟨ps,e1,e2⟩:=dH r'
  have kv:ZS.g9 s.heap (.ref b)=k:=by
   rw [ZS.qf ho hd]
   show its'.map ZS.eY=k
   rw [e1,JB,<-e2]
   rfl
  refine⟨fun w hw=>?_,by rw [f',kv,j2]⟩
  rcases m_.mp hw with e | e
  ·subst e
   refine⟨⟨b,o,_,n,rfl,ho,hc,hd,fun v hv=>?_,?_⟩,b,rfl,by rw [kv];exact hne,by rw [kv];exact hb⟩
   ·have hv:v∈its':=hv
    rw [e1] at hv
    obtain⟨p,_,e⟩:=A_.mp hv
    exact⟨p.1,p.2,e.symm⟩
   ·rw [n_,e1,b_,<-b_ (f:=(·.1)),e2]
    exact MX.mpr hne
  ·exact j1 w e
theorem nT:∀ {ys:List V} {us:List Value} {u:Value} {b:Addr},Vals ys us->u∈us->u=.ref b->V.ref b∈ys
 | _,_,_,_,.nil,h,_=>(by cases h)
 | _,_,u,b,.cons (a:=y) r t,h,e=>by
  rcases m_.mp h with z | h
  ·subst z
   subst e
   have:y=.ref b:=RelV.inj r (show RelV (.ref b) (.ref b) from rfl)
   rw [this]
   exact t_
  ·exact o_ _ (nT t h e)
theorem ph:bE X (.builtin "sorted") (fun xs H Q=>∃ p ys ks,xs=[.ref p]/\SqL X.K H p ys/\m9 X.K H ys ks/\∀ zs ls,m9 X.K H zs ls->(∀ v∈zs,v∈ys)->ls.Perm ks->ls.Pairwise (fun x y=>ZS.ltL y x=false)->New (.lst zs) H Q):=by
 intro pins s σ H xs us Q I r h
 obtain⟨p,ys,ks,rfl,hq,hr,q⟩:=h
 obtain⟨u,rfl,ru⟩:=vals1 r
 cases ru
 obtain⟨its,rv,pl,hz⟩:=I.list hq
 have hlen:=rv.length
 obtain⟨f1,f2⟩:=lR I rv hr
 refine ZS.mV (kd:=tuples' true) (rk:=fun x=>ZS.rnk ZS.ltL ks (ZS.g9 s.heap x.1)) (S:=fun x=>x.1∈its) pl.isList (by lia) (fun v hv=>hv) (fun h' kp {Q} {E} hne q=>ZS.qQ (h0:=s.heap) (fun v hv=>(f1 v hv).1) (fun b o e _=>kp b o e) hne q)
  (fun h' E kp=>ZS.sf (h0:=s.heap) (ks:=ks) (fun x hx=>⟨(f1 _ hx).1,by rw [<-f2];exact JZ hx⟩) fun b o e _=>kp b o e) fun o a c h' op os ha kp e=>?_
 have mem:∀ v∈o,v∈its:=fun v hv=>op.mem_iff.mp hv
 have mk:∀ (l:List Value),(∀ v∈l,v∈its)->∃ zs,Vals zs l/\m9 X.K H zs (l.map (ZS.g9 s.heap))/\zs.length=l.length/\∀ v∈zs,v∈ys:=by
  intro l
  induction l with
  | nil=>exact fun _=>⟨[],.nil,.nil,rfl,fun v hv=>(by cases hv)⟩
  | cons v t ih=>
   intro hl
   obtain⟨zs,k1,k2,k3,k6⟩:=ih fun v hv=>hl v (.tail _ hv)
   obtain⟨_,b,e,k4,k5⟩:=f1 v (hl v (.head _))
   refine⟨.ref b::zs,.cons e k1,.cons ⟨k4,b,rfl,k5⟩ k2,by rw [h_,h_,k3],fun w hw=>?_⟩
   rcases m_.mp hw with rfl | hw
   ·exact nT rv (hl v (.head _)) e
   ·exact k6 w hw
 obtain⟨zs,k1,k2,k3,k6⟩:=mk o mem
 refine⟨.ref a,_,I.laid (t':=s.toks) kp ha (show bu X.prog X.w _ h' _ (.lst zs) from ⟨by rw [k3,op.length_eq];lia,o,c,k1,e⟩),rfl,(q zs _ k2 k6 ?_ ?_).at (I.hok.fresh ha)⟩
 ·rw [<-f2]
  exact op.map _
 ·rw [KJ]
  refine Kn (fun {x y} hx hy hxy=>?_) os
  cases z:ZS.ltL (ZS.g9 s.heap y) (ZS.g9 s.heap x)
  ·rfl
  ·have:=ZS.pF ZS.wL (ks:=ks) (by rw [<-f2];exact JZ (mem y hy)) z
   exact absurd this (MN.mpr hxy)
end
end L2
namespace ZS
open PySem PyProof.Rows
section
variable {prog:Program}{w:World}{A:Around}{E:Value->Shared->Prop}{s:Shared}
theorem oS {d:Addr}{o:Obj}{es:Array DictEntry}{ep:Nat}{Q:List Value->Shared->Prop}(lo:(d == sysModules)=false)(ho:s.heap.get? d=some o)(hc:o.ExactDict)(hd:o.data=.dict es ep)(hh:A.handled=none)(hn:es.size<=sizeLine)
  (h:∀ h' tk acc,s.heap.objs.size<=h'.objs.size->(∀ b u,s.heap.get? b=some u->h'.get? b=some u)->ItemsOf (fun i v=>∃ e,es[i]?=some e/\v=e.key) acc es.size->Q acc.toList { s with heap:=h',toks:=tk }):wpAny (model prog w) A (collect (.ref d)) Q E s:=by
 unfold collect
 refine wpAny_bind (wpAny_runValue (codeAny_builtin F.entry_proto_collect ?_))
 rw [Around.under_plainId F.plain_proto_collect _]
 show wpAny _ A.in1 (newList [] >>= fun l=>again (.builtin "list.__iadd__" ⟨[l,.ref d],[]⟩)) _ _ s
 refine wpAny_bind (wpAny_newObj_type ?_)
 refine wpAny_pure ⟨plainId_quiet F.plain_list_iadd _,codeAny_builtin F.entry_list_iadd ?_⟩
 rw [Around.under_plainId F.plain_list_iadd _]
 have hS:(s.heap.push { cls:=.type "list",data:=.seq ([]:List Value).toArray }).get? s.heap.objs.size=some { cls:=.type "list",data:=.seq ([]:List Value).toArray }:=Heap.get?_push_size _ rfl
 have hne:s.heap.objs.size≠d:=Ls (Heap.lt_size ho)
 have fin:∀ (s':Shared) (h':Heap) (tk:Nat) (acc:Array Value) (c:Nat),s'={ s with heap:=h',toks:=tk }->(∀ b u,s.heap.get? b=some u->h'.get? b=some u)->h'.get? s.heap.objs.size=some { cls:=.type "list",dict:=none,data:=.seq acc c,slots:=#[] }->ItemsOf (fun i v=>∃ e,es[i]?=some e/\v=e.key) acc es.size->
   wpAny (model prog w) A (load s.heap.objs.size >>= fun o=>match o.data with
    | .seq xs _=>pure xs.toList
    | _=>unsupported "internal:collect") Q E s':=fun s' h' tk acc c es' kp e it=>by
  subst es'
  refine wpAny_bind (wpAny_load e ?_)
  exact wpAny_pure (h h' tk acc (Jz (Heap.lt_size e)) kp it)
 refine wpAny_mono (PySem.W.kdl_extend (s:={ s with heap:=s.heap.push { cls:=.type "list",data:=.seq ([]:List Value).toArray } }) (R:=fun r s'=>∃ (h':Heap) (tk:Nat) (acc:Array Value) (c:Nat),r=.ok (.ret (.ref s.heap.objs.size))/\s'={ s with heap:=h',toks:=tk }/\(∀ b u,s.heap.get? b=some u->h'.get? b=some u)/\h'.get? s.heap.objs.size=some { cls:=.type "list",dict:=none,data:=.seq acc c,slots:=#[] }/\ItemsOf (fun i v=>∃ e,es[i]?=some e/\v=e.key) acc es.size)
  (ZG.CZ lo hc hd) hh (Heap.get?_push_of_some _ ho) s.heap.objs.size hne hne (.ref s.heap.objs.size) 0 hS (fun h' tk acc c kp e it=>⟨h',tk,acc,c,rfl,rfl,fun b u eb=>kp b u (q_ (Heap.lt_size eb)) (Heap.get?_push_of_some _ eb),e,it⟩) hn) (fun fn s' hf=>?_) (fun e s' hf=>?_)
 ·cases fn with
  | done f=>
   obtain⟨h',tk,acc,c,ef,es',kp,e,it⟩:=hf
   cases ef
   exact fin s' h' tk acc c es' kp e it
  | again c'=>
   refine⟨hf.1,codeAny_mono hf.2 fun r s'' hr=>?_⟩
   obtain⟨h',tk,acc,c,er,es',kp,e,it⟩:=hr
   subst er
   exact fin s'' h' tk acc c es' kp e it
 ·obtain⟨_,_,_,_,ef,_⟩:=hf
  cases ef
theorem rP {x:Value}{vs:List Value}{kd:SortKind}{rk:Keyed->Nat}{S:Keyed->Prop}{Q:Value->Shared->Prop}(hz:vs.length<=sizeLine)(hS:∀ v∈vs,S (v,v))
  (coll:∀ {Q':List Value->Shared->Prop} {E':Value->Shared->Prop},(∀ h' tk,s.heap.objs.size<=h'.objs.size->(∀ b u,s.heap.get? b=some u->h'.get? b=some u)->Q' vs { s with heap:=h',toks:=tk })->wpAny (model prog w) A.in1 (collect x) Q' E' s)
  (kind:∀ h' tk,(∀ b o,s.heap.get? b=some o->h'.get? b=some o)->∀ {Q:SortKind->Shared->Prop} {E:Value->Shared->Prop},vs≠[]->Q kd { s with heap:=h',toks:=tk }->wpAny (model prog w) A.in1.in1 (keyKind' vs.toArray) Q E { s with heap:=h',toks:=tk })
  (lt:∀ h' tk E,(∀ b o,s.heap.get? b=some o->h'.get? b=some o)->dG (model prog w) A.in1.in1 E { s with heap:=h',toks:=tk } kd rk S)
  (h:∀ (o:List Value) a c h' tk,o.Perm vs->o.Pairwise (fun x y=>rk (x,x)<=rk (y,y))->s.heap.objs.size<=a->(∀ b u,s.heap.get? b=some u->h'.get? b=some u)->h'.get? a=some (seqObj "list" o.toArray c)->Q (.ref a) { s with heap:=h',toks:=tk }) :
  wpAny (model prog w) A (call (.builtin "sorted") [x]) Q E s:=by
 refine Calls.call_function_entry kind_sorted plain_sorted entry_sorted (args_sorted1 _) ?_
 unfold Builtin.«sorted»
 refine wpAny_bind (m:=checkCount "sorted" 1 1 _) (wpAny_pure ?_)
 refine wpAny_bind (coll fun h0 tk le k0=>?_)
 refine wpAny_bind (wpAny_newList ?_ hz)
 have hoL:(h0.push (seqObj "list" vs.toArray 0)).get? h0.objs.size=some (seqObj "list" vs.toArray 0):=Heap.get?_push_size _ rfl
 have keep:∀ b o,s.heap.get? b=some o->(h0.push (seqObj "list" vs.toArray 0)).get? b=some o:=fun b o q=>Heap.get?_push_of_some _ (k0 b o q)
 show wpAny _ _ _ _ _ { s with heap:=h0.push (seqObj "list" vs.toArray 0),toks:=tk }
 have ne:∀ b o,s.heap.get? b=some o->b≠h0.objs.size:=fun b o e=>q_ (Heap.lt_size (k0 b o e))
 generalize h0.push (seqObj "list" vs.toArray 0)=h1 at hoL keep ⊢
 refine wpAny_bind (wpAny_holding (wpAny_call_entry slot_list_sort ⟨_,hoL,rfl⟩ entry_list_sort ?body (args_list_sort _)))
 case body=>
  refine oj (s:={ s with heap:=h1,toks:=tk }) (kd:=kd) (rk:=rk) (S:=S) hoL hz hS (fun h' k {Q} hne q=>kind h' tk (fun b o e=>k b o (ne b o e) (keep b o e)) hne q) (fun h' k=>lt h' tk _ fun b o e=>k b o (ne b o e) (keep b o e)) fun o c h' g1 g2 g3 g4=>?_
  exact⟨_,rfl,wpAny_pure ⟨_,rfl,h o _ c h' tk g1 g2 le (fun b u e=>g3 b u (ne b u e) (keep b u e)) g4⟩⟩
end
end ZS
namespace L2
open PySem PySem.Spec PyProof.Rows
section
variable {X:Cx}
abbrev vm (H:Hp):List V->List (List Int)->Prop:=Paired fun v k=>k≠[]/\∃ b,v=.ref b/\H b=some (.tup (k.map V.int))
theorem lN {α β:Type}{F:α->β->Prop}:∀ {l:List α} {m:List β},Paired F l m->∀ (i:Nat) (a:α) (b:β),l[i]?=some a->m[i]?=some b->F a b
 | _,_,.nil,i,a,b,h,_=>by simp at h
 | _,_,.cons f _,0,a,b,h,g=>by
  cases h
  cases g
  exact f
 | _,_,.cons _ t,i + 1,a,b,h,g=>lN t i a b (by simpa using h) (by simpa using g)
theorem pH (hc:X.calm=true):bE X (.builtin "sorted") (fun xs H Q=>∃ d kvs ks,xs=[.ref d]/\Rd H d (.dT kvs)/\kvs.map (·.1)=ks.map kI/\(∀ k∈ks,k≠[])/\∀ zs ls,vm H zs ls->ls.Perm ks->ls.Pairwise (fun x y=>ZS.ltL y x=false)->(kvs.map (·.1)).Nodup->New (.lst zs) H Q):=by
 intro pins s σ H xs us Q I r h
 obtain⟨d,kvs,ks,rfl,hd,ek,hne,q⟩:=h
 obtain⟨u,rfl,ru⟩:=vals1 r
 cases ru
 obtain⟨z,lo,xs,kt,o,es,ep,g1,g2,g3,g4,g5⟩:=(show bu X.prog X.w H s.heap d (.dT kvs) from hd.ok I.hok)
 have hlen:xs.length=kvs.length:=(Paired.length kt).symm
 have hes:es.size=xs.length:=by rw [<-j_,g4,b_]
 have rel:∀ (l:List Addr),Vals (l.map V.ref) (l.map Value.ref):=fun l=>by
  induction l with
  | nil=>exact .nil
  | cons a t ih=>exact .cons rfl ih
 have rows:∀ {kvs':List (List Key × V)} {xs':List (List Key × Addr × Value)} {ks':List (List Int)},KT H kvs' xs'->kvs'.map (·.1)=ks'.map kI->(∀ k∈ks',k≠[])->m9 X.K H ((xs'.map fun x=>x.2.1).map V.ref) ks':=fun {kvs' xs' ks'} k=>by
  induction k generalizing ks' with
  | nil=>
   intro e _
   cases ks' with
   | nil=>exact .nil
   | cons a b=>simp at e
  | cons h t ih=>
   intro e hn
   cases ks' with
   | nil=>simp at e
   | cons a b=>
    rw [f',f',Ko] at e
    refine .cons ⟨hn a t_,_,rfl,SqT.of ?_⟩ (ih e.2 fun k hk=>hn k (o_ _ hk))
    rw [h.2.1,e.1,GK]
 have rowsH:∀ {kvs':List (List Key × V)} {xs':List (List Key × Addr × Value)} {ks':List (List Int)},KT H kvs' xs'->kvs'.map (·.1)=ks'.map kI->Paired (fun (v:Value) (k:List Int)=>∃ b,v=.ref b/\H b=some (.tup (k.map V.int))) ((xs'.map fun x=>x.2.1).map Value.ref) ks':=fun {kvs' xs' ks'} k=>by
  induction k generalizing ks' with
  | nil=>
   intro e
   cases ks' with
   | nil=>exact .nil
   | cons a b=>simp at e
  | cons h t ih=>
   intro e
   cases ks' with
   | nil=>simp at e
   | cons a b=>
    rw [f',f',Ko] at e
    refine .cons ⟨_,rfl,?_⟩ (ih e.2)
    rw [h.2.1,e.1,GK]
 have eqk:∀ {kvs':List (List Key × V)} {xs':List (List Key × Addr × Value)},KT H kvs' xs'->kvs'.map (·.1)=xs'.map fun x=>x.1:=fun {kvs' xs'} k=>by
  induction k with
  | nil=>rfl
  | cons h t ih=>rw [f',f',ih,h.1]
 obtain⟨f1,f2⟩:=lR I (rel (xs.map fun x=>x.2.1)) (rows kt ek hne)
 obtain⟨its,eits⟩:∃ its,its=(xs.map fun x=>x.2.1).map Value.ref:=⟨_,rfl⟩
 rw [<-eits] at f1 f2
 have li:its.length=xs.length:=by rw [eits,b_,b_]
 refine ZS.rP (vs:=its) (kd:=tuples' true) (rk:=fun x=>ZS.rnk ZS.ltL ks (ZS.g9 s.heap x.1)) (S:=fun x=>x.1∈its) (by lia) (fun v hv=>hv)
  (fun {Q' E'} hq=>ZS.oS lo g1 g2 g3 (I.ok.hd hc) (by lia) fun h' tk acc le kp it=>?_)
  (fun h' tk kp {Q} {E} hne q=>ZS.qQ (h0:=s.heap) (fun v hv=>(f1 v hv).1) (fun b o e _=>kp b o e) hne q)
  (fun h' tk E kp=>ZS.sf (h0:=s.heap) (ks:=ks) (fun x hx=>⟨(f1 _ hx).1,by rw [<-f2];exact JZ hx⟩) fun b o e _=>kp b o e) fun o a c h' tk op os ha kp e=>?_
 ·have hacc:acc.toList=its:=by
   rw [eits]
   refine LF fun j=>?_
   rw [i_,w_,w_]
   by_cases hj:j < es.size
   ·have hx:j < xs.length:=by lia
    have hja:j < acc.size:=by rw [it.1];exact hj
    have ha:acc[j]?=some acc[j]:=u_ hja
    obtain⟨en,e1,e2⟩:=it.2 j _ ha
    rw [ha,e2,a_ hx]
    rw [<-i_,g4,w_,a_ hx] at e1
    cases e1
    rfl
   ·rw [K8 (by rw [it.1];lia),JL (by lia)]
    rfl
  rw [hacc]
  exact hq h' tk le kp
 have mem:∀ v∈o,v∈its:=fun v hv=>op.mem_iff.mp hv
 have raw:∀ v∈its,∃ b,v=.ref b/\H b=some (.tup ((ZS.g9 s.heap v).map V.int)):=fun v hv=>by
  obtain⟨i,hi,ev⟩:=KO.mp hv
  have h1:its[i]?=some v:=by rw [a_ hi,ev]
  have h2:ks[i]?=some (ZS.g9 s.heap v):=by rw [<-f2,w_,h1];rfl
  have pr:=rowsH kt ek
  rw [<-eits] at pr
  exact lN pr i _ _ h1 h2
 have mk:∀ (l:List Value),(∀ v∈l,v∈its)->∃ zs,Vals zs l/\vm H zs (l.map (ZS.g9 s.heap))/\zs.length=l.length:=by
  intro l
  induction l with
  | nil=>exact fun _=>⟨[],.nil,.nil,rfl⟩
  | cons v t ih=>
   intro hl
   obtain⟨zs,k1,k2,k3⟩:=ih fun v hv=>hl v (.tail _ hv)
   obtain⟨_,_,_,k4,_⟩:=f1 v (hl v (.head _))
   obtain⟨b,e,k5⟩:=raw v (hl v (.head _))
   exact⟨.ref b::zs,.cons e k1,.cons ⟨k4,b,rfl,k5⟩ k2,by rw [h_,h_,k3]⟩
 obtain⟨zs,k1,k2,k3⟩:=mk o mem
 refine⟨.ref a,_,I.laid (t':=tk) kp ha (show bu X.prog X.w _ h' _ (.lst zs) from ⟨by rw [k3,op.length_eq];lia,o,c,k1,e⟩),rfl,(q zs _ k2 ?_ ?_ (by rw [eqk kt];exact g5)).at (I.hok.fresh ha)⟩
 ·rw [<-f2]
  exact op.map _
 ·rw [KJ]
  refine Kn (fun {x y} hx hy hxy=>?_) os
  cases z:ZS.ltL (ZS.g9 s.heap y) (ZS.g9 s.heap x)
  ·rfl
  ·have:=ZS.pF ZS.wL (ks:=ks) (by rw [<-f2];exact JZ (mem y hy)) z
   exact absurd this (MN.mpr hxy)
end
end L2
namespace ZS
open PySem PyProof.Rows
def ltI (a b:Int):Bool:=decide (a < b)
theorem ES:Tot ltI:=⟨fun a=>decide_eq_false (Int.lt_irrefl a),fun a b c h g=>decide_eq_true (Int.lt_trans (of_decide_eq_true h) (of_decide_eq_true g)),fun a b h g=>by
 have h:=of_decide_eq_false h
 have g:=of_decide_eq_false g
 lia⟩
section
variable {prog:Program}{w:World}{A:Around}{E:Value->Shared->Prop}{s:Shared}
theorem xN {ns:List Int}{S:Keyed->Prop}(hS:∀ x,S x->∃ i t,x.1=.int i t/\i∈ns):dG (model prog w) A E s oneType' (fun x=>rnk ltI ns (eY x.1)) S:=by
 intro x y st Q sx sy kd q
 obtain⟨i,t,ex,mi⟩:=hS x sx
 obtain⟨j,u,ey,mj⟩:=hS y sy
 rw [lt'_eq]
 refine wpS_bind (wpS_get ?_)
 rw [kd,ex,ey,keyLt'_oneType]
 refine wpS_bind (wpS_lift (wpAny_attempt (oneLt_int ⟨rfl,?_⟩)))
 refine wpS_pure ?_
 dsimp only at q
 rw [vy ES (show eY x.1∈ns by rw [ex];exact mi),ex,ey] at q
 exact q
theorem yf {M:Model}{v1:Value}{vs:List Value}{ns:List Int}{Q:SortKind->Shared->Prop}(hI:IntsAre (v1::vs) ns)(q:Q oneType' s):wpAny M A (keyKind' (v1::vs).toArray) Q E s:=by
 have e:keyKind' (v1::vs).toArray=pure oneType':=by
  rw [keyKind'_eq,M8,mapM_first_ints hI]
  simp only [map_pure,pure_bind]
  rw [if_neg (by simp),if_neg (by simp),oneTypeOnly'_eq,M8,mapM_typeOf_ints hI]
  simp only [map_pure,pure_bind]
  have hal:((JO (fun _=>Value.type "int") (v1::vs)).toArray.all fun x=>x == Value.type "int")=true:=by
   simp only [List.all_toArray,LU,Kf]
   exact fun _ _=>rfl
  have hz:(JO (fun _=>Value.type "int") (v1::vs)).toArray[0]?=some (Value.type "int"):=by simp
  rw [hz]
  simp only [hal,if_true,pure_bind,M0]
 rw [e]
 exact wpAny_pure q
end
end ZS
namespace L2
open PySem PySem.Spec PyProof.Rows
section
variable {X:Cx}
theorem pB:bE X (.builtin "sorted") (fun xs H Q=>∃ p ns,xs=[.ref p]/\SqL X.K H p (ns.map V.int)/\∀ ms:List Int,ms.Perm ns->ms.Pairwise (·<=·)->New (.lst (ms.map V.int)) H Q):=by
 intro pins s σ H xs us Q I r h
 obtain⟨p,ns,rfl,hq,q⟩:=h
 obtain⟨u,rfl,ru⟩:=vals1 r
 cases ru
 obtain⟨its,rv,pl,hz⟩:=I.list hq
 have hlen:=rv.length
 rw [b_] at hlen hz
 obtain⟨ps,e1,e2⟩:=dH rv
 have hI:IntsAre its ns:=intsAre_of rv
 have each:∀ v∈its,∃ i t,v=.int i t/\i∈ns:=fun v hv=>by
  rw [e1] at hv
  obtain⟨a,ha,e⟩:=A_.mp hv
  exact⟨a.1,a.2,e.symm,by rw [<-e2];exact JZ ha⟩
 have keys:its.map ZS.eY=ns:=by rw [e1,JB,<-e2];rfl
 refine ZS.mV (kd:=oneType') (rk:=fun x=>ZS.rnk ZS.ltI ns (ZS.eY x.1)) (S:=fun x=>x.1∈its) pl.isList (by lia) (fun v hv=>hv) (fun h' kp {Q} {E} hne q=>?_) (fun h' E kp=>ZS.xN fun x hx=>each _ hx) fun o a c h' op os ha kp e=>?_
 ·obtain⟨v1,vs,ev⟩:=List.exists_cons_of_ne_nil hne
  rw [ev] at hI ⊢
  exact ZS.yf hI q
 have mem:∀ v∈o,v∈its:=fun v hv=>op.mem_iff.mp hv
 have mk:∀ (l:List Value),(∀ v∈l,v∈its)->Vals ((l.map ZS.eY).map V.int) l:=by
  intro l
  induction l with
  | nil=>exact fun _=>.nil
  | cons v t ih=>
   intro hl
   obtain⟨i,t',e,_⟩:=each v (hl v (.head _))
   refine .cons ?_ (ih fun v hv=>hl v (.tail _ hv))
   rw [e]
   exact⟨t',rfl⟩
 refine⟨.ref a,_,I.laid (t':=s.toks) kp ha (show bu X.prog X.w _ h' _ (.lst ((o.map ZS.eY).map V.int)) from ⟨by rw [b_,b_,op.length_eq];lia,o,c,mk o mem,e⟩),rfl,(q _ ?_ ?_).at (I.hok.fresh ha)⟩
 ·rw [<-keys]
  exact op.map _
 ·rw [KJ]
  refine Kn (fun {x y} hx hy hxy=>?_) os
  by_cases z:ZS.eY x<=ZS.eY y
  ·exact z
  ·have:=ZS.pF ZS.ES (ks:=ns) (a:=ZS.eY y) (b:=ZS.eY x) (by rw [<-keys];exact JZ (mem y hy)) (decide_eq_true (by lia))
   exact absurd this (MN.mpr hxy)
end
end L2
namespace PL
open PySem PySem.Spec PyProof.Rows L2
section
variable {κ:Type}{lt:κ->κ->Bool}
def wZ (lt:κ->κ->Bool)(x:κ):List κ->List κ
 | []=>[x]
 | y::r=>if lt y x=true then y::wZ lt x r else x::y::r
def vN (lt:κ->κ->Bool):List κ->List κ
 | []=>[]
 | x::r=>wZ lt x (vN lt r)
theorem jL (x:κ):∀ l:List κ,(wZ lt x l).Perm (x::l)
 | []=>.refl _
 | y::r=>by
  rw [wZ]
  split
  ·exact ((jL x r).cons y).trans (.swap _ _ _)
  ·exact .refl _
theorem cW:∀ l:List κ,(vN lt l).Perm l
 | []=>.refl _
 | x::r=>(jL x _).trans ((cW r).cons x)
theorem kD (T:ZS.Tot lt)(x:κ):∀ {l:List κ},l.Pairwise (fun a b=>lt b a=false)->(wZ lt x l).Pairwise (fun a b=>lt b a=false)
 | [],_=>Mw _ _
 | y::r,h=>by
  rw [Ki] at h
  rw [wZ]
  split
  ·rename_i hy
   rw [Ki]
   refine⟨fun b hb=>?_,kD T x h.2⟩
   rcases m_.mp ((jL x r).mem_iff.mp hb) with rfl | hb
   ·cases z:lt b y
    ·rfl
    ·have:=T.tr _ _ _ z hy
     rw [T.irr] at this
     cases this
   ·exact h.1 b hb
  ·rename_i hy
   have hy:lt y x=false:=Lb.mpr hy
   rw [Ki]
   refine⟨fun b hb=>?_,Ki.mpr h⟩
   rcases m_.mp hb with rfl | hb
   ·exact hy
   ·cases z:lt b x
    ·rfl
    ·have h1:=h.1 b hb
     cases w:lt y b
     ·have:=T.tot _ _ h1 w
      subst this
      rw [z] at hy;cases hy
     ·have:=T.tr _ _ _ w z
      rw [hy] at this;cases this
theorem gh (T:ZS.Tot lt):∀ l:List κ,(vN lt l).Pairwise (fun a b=>lt b a=false)
 | []=>LD
 | x::r=>kD T x (gh T r)
theorem kH (T:ZS.Tot lt):∀ {l m:List κ},l.Perm m->l.Pairwise (fun a b=>lt b a=false)->m.Pairwise (fun a b=>lt b a=false)->l=m
 | [],m,p,_,_=>(List.Perm.nil_eq p)
 | a::l,[],p,_,_=>(List.Perm.eq_nil p)
 | a::l,b::m,p,h,g=>by
  rw [Ki] at h g
  have e:a=b:=by
   have ha:a∈b::m:=p.mem_iff.mp t_
   have hb:b∈a::l:=p.mem_iff.mpr t_
   rcases m_.mp ha with e | ha
   ·exact e
   ·rcases m_.mp hb with e | hb
    ·exact e.symm
    ·exact T.tot _ _ (g.1 a ha) (h.1 b hb)
  subst e
  rw [kH T (List.Perm.cons_inv p) h.2 g.2]
theorem oQ (T:ZS.Tot lt){l m:List κ}(p:l.Perm m)(h:l.Pairwise (fun a b=>lt b a=false)):l=vN lt m:=
 kH T (p.trans (cW m).symm) h (gh T m)
end
abbrev tS (ks:List (List Int)):List (List Int):=vN ZS.ltL ks
abbrev HC (ks:List Int):List Int:=vN ZS.ltI ks
def rowOf:T->Option (List Int)
 | .tup ts=>match intsOf ts with
  | some (n::r)=>some (n::r)
  | _=>none
 | _=>none
def rowsOf:List T->Option (List (List Int))
 | []=>some []
 | t::r=>match rowOf t,rowsOf r with
  | some k,some ks=>some (k::ks)
  | _,_=>none
theorem zQ {t:T}{k:List Int}(h:rowOf t=some k):t=iT k/\k≠[]:=by
 cases t <;> first | cases h | skip
 rename_i ts
 rw [rowOf] at h
 split at h
 ·rename_i n r e
  cases h
  exact⟨by rw [fw e];rfl,by simp⟩
 ·cases h
theorem nS:∀ {ts:List T} {ks:List (List Int)},rowsOf ts=some ks->ts=ks.map iT/\∀ k∈ks,k≠[]
 | [],ks,h=>by cases h;exact⟨rfl,fun k hk=>by cases hk⟩
 | t::ts,ks,h=>by
  rw [rowsOf] at h
  split at h
  ·rename_i k r e1 e2
   cases h
   obtain⟨h1,h2⟩:=zQ e1
   obtain⟨h3,h4⟩:=nS e2
   refine⟨by rw [h1,h3];rfl,fun q hq=>?_⟩
   rcases m_.mp hq with rfl | hq
   ·exact h2
   ·exact h4 q hq
  ·cases h
def vb:P1s
 | [.lst _ ts],k=>match intsOf ts with
  | some ns=>k (.lst true ((HC ns).map T.int))
  | none=>got (rowsOf ts) fun ks=>k (.lst true ((tS ks).map iT))
 | [.dT _ kvs],k=>∃ ks,kvs.map (·.1)=ks.map kI/\(∀ q∈ks,q≠[])/\(ks.Nodup->k (.lst true ((tS ks).map iT)))
 | _,_=>False
section
variable {X:Cx}
theorem sg {K:PySem.W.Frag}{H:Hp}{Γ:Fm}:∀ {ks:List (List Int)} {vs:List V},(∀ k∈ks,k≠[])->(ks.map iT).length=vs.length->Rp K H (zz (ks.map iT) vs++Γ)->m9 K H vs ks/\∀ v∈vs,∃ (b:Addr) (k:List Int),v=.ref b/\H b=some (.tup (k.map V.int))
 | [],[],_,_,_=>⟨.nil,fun v hv=>by cases hv⟩
 | [],_::_,_,l,_=>by cases l
 | _::_,[],_,l,_=>by cases l
 | k::ks,v::vs,n,l,h=>by
  have h:Rp K H ((iT k,some v)::(zz (ks.map iT) vs++Γ)):=h
  obtain⟨a,us,rfl,ha,la,h2⟩:=oZ h
  have eu:=fI la h2
  subst eu
  obtain⟨r1,r2⟩:=sg (fun q hq=>n q (o_ _ hq)) (by simpa using l) h.tail
  refine⟨.cons ⟨n k t_,a,rfl,SqT.of ha⟩ r1,fun w hw=>?_⟩
  rcases m_.mp hw with rfl | hw
  ·exact⟨a,k,rfl,ha⟩
  ·exact r2 w hw
theorem mR {K:PySem.W.Frag}{H:Hp}{Γ:Fm}:∀ {ks:List (List Int)} {vs:List V},vm H vs ks->Rp K H Γ->Rp K H (zz (ks.map iT) vs++Γ)/\(ks.map iT).length=vs.length
 | [],_,r,h=>by cases r;exact⟨h,rfl⟩
 | k::ks,_,r,h=>by
  rcases r with _ | ⟨hd,t⟩
  rename_i v vs
  obtain⟨_,b,e,hb⟩:=hd
  obtain⟨h1,l1⟩:=mR t h
  subst e
  refine⟨?_,by simp at l1 ⊢;exact l1⟩
  show Rp K H ((iT k,some (.ref b))::(zz (ks.map iT) vs++Γ))
  exact gG (ts:=k.map T.int) (vs:=k.map V.int) (rp_intsP k h1) (by rw [b_,b_]) .bX hb
where
 rp_intsP {Γ:Fm}:∀ (ns:List Int),Rp K H Γ->Rp K H (zz (ns.map T.int) (ns.map V.int)++Γ)
 | [],h=>h
 | _::r,h=>bS (rp_intsP r h) fun _=>.int
theorem v7 {K:PySem.W.Frag}{H:Hp}{Γ:Fm}:∀ (ns:List Int),Rp K H Γ->Rp K H (zz (ns.map T.int) (ns.map V.int)++Γ)
 | [],h=>h
 | _::r,h=>bS (v7 r h) fun _=>.int
theorem ui {K:PySem.W.Frag}{H:Hp}:∀ {zs:List V} {ls:List (List Int)},(∀ v∈zs,∀ b,v=.ref b->∀ xs,SqT K H b xs->H b=some (.tup xs))->m9 K H zs ls->vm H zs ls
 | _,_,_,.nil=>.nil
 | _,_,h,.cons ⟨n,b,e,hb⟩ t=>.cons ⟨n,b,e,h _ t_ b e _ hb⟩ (ui (fun v hv=>h v (o_ _ hv)) t)
theorem G8 {ms:List Int}(h:ms.Pairwise (·<=·)):ms.Pairwise (fun a b=>ZS.ltI b a=false):=h.imp fun {a b} hab=>by
 unfold ZS.ltI
 exact decide_eq_false (by omega)
theorem jv (hc:X.calm=true):i8 X (.builtin "sorted") vb:=by
 rintro pins s σ H xs us Q I r ⟨ts,Γ,k,l,rp,g,c⟩
 unfold vb at g
 split at g
 ·rename_i k o ts
  obtain⟨x,rfl⟩:=zz1 l rfl
  have rp:Rp X.K H ((.lst o ts,some x)::Γ):=rp
  obtain⟨a,vs,rfl,hq,l2,rp2⟩:=l8 rp
  cases e:intsOf ts with
  | some ns=>
   rw [e] at g
   have et:=fw e
   subst et
   have ev:=fI l2 rp2
   subst ev
   refine pB pins s σ H _ us Q I r ⟨a,ns,rfl,.inl hq,fun ms pm sm p H' hp g' e'=>c _ _ _ g ?_⟩
   have es:ms=HC ns:=oQ ZS.ES pm (G8 sm)
   rw [<-es]
   exact fN (v7 ms rp.tail) (by rw [b_,b_]) hp g' e'
  | none=>
   rw [e] at g
   obtain⟨ks,ek,kt⟩:=az g
   obtain⟨et,ne⟩:=nS ek
   subst et
   obtain⟨rv,ex⟩:=sg ne l2 rp2
   refine ph pins s σ H _ us Q I r ⟨a,vs,ks,rfl,.inl hq,rv,fun zs ls rz mem pm sm p H' hp g' e'=>c _ _ _ kt ?_⟩
   have es:ls=tS ks:=oQ ZS.wL pm sm
   rw [<-es]
   have rH:=ui (fun v hv b eb xs hs=>by
    obtain⟨b',k',e1,e2⟩:=ex v (mem v hv)
    rw [eb] at e1
    cases e1
    rw [e2,I.hV hs (SqT.of e2)]) rz
   obtain⟨rp3,l3⟩:=mR rH rp.tail
   exact fN rp3 l3 hp g' e'
 ·rename_i k o kvs
  obtain⟨x,rfl⟩:=zz1 l rfl
  have rp:Rp X.K H ((.dT o kvs,some x)::Γ):=rp
  obtain⟨a,vs,rfl,hq,ek,rp2⟩:=iw rp
  obtain⟨ks,e1,e2,kt⟩:=g
  refine pH hc pins s σ H _ us Q I r ⟨a,vs,ks,rfl,hq,by rw [<-ek];exact e1,e2,fun zs ls rz pm sm nd p H' hp g' e'=>?_⟩
  have nd':ks.Nodup:=by
   rw [<-ek,e1] at nd
   exact (KJ.mp nd).imp fun {a b} h z=>h (by rw [z])
  refine c _ _ _ (kt nd') ?_
  have es:ls=tS ks:=oQ ZS.wL pm sm
  rw [<-es]
  obtain⟨rp3,l3⟩:=mR rz rp.tail
  exact fN rp3 l3 hp g' e'
 ·exact False.elim g
end
end PL
namespace PL
open PySem PySem.Spec PyProof.Rows L2
section
variable {X:Cx}
variable {e a b:Expr}{fr:PFs}{p1 p2 pos1 pos2:Pos}
theorem Hn {k:Nat}{A:Around}(r:Room k A):A.units + 20 < cLine:=by have:=r.un;lia
def pairOf:T->Option (List Key × T)
 | .tup [.tup ks,v]=>match i4 ks with
  | some q=>some (q,v)
  | none=>none
 | _=>none
def pairsOf:List T->Option (List (List Key × T))
 | []=>some []
 | t::r=>match pairOf t,pairsOf r with
  | some k,some ks=>some (k::ks)
  | _,_=>none
def putAll (kvs:List (List Key × T)):List (List Key × T):=kvs.foldl (fun a x=>dZ a x.1 x.2) []
def DA:P1s
 | [.lst true ts],k=>got (pairsOf ts) fun kvs=>dv kvs=true/\k (.dT true (putAll kvs))
 | _,_=>False
theorem wF {t:T}{q:List Key × T}(h:pairOf t=some q):∃ ks,t=.tup [.tup ks,q.2]/\i4 ks=some q.1:=by
 unfold pairOf at h
 split at h
 ·rename_i ks v
  split at h
  ·rename_i z e
   cases h
   exact⟨ks,rfl,e⟩
  ·cases h
 ·cases h
theorem RepXs.put {K:PySem.W.Frag}{Hz H:Hp}{q:List Key}{t:T}{w:V}(h:RepT K Hz H t w []):∀ {ts:List (List Key × T)} {vs:List (List Key × V)},RepXs K Hz H ts vs []->RepXs K Hz H (dZ ts q t) (putK vs q w) []:=by
 intro ts vs c
 have ek:=c.toL.1
 have ha:(ts.any fun kv=>decide (kv.1=q))=(vs.any fun kv=>decide (kv.1=q)):=by
  have e1:(ts.any fun kv=>decide (kv.1=q))=(ts.map (·.1)).any fun k=>decide (k=q):=by rw [LY];rfl
  have e2:(vs.any fun kv=>decide (kv.1=q))=(vs.map (·.1)).any fun k=>decide (k=q):=by rw [LY];rfl
  rw [e1,e2,ek]
 have mp:∀ {ts:List (List Key × T)} {vs:List (List Key × V)} {L:List Addr},RepXs K Hz H ts vs L->L=[]->RepXs K Hz H (ts.map fun kv=>if kv.1=q then (kv.1,t) else kv) (vs.map fun kv=>if kv.1=q then (kv.1,w) else kv) []:=by
  intro ts vs L c e
  induction ts generalizing vs L with
  | nil=>cases c;exact .nil
  | cons x ts ih=>
   cases c with
   | @cons k t1 v1 L1 M N ts' vs' e1 h1 c1=>
    subst e
    have z:=LJ.mp e1.symm
    obtain⟨rfl,rfl⟩:=z
    rw [f',f']
    by_cases hk:k=q
    ·rw [if_pos hk,if_pos hk];exact .cons rfl h (ih c1 rfl)
    ·rw [if_neg hk,if_neg hk];exact .cons rfl h1 (ih c1 rfl)
 have ap:∀ {ts:List (List Key × T)} {vs:List (List Key × V)} {L:List Addr},RepXs K Hz H ts vs L->L=[]->RepXs K Hz H (ts++[(q,t)]) (vs++[(q,w)]) []:=by
  intro ts vs L c e
  induction ts generalizing vs L with
  | nil=>cases c;exact .cons rfl h .nil
  | cons x ts ih=>
   cases c with
   | @cons k t1 v1 L1 M N ts' vs' e1 h1 c1=>
    subst e
    have z:=LJ.mp e1.symm
    obtain⟨rfl,rfl⟩:=z
    exact .cons rfl h1 (ih c1 rfl)
 unfold dZ putK
 rw [ha]
 split
 ·exact mp c rfl
 ·exact ap c rfl
theorem nD {K:PySem.W.Frag}{Hz H:Hp}:∀ {ts:List T} {kvs:List (List Key × T)} {vs:List V} {L:List Addr},pairsOf ts=some kvs->dv kvs=true->RepTs K Hz H ts vs L->∃ xs,u9 H vs xs/\RepXs K Hz H kvs xs []
 | [],kvs,_,_,e,_,r=>by cases r;cases e;exact⟨[],.nil,.nil⟩
 | t::ts,kvs,_,_,e,n,r=>by
  cases r with
  | cons e1 h c=>
   rw [pairsOf] at e
   split at e
   ·rename_i k r e2 e3
    cases e
    obtain⟨q,v⟩:=k
    obtain⟨ks,rfl,ek⟩:=wF e2
    rw [dv,C_] at n
    obtain⟨xs,px,rx⟩:=nD e3 n.2 c
    cases h with
    | tup ha ca=>
     cases ca with
     | cons e4 h4 c4=>
      cases c4 with
      | @cons _ w _ _ _ _ _ e5 h5 c5=>
       cases c5
       cases h4 with
       | tup hb cb=>
        have hL:=h5.nil_of n.1
        subst hL
        refine⟨(q,w)::xs,.cons ⟨_,_,rfl,ha,?_⟩ px,.cons rfl h5 rx⟩
        rw [hb,kc ek cb]
   ·cases e
theorem m8 {K:PySem.W.Frag}{Hz H:Hp}:∀ {kvs:List (List Key × T)} {xs:List (List Key × V)} {L:List Addr} {a:List (List Key × T)} {b:List (List Key × V)},RepXs K Hz H kvs xs L->L=[]->RepXs K Hz H a b []->RepXs K Hz H (kvs.foldl (fun a x=>dZ a x.1 x.2) a) (xs.foldl (fun a x=>putK a x.1 x.2) b) []
 | _,_,_,_,_,.nil,_,h=>h
 | _,_,_,_,_,.cons e1 h1 c1,e,h=>by
  subst e
  obtain⟨rfl,rfl⟩:=LJ.mp e1.symm
  rw [K4,K4]
  exact m8 c1 rfl (RepXs.put h1 h)
theorem lT (hc:X.calm=true)(hu:X.A.units + 20 < cLine):i8 X (.type "dict") DA:=by
 rintro pins s σ H xs us Q I r ⟨ts,Γ,k,l,rp,g,c⟩
 unfold DA at g
 split at g
 ·rename_i k ts
  obtain⟨x,rfl⟩:=zz1 l rfl
  have rp:Rp X.K H ((.lst true ts,some x)::Γ):=rp
  obtain⟨kvs,ek,n,kt⟩:=az g
  obtain⟨a,vs,ea,ha,la,rp2⟩:=hZ rp
  cases ea
  obtain⟨Hz,N,h,nd,gz,d⟩:=rp2.tail
  obtain⟨L,M,rfl,h1,h2⟩:=h.split
  obtain⟨ys,py,ry⟩:=nD ek n (h1.nv la)
  refine tm hc hu pins s σ H _ us Q I r ⟨a,vs,ys,rfl,ha,py,fun p H' hp g' e'=>c _ _ _ kt ?_⟩
  have rd:=m8 ry rfl (.nil:RepXs X.K Hz H [] [] [])
  have hm:=h2.move (aO.tk g') .bX fun b m u e=>fE g' b u e
  refine⟨Hz,[p]++M,.cons rfl (.inr ⟨_,rfl,.dTO e' (rd.move (aO.tk g') .bX fun b m=>by cases m)⟩) hm,?_,gz.trans (.of g'),?_⟩
  ·rw [LR,H_]
   refine⟨fun m=>?_,(Ks.mp nd).2.1⟩
   obtain⟨⟨u,e⟩,_⟩:=h2.there p m
   rw [hp] at e;cases e
  ·intro b m
   rcases m_.mp m with rfl | m
   ·exact gz.none hp
   ·exact d b (k_ _ m)
 ·exact False.elim g
end
end PL
namespace PL
open PySem PySem.Spec PyProof.Rows L2
section
variable {b:Bool}{ts us:List T}{k:T->Prop}{i:Int}{t u:T}{env:Ev}{ke:T->Ev->Prop}
theorem wo (ts:List T)(n:Nat):fZ ts (some (n:Int)) none=ts.drop n:=by
 unfold fZ
 rw [HT.l4,HT.je]
 by_cases h:n<=ts.length
 ·rw [KD h,JC]
  rw [F'];lia
 ·rw [Lh (by lia),K' (by lia),K' (by lia),Nu]
theorem xb (ts:List T)(n:Nat):fZ ts none (some (n:Int))=ts.take n:=by
 unfold fZ
 rw [HT.l4,HT.je,KR,Nz]
 by_cases h:n<=ts.length
 ·rw [KD h]
 ·rw [Lh (by lia),JC (by lia),JC (by lia)]
theorem aS (lo:Int)(n:Nat):(jT lo n).length=n:=by rw [jT,b_,JI]
theorem jZ {lo:Int}{n i:Nat}{t:T}(h:(jT lo n)[i]?=some t):i < n:=by
 have:=(e_.mp h).1
 rwa [aS] at this
theorem gw {lo:Int}{n i:Nat}{t:T}(h:(jT lo n)[i]?=some t):t=.int (lo + (i:Int)):=by
 have hi:=jZ h
 rw [jT,w_,JQ hi] at h
 cases h
 rfl
theorem eD {α:Type}{g:α->T}{l:List α}{i:Nat}{t:T}(h:(l.map g)[i]?=some t):∃ x,l[i]?=some x/\t=g x:=by
 rw [w_] at h
 cases e:l[i]? with
 | none=>rw [e] at h;cases h
 | some x=>rw [e] at h;cases h;exact⟨x,rfl,rfl⟩
end
def Gs (f g:PSt):PSt:=fun pe env=>∃ W:Ev->Prop,f { pe with nx:=W } env/\∀ e,W e->g pe e
theorem vC {X:Cx}{κ:Nat->Bool}{st:Stmt}{rest:List Stmt}{f g:PSt}(h1:GS κ X st f)(h2:GSs κ X rest g):GSs κ X (st::rest) (Gs f g):=by
 refine PSs.imp (aR h1 h2) ?_
 rintro D σ H ⟨env,Fr,pe,rs,⟨W,q,w⟩,c⟩
 refine⟨env,Fr,_,rs,q,⟨fun env' σ' H' q1 rs1 k1=>⟨env',Fr,pe,rs1,w _ q1,c.later k1⟩,c.rt,c.bk,c.ct⟩⟩
theorem Ay {f g:PSt}{pe:PEn}{env:Ev}(W:Ev->Prop)(h1:f { pe with nx:=W } env)(h2:∀ e,W e->g pe e):Gs f g pe env:=⟨W,h1,h2⟩
end PL
namespace PL
open PySem PySem.Spec PyProof.Rows L2
section
variable {X:Cx}{pos:Pos}
theorem su {κ:Type}[DecidableEq κ]{q:κ}:∀ {ts:List (κ × T)} {vs:List (κ × V)},ts.map (·.1)=vs.map (·.1)->dM ts q=none->dP vs q=none:=by
 intro ts vs e h
 unfold dM at h
 unfold dP
 rw [Option.map_eq_none_iff,L'] at h ⊢
 intro x m hx
 have m2:x.1∈ts.map (·.1):=by rw [e];exact JZ m
 obtain⟨y,my,ey⟩:=A_.mp m2
 exact h y my (by rw [ey];exact hx)
def Ca:T->Bool
 | .dK _ _=>true
 | .dT _ _=>true
 | _=>false
def qT (t y z:T)(k:T->Prop):Prop:=match t with
 | .dK _ kvs=>got (pG y) fun q=>k ((dM kvs q).getD z)
 | .dT _ kvs=>match y with
  | .tup ks=>got (i4 ks) fun q=>k ((dM kvs q).getD z)
  | _=>False
 | _=>False
def Aw (fo fe ff:PF):PF:=fun env k=>fo env fun t env1=>Ca t=true/\fe env1 fun y env2=>ff env2 fun z env3=>qT t y z fun u=>k u env3
theorem FK {H:Hp}{Γ:Fm}{t:T}{y:V}(h:Rp X.K H ((t,some y)::Γ))(d:Ca t=true):∃ a,y=.ref a/\IsD H a:=by
 cases t with
 | dK o kvs=>
  obtain⟨a,vs,rfl,hq,_⟩:=jU h
  exact⟨a,rfl,.inl ⟨_,hq⟩⟩
 | dT o kvs=>
  obtain⟨a,vs,rfl,hq,_⟩:=iw h
  exact⟨a,rfl,.inr ⟨_,hq⟩⟩
 | _=>cases d
theorem Ge {H:Hp}{Γ:Fm}{t y z:T}{a:Addr}{v w:V}{k:T->Prop}(h:Rp X.K H ((z,some w)::(y,some v)::(t,some (.ref a))::Γ))(g:qT t y z k):∃ o u,gq H a v o/\k u/\Rp X.K H ((u,some (o.getD w))::Γ):=by
 cases t with
 | dK o kvs=>
  obtain⟨q,eq,kt⟩:=az g
  have ev:=jC eq h.tail
  subst ev
  obtain⟨a',vs,ea,hq,ek,rp2⟩:=jU h.tail.tail
  cases ea
  cases et:dM kvs q with
  | none=>
   rw [et] at kt
   refine⟨none,z,.inl ⟨vs,q,hq,rfl,(su ek et).symm⟩,kt,?_⟩
   have:Rp X.K H ((y,some (kV q))::(.dK o kvs,some (.ref a))::(z,some w)::Γ):=h.perm (.trans (.swap _ _ _) (.cons _ (.swap _ _ _)))
   exact this.tail.tail
  | some u=>
   rw [et] at kt
   obtain⟨x,i,ew,e1,e2⟩:=fj ek et
   exact⟨some x,u,.inl ⟨vs,q,hq,rfl,ew.symm⟩,kt,gZ rp2 e1 e2⟩
 | dT o kvs=>
  unfold qT at g
  cases y <;> first | exact False.elim g | skip
  rename_i ks
  obtain⟨q,eq,kt⟩:=az g
  obtain⟨b,ev,hb⟩:=iJ eq h.tail
  subst ev
  obtain⟨a',vs,ea,hq,ek,rp2⟩:=iw h.tail.tail
  cases ea
  cases et:dM kvs q with
  | none=>
   rw [et] at kt
   refine⟨none,z,.inr ⟨vs,q,b,hq,rfl,hb,(su ek et).symm⟩,kt,?_⟩
   have:Rp X.K H ((.tup ks,some (.ref b))::(.dT o kvs,some (.ref a))::(z,some w)::Γ):=h.perm (.trans (.swap _ _ _) (.cons _ (.swap _ _ _)))
   exact this.tail.tail
  | some u=>
   rw [et] at kt
   obtain⟨x,i,ew,e1,e2⟩:=fj ek et
   exact⟨some x,u,.inr ⟨vs,q,b,hq,rfl,hb,ew.symm⟩,kt,gZ rp2 e1 e2⟩
 | _=>exact False.elim g
theorem A4 {kr:Nat}{o e f:Expr}{apos:Pos}{fo fe ff:PF}(hr:Room kr X.A)(ho:GE X o fo)(he:GE X e fe)(hf:GE X f ff)(m:M2 X o "get" apos e f pos):GE X (.Call (.Attribute o "get" apos) [e,f] [] pos) (Aw fo fe ff):=by
 refine PE.imp (yv (gv hr) ho he hf m) ?_
 rintro σ H Q ⟨env,Fr,k,rs,q,c⟩
 refine⟨env,Fr,_,rs,q,fun t env1 x H1 ⟨d,q1⟩ rs1=>?_⟩
 obtain⟨a,rfl,hd⟩:=FK rs1.head d
 refine⟨a,rfl,hd,env1,_,_,rs1,q1,fun y env2 v H2 q2 rs2=>⟨env2,_,_,rs2,q2,fun z env3 w H3 q3 rs3=>?_⟩⟩
 have rp3:Rp X.K H3 ((z,some w)::(y,some v)::(t,some (.ref a))::(env3.zip σ++Fr)):=rs3.head.perm (.cons _ (f_.trans (.cons _ f_)))
 obtain⟨o',u,dg,kt,rp⟩:=Ge rp3 q3
 exact⟨o',dg,c _ _ _ _ kt (.of rs3.1 rp)⟩
theorem bf {fo fe ff:PF}{env:Ev}{k:T->Ev->Prop}:Aw fo fe ff env k=fo env fun t env1=>Ca t=true/\fe env1 fun y env2=>ff env2 fun z env3=>qT t y z fun u=>k u env3:=rfl
theorem cp {o:Bool}{kvs:List (List Key × T)}:Ca (.dT o kvs)=true:=rfl
end
end PL
namespace PL
open PySem PySem.Spec PyProof.Rows L2
def tY:PM:=fun t ts k=>match t,ts with
 | .lst true us,[x]=>cU us=true/\isD x=true/\br (dtL us) < 180/\got ((dtL us).findIdx? fun e=>eqD e (dt x)) fun j=>k (.lst true us) (.int (j:Nat))
 | _,_=>False
theorem wW {X:Cx}{kr:Nat}(hr:Room kr X.A):MtP X "list.index" tY:=by
 rintro pins s σ H x xs v us Q I rx r ⟨t,ts,Γ,k,l,rp,g,c⟩
 unfold tY at g
 split at g
 ·rename_i k ts t
  obtain⟨y,rfl⟩:=zz1 l rfl
  obtain⟨d1,d2,z,g⟩:=g
  obtain⟨j,ej,kj⟩:=az g
  obtain⟨a,vs,ea,ha,la,rp2⟩:=hZ rp
  cases ea
  have hL:ax X.K H (dtL ts) vs:=iY (Γ:=(.bare,some (.ref a))::(zz [t] [y]++Γ)) (rp2.perm f_.symm) la d1
  have rp:Rp X.K H ((.lst true ts,some (.ref a))::(t,some y)::Γ):=rp
  have hT:Has X.K H (dt t) y:=eB rp.tail d2
  obtain⟨hj,hj1,hj2⟩:=List.findIdx?_eq_some_iff_getElem.mp ej
  refine vM pins s σ H _ _ v us Q I rx r ⟨a,vs,dtL ts,y,dt t,j,_,rfl,rfl,ha,hL,hT,a_ hj,hj1,fun m e hm he=>?_,by have:=hr.un;omega,c _ _ _ _ kj (bS (rp.perm (.swap _ _ _)).tail fun _=>.int)⟩
  obtain⟨h1,rfl⟩:=e_.mp he
  simpa using hj2 m hm
 ·exact False.elim g
theorem ba {us:List T}{x:T}{km:T->T->Prop}:tY (.lst true us) [x] km=(cU us=true/\isD x=true/\br (dtL us) < 180/\fM ((dtL us).findIdx? fun e=>eqD e (dt x)) (k:=⟨fun (j:Nat)=>km (.lst true us) (.int (j:Nat))⟩)):=rfl
end PL
namespace PL
open PySem PySem.Spec PyProof.Rows L2
section
variable {X:Cx}{κ:Nat->Bool}{es:List Expr}{pos:Pos}{gs:mN}
theorem jx {prog:Program}{w:World}{A:Around}{E:Value->Shared->Prop}{s:Shared}{env:Env}{elts:List Expr}{x1}{pos:Pos}{l:Addr}{items:Array Value}{Q:Unit->Shared->Prop}(hh:A.handled=none)(hl:s.heap.IsList l items)
  (hn:(assignEach elts env).length=items.size) (hstar:(assignEach elts env).findIdx? (·.1)=none)
  (h:∀ h',Heap.ExtBut s.heap.objs.size s.heap h'->wpAny (model prog w) A (assignInOrder ((assignEach elts env).map (·.2)) items.toList) Q E { s with heap:=h' }) :
  wpAny (model prog w) A (assign (.Tuple elts x1 pos) env (.ref l)) Q E s:=by
 rw [assign_Tuple]
 refine wpAny_bind (wpAny_standAt ?_)
 unfold unpack
 rw [hn,hstar]
 exact wpAny_bind (wpAny_holding (PySem.W.kun_itemsOf hh hl h))
theorem G0 {k:Nat}{t:TGs}{n:Nat}(hc:X.calm=true)(h:PGs X es t)
  (hn:(assignEach es X.env).length=n:=by rfl) (hst:(assignEach es X.env).findIdx? (·.1)=none:=by rfl):PG X (.Tuple es k pos) (fun v σ H Q=>∃ a xs,v=.ref a/\SqL X.K H a xs/\xs.length=n/\t xs σ H Q):=by
 intro pins s σ H v u Q I r hw
 obtain⟨a,xs,e1,hq,hl,hw⟩:=hw
 subst e1
 cases r
 obtain⟨its,rv,ht,hz⟩:=I.list hq
 refine jx (I.ok.hd hc) ht.isList (by simp [hn,<-hl,rv.length]) hst fun h' hx=>?_
 have I1:L2.Inv X pins σ H { s with heap:=h' }:=I.kept (t':=s.toks) fun b o e=>hx b o (q_ (Heap.lt_size e)) e
 exact h pins _ σ H xs _ Q I1 (by simpa using rv) hw
def gTq (n:Nat)(f:mN):PG':=fun t env k=>match t with
 | .tup ts=>ts.length=n/\f ts env k
 | .cst ts=>ts.length=n/\f ts env k
 | .lst _ ts=>ts.length=n/\f ts env k
 | _=>False
theorem cn {n:Nat}{ts:List T}{env:Ev}{k:Ev->Prop}:gTq n gs (.tup ts) env k=(ts.length=n/\gs ts env k):=rfl
theorem cA {n:Nat}{o:Bool}{ts:List T}{env:Ev}{k:Ev->Prop}:gTq n gs (.lst o ts) env k=(ts.length=n/\gs ts env k):=rfl
theorem uQ {x1 n:Nat}(hc:X.calm=true)(h:GGs κ X es gs)(hn:(assignEach es X.env).length=n:=by rfl)(hst:(assignEach es X.env).findIdx? (·.1)=none:=by rfl):GG κ X (.Tuple es x1 pos) (gTq n gs):=by
 rintro pins s σ H v u Q I r ⟨t,env,Fr,k,rs,q,c⟩
 cases t with
 | tup ts=>exact sR hc h hn hst pins s σ H v u Q I r ⟨.tup ts,env,Fr,k,rs,q,c⟩
 | cst ts=>exact sR hc h hn hst pins s σ H v u Q I r ⟨.cst ts,env,Fr,k,rs,q,c⟩
 | lst o ts=>
  obtain⟨a,vs,rfl,hq,l,rp⟩:=aH rfl rs.head
  refine G0 hc h hn hst pins s σ H _ u Q I r ⟨a,vs,rfl,hq,by rw [<-l];exact q.1,ts,env,Fr,k,l,⟨rs.1,?_⟩,q.2,c⟩
  exact rp.perm (i' _ _ _)
 | _=>exact False.elim q
end
end PL
namespace PL
open PySem PySem.Spec PyProof.Rows L2
theorem C4 {K:PySem.W.Frag}{Hz H:Hp}(vs:List V):RepTs K Hz H (vs.map T.hole) vs []:=by
 induction vs with
 | nil=>exact .nil
 | cons v vs ih=>exact .cons (L:=[]) (M:=[]) rfl .hole ih
theorem qZ {K:PySem.W.Frag}{Hz H:Hp}{vs:List V}:∀ {us:List V} {L:List Addr},RepTs K Hz H (vs.map T.hole) us L->us=vs:=by
 induction vs with
 | nil=>intro us L h;cases h;rfl
 | cons v vs ih=>
  intro us L h
  cases h with
  | cons e h c=>cases h;rw [ih c]
theorem yn {K:PySem.W.Frag}{H:Hp}{ts:List T}{x:Option V}{Γ:Fm}(h:Rp K H ((.lst true ts,x)::Γ)):∃ a vs,x=some (.ref a)/\ts.length=vs.length/\Rp K H ((.lst true (vs.map T.hole),some (.ref a))::(zz ts vs++Γ)):=by
 obtain⟨Hz,N,h,nd,g,d⟩:=h
 cases h with
 | cons e h c=>
  rcases h with⟨h,_⟩ | ⟨v,rfl,h⟩
  ·cases h
  ·cases h with
   | lstO h1 c1=>exact⟨_,_,rfl,c1.len,Hz,N,.cons (L:=[_]) (M:=_++_) (by rw [e];rfl) (.inr ⟨_,rfl,.lstO h1 (C4 _)⟩) (c1.toL.app c),nd,g,d⟩
theorem tK {K:PySem.W.Frag}{H:Hp}{vs us:List V}{Γ:Fm}(h:Rp K H (zz (vs.map T.hole) us++Γ))(l:vs.length=us.length):us=vs:=by
 obtain⟨Hz,N,h,nd,g,d⟩:=h
 obtain⟨L,M,_,h1,_⟩:=h.split
 exact qZ (h1.nv (by rw [b_];exact l))
end PL
namespace PL
open PySem PySem.Spec PyProof.Rows L2
def HF (fr:PFs):PIt:=fun env k=>fr env fun ts env1=>match ts with
 | [.int j]=>(0<=j/\j < 2 ^ 60)/\k (dnT (j - 1) j.toNat) env1
 | _=>False
section
variable {X:Cx}{pos pos2 p p2:Pos}{a e k tg:Expr}{fe fa fk:PF}{fr:PFs}
theorem jt (hg:Gl X "reversed")(hm:X.mg "reversed"=none)(hg2:Gl X "range")(hm2:X.mg "range"=none)(ha:GA X [a] fr)(hs:starEach [a] X.env=[(false,eval a X.env)]:=by rfl)
  (hs2:starEach [.Call (.Name "range" p2) [a] [] pos2] X.env=[(false,eval (.Call (.Name "range" p2) [a] [] pos2) X.env)]:=by rfl):GI X tg (.Call (.Name "reversed" p) [.Call (.Name "range" p2) [a] [] pos2] [] pos) (HF fr):=by
 rintro pins s σ H R I ⟨env,Fr,k,rs,q,c⟩
 refine rM hg hm hg2 hm2 ha hs hs2 pins s σ H R I ⟨env,Fr,_,rs,q,fun ts env1 vs H1 q1 l rs1=>?_⟩
 split at q1
 ·rename_i j
  obtain⟨v,rfl⟩:=zz1 l rfl
  have rp:Rp X.K H1 ((.int j,some v)::(env1.zip σ++Fr)):=rs1.head
  rw [aB rp]
  exact⟨j,rfl,q1.1,c _ _ _ [] _ q1.2 rs1.drop (HQ _ _)⟩
 ·exact q1.elim
theorem ye {H:Hp}{ts:List T}{vs:List V}{Γ:Fm}{i:Nat}{t:T}{w:V}(h:Rp X.K H (zz ts vs++Γ))(e:ts[i]?=some t)(f:vs[i]?=some w)(n:aG t=true):Rp X.K H ((t,some w)::(zz ts vs++Γ)):=by
 obtain⟨r,p⟩:=pj e f
 have h1:Rp X.K H ((t,some w)::(r++Γ)):=h.perm (p.append_right Γ)
 exact (mP h1 n).perm (.cons _ (p.symm.append_right Γ))
theorem A5 {H:Hp}{ts:List T}{vs:List V}{Γ:Fm}(l:ts.length=vs.length)(n:aC ts=true)(h:Rp X.K H (zz ts vs++Γ)):∀ (is:List Nat),Rp X.K H (zz (is.filterMap (ts[·]?)) (is.filterMap (vs[·]?))++(zz ts vs++Γ))/\(is.filterMap (ts[·]?)).length=(is.filterMap (vs[·]?)).length:=by
 intro is
 induction is with
 | nil=>exact⟨h,rfl⟩
 | cons i is ih=>
  by_cases hi:i < ts.length
  ·have e1:ts[i]?=some ts[i]:=a_ hi
   have e2:vs[i]?=some (vs[i]'(by omega)):=a_ _
   rw [KS e1,KS e2]
   refine⟨?_,congrArg Nat.succ ih.2⟩
   have hn:aG ts[i]=true:=by
    rw [dO,Kf] at n
    exact n _ (Kg hi)
   have h2:=ye (Γ:=zz (is.filterMap (ts[·]?)) (is.filterMap (vs[·]?))++Γ) (ih.1.perm (i' _ _ _)) e1 e2 hn
   exact h2.perm (.cons _ (i' _ _ _))
  ·rw [KU (JL (by omega)),KU (JL (by omega))]
   exact ih
def GL (fe fa fk:PF):PF:=fun env k=>fe env fun t env1=>fa env1 fun u env2=>fk env2 fun v env3=>∃ o ts i j,t=.lst o ts/\u=.int i/\v=.int j/\aC ts=true/\0<=i/\0 < j/\k (.lst true (d6 ts i j)) env3
theorem x6 (he:GE X e fe)(ha:GE X a fa)(hk:GE X k fk):GE X (.Subscript e (.Slice (some a) none (some k) p2) pos) (GL fe fa fk):=by
 refine PE.imp (x5 he ha hk) ?_
 rintro σ H Q ⟨env,Fr,k,rs,q,c⟩
 refine⟨env,Fr,_,rs,q,fun t env1 v H1 q1 rs1=>⟨env1,_,_,rs1,q1,fun u env2 w H2 q2 rs2=>⟨env2,_,_,rs2,q2,fun x env3 y H3 q3 rs3=>?_⟩⟩⟩
 obtain⟨o,ts,i,j,rfl,rfl,rfl,hn,h0,h1,q⟩:=q3
 have ey:=aB rs3.head
 have ew:=aB rs3.drop.head
 obtain⟨a,vs,ea,hq,l,rp⟩:=aH rfl rs3.drop.drop.head
 refine⟨i,j,a,vs,ew,ey,h0,h1,ea,hq,fun p H' hp g e=>c _ _ _ _ q (.of rs3.1 ?_)⟩
 obtain⟨r1,r2⟩:=A5 l hn rp (sliceRange (max 0 (min i ts.length)) ts.length j)
 have r3:Rp X.K H3 (zz (d6 ts i j) (d6 vs i j)++(env3.zip σ++Fr)):=by
  unfold d6
  rw [<-l]
  exact (r1.perm (i' _ _ _)).part
 exact fN r3 (by unfold d6;rw [<-l];exact r2) hp g e
end
theorem vP {K:PySem.W.Frag}{Hz H:Hp}{vs:List V}:∀ {us:List V} {L:List Addr},RepTs K Hz H (vs.map T.hole) us L->L=[]:=by
 induction vs with
 | nil=>intro us L h;cases h;rfl
 | cons v vs ih=>
  intro us L h
  cases h with
  | cons e h c=>cases h;rw [e,ih c];rfl
theorem wQ {K:PySem.W.Frag}{H:Hp}{a:Addr}{us:List T}{vs:List V}{Γ:Fm}(l:us.length=vs.length)(h:Rp K H ((.lst true (vs.map T.hole),some (.ref a))::(zz us vs++Γ))):Rp K H ((.lst true us,some (.ref a))::Γ):=by
 obtain⟨Hz,N,h,nd,g,d⟩:=h
 cases h with
 | cons e h c=>
  rcases h with⟨h,_⟩ | ⟨v,ev,h⟩
  ·cases h
  ·cases ev
   cases h with
   | lstO h1 c1=>
    have e1:=qZ c1
    have e2:=vP c1
    subst e1
    subst e2
    obtain⟨L,M,rfl,k1,k2⟩:=c.split
    exact⟨Hz,N,.cons (L:=a::L) (M:=M) (by rw [e];rfl) (.inr ⟨_,rfl,.lstO h1 (k1.nv l)⟩) k2,nd,g,d⟩
theorem DR:∀ {ts:List T} {vs:List V} {i:Nat} {t:T} {w:V},ts[i]?=some t->vs[i]?=some w->∃ r,(zz ts vs).Perm ((t,some w)::r)/\∀ t',(zz (ts.set i t') vs).Perm ((t',some w)::r)
 | [],vs,i,t,w,e,f=>by simp at e
 | t::ts,[],i,_,w,e,f=>by simp at f
 | t::ts,v::vs,0,u,w,e,f=>by
  cases e;cases f
  exact⟨zz ts vs,.refl _,fun t'=>.refl _⟩
 | t::ts,v::vs,i + 1,u,w,e,f=>by
  obtain⟨r,p1,p2⟩:=DR (ts:=ts) (vs:=vs) (i:=i) e f
  exact⟨(t,some v)::r,(p1.cons _).trans (.swap _ _ _),fun t'=>((p2 t').cons _).trans (.swap _ _ _)⟩
def uO (i j:Nat)(m:PM)(fr:PFs):PF:=fun env k=>∃ us n p t,env[i]?=some (.lst true us)/\env[j]?=some (.int n)/\i≠j/\ixN us.length n=some p/\us[p]?=some t/\isL t=true/\fr (env.set i .any) fun ts env1=>m t ts fun t' r=>k r (env1.set i (.lst true (us.set p t')))
section
variable {X:Cx}{e:Expr}{es:List Expr}{fr:PFs}{m:PM}{name:Str}{id:String}{apos cpos spos xp yp:Pos}{x y:Str}
theorem Hr {i j:Nat}:∀ σ H Q,wE X.K (uO i j m fr) σ H Q->tBM X.K "list" (fun x xs H Q=>∃ t ts Γ k,ts.length=xs.length/\Rp X.K H ((t,some x)::(zz ts xs++Γ))/\m t ts k/\∀ t' r v H',k t' r->Rp X.K H' ((r,some v)::(t',some x)::Γ)->Q v H') (tOp (EB X.K) (Al i) (Al j)) (wA X.K fr) σ H Q:=by
 rintro σ H Q ⟨env,Fr,k,rs,⟨us,n,p,t,ei,ej,hij,ep,et,hl,q⟩,c⟩
 obtain⟨x0,ex,rs2⟩:=rs.slot ei
 obtain⟨a,vs,rfl,l,rp⟩:=yn rs2.head
 have ej2:(env.set i .any)[j]?=some (.int n):=by rw [KL hij];exact ej
 have rs3:Rs X.K H (env.set i .any) σ ((.lst true (vs.map T.hole),some (.ref a))::(zz us vs++Fr)):=.of rs2.1 (rp.perm (.cons _ (i' _ _ _)))
 obtain⟨y0,ey,rs4⟩:=rs3.slot ej2
 obtain⟨vj,rfl⟩:=dY rs4 rfl
 have evj:=aB rs4.head
 subst evj
 have hp:p < us.length:=(e_.mp et).1
 have ew:vs[p]?=some (vs[p]'(by omega)):=a_ _
 have hq:SqL X.K H a vs:=by
  obtain⟨a',vs',ea,hq,l',rp'⟩:=aH rfl rs3.head
  cases ea
  rw [b_] at l'
  rw [tK rp' l'] at hq
  exact hq
 obtain⟨r,p1,p2⟩:=DR et ew
 refine⟨_,ex,_,ey,a,vs,n,vs[p],rfl,rfl,hq,?_,?_,env.set i .any,_,_,rs3,q,fun ts env1 ws H1 q1 l1 rs1=>?_⟩
 ·have ep2:ixN vs.length n=some p:=by rw [<-l];exact ep
  unfold atI
  rw [ep2]
  exact ew
 ·refine pW hl (Γ:=r++((.lst true (vs.map T.hole),some (.ref a))::((env.set i .any).zip σ++Fr))) (rs3.2.perm ?_)
  refine s_ f_ ?_
  refine s_ ?_ (f_ (l₁:=(t,some vs[p])::r)).symm
  refine .cons _ ?_
  refine s_ (i' _ _ _) ?_
  exact p1.append_right _
 ·refine⟨t,ts,env1.zip σ++((.lst true (vs.map T.hole),some (.ref a))::(r++Fr)),_,l1,?_,q1,fun t' r' w H' kt rp5=>c _ _ _ _ kt ?_⟩
  ·refine rs1.2.perm ?_
   refine s_ (i' _ _ _) ?_
   refine s_ ?_ f_
   refine JD _ ?_
   refine s_ ?_ f_
   refine JD _ ?_
   refine s_ (.cons _ (p1.append_right Fr)) ?_
   exact .swap _ _ _
  ·have rp6:Rp X.K H' ((.lst true (vs.map T.hole),some (.ref a))::(zz (us.set p t') vs++((r',some w)::(env1.zip σ++Fr)))):=by
    refine rp5.perm ?_
    refine s_ (.swap _ _ _) ?_
    refine s_ ?_ (.cons _ ((p2 t').symm.append_right _))
    refine s_ ?_ (.swap _ _ _)
    refine .cons _ ?_
    refine s_ (.cons _ f_) ?_
    refine s_ (.swap _ _ _) (.cons _ ?_)
    refine s_ (.cons _ (i' _ _ _)) ?_
    exact f_.symm
   have rp7:=wQ (by rw [I_];exact l) rp6
   have rs8:Rs X.K H' env1 σ ((.lst true (us.set p t'),some (.ref a))::((r',some w)::Fr)):=.of rs1.1 (rp7.perm (.cons _ f_.symm))
   exact Rs.iG rs8 (by rw [rs8.1];exact (e_.mp ex).1) ex
theorem wu (i j:Nat)(slot:Slot "list" name id)(hty:typeOf (.builtin id)=pure (.type "method_descriptor"))(hm:MtP X id m)(ha:GA X (e::es) fr)(hN:X.N[i]?=some x:=by rfl)(hv:Vis X.env.scope x:=by first | exact p_ rfl | exact D_ (p_ rfl) | exact D_ (D_ rfl))(hd:(x == ("__debug__":Str))=false:=by decide)(hcd:(x == ("__classdict__":Str))=false:=by decide)
  (hN2:X.N[j]?=some y:=by rfl) (hv2:Vis X.env.scope y:=by first | exact p_ rfl | exact D_ (p_ rfl) | exact D_ (D_ rfl)) (hd2:(y == ("__debug__":Str))=false:=by decide) (hcd2:(y == ("__classdict__":Str))=false:=by decide) (hix:oH (.Name y yp):=by intro _ _;rfl)
  (hbase:attributeBase (.Subscript (.Name x xp) (.Name y yp) spos) name X.env (eval (.Subscript (.Name x xp) (.Name y yp) spos) X.env)=eval (.Subscript (.Name x xp) (.Name y yp) spos) X.env:=by rfl)
  (hfew:((backTo cpos (starEach (e::es) X.env)).all (fun x=>!x.1) && (backToKw cpos (keywordEach [] X.env)).all (fun x=>x.1.isSome) && decide ((e::es).length + ([]:List Keyword).length + (if ([]:List Keyword).isEmpty then 0 else 1) < 30))=true:=by rfl)
  (hline:(apos.endLine == cpos.line)=true:=by rfl) (hs:starEach (e::es) X.env=(false,eval e X.env)::starEach es X.env:=by rfl) (hplain:(backTo cpos (starEach es X.env)).any (·.1)=false:=by rfl) :
  GE X (.Call (.Attribute (.Subscript (.Name x xp) (.Name y yp) spos) name apos) (e::es) [] cpos) (uO i j m fr):=PE.imp (zE PySem.F.plainAttrs_list slot hty hm (AN qd (fO hN hv hd hcd) (fO hN2 hv2 hd2 hcd2) hix) ha hbase hfew hline hs hplain) Hr
end
end PL
namespace Mp
open PySem L2
def top (i:Nat):Stmt:=PySem.Challenge.pw_millpath_k33_runs_round_rings.main.body.getD i (.Pass ⟨0,0,0,0⟩)
abbrev kg:Stmt:=top 2
abbrev iq:Stmt:=top 3
abbrev u6:Stmt:=top 7
abbrev iF:Stmt:=top 8
abbrev dN:Stmt:=top 9
abbrev n8:Stmt:=top 10
abbrev fR:Stmt:=top 15
abbrev f6:Stmt:=top 16
abbrev lX:Stmt:=top 17
abbrev gB:Stmt:=top 19
abbrev fL:Stmt:=top 20
abbrev gy:Stmt:=top 21
abbrev qk:Stmt:=top 22
abbrev lH:Stmt:=top 24
abbrev pI:Stmt:=top 25
abbrev s_same:Stmt:=top 26
abbrev sW:Stmt:=top 27
abbrev tJ:Stmt:=top 28
abbrev pC:Stmt:=top 29
abbrev zY:Stmt:=top 30
abbrev gm:Stmt:=top 31
end Mp
namespace Mp
open PySem L2
theorem qS {kvs:List (Key × V)}{k:Key}{v:V}:dP ((k,v)::kvs) k=some v:=by
 unfold dP
 rw [JG,show (decide ((k,v).1=k))=true from decide_eq_true rfl]
 rfl
theorem nM {kvs:List (Key × V)}{k k':Key}{v:V}(h:¬ k=k'):dP ((k,v)::kvs) k'=dP kvs k':=by
 unfold dP
 rw [JG,show (decide ((k,v).1=k'))=false from decide_eq_false h]
theorem key_ne:¬ ((Sum.inr ("cells":Str):Key)=Sum.inr ("turn":Str)):=by decide +kernel
def stK (c:Addr)(t:Int):List (Key × V):=[(Sum.inr ("cells":Str),V.ref c),(Sum.inr ("turn":Str),V.int t)]
theorem sr (c:Addr)(t:Int):dP (stK c t) (Sum.inr ("cells":Str))=some (.ref c):=qS
theorem uE (c:Addr)(t:Int):dP (stK c t) (Sum.inr ("turn":Str))=some (.int t):=by
 unfold stK
 rw [nM key_ne]
 exact qS
theorem FV (c:Addr)(t u:Int):putK (stK c t) (Sum.inr ("turn":Str)) (.int u)=stK c u:=by
 have e:((stK c t).any fun kv=>decide (kv.1=(Sum.inr ("turn":Str):Key)))=true:=by
  rw [jg,uE];rfl
 unfold putK
 rw [if_pos e]
 show [(if (Sum.inr ("cells":Str):Key)=Sum.inr ("turn":Str) then _ else _),(if (Sum.inr ("turn":Str):Key)=Sum.inr ("turn":Str) then _ else _)]=stK c u
 rw [if_neg key_ne,if_pos rfl]
 rfl
structure StAt (H:Hp) (st c:Addr) (cs:List Int) (t:Int):Prop where
 d:H st=some (.dK (stK c t))
 l:H c=some (.lst (cs.map V.int))
 pos:0 < cs.length
 len:cs.length<=63
theorem StAt.ne {H:Hp}{st c:Addr}{cs:List Int}{t:Int}(S:StAt H st c cs t):st≠c:=DJ S.d S.l (by intro z;cases z)
theorem StAt.same {H H':Hp}{st c:Addr}{cs:List Int}{t:Int}(S:StAt H st c cs t)(e:aO H H'):StAt H' st c cs t:=⟨e _ _ S.d,e _ _ S.l,S.pos,S.len⟩
structure Txt (mg:Str->Option Value):Prop where
 len:mg "len"=none
 list:mg "list"=none
 divmod:mg "divmod"=none
 isinstance:mg "isinstance"=none
 dict:mg "dict"=none
 tuple:mg "tuple"=none
 str:mg "str"=none
 int:mg "int"=none
 bool:mg "bool"=none
 all:mg "all"=none
 any:mg "any"=none
 zip:mg "zip"=none
 range:mg "range"=none
 max:mg "max"=none
 min:mg "min"=none
 abs:mg "abs"=none
 sum:mg "sum"=none
 sorted:mg "sorted"=none
 enumerate:mg "enumerate"=none
 set:mg "set"=none
 reversed:mg "reversed"=none
def CV (K:PySem.W.Frag):Sp:=fun vs H Q _=>∃ (a:Addr) (ns:List Int),vs=[.ref a]/\SqL K H a (ns.map V.int)/\ns.length<=63/\∀ (st c:Addr) (cs:List Int) (H':Hp),H st=none->H c=none->StAt H' st c cs 0->aO H H'->Q (.ref st) H'
def Ei:Sp:=fun vs H Q _=>∃ (st c:Addr) (cs:List Int) (t m:Int),vs=[.ref st,.int m]/\StAt H st c cs t/\0<=t/\t < 2 ^ 40/\0 < m/\m < 1073741824/\
 ∀ (r:Int) (cs':List Int) (H':Hp),0<=r->r < m->StAt H' st c cs' (t + 1)->Kp st c H H'->Q (.int r) H'
section
variable {P:Program}{w:World}{K:PySem.W.Frag}{mg:Str->Option Value}{base:Heap}
theorem scB:FnScope ["_law_script","_law_cells"] ["_law_script"] (ak lH):=⟨rfl,rfl,rfl,by decide +kernel,rfl,by decide +kernel,by decide +kernel⟩
theorem yu {f:Addr}{fd:FuncData}(F:Fun K "_law_begin" "_law_begin" lH f fd)(T:Txt mg):FnOk P w K mg base CX0 1 f fd ["_law_script"] (CV K):=by
 refine F.ok scB (fun vs H Q E h=>?_) (fun cdv A outer s H vs Q E hr h=>?_)
 ·obtain⟨a,ns,rfl,_⟩:=h
  rfl
 obtain⟨a,ns,rfl,hS,h63,q⟩:=h
 have sc:=@scB
 refine⟨_,(aR (gK (i:=1) sc.nd rfl (p_ rfl) (nN oN (by rfl) T.list (by decide +kernel) (av (qM vq (pv 0) uC (uU cM)) bC)))
  (aR (jf (hE yO (pv 1) (xP bC) (aQ _)) (dB (gK (i:=1) sc.nd rfl (p_ rfl) (xP (av cM bC)))) e9)
  (dB (eW (AR (rR iy (pv 1) (rR iy cM BA)) rfl rfl (by intro z;cases z) (by decide)))))),?_⟩
 refine⟨_,rfl,_,rfl,a,_,rfl,hS,fun p hp=>⟨p,_,rfl,.inl (SqL.of aF),fun l hl=>?_⟩⟩
 obtain⟨zs,ez,lz⟩:∃ zs:List Int,gM (ns.map V.int) none (some 63)=zs.map V.int/\zs.length<=63:=by
  refine⟨_,by unfold gM;rw [<-MV,<-Nv],?_⟩
  exact r_ (List.length_take_le' _ _) (r_ (by rw [F'];omega) h63)
 have hp0:H p=none:=hp
 have hl0:H l=none:=(bR hp _).none hl
 have g1:aO H (upd (upd H p (.lst (gM (ns.map V.int) none (some 63)))) l (.lst (gM (ns.map V.int) none (some 63)))):=(bR hp _).trans' (bR hl _)
 refine⟨_,rfl,(by show 0<=sizeLine;decide),fun e he=>?_⟩
 have hul:∀ o,upd (upd (upd H p (.lst (gM (ns.map V.int) none (some 63)))) l (.lst (gM (ns.map V.int) none (some 63)))) e o l=some (.lst (zs.map V.int)):=fun o=>by
  rw [aD (bA aF he),aF,ez]
 have he0:H e=none:=g1.none he
 have g2:=g1.trans' (bR he (.lst []))
 refine⟨.lst (di zs),.lst (di []),sF (SqL.of (hul _)),sF (SqL.of aF),?_,_,rfl,?_⟩
 ·have:=gv hr
  rw [dpt,fD]
  exact this
 have fin:∀ (c:Addr) (cs:List Int) (H2:Hp),H c=none->aO H H2->H2 c=some (.lst (cs.map V.int))->0 < cs.length->cs.length<=63->∀ p,H2 p=none->StAt (upd (upd H2 p (.dK [])) p (.dK (gx [] [(Sum.inr ("cells":Str),V.ref c),(Sum.inr ("turn":Str),V.int 0)]))) p c cs 0/\aO H (upd (upd H2 p (.dK [])) p (.dK (gx [] [(Sum.inr ("cells":Str),V.ref c),(Sum.inr ("turn":Str),V.int 0)]))):=fun c cs H2 hc g h1 h2 h3 p hp=>by
  have em:gx [] [((Sum.inr ("cells":Str):Key),V.ref c),(Sum.inr ("turn":Str),V.int 0)]=stK c 0:=by
   show putK (putK ([]:List (Key × V)) (Sum.inr ("cells":Str)) (V.ref c)) (Sum.inr ("turn":Str)) (V.int 0)=stK c 0
   rw [rO _ (show dP ([]:List (Key × V)) (Sum.inr ("cells":Str))=none from rfl),Kq,rO _ (show dP [((Sum.inr ("cells":Str):Key),V.ref c)] (Sum.inr ("turn":Str))=none by rw [nM key_ne];rfl)]
   rfl
  rw [em,CK]
  exact⟨⟨aF,by rw [aD (bA h1 hp)];exact h1,h2,h3⟩,g.trans' (bR hp _)⟩
 refine IK (fun c=>?_) (fun c=>?_)
 ·
  refine⟨(by show 1<=sizeLine;decide),fun c7 h7=>?_⟩
  have g3:=g2.trans' (bR h7 (.lst [V.int 7]))
  intro p' hp'
  obtain⟨S,g4⟩:=fin c7 [7] _ (g2.none h7) g3 aF (by decide) (by decide) p' hp'
  refine⟨_,rfl,?_,[(Sum.inr ("cells":Str),V.ref c7),(Sum.inr ("turn":Str),V.int 0)],rfl,(by show 2<=15;decide),?_⟩
  ·exact aF
  ·exact q p' c7 [7] _ (g3.none hp') (g2.none h7) S g4
 ·have c0:0 < zs.length:=by
   cases zs with
   | nil=>rw [ju] at c;cases c
   | cons a r=>exact NA _
  intro p' hp'
  obtain⟨S,g4⟩:=fin l zs _ hl0 g2 (hul _) c0 lz p' hp'
  refine⟨_,rfl,?_,[(Sum.inr ("cells":Str),V.ref l),(Sum.inr ("turn":Str),V.int 0)],rfl,(by show 2<=15;decide),?_⟩
  ·exact aF
  ·exact q p' l zs _ (g2.none hp') hl0 S g4
theorem scT:FnScope ["_law_state","_law_many","_law_turn","_law_place","_law_cell","_law_digit","_law_mixed"] ["_law_state","_law_many"] (ak pI):=⟨rfl,rfl,rfl,by decide +kernel,rfl,by decide +kernel,by decide +kernel⟩
theorem Ba {f:Addr}{fd:FuncData}(F:Fun K "_law_take" "_law_take" pI f fd)(T:Txt mg):FnOk P w K mg base CX0 1 f fd ["_law_state","_law_many"] Ei:=by
 refine F.ok scT (fun vs H Q E h=>?_) (fun cdv A outer s H vs Q E hr h=>?_)
 ·obtain⟨st,c,cs,t,m,rfl,_⟩:=h
  rfl
 obtain⟨st,c,cs,t,m,rfl,S,ht0,ht,hm0,hm1,q⟩:=h
 have sc:=@scT
 have hu:=gv hr
 refine⟨_,(aR (gK (i:=2) sc.nd rfl (p_ rfl) (de lP (l7 hu (pv 0) iy (fun _ _=>rfl)) cM))
  (aR (BE hu (pv 0) iy (pv 2) rfl)
  (aR (gK (i:=3) sc.nd rfl (p_ rfl) (de iA (pv 2) (aX e7 (by rfl) T.len (by decide +kernel) (av (l7 hu (pv 0) iy (fun _ _=>rfl)) bC))))
  (aR (gK (i:=4) sc.nd rfl (p_ rfl) (AN qd (l7 hu (pv 0) iy (fun _ _=>rfl)) (pv 3) (fun _ _=>rfl)))
  (aR (jf (hE HL (pv 4) (de Gh cM cM) (aQ _)) (aR (AG (aX rD (by rfl) T.divmod (by decide +kernel) (av (pv 4) (av (pv 1) bC))) (tQ rfl (gR (zP (l7 hu (pv 0) iy (fun _ _=>rfl)) (pv 3) set_list) (gR (lj (i:=5) sc.nd rfl (p_ rfl)) p9))))
  (dB (eW (pv 5)))) e9)
  (aR (gK (i:=6) sc.nd rfl (p_ rfl) (de iA (de iE (de lP (de lP (de iA (pv 4) cM) (de iE (de iE (pv 2) (pv 2)) cM)) cM) cM) cM))
  (aR (gK (i:=6) sc.nd rfl (p_ rfl) (de iA (de iE (pv 6) (pv 6)) cM))
  (dB (eW (de iA (de um (de iA (de iE (de lP (pv 6) (de iE (pv 2) cM)) cM) cM) cM) (pv 1))))))))))),?_⟩
 have D0:gq H st (.str ("turn":Str)) (some (.int t)):=by rw [<-uE c t];exact gq.k (k:=Sum.inr ("turn":Str)) S.d
 refine⟨_,rfl,st,_,rfl,D0,_,_,rfl,rfl,?_⟩
 have hP:wJ H st (.str ("turn":Str)) (.int (t + 1)) (upd H st (.dK (stK c (t + 1)))):=by
  rw [<-FV c t (t + 1)]
  exact wJ.k (k:=Sum.inr ("turn":Str)) S.d (by show 2 < sizeLine;decide)
 refine⟨_,rfl,_,rfl,st,_,rfl,hP,?_⟩
 have S1:StAt (upd H st (.dK (stK c (t + 1)))) st c cs (t + 1):=⟨aF,by rw [aD S.ne.symm];exact S.l,S.pos,S.len⟩
 have K1:Kp st c H (upd H st (.dK (stK c (t + 1)))):=fun b o e n1 n2=>by rw [aD n1];exact e
 generalize upd H st (.dK (stK c (t + 1)))=H1 at S1 K1 ⊢
 have D1:gq H1 st (.str ("cells":Str)) (some (.ref c)):=by rw [<-sr c (t + 1)];exact gq.k (k:=Sum.inr ("cells":Str)) S1.d
 have hl:(cs.map V.int).length=cs.length:=b_ _
 have hpos:(0:Int) < (((cs.map V.int).length:Nat):Int):=by rw [hl];have:=S.pos;omega
 refine⟨_,rfl,_,rfl,st,_,rfl,D1,c,_,rfl,.inl (SqL.of S1.l),_,_,rfl,rfl,hpos,?_⟩
 have j0:0<=(t + 1) % (((cs.map V.int).length:Nat):Int):=Lr _ (by omega)
 have j1:(t + 1) % (((cs.map V.int).length:Nat):Int) < (cs.length:Int):=by
  have:=K6 (t + 1) hpos
  rw [hl] at this ⊢
  exact this
 obtain⟨v,hat⟩:∃ v:Int,atI (cs.map V.int) ((t + 1) % (((cs.map V.int).length:Nat):Int))=some (.int v):=⟨_,yc j0 j1⟩
 refine⟨_,rfl,st,_,rfl,D1,_,rfl,c,_,_,_,rfl,rfl,SqL.of S1.l,hat,?_⟩
 refine⟨_,rfl,_,_,rfl,rfl,⟨by decide,by decide,by decide⟩,_,_,rfl,rfl,_,rfl,?_⟩
 refine IK (fun hc=>?_) (fun hc=>?_)
 ·
  refine⟨_,rfl,_,rfl,_,_,rfl,⟨hm0,hm1⟩,fun p hp=>?_⟩
  have g:=bR hp (.tup [.int (v / m),.int (v % m)])
  have S2:=S1.same g
  have D2:gq (upd H1 p (.tup [.int (v / m),.int (v % m)])) st (.str ("cells":Str)) (some (.ref c)):=by rw [<-sr c (t + 1)];exact gq.k (k:=Sum.inr ("cells":Str)) S2.d
  refine⟨p,_,rfl,SqT.of aF,rfl,_,_,rfl,?_⟩
  refine⟨_,rfl,st,_,rfl,D2,_,rfl,c,_,_,((t + 1) % (((cs.map V.int).length:Nat):Int)).toNat,rfl,rfl,S2.l,vf j0 (by rw [hl];rw [hl] at j1;exact j1),?_⟩
  refine⟨_,_,rfl,rfl,?_⟩
  refine⟨_,rfl,?_⟩
  have es:∀ j:Nat,(cs.map V.int).set j (.int (v / m))=(cs.set j (v / m)).map V.int:=fun j=>by rw [NB]
  refine q (v % m) (cs.set ((t + 1) % (((cs.map V.int).length:Nat):Int)).toNat (v / m)) _ (Lr _ (by omega)) (K6 _ hm0) ⟨?_,?_,?_,?_⟩ ?_
  ·rw [aD S2.ne];exact S2.d
  ·rw [aF,es]
  ·rw [I_];exact S.pos
  ·rw [I_];exact S.len
  ·intro b o e n1 n2
   rw [aD n2]
   exact g b o (K1 b o e n1 n2)
 ·
  have mulR:∀ (x y:Int),-(2 ^ 64) < y->y < 2 ^ 64->w6 x y:=fun x y h1 h2=>.inr ⟨h1,h2⟩
  refine⟨_,rfl,_,_,rfl,rfl,(by show (0:Int) < 2147483629;decide),_,rfl,_,rfl,_,_,rfl,rfl,mulR _ _ (by omega) (by omega),_,_,rfl,rfl,mulR _ _ (by decide) (by decide),_,_,rfl,rfl,_,_,rfl,rfl,_,_,rfl,rfl,mulR _ _ (by decide) (by decide),_,_,rfl,rfl,(by show (0:Int) < 2147483647;decide),?_⟩
  generalize hM:(v % 2147483629 + (t + 1) * (t + 1) * 7919 + 11) * 48271 % 2147483647=M
  have m0:0<=M:=by rw [<-hM];exact Lr _ (by decide)
  have m1:M < 2147483647:=by rw [<-hM];exact K6 _ (by decide)
  refine⟨_,rfl,_,rfl,_,_,rfl,rfl,mulR _ _ (by omega) (by omega),_,_,rfl,rfl,(by show (0:Int) < 2147483587;decide),?_⟩
  refine⟨_,rfl,_,rfl,_,_,rfl,rfl,mulR _ _ (by decide) (by decide),_,_,rfl,rfl,_,_,rfl,rfl,mulR _ _ (by decide) (by decide),_,_,rfl,rfl,(by show (0:Int) < 2147483629;decide),_,_,rfl,rfl,⟨by decide,by decide⟩,_,rfl,_,_,rfl,rfl,hm0,?_⟩
  exact q _ cs H1 (Lr _ (by omega)) (K6 _ hm0) S1 K1
end
end Mp
namespace Mp
open PySem L2
mutual
def gd:Dt->Bool
 | .bl _=>false
 | .lst ds=>decide (ds.length<=100000) && gdL ds
 | .tup ds=>decide (ds.length<=100000) && gdL ds
 | _=>true
def gdL:List Dt->Bool
 | []=>true
 | d::r=>gd d && gdL r
end
theorem ql:∀ {ds:List Dt} {i:Nat} {d:Dt},gdL ds=true->ds[i]?=some d->gd d=true
 | [],i,d,_,e=>by simp at e
 | c::r,0,d,h,e=>by
  rw [gdL,C_] at h
  simp at e
  subst e
  exact h.1
 | c::r,i + 1,d,h,e=>by
  rw [gdL,C_] at h
  exact ql h.2 (i:=i) (by simpa using e)
def jO (K:PySem.W.Frag)(n:Nat):Sp:=fun vs H Q _=>∃ (x y:V) (d:Dt),vs=[x,y]/\Has K H d x/\Has K H d y/\gd d=true/\dpt d < n/\∀ H',aO H H'->Q (.bl true) H'
theorem rm {α:Type}(n:Nat)(c:α):(y_ n).map (fun _=>c)=JA n c:=by
 induction n with
 | zero=>rfl
 | succ n ih=>rw [LV,l_,ih,Ma,MP]
theorem kQ (n:Nat):(y_ n).filter (fun _=>true)=y_ n:=by simp
section
variable {P:Program}{w:World}{K:PySem.W.Frag}{mg:Str->Option Value}{base:Heap}
theorem scS:FnScope ["_law_found","_law_due_here"] ["_law_found","_law_due_here"] (ak s_same):=⟨rfl,rfl,rfl,by decide +kernel,rfl,by decide +kernel,by decide +kernel⟩
set_option maxHeartbeats 1000000 in
theorem Cy {n:Nat}{f:Addr}{fd:FuncData}(F:Fun K "_law_same" "_law_same" s_same f fd)(T:Txt mg)(G_same:Cal P w K mg base n "_law_same" ["_law_found","_law_due_here"] (jO K n)) :
  FnOk P w K mg base CX0 (n + 1) f fd ["_law_found","_law_due_here"] (jO K (n + 1)):=by
 refine F.ok scS (fun vs H Q E h=>?_) (fun cdv A outer s H vs Q E hr h=>?_)
 ·obtain⟨x,y,d,rfl,_⟩:=h
  rfl
 obtain⟨x,y,d,rfl,hx,hy,hg,hd,q⟩:=h
 have sc:=@scS
 have nd2:(["_law_one","_law_other"]:List Str).Nodup:=by decide +kernel
 refine⟨_,(aR (jf (Eu (yE (pv 1))) (dB (eW (EK (yE (pv 0))))) e9)
  (aR (jf (qe (aX aW (by rfl) T.isinstance (by decide +kernel) (av (pv 1) (av (dE (v:=.ty (Ty.nm .dct)) (by rfl) T.dict (by decide +kernel) rfl) bC)))) wa e9)
  (aR (jf (PW.pt (DO (qe (aX aW (by rfl) T.isinstance (by decide +kernel) (av (pv 1) (av (dE (v:=.ty (Ty.nm .lst)) (by rfl) T.list (by decide +kernel) rfl) bC)))) (zS (qe (aX aW (by rfl) T.isinstance (by decide +kernel) (av (pv 1) (av (dE (v:=.ty (Ty.nm .tup)) (by rfl) T.tuple (by decide +kernel) rfl) bC)))))))
   (aR (jf (hE zt (aX aW (by rfl) T.isinstance (by decide +kernel) (av (pv 0) (av (dE (v:=.ty (Ty.nm .lst)) (by rfl) T.list (by decide +kernel) rfl) bC))) (aX aW (by rfl) T.isinstance (by decide +kernel) (av (pv 1) (av (dE (v:=.ty (Ty.nm .lst)) (by rfl) T.list (by decide +kernel) rfl) bC))) (aQ _)) (dB (eW yd)) e9)
   (aR (jf (PW.pt (DO (hE zt (aX aW (by rfl) T.isinstance (by decide +kernel) (av (pv 0) (av (dE (v:=.ty (Ty.nm .tup)) (by rfl) T.tuple (by decide +kernel) rfl) bC))) (aX aW (by rfl) T.isinstance (by decide +kernel) (av (pv 1) (av (dE (v:=.ty (Ty.nm .tup)) (by rfl) T.tuple (by decide +kernel) rfl) bC))) (aQ _)) (zS (hE zt (aX e7 (by rfl) T.len (by decide +kernel) (av (pv 0) bC)) (aX e7 (by rfl) T.len (by decide +kernel) (av (pv 1) bC)) (aQ _))))) (dB (eW yd)) e9)
   (dB (eW (aX (A6 rfl) (by rfl) T.all (by decide +kernel) (av (qY sc ["_law_one","_law_other"] [none,none] nd2 (by decide +kernel) (FN (by rfl) T.zip (av (pv 0) (av (pv 1) bC))) (fun _ _ _=>(tQ rfl (gR (lj (i:=0) nd2 rfl (p_ rfl) (D_ rfl)) (gR (lj (i:=1) nd2 rfl (p_ rfl) (D_ rfl)) p9)))) (fun _ _ _=>uK) (fun _ _ _=>(xT G_same hr (by rfl) (av (pv 0) (av (pv 1) bC))))) bC)))))) e9)
  (aR (jf (qe (aX aW (by rfl) T.isinstance (by decide +kernel) (av (pv 1) (av (dE (v:=.ty (Ty.nm .str)) (by rfl) T.str (by decide +kernel) rfl) bC)))) (dB (eW (tZ (aX aW (by rfl) T.isinstance (by decide +kernel) (av (pv 0) (av (dE (v:=.ty (Ty.nm .str)) (by rfl) T.str (by decide +kernel) rfl) bC))) (zu (pQ Ds (pv 0) (pv 1) (aQ _)))))) e9)
  (dB (eW (tZ (aX aW (by rfl) T.isinstance (by decide +kernel) (av (pv 0) (av (dE (v:=.ty (Ty.nm .int)) (by rfl) T.int (by decide +kernel) rfl) bC))) (tZ (EZ (aX aW (by rfl) T.isinstance (by decide +kernel) (av (pv 0) (av (dE (v:=.ty (Ty.nm .bl)) (by rfl) T.bool (by decide +kernel) rfl) bC)))) (zu (pQ Ds (pv 0) (pv 1) (aQ _))))))))))),?_⟩
 cases d with
 | bl b=>simp [gd] at hg
 | non=>
  rw [Has] at hx hy
  subst hx hy
  refine⟨_,rfl,_,rfl,lJ (by decide) ⟨_,rfl,?_⟩⟩
  exact r9 (by decide) (q H .bX)
 | int i=>
  rw [Has] at hx hy
  subst hx hy
  refine⟨_,rfl,_,rfl,cZ (by simp) ?_⟩
  refine⟨_,rfl,_,_,.int,[.dct],rfl,.int i,.inl ⟨_,rfl,rfl⟩,_,rfl,cZ (by decide) ?_⟩
  refine⟨_,rfl,_,_,.int,[.lst],rfl,.int i,.inl ⟨_,rfl,rfl⟩,_,rfl,cZ (by decide) ?_⟩
  refine⟨_,rfl,_,_,.int,[.tup],rfl,.int i,.inl ⟨_,rfl,rfl⟩,_,rfl,cZ (by decide) ?_⟩
  refine⟨_,rfl,_,_,.int,[.str],rfl,.int i,.inl ⟨_,rfl,rfl⟩,_,rfl,cZ (by decide) ?_⟩
  refine⟨_,rfl,_,_,.int,[.int],rfl,.int i,.inl ⟨_,rfl,rfl⟩,_,rfl,lJ (by decide) ?_⟩
  refine⟨_,rfl,_,_,.int,[.bl],rfl,.int i,.inl ⟨_,rfl,rfl⟩,_,rfl,_,rfl,lJ (by decide) ?_⟩
  refine⟨_,rfl,_,rfl,rfl,?_⟩
  exact r9 (by simp) (q H .bX)
 | str i=>
  rw [Has] at hx hy
  subst hx hy
  refine⟨_,rfl,_,rfl,cZ (by simp) ?_⟩
  refine⟨_,rfl,_,_,.str,[.dct],rfl,.str i,.inl ⟨_,rfl,rfl⟩,_,rfl,cZ (by decide) ?_⟩
  refine⟨_,rfl,_,_,.str,[.lst],rfl,.str i,.inl ⟨_,rfl,rfl⟩,_,rfl,cZ (by decide) ?_⟩
  refine⟨_,rfl,_,_,.str,[.tup],rfl,.str i,.inl ⟨_,rfl,rfl⟩,_,rfl,cZ (by decide) ?_⟩
  refine⟨_,rfl,_,_,.str,[.str],rfl,.str i,.inl ⟨_,rfl,rfl⟩,_,rfl,lJ (by decide) ?_⟩
  refine⟨_,rfl,_,_,.str,[.str],rfl,.str i,.inl ⟨_,rfl,rfl⟩,_,rfl,lJ (by decide) ?_⟩
  refine⟨_,rfl,_,rfl,rfl,?_⟩
  exact r9 (by simp) (q H .bX)
 | lst ds=>
  rw [Has] at hx hy
  obtain⟨a,xs,rfl,s1,l1⟩:=hx
  obtain⟨b,ys,rfl,s2,l2⟩:=hy
  have m1:=l1.len
  have m2:=l2.len
  have hg2:ds.length<=100000/\gdL ds=true:=by simpa [gd] using hg
  have hd2:br ds < n:=by rw [dpt] at hd;omega
  refine⟨_,rfl,_,rfl,cZ (by simp) ?_⟩
  refine⟨_,rfl,_,_,.lst,[.dct],rfl,.lst s2,.inl ⟨_,rfl,rfl⟩,_,rfl,cZ (by decide) ?_⟩
  refine⟨_,rfl,_,_,.lst,[.lst],rfl,.lst s2,.inl ⟨_,rfl,rfl⟩,_,rfl,lJ (by decide) ?_⟩
  refine⟨_,rfl,_,_,.lst,[.lst],rfl,.lst s1,.inl ⟨_,rfl,rfl⟩,_,rfl,_,_,.lst,[.lst],rfl,.lst s2,.inl ⟨_,rfl,rfl⟩,rfl,_,rfl,cZ (by simp) ?_⟩
  refine⟨_,rfl,_,_,.lst,[.tup],rfl,.lst s1,.inl ⟨_,rfl,rfl⟩,_,rfl,_,_,.lst,[.tup],rfl,.lst s2,.inl ⟨_,rfl,rfl⟩,rfl,_,rfl,cZ (by simp) ?_⟩
  refine⟨_,rfl,a,_,rfl,.inl s1,_,rfl,b,_,rfl,.inl s2,rfl,_,rfl,cZ (by rw [<-m1,<-m2];simp) ?_⟩
  refine⟨_,rfl,_,rfl,false,a,false,b,rfl,⟨xs,s1⟩,⟨ys,s2⟩,sh (K:=K) (fun σ'=>σ'.length=2) ds.length (by have:=hg2.1;show ds.length < 2 ^ 24;omega) (fun _=>.bl true) (fun _=>true) (fun _=>by simp [qI]) rfl
   (Ag (b1:=false) (b2:=false) s1 s2 m1.symm m2.symm) (qq (b1:=false) (b2:=false) s1 s2 m1.symm m2.symm) ?_ ?_⟩
  ·intro s3 H3' fp i σ' H' hi ok sm x H2 hy Nx Ap _ hA
   obtain⟨p',u,v,rfl,sm2,hp',hu,hv⟩:=uX (b1:=false) (b2:=false) s1 s2 sm hy
   obtain⟨z0,z1,rfl⟩:∃ z0 z1,σ'=[z0,z1]:=by
    match σ',ok with
    | [z0,z1],_=>exact⟨z0,z1,rfl⟩
   have sm3:=sm.trans' sm2
   refine⟨p',_,rfl,SqT.of hp',rfl,u,[v],rfl,v,[],rfl,rfl,?_⟩
   refine qr ?_
   refine⟨_,rfl,_,rfl,u,v,ds[i],rfl,Has.same sm3 (l1.get (a_ hi) hu),Has.same sm3 (l2.get (a_ hi) hv),ql hg2.2 (a_ hi),JM (jB (a_ hi)) hd2,fun H5 s5=>?_⟩
   exact hA rfl _ _ H5 rfl (sm2.trans' s5) (by rw [Has])
  ·intro p acc H' hp sm hacc hl
   have e:((y_ ds.length).filter fun _=>true).map (fun _=>Dt.bl true)=(JA ds.length true).map Dt.bl:=by rw [kQ,rm,Mb]
   rw [e] at hl
   have hb:=ip hl
   rw [hb] at hacc
   refine⟨p,_,rfl,SqL.of hacc,?_⟩
   exact r9 (by simp) (q H' sm)
 | tup ds=>
  rw [Has] at hx hy
  obtain⟨a,xs,rfl,s1,l1⟩:=hx
  obtain⟨b,ys,rfl,s2,l2⟩:=hy
  have m1:=l1.len
  have m2:=l2.len
  have hg2:ds.length<=100000/\gdL ds=true:=by simpa [gd] using hg
  have hd2:br ds < n:=by rw [dpt] at hd;omega
  refine⟨_,rfl,_,rfl,cZ (by simp) ?_⟩
  refine⟨_,rfl,_,_,.tup,[.dct],rfl,.tup s2,.inl ⟨_,rfl,rfl⟩,_,rfl,cZ (by decide) ?_⟩
  refine⟨_,rfl,_,_,.tup,[.lst],rfl,.tup s2,.inl ⟨_,rfl,rfl⟩,_,rfl,cZ (by decide) ?_⟩
  refine⟨_,rfl,_,_,.tup,[.tup],rfl,.tup s2,.inl ⟨_,rfl,rfl⟩,_,rfl,lJ (by decide) ?_⟩
  refine⟨_,rfl,_,_,.tup,[.lst],rfl,.tup s1,.inl ⟨_,rfl,rfl⟩,_,rfl,_,_,.tup,[.lst],rfl,.tup s2,.inl ⟨_,rfl,rfl⟩,rfl,_,rfl,cZ (by simp) ?_⟩
  refine⟨_,rfl,_,_,.tup,[.tup],rfl,.tup s1,.inl ⟨_,rfl,rfl⟩,_,rfl,_,_,.tup,[.tup],rfl,.tup s2,.inl ⟨_,rfl,rfl⟩,rfl,_,rfl,cZ (by simp) ?_⟩
  refine⟨_,rfl,a,_,rfl,.inr s1,_,rfl,b,_,rfl,.inr s2,rfl,_,rfl,cZ (by rw [<-m1,<-m2];simp) ?_⟩
  refine⟨_,rfl,_,rfl,true,a,true,b,rfl,⟨xs,s1⟩,⟨ys,s2⟩,sh (K:=K) (fun σ'=>σ'.length=2) ds.length (by have:=hg2.1;show ds.length < 2 ^ 24;omega) (fun _=>.bl true) (fun _=>true) (fun _=>by simp [qI]) rfl
   (Ag (b1:=true) (b2:=true) s1 s2 m1.symm m2.symm) (qq (b1:=true) (b2:=true) s1 s2 m1.symm m2.symm) ?_ ?_⟩
  ·intro s3 H3' fp i σ' H' hi ok sm x H2 hy Nx Ap _ hA
   obtain⟨p',u,v,rfl,sm2,hp',hu,hv⟩:=uX (b1:=true) (b2:=true) s1 s2 sm hy
   obtain⟨z0,z1,rfl⟩:∃ z0 z1,σ'=[z0,z1]:=by
    match σ',ok with
    | [z0,z1],_=>exact⟨z0,z1,rfl⟩
   have sm3:=sm.trans' sm2
   refine⟨p',_,rfl,SqT.of hp',rfl,u,[v],rfl,v,[],rfl,rfl,?_⟩
   refine qr ?_
   refine⟨_,rfl,_,rfl,u,v,ds[i],rfl,Has.same sm3 (l1.get (a_ hi) hu),Has.same sm3 (l2.get (a_ hi) hv),ql hg2.2 (a_ hi),JM (jB (a_ hi)) hd2,fun H5 s5=>?_⟩
   exact hA rfl _ _ H5 rfl (sm2.trans' s5) (by rw [Has])
  ·intro p acc H' hp sm hacc hl
   have e:((y_ ds.length).filter fun _=>true).map (fun _=>Dt.bl true)=(JA ds.length true).map Dt.bl:=by rw [kQ,rm,Mb]
   rw [e] at hl
   have hb:=ip hl
   rw [hb] at hacc
   refine⟨p,_,rfl,SqL.of hacc,?_⟩
   exact r9 (by simp) (q H' sm)
theorem same_none {f:Addr}{fd:FuncData}:FnOk P w K mg base CX0 0 f fd ["_law_found","_law_due_here"] (jO K 0):=by
 have no:∀ vs H Q E,¬ jO K 0 vs H Q E:=fun vs H Q E h=>by
  obtain⟨x,y,d,_,_,_,_,h,_⟩:=h
  omega
 exact⟨fun vs H Q E h=>absurd h (no vs H Q E),fun A outer s H args us vs Q E _ _ _ _ h=>absurd h (no vs H Q E)⟩
theorem qA (D:Dfn K mg "_law_same" s_same ["_law_found","_law_due_here"])(T:Txt mg):∀ n,Cal P w K mg base n "_law_same" ["_law_found","_law_due_here"] (jO K n)
 | 0=>D.cal fun _ _ _=>same_none
 | n + 1=>D.cal fun _ _ F=>Cy F T (qA D T n)
end
end Mp
namespace Mp
open PySem L2 PL
structure Cells where
 cs:List Int
 pos:0 < cs.length
 len:cs.length<=63
def stT (c:Cells)(n:Nat):T:=.dK true [(Sum.inr ("cells":Str),.lst true (c.cs.map T.int)),(Sum.inr ("turn":Str),.int (n:Int))]
theorem Ce {c:Cells}{n:Nat}:isAny (stT c n)=false:=rfl
def Scr (K:PySem.W.Frag)(t:T)(ns:List Int):Prop:=t=.lst false (ns.map T.int)\/∃ a,t=.hole (.ref a)/\∀ H,SqL K H a (ns.map V.int)
def oI (K:PySem.W.Frag):FP:=fun ts k=>∃ t,∃ ns:List Int,ts=[t]/\Scr K t ns/\ns.length<=63/\∀ c,k (stT c 0) ts
def t9:FP:=fun ts k=>∃ c n m,ts=[stT c n,.int m]/\n < 2 ^ 40/\0 < m/\m < 1073741824/\∀ r c',0<=r->r < m->k (.int r) [stT c' (n + 1),.int m]
def pS (n:Nat):FP:=fun ts k=>∃ f d,ts=[f,d]/\isD f=true/\isD d=true/\dt f=dt d/\gd (dt d)=true/\dpt (dt d) < n/\k (.bl true) ts
section
variable {P:Program}{w:World}{K:PySem.W.Frag}{mg:Str->Option Value}{base:Heap}
theorem oY {α β:Type}{l:List (α × β)}{a b:α}(h:[a,b]=l.map (·.1)):∃ v w,l=[(a,v),(b,w)]:=by
 cases l with
 | nil=>cases h
 | cons x l=>
  cases l with
  | nil=>cases h
  | cons y l=>
   cases l with
   | nil=>
    have h1:=(LN h).1
    have h2:=(LN (LN h).2).1
    exact⟨x.2,y.2,by rw [h1,h2]⟩
   | cons z l=>cases (LN (LN h).2).2
theorem rK {H:Hp}{a:Addr}{o:HO}(h:H a=some o):Put H a o H:=⟨h,fun _ _=>rfl⟩
theorem HE {H:Hp}{Γ:Fm}{c:Cells}{n:Nat}{v:V}(h:Rp K H ((stT c n,some v)::Γ)):∃ st l,v=.ref st/\StAt H st l c.cs n/\Rp K H ((.bare,some (.ref st))::(.bare,some (.ref l))::Γ):=by
 obtain⟨st,kvs,ev,hs,ek,h2⟩:=rB h
 cases ev
 obtain⟨v1,v2,rfl⟩:=oY ek
 have h2:Rp K H ((.bare,some (.ref st))::(.lst true (c.cs.map T.int),some v1)::(.int (n:Int),some v2)::Γ):=h2
 have e2:v2=.int n:=aB h2.tail.tail
 subst e2
 have h3:=h2.perm (.swap _ _ _)
 obtain⟨l,vs,el,hl,ll,h4⟩:=hZ h3
 cases el
 have ev:vs=c.cs.map V.int:=fI ll h4.tail
 subst ev
 refine⟨st,l,rfl,⟨hs,hl,c.pos,c.len⟩,?_⟩
 have h5:Rp K H ((.bare,some (.ref l))::(.bare,some (.ref st))::(.int (n:Int),some (.int n))::Γ):=by
  have:Rp K H (zz (c.cs.map T.int) (c.cs.map V.int)++((.bare,some (.ref l))::(.bare,some (.ref st))::(.int (n:Int),some (.int n))::Γ)):=h4.perm f_.symm
  exact this.part
 exact (h5.perm (by
  refine s_ (.cons _ (.swap _ _ _)) ?_
  refine s_ (.swap _ _ _) ?_
  exact .cons _ (.swap _ _ _))).tail
theorem sA {H:Hp}{Γ:Fm}:∀ (ns:List Int),Rp K H Γ->Rp K H (zz (ns.map T.int) (ns.map V.int)++Γ)
 | [],h=>h
 | n::r,h=>bS (sA r h) fun _=>.int
theorem yZ {H:Hp}{Γ:Fm}{cs:List Int}{n:Nat}{st l:Addr}(S:StAt H st l cs n)(h:Rp K H ((.bare,some (.ref st))::(.bare,some (.ref l))::Γ)):∃ c,Rp K H ((stT c n,some (.ref st))::Γ):=by
 refine⟨⟨cs,S.pos,S.len⟩,?_⟩
 have h1:Rp K H ((.bare,some (.ref l))::(zz (cs.map T.int) (cs.map V.int)++((.bare,some (.ref st))::Γ))):=(sA cs (h.perm (.swap _ _ _))).perm f_
 have h2:=jy h1 (by rw [b_,b_]) (rK S.l)
 have h3:Rp K H ((.bare,some (.ref st))::((.lst true (cs.map T.int),some (.ref l))::(.int (n:Int),some (.int n))::Γ)):=by
  refine (bS (t:=.int (n:Int)) h2 fun _=>.int).perm ?_
  refine s_ (.swap _ _ _) ?_
  refine s_ (.cons _ (.swap _ _ _)) ?_
  exact .swap _ _ _
 exact o7 (ts:=[(Sum.inr ("cells":Str),.lst true (cs.map T.int)),(Sum.inr ("turn":Str),.int (n:Int))]) (vs:=stK l n) h3 rfl (rK S.d)
theorem Iw {H H':Hp}{a c:Addr}{Γ:Fm}(h:Rp K H ((.bare,some (.ref a))::(.bare,some (.ref c))::Γ))(k:Kp a c H H')(ha:∃ u,H' a=some u/\∀ xs,u≠.tup xs)(hc:∃ u,H' c=some u/\∀ xs,u≠.tup xs):Rp K H' ((.bare,some (.ref a))::(.bare,some (.ref c))::Γ):=by
 obtain⟨ua,ea,na⟩:=ha
 obtain⟨uc,ec,nc⟩:=hc
 obtain⟨Hz,N,h,nd,g,d⟩:=h
 cases h with
 | cons e1 h1 c1=>
  cases c1 with
  | cons e2 h2 c2=>
   rcases h1 with⟨z,_⟩ | ⟨v1,ev1,h1⟩
   ·cases z
   rcases h2 with⟨z,_⟩ | ⟨v2,ev2,h2⟩
   ·cases z
   cases ev1;cases ev2
   cases h1;cases h2
   rename_i M u1 hu1 nt1 u2 hu2 nt2
   subst e2;subst e1
   have nd':(a::c::M).Nodup:=nd
   rw [H_,H_] at nd'
   have keep:∀ b o,H b=some o->b≠a->b≠c->H' b=some o:=k
   have tk:TK H H':=fun b xs r=>keep b _ r (fun z=>nt1 xs (z ▸ r)) (fun z=>nt2 xs (z ▸ r))
   have za:Hz a=none:=d a t_
   have zc:Hz c=none:=d c (o_ _ t_)
   have g':Gr Hz H':=fun b u r=>by
    obtain⟨w',q⟩:=Rd.some r
    have b1:b≠a:=fun z=>by rw [z,za] at q;cases q
    have b2:b≠c:=fun z=>by rw [z,zc] at q;cases q
    rcases g b u r with r | ⟨o,r⟩
    ·exact .inl (keep b _ r b1 b2)
    ·exact .inr ⟨o,keep b _ r b1 b2⟩
   refine⟨Hz,[a]++([c]++M),.cons rfl (.inr ⟨_,rfl,.bare ea fun xs z=>?_⟩) (.cons rfl (.inr ⟨_,rfl,.bare ec fun xs z=>?_⟩) (c2.move tk .bX fun b m u e=>?_)),nd,g',d⟩
   ·rw [ea] at z;exact na xs (x_ z)
   ·rw [ec] at z;exact nc xs (x_ z)
   ·have b1:b≠a:=fun z=>nd'.1 (by rw [<-z];exact o_ _ m)
    have b2:b≠c:=fun z=>nd'.2.1 (by rw [<-z];exact m)
    exact⟨keep b u e b1 b2,fun nt xs r=>nt xs (by rw [keep b u e b1 b2] at r;exact e.trans r)⟩
theorem Bl {H H':Hp}{a c:Addr}{Γ:Fm}(h:Rp K H Γ)(ha:H a=none)(hc:H c=none)(ne:a≠c)(s:aO H H')(ea:∃ u,H' a=some u/\∀ xs,u≠.tup xs)(ec:∃ u,H' c=some u/\∀ xs,u≠.tup xs):Rp K H' ((.bare,some (.ref a))::(.bare,some (.ref c))::Γ):=by
 obtain⟨ua,ea,na⟩:=ea
 obtain⟨uc,ec,nc⟩:=ec
 obtain⟨Hz,N,h,nd,g,d⟩:=h
 have n1:a ∉ N:=fun m=>by
  obtain⟨⟨u,e⟩,_⟩:=h.there a m
  rw [ha] at e;cases e
 have n2:c ∉ N:=fun m=>by
  obtain⟨⟨u,e⟩,_⟩:=h.there c m
  rw [hc] at e;cases e
 refine⟨Hz,[a]++([c]++N),.cons rfl (.inr ⟨_,rfl,.bare ea fun xs z=>?_⟩) (.cons rfl (.inr ⟨_,rfl,.bare ec fun xs z=>?_⟩) (h.move (aO.tk s) .bX fun b m u e=>fE s b u e)),?_,g.trans (.of s),?_⟩
 ·rw [ea] at z;exact na xs (x_ z)
 ·rw [ec] at z;exact nc xs (x_ z)
 ·show (a::c::N).Nodup
  rw [H_,H_]
  exact⟨fun m=>(m_.mp m).elim (fun z=>ne z) n1,n2,nd⟩
 ·intro b m
  have m:b∈a::c::N:=m
  rcases m_.mp m with rfl | m
  ·exact g.none ha
  ·rcases m_.mp m with rfl | m
   ·exact g.none hc
   ·exact d b m
theorem xW (D:Dfn K mg "_law_take" pI ["_law_state","_law_many"])(TX:Txt mg):Cal P w K mg base 1 "_law_take" ["_law_state","_law_many"] (aU K 2 t9):=by
 refine (D.cal fun _ _ F=>Ba F TX).imp ?_
 rintro vs H Q E ⟨ts,Fr,k,l,hn,rp,⟨c,n,m,rfl,h1,h2,h3,pk⟩,q⟩
 obtain⟨x,y,rfl⟩:=zz2 l rfl
 have rp:Rp K H ((stT c n,some x)::(.int m,some y)::Fr):=rp
 have ey:=aB rp.tail
 subst ey
 obtain⟨st,lc,rfl,S,rp2⟩:=HE rp
 refine⟨st,lc,c.cs,n,m,rfl,S,by omega,by omega,h2,h3,fun r cs' H' hr0 hr1 S' kp=>?_⟩
 have rp3:=Iw rp2 kp ⟨_,S'.d,fun _ z=>by cases z⟩ ⟨_,S'.l,fun _ z=>by cases z⟩
 have S'':StAt H' st lc cs' ((n + 1:Nat):Int):=by push_cast;exact S'
 obtain⟨c',rp4⟩:=yZ S'' rp3
 exact q _ _ _ _ (pk r c' hr0 hr1) (bS rp4 fun _=>.int)
theorem tU {H:Hp}{Γ:Fm}{w y:V}(h:Rp K H ((.hole w,some y)::Γ)):y=w:=by
 obtain⟨_,_,r,_⟩:=gJ h rfl
 cases r
 rfl
theorem wz (D:Dfn K mg "_law_begin" lH ["_law_script"])(TX:Txt mg):Cal P w K mg base 1 "_law_begin" ["_law_script"] (aU K 1 (oI K)):=by
 refine (D.cal fun _ _ F=>yu F TX).imp ?_
 rintro vs H Q E ⟨ts,Fr,k,l,hn,rp,⟨t,ns,rfl,hs,h1,pk⟩,q⟩
 obtain⟨x,rfl⟩:=zz1 l rfl
 have rp:Rp K H ((t,some x)::Fr):=rp
 obtain⟨a,rfl,hq⟩:∃ a,x=.ref a/\SqL K H a (ns.map V.int):=by
  rcases hs with rfl | ⟨a,rfl,hs⟩
  ·obtain⟨a,us,rfl,hq,l2,rp2⟩:=aH rfl rp
   have eu:=fI l2 rp2
   subst eu
   exact⟨a,rfl,hq⟩
  ·exact⟨a,tU rp,hs H⟩
 refine⟨a,ns,rfl,hq,h1,fun st lc cs H' hs hl S g=>?_⟩
 have rp3:=Bl rp hs hl S.ne g ⟨_,S.d,fun _ z=>by cases z⟩ ⟨_,S.l,fun _ z=>by cases z⟩
 obtain⟨c,rp4⟩:=yZ (n:=0) S rp3
 exact q _ _ _ _ (pk c) rp4
def zj (K:PySem.W.Frag):FP:=fun ts k=>∃ t,∃ ns:List Int,ts=[t]/\Scr K t ns/\ns.length<=63/\∀ z,k (.bl true) [z]
def uZ (K:PySem.W.Frag):Sp:=fun vs H Q _=>∃ (a:Addr) (ns:List Int),vs=[.ref a]/\SqL K H a (ns.map V.int)/\ns.length<=63/\∀ H',Q (.bl true) H'
theorem qC {Hz H:Hp}:∀ (ns:List Int),RepTs K Hz H (ns.map T.int) (ns.map V.int) []
 | []=>.nil
 | _::r=>.cons rfl .int (qC r)
theorem FD {k:Nat}{f:Addr}{fd:FuncData}(F:FnOk P w K mg base CX0 k f fd ["_law_script"] (aU K 1 (zj K))):FnOk P w K mg base CX0 k f fd ["_law_script"] (uZ K):=by
 refine F.imp ?_
 rintro vs H Q E ⟨a,ns,rfl,hq,h1,q⟩
 have key:∀ t,Scr K t ns->(∀ Hz,RepT K H Hz t (.ref a) [])->aU K 1 (zj K) [.ref a] H Q E:=fun t sc ht=>
  ⟨[t],[],fun t _=>t=.bl true,rfl,rfl,⟨H,[],.cons rfl (.inr ⟨_,rfl,ht H⟩) .nil,L4,.bX,fun _ m=>by cases m⟩,⟨t,ns,rfl,sc,h1,fun _=>rfl⟩,fun t ts' v H' e rp=>by
   subst e
   rw [ug rp]
   exact q H'⟩
 rcases hq with hq | hq
 ·exact key _ (.inl rfl) fun Hz=>.lstZ hq (qC ns)
 ·exact key _ (.inr ⟨a,rfl,fun H=>.inr hq⟩) fun Hz=>.hole
theorem Aq {x y:Str}(D:Dfn K mg "_law_same" s_same [x,y])(n:Nat)(C:Cal P w K mg base n "_law_same" [x,y] (jO K n)):Cal P w K mg base n "_law_same" [x,y] (aU K 2 (pS n)):=by
 refine C.imp ?_
 rintro vs H Q E ⟨ts,Fr,k,l,hn,rp,⟨f,d,rfl,h1,h2,h3,h4,h5,pk⟩,q⟩
 obtain⟨u,v,rfl⟩:=zz2 l rfl
 have rp:Rp K H ((f,some u)::(d,some v)::Fr):=rp
 have r1:=eB rp h1
 rw [h3] at r1
 exact⟨u,v,dt d,rfl,r1,eB rp.tail h2,h4,h5,fun H' g=>q _ _ _ _ pk (bS (rp.same g) fun _=>.bl)⟩
end
end Mp
namespace Mp
open PySem L2 PL
abbrev lF:T:=.cst [.cst [.int 1,.int 0],.cst [.int 1,.int 1],.cst [.int 0,.int 1],.cst [.int (-1),.int 1],.cst [.int (-1),.int 0],.cst [.int (-1),.int (-1)],.cst [.int 0,.int (-1)],.cst [.int 1,.int (-1)]]
abbrev iB:T:=.cst [.int 0,.int 1,.int 2,.int 3,.int 4,.int 5,.int 6,.int 7]
abbrev pE:T:=.cst [.int 0,.int 1,.int 7,.int 2,.int 6,.int 3,.int 5]
abbrev mW:T:=.int 0
abbrev zJ:T:=.int 1
abbrev jR:T:=.int (-1)
def iM:=d_ @PL.BV (d_ @PL.G1 (d_ @PL.EV (d_ @PL.Cb (d_ @PL.A7 (d_ @PL.xU (d_ @PL.G5 (d_ @PL.CB (d_ @PL.B7 (d_ @PL.zg (d_ @PL.vZ (d_ @PL.EX (d_ @PL.BR (d_ @PL.BK (d_ @PL.xV (d_ @PL.BG (d_ @PL.CN (d_ @PL.xq (d_ @PL.AU (d_ @PL.C6 (d_ @PL.AJ (d_ @PL.B0 (d_ @PL.yK (d_ @PL.Gg (d_ @PL.Fu (d_ @PL.Fe (d_ @PL.Fv (d_ @PL.Co (d_ @PL.BC (d_ @PL.D7 (d_ @PL.CJ (d_ @PL.y3 (d_ @PL.DX (d_ @PL.Ek (d_ @PL.Es (d_ @PL.G4 (d_ @PL.Fy (d_ @PL.yA (d_ @PL.Ct (d_ @PL.Bm (d_ @PL.FW (d_ @PL.Cq (d_ @PL.Bh (d_ @PL.Av (d_ @PL.Ao (d_ @PL.F9 (d_ @PL.Eb (d_ @PL.E6 (d_ @PL.FZ (d_ @PL.Ex (d_ @PL.Il (d_ @PL.EE (d_ @PL.EW (d_ @PL.sQ (@PL.wq))))))))))))))))))))))))))))))))))))))))))))))))))))))
def j6:=d_ @PL.Bb (d_ @PL.zm (d_ @PL.zk (d_ @PL.IM (d_ @PL.Hw (d_ @PL.Ie (d_ @PL.yH (d_ @PL.zM (d_ @PL.yV (d_ @PL.sD (d_ @PL.nU (d_ @PL.Bd (d_ @PL.fP (d_ @PL.BB (d_ @PL.eE (d_ @PL.t4 (d_ @PL.fx (d_ @PL.fA (d_ @PL.fH (d_ @PL.wg (d_ @PL.ir (d_ @PL.vS (d_ @PL.Dc (d_ @PL.vU (d_ @PL.BW (d_ @PL.vV (d_ @PL.xu (d_ @PL.Cz (d_ @PL.vT (d_ @PL.xi (d_ @PL.Ar (d_ @PL.Cw (d_ @PL.wC (d_ @PL.vO (d_ @f'.{0,0} (d_ @Kc.{0,0} (d_ @b_.{0,0} (d_ @List.zipWith_nil_right.{0,0,0} (d_ @decide_eq_true_eq (d_ @MU (d_ @L5 (d_ @KI (d_ @Bool.and_self (d_ @true_and (d_ @Option.map_some.{0,0} (d_ @Lw (d_ @Mn (d_ @PySem.sizeLine_eq (@Mp.Ce))))))))))))))))))))))))))))))))))))))))))))))))
abbrev Pt:=Int × Int
def ptP (p:Pt):T:=pt p.1 p.2
theorem d5 {p:Pt}:er (ptP p)=ptP p:=rfl
theorem bQ {p:Pt}:bV (ptP p)=true:=rfl
theorem bc {p:Pt}:aG (ptP p)=true:=rfl
theorem bq {p:Pt}:isAny (ptP p)=false:=rfl
theorem bY {p:Pt}{k:T->Prop}:ixT (ptP p) (.int 0) k=k (.int p.1):=rfl
theorem cf {p:Pt}{k:T->Prop}:ixT (ptP p) (.int 1) k=k (.int p.2):=rfl
theorem bj {p:Pt}{k:T->Prop}:qg [ptP p] k=k (ptP p):=rfl
theorem G2 {p q:Pt}{k:T->Prop}:eqT (ptP p) (ptP q) k=k (.bl (decide (p=q))):=by
 unfold ptP
 rw [EO]
 congr 2
 rw [decide_eq_decide]
 exact⟨fun h=>G' h.1 h.2,fun h=>by rw [h];exact⟨rfl,rfl⟩⟩
def jI:List Pt:=[(1,0),(1,1),(0,1),(-1,1),(-1,0),(-1,-1),(0,-1),(1,-1)]
def st8 (d:Nat):Pt:=jI.getD d (0,0)
def gI (p:Pt)(d:Nat)(m:Int):Pt:=(p.1 + (st8 d).1 * m,p.2 + (st8 d).2 * m)
def aq (p:Pt)(d:Nat):Pt:=(p.1 + (st8 d).1,p.2 + (st8 d).2)
theorem yI {d:Nat}(h:d < 8):atI [T.cst [.int 1,.int 0],.cst [.int 1,.int 1],.cst [.int 0,.int 1],.cst [.int (-1),.int 1],.cst [.int (-1),.int 0],.cst [.int (-1),.int (-1)],.cst [.int 0,.int (-1)],.cst [.int 1,.int (-1)]] (d:Int)=some (.cst [.int (st8 d).1,.int (st8 d).2]):=by
 match d,h with
 | 0,_=>rfl
 | 1,_=>rfl
 | 2,_=>rfl
 | 3,_=>rfl
 | 4,_=>rfl
 | 5,_=>rfl
 | 6,_=>rfl
 | 7,_=>rfl
theorem wK (d:Nat)(h:d < 8):-1<=(st8 d).1/\(st8 d).1<=1/\-1<=(st8 d).2/\(st8 d).2<=1:=by
 match d,h with
 | 0,_=>decide
 | 1,_=>decide
 | 2,_=>decide
 | 3,_=>decide
 | 4,_=>decide
 | 5,_=>decide
 | 6,_=>decide
 | 7,_=>decide
def far (p q:Pt):Int:=max ((q.1 - p.1).natAbs:Int) ((q.2 - p.2).natAbs:Int)
def lead (p q:Pt):Option Nat:=if far p q=0 then none else (y_ 8).find? fun d=>decide (gI p d (far p q)=q)
def kS (p q:Pt):T:=match lead p q with
 | none=>.non
 | some d=>.tup [.int (d:Int),.int (far p q)]
def D8 (d:Nat)(tn:List Nat):List Nat:=tn.map fun t=>(d + t) % 8
def nx (R:Pt->Bool)(p:Pt)(ds:List Nat):Option Nat:=ds.find? fun d=>R (aq p d)
def si:Option Nat->T
 | none=>.non
 | some d=>.int (d:Int)
def key (p:Pt):List Key:=[.inl p.1,.inl p.2]
theorem hC {p q:Pt}(h:key p=key q):p=q:=by
 unfold key at h
 simp only [Ko,Sum.inl.injEq,and_true] at h
 exact G' h.1 h.2
def wt (ks:List Pt)(R:Pt->Bool):List (List Key × T):=ks.map fun p=>(key p,.bl (R p))
def Good (ks:List Pt)(R:Pt->Bool):Prop:=∀ p,R p=true->p∈ks
theorem qa (ks:List Pt)(R:Pt->Bool)(q:Pt):dM (wt ks R) (key q)=if q∈ks then some (.bl (R q)) else none:=by
 unfold dM wt
 induction ks with
 | nil=>rfl
 | cons p ks ih=>
  rw [f',JG]
  by_cases h:p=q
  ·subst h
   rw [decide_eq_true (by rfl),if_pos (t_ ..)]
   rfl
  ·rw [decide_eq_false (fun z=>h (hC z))]
   show Nk _ (List.find? _ (JO _ ks))=_
   rw [ih]
   by_cases m:q∈ks
   ·rw [if_pos m,if_pos (o_ _ m)]
   ·rw [if_neg m,if_neg (fun z=>by rcases m_.mp z with z | z;exact h z.symm;exact m z)]
theorem DU {ks:List Pt}{R:Pt->Bool}(g:Good ks R)(q:Pt):(dM (wt ks R) (key q)).getD (.bl false)=.bl (R q):=by
 rw [qa]
 by_cases m:q∈ks
 ·rw [if_pos m];rfl
 ·rw [if_neg m]
  cases h:R q with
  | true=>exact absurd (g q h) m
  | false=>rfl
theorem bH {o:Bool}{kvs:List (List Key × T)}{p:Pt}{z:T}{k:T->Prop}:qT (.dT o kvs) (ptP p) z k=k ((dM kvs (key p)).getD z):=rfl
theorem sV {ks:List Pt}{R:Pt->Bool}:erT (wt ks R)=wt ks R:=by
 unfold wt
 induction ks with
 | nil=>rfl
 | cons p ks ih=>rw [f',erT,ih];rfl
theorem o9 {ks:List Pt}{R:Pt->Bool}:dv (wt ks R)=true:=by
 unfold wt
 induction ks with
 | nil=>rfl
 | cons p ks ih=>rw [f',dv,ih];rfl
theorem qB {ks:List Pt}{R:Pt->Bool}:gD (wt ks R)=true:=by
 unfold wt
 induction ks with
 | nil=>rfl
 | cons p ks ih=>rw [f',gD,ih];rfl
theorem jc (p:Pt)(d:Nat):gI p d 1=aq p d:=by unfold gI aq;rw [L6,L6]
def off (R:Pt->Bool)(p:Pt):Pt->Bool:=fun q=>if q=p then false else R q
theorem fy {ks:List Pt}{R:Pt->Bool}{p:Pt}(g:Good ks R):Good ks (off R p):=fun q h=>by
 unfold off at h
 split at h
 ·cases h
 ·exact g q h
theorem yb {ks:List Pt}{R:Pt->Bool}{p:Pt}(m:p∈ks):dZ (wt ks R) (key p) (.bl false)=wt ks (off R p):=by
 have ha:((wt ks R).any fun kv=>decide (kv.1=key p))=true:=by
  rw [KW]
  exact⟨(key p,.bl (R p)),A_.mpr ⟨p,m,rfl⟩,decide_eq_true rfl⟩
 unfold dZ
 rw [if_pos ha]
 unfold wt
 rw [JB]
 refine B' fun q _=>?_
 show (if key q=key p then (key q,T.bl false) else (key q,T.bl (R q)))=(key q,.bl (off R p q))
 unfold off
 by_cases h:q=p
 ·subst h;rw [if_pos rfl,if_pos rfl]
 ·rw [if_neg (fun z=>h (hC z)),if_neg h]
def cnt (ks:List Pt)(R:Pt->Bool):Nat:=(ks.filter R).length
theorem CF {ks:List Pt}{R:Pt->Bool}{p:Pt}(m:p∈ks)(h:R p=true):cnt ks (off R p) < cnt ks R:=by
 unfold cnt
 have e:ks.filter (off R p)=(ks.filter R).filter fun q=>decide (q≠p):=by
  rw [M4]
  refine M9 fun q _=>?_
  unfold off
  by_cases h:q=p
  ·rw [if_pos h,decide_eq_false (fun z=>z h)];rfl
  ·rw [if_neg h,decide_eq_true h];rfl
 rw [e]
 refine List.length_filter_lt_length_iff_exists.mpr ⟨p,JV.mpr ⟨m,h⟩,?_⟩
 rw [decide_eq_false (fun z=>z rfl)]
 exact fun z=>by cases z
theorem Gk (ks:List Pt)(R:Pt->Bool):cnt ks R<=ks.length:=KC ..
def TN:List Nat:=[0,1,7,2,6,3,5]
def ANY:List Nat:=[0,1,2,3,4,5,6,7]
def goR:Nat->(Pt->Bool)->Pt->Option Nat->List Pt × (Pt->Bool)
 | 0,R,_,_=>([],R)
 | _ + 1,R,_,none=>([],R)
 | n + 1,R,p,some d=>(aq p d::(goR n (off R (aq p d)) (aq p d) (nx (off R (aq p d)) (aq p d) (D8 d TN))).1,(goR n (off R (aq p d)) (aq p d) (nx (off R (aq p d)) (aq p d) (D8 d TN))).2)
theorem uM {R:Pt->Bool}{p:Pt}{ds:List Nat}{d:Nat}(h:nx R p ds=some d):R (aq p d)=true/\d∈ds:=⟨by have:=List.find?_some (p:=fun d=>R (aq p d)) h;exact this,List.mem_of_find?_eq_some h⟩
theorem Dx {d:Nat}{tn:List Nat}{x:Nat}(h:x∈D8 d tn):x < 8:=by
 unfold D8 at h
 obtain⟨t,_,rfl⟩:=A_.mp h
 lia
theorem GP:T.cst [.int 0,.int 1,.int 2,.int 3,.int 4,.int 5,.int 6,.int 7]=.cst (ANY.map fun (t:Nat)=>T.int (t:Int)):=rfl
theorem IZ:T.cst [.int 0,.int 1,.int 7,.int 2,.int 6,.int 3,.int 5]=.cst (TN.map fun (t:Nat)=>T.int (t:Int)):=rfl
theorem cE {kvs:List (List Key × T)}{p:Pt}{v:T}{k:T->Prop}:BM (.dT true kvs) (ptP p) v k=(kvs.length < sizeLine/\k (.dT true (dZ kvs (key p) v))):=rfl
theorem Ga {ks:List Pt}{R:Pt->Bool}:(wt ks R).length=ks.length:=b_ ..
theorem Bt {o:Option Nat}:er (si o)=si o:=by cases o <;> rfl
theorem wy {o:Option Nat}:bV (si o)=true:=by cases o <;> rfl
theorem tF {o:Option Nat}:isAny (si o)=false:=by cases o <;> rfl
def gP:Pt->List Pt->Pt
 | p,[]=>p
 | _,q::r=>gP q r
theorem oB {p:Pt}:∀ {ps:List Pt},∃ l,p::ps=l++[gP p ps]:=by
 intro ps
 induction ps generalizing p with
 | nil=>exact⟨[],rfl⟩
 | cons q r ih=>
  obtain⟨l,e⟩:=ih (p:=q)
  exact⟨p::l,congrArg (p::·) e⟩
theorem xn {p:Pt}{ps:List Pt}:atI ((p::ps).map ptP) (-1)=some (ptP (gP p ps)):=by
 obtain⟨l,e⟩:=oB (p:=p) (ps:=ps)
 rw [e,l_]
 exact n6 _ _
def jY (p:Pt)(ps:List Pt):List Pt:=if 2 < (p::ps).length/\far (gP p ps) p=1 then (p::ps)++[p] else p::ps
theorem xQ {p q:Pt}(h:far p q=1):∃ d,lead p q=some d:=by
 have hs:∃ d,d < 8/\gI p d 1=q:=by
  obtain⟨px,py⟩:=p
  obtain⟨qx,qy⟩:=q
  unfold far at h
  dsimp only at h
  have h1:qx - px=-1\/qx - px=0\/qx - px=1:=by lia
  have h2:qy - py=-1\/qy - py=0\/qy - py=1:=by lia
  have fin:∀ (d:Nat) (x y:Int),st8 d=(x,y)->qx - px=x->qy - py=y->gI (px,py) d 1=(qx,qy):=fun d x y e a b=>by
   unfold gI
   rw [e]
   refine G' ?_ ?_
   ·show px + x * 1=qx;lia
   ·show py + y * 1=qy;lia
  rcases h1 with h1 | h1 | h1 <;> rcases h2 with h2 | h2 | h2
  ·exact⟨5,by decide,fin 5 _ _ rfl h1 h2⟩
  ·exact⟨4,by decide,fin 4 _ _ rfl h1 h2⟩
  ·exact⟨3,by decide,fin 3 _ _ rfl h1 h2⟩
  ·exact⟨6,by decide,fin 6 _ _ rfl h1 h2⟩
  ·lia
  ·exact⟨2,by decide,fin 2 _ _ rfl h1 h2⟩
  ·exact⟨7,by decide,fin 7 _ _ rfl h1 h2⟩
  ·exact⟨0,by decide,fin 0 _ _ rfl h1 h2⟩
  ·exact⟨1,by decide,fin 1 _ _ rfl h1 h2⟩
 obtain⟨d,d8,e⟩:=hs
 unfold lead
 rw [if_neg (by lia),h]
 cases hf:(y_ 8).find? fun d=>decide (gI p d 1=q) with
 | some x=>exact⟨x,rfl⟩
 | none=>
  rw [Ms] at hf
  have:=hf d d8
  rw [decide_eq_true e] at this
  cases this
def gc:List Pt->List Pt->(Pt->Bool)->List (List Pt)
 | _,[],_=>[]
 | ks,p::ps,R=>if R p then jY p (goR ks.length (off R p) p (nx (off R p) p (D8 0 ANY))).1::gc ks ps (goR ks.length (off R p) p (nx (off R p) p (D8 0 ANY))).2 else gc ks ps R
def row (p:Pt):List Int:=[p.1,p.2]
def Br (q:List Int):Pt:=(q.getD 0 0,q.getD 1 0)
def bW (ps:List Pt):List Pt:=(tS (ps.map row)).map Br
def prT (p:Pt):T:=.tup [ptP p,.bl true]
theorem m5:∀ (ps:List Pt),pairsOf (ps.map prT)=some (ps.map fun p=>(key p,.bl true))
 | []=>rfl
 | p::ps=>by rw [f',pairsOf,m5 ps];rfl
theorem mn {κ:Type}[DecidableEq κ]:∀ (a b:List (κ × T)),((a++b).map (·.1)).Nodup->b.foldl (fun acc kv=>dZ acc kv.1 kv.2) a=a++b
 | a,[],_=>by rw [JF];rfl
 | a,(q,x)::b,h=>by
  have h':((a++[(q,x)]++b).map (·.1)).Nodup:=by rw [gV];exact h
  have nq:(a.any fun kv=>decide (kv.1=q))=false:=by
   rw [List.any_eq_false]
   intro y my e
   rw [l_,Ks] at h
   exact h.2.2 y.1 (JZ my) q (t_ ..) (of_decide_eq_true e)
  have e:dZ a q x=a++[(q,x)]:=by unfold dZ;rw [nq];rfl
  rw [K4,e,mn (a++[(q,x)]) b h',gV];rfl
theorem nodup_keys {ps:List Pt}(h:ps.Nodup):((ps.map fun p=>(key p,T.bl true)).map (·.1)).Nodup:=by
 rw [JB]
 exact M_ _ (fun a b n z=>n (hC z)) h
theorem vW {ps:List Pt}(h:ps.Nodup):putAll (ps.map fun p=>(key p,T.bl true))=wt ps (fun p=>decide (p∈ps)):=by
 unfold putAll
 rw [mn [] _ (by rw [Kq];exact nodup_keys h),Kq]
 unfold wt
 refine B' fun p m=>?_
 show _=(key p,T.bl (decide (p∈ps)))
 rw [decide_eq_true m]
theorem ow {ps:List Pt}:dv (ps.map fun p=>(key p,T.bl true))=true:=by
 induction ps with
 | nil=>rfl
 | cons p ks ih=>rw [f',dv,ih];rfl
theorem As {ps:List Pt}{R:Pt->Bool}:(wt ps R).map (·.1)=(ps.map row).map kI:=by
 unfold wt
 rw [JB,JB]
 rfl
theorem vD {ps:List Pt}:∀ q∈ps.map row,q≠[]:=fun q m=>by
 obtain⟨p,_,rfl⟩:=A_.mp m
 intro z
 cases z
theorem yB {ps:List Pt}:(tS (ps.map row)).map iT=(bW ps).map ptP:=by
 unfold bW
 rw [JB]
 refine B' fun q m=>?_
 have m2:=(cW (lt:=ZS.ltL) (ps.map row)).mem_iff.mp m
 obtain⟨p,_,rfl⟩:=A_.mp m2
 rfl
theorem uo:∀ (n:Nat) (R:Pt->Bool) (p:Pt) (o:Option Nat),(goR n R p o).1.length<=n
 | 0,R,_,_=>c_ _
 | n + 1,R,_,none=>B_ _
 | n + 1,R,p,some d=>by
  rw [goR,h_]
  exact LQ (uo n _ _ _)
theorem qW {ks:List Pt}:∀ (n:Nat) (R:Pt->Bool) (p:Pt) (o:Option Nat),Good ks R->Good ks (goR n R p o).2
 | 0,R,_,_,g=>g
 | n + 1,R,_,none,g=>g
 | n + 1,R,p,some d,g=>qW n _ _ _ (fy g)
theorem gj {ps:List Pt}{p:Pt}(h:p∈bW ps):p∈ps:=by
 unfold bW at h
 obtain⟨q,m,rfl⟩:=A_.mp h
 have m2:=(cW (lt:=ZS.ltL) (ps.map row)).mem_iff.mp m
 obtain⟨p,hp,rfl⟩:=A_.mp m2
 exact hp
theorem iL {ps:List Pt}:(bW ps).length=ps.length:=by
 unfold bW
 rw [b_,(cW (lt:=ZS.ltL) (ps.map row)).length_eq,b_]
def HN (r:List Pt):T:=.lst true (r.map ptP)
theorem eL {o:Bool}{kvs:List (List Key × T)}{p:Pt}{k:T->Prop}:ixT (.dT o kvs) (ptP p) k=fM (dM kvs (key p)) (k:=⟨k⟩):=rfl
theorem Eg {ks:List Pt}{R:Pt->Bool}{q:Pt}(m:q∈ks):dM (wt ks R) (key q)=some (.bl (R q)):=by rw [qa,if_pos m]
theorem Fn {K:PySem.W.Frag}{t:T}{ns:List Int}(h:Scr K t ns):er t=t/\isAny t=false:=by
 rcases h with rfl | ⟨a,rfl,_⟩
 ·exact⟨by simp only [er,fP],rfl⟩
 ·exact⟨rfl,rfl⟩
theorem bD {c:Cells}{n:Nat}:bV (stT c n)=true:=by simp only [stT,bV,lY,fH,ir,KI,LM]
theorem map_take {α β:Type}{g:α->β}{l:List α}{i:Nat}{x:α}(h:l[i]?=some x):JO g (l.take (i + 1))=JO g (l.take i)++[g x]:=by rw [JJ,h,l_];rfl
theorem wN {α β:Type}{g:α->β}{p:α->Bool}{l:List α}{i:Nat}{x:α}(h:l[i]?=some x):JO g ((l.take (i + 1)).filter p)=JO g ((l.take i).filter p)++(if p x then [g x] else []):=by
 rw [JJ,h,Lv,l_]
 congr 1
 show JO g (ME p [x])=_
 rw [Mt]
 cases p x <;> rfl
theorem eF {i:Int}:isD (.int i)=true:=rfl
theorem dj:cU []=true:=rfl
theorem dw {i:Int}{ts:List T}:cU (.int i::ts)=cU ts:=by rw [cU,eF,KI]
theorem cH {a b:Int}:(br (dtL [.int a,.int b]) < 180)=True:=eq_true (by simp [dt,dtL,dpt,br])
def Gd (t:T)(n:Nat):Prop:=isD t=true/\gd (dt t)=true/\dpt (dt t)<=n
def GdL (ts:List T)(n:Nat):Prop:=cU ts=true/\gdL (dtL ts)=true/\br (dtL ts)<=n
theorem Iy {i:Int}{n:Nat}:Gd (.int i) n:=⟨rfl,rfl,by rw [dt,dpt.eq_def];exact B_ _⟩
theorem qc {n:Nat}:GdL [] n:=⟨rfl,by simp only [dtL,gdL],by simp only [dtL,br,B_]⟩
theorem jm {t:T}{ts:List T}{n:Nat}(h:Gd t n)(r:GdL ts n):GdL (t::ts) n:=
 ⟨by rw [cU,h.1,r.1];rfl,by rw [dtL,gdL,h.2.1,r.2.1];rfl,by rw [dtL,br];exact NI.mpr ⟨h.2.2,r.2.2⟩⟩
theorem uV {α:Type}{g:α->T}{l:List α}{n:Nat}(h:∀ x∈l,Gd (g x) n):GdL (l.map g) n:=by
 induction l with
 | nil=>exact qc
 | cons x l ih=>exact jm (h x (t_ ..)) (ih fun y m=>h y (o_ _ m))
theorem FH {o:Bool}{ts:List T}{n:Nat}(h:GdL ts n)(hl:ts.length<=100000):Gd (.lst o ts) (n + 1):=
 ⟨by rw [isD];exact h.1,by rw [dt,gd,h.2.1,decide_eq_true (by rw [kA,b_];exact hl)];rfl,by rw [dt,dpt];exact LQ h.2.2⟩
theorem IV {ts:List T}{n:Nat}(h:GdL ts n)(hl:ts.length<=100000):Gd (.tup ts) (n + 1):=
 ⟨by rw [isD];exact h.1,by rw [dt,gd,h.2.1,decide_eq_true (by rw [kA,b_];exact hl)];rfl,by rw [dt,dpt];exact LQ h.2.2⟩
theorem Iz {x y:Int}{n:Nat}:Gd (pt x y) (n + 1):=IV (jm Iy (jm Iy qc)) (by simp)
theorem CY {f d:T}{n m:Nat}{k:T->List T->Prop}(h:Gd d n)(hn:n < m)(hi:isD f=true)(e:dt f=dt d)(q:k (.bl true) [f,d]):pS m [f,d] k:=⟨f,d,rfl,hi,h.1,e,h.2.1,JM h.2.2 hn,q⟩
def aM:Pt->List Nat->Pt
 | p,[]=>p
 | p,d::ds=>aM (aq p d) ds
def pts:Pt->List Nat->List Pt
 | p,[]=>[p]
 | p,d::ds=>p::pts (aq p d) ds
def vR (ds:List Nat):Prop:=∀ d∈ds,d < 8
theorem dW {p:Pt}:∀ {ds es:List Nat},aM p (ds++es)=aM (aM p ds) es:=by
 intro ds
 induction ds generalizing p with
 | nil=>intro es;rfl
 | cons d ds ih=>intro es;exact ih (p:=aq p d)
theorem fB {p:Pt}{ds:List Nat}{d:Nat}:aM p (ds++[d])=aq (aM p ds) d:=dW
theorem mz {p:Pt}{ds:List Nat}{d:Nat}:pts p (ds++[d])=pts p ds++[aq (aM p ds) d]:=by
 induction ds generalizing p with
 | nil=>rfl
 | cons x ds ih=>exact congrArg (p::·) (ih (p:=aq p x))
theorem eN {p:Pt}{ds:List Nat}:(pts p ds).length=ds.length + 1:=by
 induction ds generalizing p with
 | nil=>rfl
 | cons x ds ih=>exact congrArg (· + 1) (ih (p:=aq p x))
theorem qJ {p:Pt}{ds:List Nat}:∃ l,pts p ds=l++[aM p ds]:=by
 induction ds generalizing p with
 | nil=>exact⟨[],rfl⟩
 | cons x ds ih=>
  obtain⟨l,e⟩:=ih (p:=aq p x)
  exact⟨p::l,congrArg (p::·) e⟩
theorem mC {p:Pt}{ds:List Nat}:∃ l,pts p ds=p::l:=by cases ds <;> exact⟨_,rfl⟩
theorem ue {p:Pt}{ds:List Nat}:atI ((pts p ds).map fun x=>ptP x) (-1)=some (ptP (aM p ds)):=by
 obtain⟨l,e⟩:=qJ (p:=p) (ds:=ds)
 rw [e,l_]
 exact n6 _ _
theorem D9 {p:Pt}{ds:List Nat}:atI ((pts p ds).map fun x=>ptP x) 0=some (ptP p):=by
 obtain⟨l,e⟩:=mC (p:=p) (ds:=ds)
 rw [e,f']
 exact lh (j:=0) rfl
theorem yY {p:Pt}{ds:List Nat}{d:Nat}:JO (fun x=>ptP x) (pts p ds)++[ptP (aq (aM p ds) d)]=JO (fun x=>ptP x) (pts p (ds++[d])):=by rw [mz,l_];rfl
def mD (k:Nat):Int:=[1,1,0,-1,-1,-1,0,1].getD k 0
def au (d:Nat)(g:Int):Int:=mD (((d:Int) - g) % 8).toNat
theorem Cv (d:Nat)(g:Int):∃ k:Fin 8,((d:Int) - g) % 8=(k.val:Int)/\au d g=mD k.val:=by
 have h0:0<=((d:Int) - g) % 8:=Lr _ (by decide)
 have h8:((d:Int) - g) % 8 < 8:=K6 _ (by decide)
 exact⟨⟨(((d:Int) - g) % 8).toNat,by lia⟩,by show _=(((((d:Int) - g) % 8).toNat:Nat):Int);lia,rfl⟩
theorem Bf:∀ k:Fin 8,mD k.val=1\/mD k.val=0\/mD k.val=-1:=by decide
theorem mK (d:Nat)(g:Int):au d g=1\/au d g=0\/au d g=-1:=by
 obtain⟨k,_,e⟩:=Cv d g
 rw [e]
 exact Bf k
theorem yx:∀ k:Fin 8,mD ((k.val + 4) % 8)=- mD k.val:=by decide
theorem mB (d:Nat)(g:Int):au ((d + 4) % 8) g=- au d g:=by
 obtain⟨k,e,e2⟩:=Cv d g
 rw [e2,<-yx k,au,show ((((d + 4) % 8:Nat):Int) - g) % 8=(((k.val + 4) % 8:Nat):Int) by lia,JX]
theorem yW:∀ d:Fin 8,max ((st8 d.val).1.natAbs:Int) ((st8 d.val).2.natAbs:Int)=1:=by decide
theorem Bu:∀ d e:Fin 8,st8 d.val=st8 e.val->d=e:=by decide
theorem vK {p:Pt}{d:Nat}(h:d < 8):kS p (aq p d)=.tup [.int (d:Int),.int 1]:=by
 have hf:far p (aq p d)=1:=by
  have:=yW ⟨d,h⟩
  unfold far aq
  dsimp only at this ⊢
  rwa [show p.1 + (st8 d).1 - p.1=(st8 d).1 by lia,show p.2 + (st8 d).2 - p.2=(st8 d).2 by lia]
 have hl:lead p (aq p d)=some d:=by
  unfold lead
  rw [hf,if_neg (by decide),Mu]
  refine⟨decide_eq_true (jc p d),KQ.mpr h,fun j hj=>?_⟩
  rw [decide_eq_false]
  ·rfl
  ·intro z
   rw [jc] at z
   unfold aq at z
   have z1:=(NC.mp z).1
   have z2:=(NC.mp z).2
   have e:=Bu ⟨j,by lia⟩ ⟨d,h⟩ (G' (by dsimp only at z1 ⊢;lia) (by dsimp only at z2 ⊢;lia))
   have:=Fin.mk.inj e
   lia
 unfold kS
 rw [hl,hf]
theorem Eo:∀ k:Fin 8,min (k.val:Int) (8 - (k.val:Int))=2->mD k.val=0:=by decide
theorem Fw:∀ k:Fin 8,min (k.val:Int) (8 - (k.val:Int)) < 2->mD k.val=1:=by decide
theorem DZ:∀ k:Fin 8,¬ min (k.val:Int) (8 - (k.val:Int))=2->¬ min (k.val:Int) (8 - (k.val:Int)) < 2->mD k.val=-1:=by decide
theorem vi {l:List Pt}:(JO (fun x=>ptP x) l).reverse=JO (fun x=>ptP x) l.reverse:=List.map_reverse.symm
def sd (g:Int)(b:List Nat):List Int:=b.map fun d=>au d g
def blk (g:Int):List Nat->Int->List Nat->List (List Nat)
 | cur,_,[]=>[cur]
 | cur,lie,d::ds=>if au d g≠0/\lie≠0/\au d g≠lie then cur::blk g [d] (au d g) ds else blk g (cur++[d]) (if au d g=0 then lie else au d g) ds
def gA (g:Int)(cur:List Nat)(lie:Int):Prop:=((-1:Int)∈sd g cur↔lie=-1)/\((1:Int)∈sd g cur↔lie=1)/\(lie=1\/lie=0\/lie=-1)
theorem v8 {g:Int}{b:List Nat}{d:Nat}{x:Int}:x∈sd g (b++[d])↔x∈sd g b\/x=au d g:=by
 unfold sd
 rw [l_,G_,Ma,D']
theorem qj {g:Int}:gA g [] 0:=⟨⟨(fun m=>by cases m),(fun e=>by cases e)⟩,⟨(fun m=>by cases m),(fun e=>by cases e)⟩,.inr (.inl rfl)⟩
theorem pV {g:Int}{d:Nat}:gA g [d] (au d g):=⟨D'.trans eq_comm,D'.trans eq_comm,mK d g⟩
theorem mO {g:Int}{cur:List Nat}{lie:Int}{d:Nat}(h:gA g cur lie)(c:¬ (au d g≠0/\lie≠0/\au d g≠lie)):gA g (cur++[d]) (if au d g=0 then lie else au d g):=by
 obtain⟨h1,h2,h3⟩:=h
 have hs:=mK d g
 refine⟨v8.trans ?_,v8.trans ?_,?_⟩
 ·rw [h1];split <;> lia
 ·rw [h2];split <;> lia
 ·split <;> assumption
theorem zo {g:Int}:∀ {ds cur:List Nat} {lie:Int},(blk g cur lie ds).flatten=cur++ds:=by
 intro ds
 induction ds with
 | nil=>intro cur lie;rw [blk,Le,List.flatten_nil]
 | cons d ds ih=>
  intro cur lie
  rw [blk]
  split
  ·rw [Le,ih];rfl
  ·rw [ih,gV];rfl
theorem rn {g:Int}:∀ {ds cur:List Nat} {lie:Int},∃ r bs,blk g cur lie ds=(cur++r)::bs:=by
 intro ds
 induction ds with
 | nil=>intro cur lie;exact⟨[],[],by rw [blk,JF]⟩
 | cons d ds ih=>
  intro cur lie
  rw [blk]
  split
  ·exact⟨[],_,by rw [JF]⟩
  ·obtain⟨r,bs,e⟩:=ih (cur:=cur++[d]) (lie:=if au d g=0 then lie else au d g)
   exact⟨d::r,bs,by rw [e,gV];rfl⟩
theorem yl {g:Int}:∀ {ds cur:List Nat} {lie:Int},gA g cur lie->∀ b∈blk g cur lie ds,¬ ((1:Int)∈sd g b/\(-1:Int)∈sd g b):=by
 intro ds
 have base:∀ {cur:List Nat} {lie:Int},gA g cur lie->¬ ((1:Int)∈sd g cur/\(-1:Int)∈sd g cur):=fun h z=>by
  have z1:=h.2.1.mp z.1
  have z2:=h.1.mp z.2
  lia
 induction ds with
 | nil=>
  intro cur lie h b m
  rw [blk,D'] at m
  rw [m]
  exact base h
 | cons d ds ih=>
  intro cur lie h b m
  rw [blk] at m
  split at m
  ·rcases m_.mp m with rfl | m
   ·exact base h
   ·exact ih pV b m
  ·rename_i c
   exact ih (mO h c) b m
theorem zi {g:Int}:∀ {ds cur:List Nat} {lie:Int},gA g cur lie->∀ (i:Nat) (b c:List Nat),(blk g cur lie ds)[i]?=some b->(blk g cur lie ds)[i + 1]?=some c->∃ d r,c=d::r/\au d g≠0/\(- au d g)∈sd g b:=by
 intro ds
 induction ds with
 | nil=>
  intro cur lie h i b c e1 e2
  rw [blk] at e2
  cases e2
 | cons d ds ih=>
  intro cur lie h i b c e1 e2
  rw [blk] at e1 e2
  split at e1
  ·rename_i hc
   rw [if_pos hc] at e2
   cases i with
   | zero=>
    cases e1
    obtain⟨r,bs,e⟩:=rn (g:=g) (ds:=ds) (cur:=[d]) (lie:=au d g)
    rw [e] at e2
    cases e2
    refine⟨d,r,rfl,hc.1,?_⟩
    have hs:=mK d g
    obtain⟨h1,h2,h3⟩:=h
    rcases hs with s | s | s
    ·rw [s];exact h1.mpr (by lia)
    ·exact absurd s hc.1
    ·rw [s];exact h2.mpr (by lia)
   | succ i=>exact ih pV i b c e1 e2
  ·rename_i hc
   rw [if_neg hc] at e2
   exact ih (mO h hc) i b c e1 e2
def along {α:Type}(f:Pt->List Nat->α):Pt->List (List Nat)->List α
 | _,[]=>[]
 | p,b::bs=>f p b::along f (aM p b) bs
theorem nQ {α:Type}{f:Pt->List Nat->α}:∀ {bs:List (List Nat)} {p:Pt},(along f p bs).length=bs.length:=by
 intro bs
 induction bs with
 | nil=>intro p;rfl
 | cons b bs ih=>intro p;exact congrArg (· + 1) ih
theorem mU {α:Type}{f:Pt->List Nat->α}{b:List Nat}:∀ {bs:List (List Nat)} {p:Pt},along f p (bs++[b])=along f p bs++[f (aM p bs.flatten) b]:=by
 intro bs
 induction bs with
 | nil=>intro p;rfl
 | cons c bs ih=>
  intro p
  rw [Le,dW]
  exact congrArg (f p c::·) ih
theorem xS {α:Type}{f:Pt->List Nat->α}:∀ {bs:List (List Nat)} {p:Pt} {i:Nat} {b:List Nat},bs[i]?=some b->(along f p bs)[i]?=some (f (aM p (bs.take i).flatten) b):=by
 intro bs
 induction bs with
 | nil=>intro p i b e;cases e
 | cons c bs ih=>
  intro p i b e
  cases i with
  | zero=>cases e;rfl
  | succ i=>
   rw [MW,Le,dW]
   exact ih e
theorem kl {α β:Type}{f:Pt->List Nat->α}{h:α->β}:∀ {bs:List (List Nat)} {p:Pt},(along f p bs).map h=along (fun q b=>h (f q b)) p bs:=by
 intro bs
 induction bs with
 | nil=>intro p;rfl
 | cons c bs ih=>intro p;exact congrArg (h (f p c)::·) ih
theorem yJ {α:Type}{f:Pt->List Nat->α}{bs:List (List Nat)}{p:Pt}{i:Nat}{x:α}(h:(along f p bs)[i]?=some x):∃ b,bs[i]?=some b/\x=f (aM p (bs.take i).flatten) b:=by
 have hi:=(e_.mp h).1
 rw [nQ] at hi
 have e:bs[i]?=some bs[i]:=a_ hi
 rw [xS e] at h
 exact⟨_,e,(x_ h).symm⟩
def pcL (g:Int)(p:Pt)(b:List Nat):List Pt:=if (-1:Int)∈sd g b then (pts p b).reverse else pts p b
def pcT (g:Int)(p:Pt)(b:List Nat):T:=.lst (decide ((-1:Int)∈sd g b)) ((pcL g p b).map ptP)
def pcF (g:Int)(p:Pt)(b:List Nat):T:=.lst false ((pcL g p b).map ptP)
def wX (o:Bool)(p:Pt)(b:List Nat):T:=.lst o ((pts p b).map ptP)
theorem lZ {o:Bool}{ps:List Pt}:er (.lst o (ps.map fun x=>ptP x))=.lst false (ps.map fun x=>ptP x):=by rw [er,fP];rfl
theorem Bv {g:Int}{p:Pt}{bs:List (List Nat)}:erL (along (pcT g) p bs)=along (pcF g) p bs:=by
 rw [gH,kl]
 exact congrArg (fun f=>along f p bs) (funext fun q=>funext fun b=>lZ)
theorem BJ {g:Int}{p:Pt}{bs:List (List Nat)}:erL (along (pcF g) p bs)=along (pcF g) p bs:=by
 rw [gH,kl]
 exact congrArg (fun f=>along f p bs) (funext fun q=>funext fun b=>lZ)
theorem Bg {o:Bool}{p:Pt}{bs:List (List Nat)}:erL (along (wX o) p bs)=along (wX false) p bs:=by
 rw [gH,kl]
 exact congrArg (fun f=>along f p bs) (funext fun q=>funext fun b=>lZ)
theorem iQ {f:Pt->List Nat->T}(h:∀ p b,aG (f p b)=true):∀ {bs:List (List Nat)} {p:Pt},aC (along f p bs)=true:=by
 intro bs
 induction bs with
 | nil=>intro p;rfl
 | cons c bs ih=>intro p;rw [along,aC,h,ih];rfl
theorem sH {g:Int}{p:Pt}{bs:List (List Nat)}:aC (along (pcF g) p bs)=true:=iQ fun q b=>by unfold pcF;rw [aG,eE];exact ir _
theorem ud {p:Pt}{bs:List (List Nat)}:aC (along (wX false) p bs)=true:=iQ fun q b=>by unfold wX;rw [aG,eE];exact ir _
theorem vF {p:Pt}:∀ {bs:List (List Nat)},bx (along (wX true) p bs)=true:=by
 intro bs
 induction bs generalizing p with
 | nil=>rfl
 | cons c bs ih=>rw [along,bx,ih];unfold wX;rw [bV,fH];exact (LM _).trans (ir _)
theorem tV {p:Pt}:∀ {ds:List Nat} {i:Nat},i<=ds.length->(pts p ds)[i]?=some (aM p (ds.take i)):=by
 intro ds
 induction ds generalizing p with
 | nil=>intro i h;rw [K0,Nat.le_zero] at h;rw [h];rfl
 | cons d ds ih=>
  intro i h
  cases i with
  | zero=>rfl
  | succ i=>exact ih (p:=aq p d) (MF h)
theorem yy {p:Pt}{ds:List Nat}{i:Nat}{x:Pt}(h:((pts p ds).drop 1)[i]?=some x):∃ d,ds[i]?=some d/\x=aq (aM p (ds.take i)) d:=by
 rw [Kz] at h
 have hi:=(e_.mp h).1
 rw [eN] at hi
 have hi:i < ds.length:=by lia
 rw [Nat.add_comm,tV hi] at h
 refine⟨ds[i],a_ hi,?_⟩
 rw [<-x_ h,JJ,a_ hi]
 exact fB
abbrev Wg (p:Pt)(ds:List Nat)(g:Int):Nat->Ev->Prop:=fun i env=>∃ (dn:List (List Nat)) (cur:List Nat) (lie:Int) (z5 z6:T),gA g cur lie/\dn++blk g cur lie (ds.drop i)=blk g [] 0 ds/\aM (aM p dn.flatten) cur=aM p (ds.take i)/\dn.length<=i/\cur.length<=i/\env=[.lst false ((pts p ds).map ptP),.int g,.lst true (along (pcT g) p dn),.lst true ((pts (aM p dn.flatten) cur).map ptP),.int lie,z5,z6]
theorem uD {g:Int}{p:Pt}{b:List Nat}{lie:Int}(h:gA g b lie):T.lst (decide (lie=-1)) ((if lie=-1 then (pts p b).reverse else pts p b).map ptP)=pcT g p b:=by
 unfold pcT pcL
 by_cases c:lie=-1
 ·have:=h.1.mpr c
  rw [if_pos c,if_pos this,decide_eq_true c,decide_eq_true this]
 ·have:¬ (-1:Int)∈sd g b:=fun z=>c (h.1.mp z)
  rw [if_neg c,if_neg this,decide_eq_false c,decide_eq_false this]
theorem y4 {p q:Pt}:eqD (dt (ptP p)) (dt (ptP q))=decide (p=q):=by
 unfold ptP pt
 rw [dt,dt,dtL,dtL,dtL,dtL,dtL,dtL,dt,dt,dt,dt,eqD,eqL,eqL,eqL,eqD,eqD,LM]
 rw [Kb,C_,beq_iff_eq,beq_iff_eq,decide_eq_true_iff]
 exact⟨fun h=>G' h.1 h.2,fun h=>by rw [h];exact⟨rfl,rfl⟩⟩
theorem uT:∀ (as bs:List Pt),eqL (dtL (as.map fun x=>ptP x)) (dtL (bs.map fun x=>ptP x))=decide (as=bs)
 | [],[]=>by rw [Kc,dtL,eqL];rfl
 | [],b::bs=>by
  rw [Kc,f',dtL,dtL,eqL]
  ·rfl
  all_goals (intros;rename_i u v;first | (cases u;done) | (cases v;done))
 | a::as,[]=>by
  rw [Kc,f',dtL,dtL,eqL]
  ·rfl
  all_goals (intros;rename_i u v;first | (cases u;done) | (cases v;done))
 | a::as,b::bs=>by
  rw [f',f',dtL,dtL,eqL,y4,uT as bs,Kb,C_,decide_eq_true_iff,decide_eq_true_iff,decide_eq_true_iff]
  exact⟨fun h=>by rw [h.1,h.2],fun h=>by cases h;exact⟨rfl,rfl⟩⟩
theorem fm:∀ (as:List Pt),cU (as.map fun x=>ptP x)=true
 | []=>rfl
 | a::as=>by rw [f',cU,fm as];rfl
theorem n0:∀ (as:List Pt),br (dtL (as.map fun x=>ptP x))<=1
 | []=>by rw [Kc,dtL,br];exact B_ _
 | a::as=>by
  rw [f',dtL,br]
  refine NI.mpr ⟨?_,n0 as⟩
  unfold ptP pt
  simp [dt,dtL,dpt,br]
theorem qm {o:Bool}{as:List Pt}:dpt (dt (.lst o (as.map fun x=>ptP x)))<=2:=by
 rw [dt,dpt]
 have:=n0 as
 lia
theorem qb {o o':Bool}{as bs:List Pt}:eqD (dt (.lst o (as.map fun x=>ptP x))) (dt (.lst o' (bs.map fun x=>ptP x)))=decide (as=bs):=by rw [dt,dt,eqD];exact uT as bs
theorem FF {o o':Bool}{as bs:List Pt}{k:T->Prop}:neT (.lst o (as.map fun x=>ptP x)) (.lst o' (bs.map fun x=>ptP x)) k=k (.bl (!decide (as=bs))):=by
 have:=qm (o:=o) (as:=as)
 unfold neT
 rw [qb]
 exact propext ⟨fun h=>h.2.2.2,fun h=>⟨fm as,fm bs,by lia,h⟩⟩
theorem B6 {o o1 o2:Bool}{as bs cs:List Pt}:kZ (.lst o (as.map fun x=>ptP x)) [.lst o1 (bs.map fun x=>ptP x),.lst o2 (cs.map fun x=>ptP x)]=(decide (bs=as) || decide (cs=as)):=by
 unfold kZ
 rw [Ka,Ka,List.any_nil,Nt,qb,qb]
theorem BF {o1 o2:Bool}{bs cs:List Pt}:(br (dtL [T.lst o1 (bs.map fun x=>ptP x),.lst o2 (cs.map fun x=>ptP x)]) < 180)=True:=by
 have h1:=qm (o:=o1) (as:=bs)
 have h2:=qm (o:=o2) (as:=cs)
 rw [dtL,dtL,dtL,br,br,br]
 exact eq_true (by lia)
theorem Bs {o1 o2:Bool}{bs cs:List Pt}:cU [T.lst o1 (bs.map fun x=>ptP x),.lst o2 (cs.map fun x=>ptP x)]=true:=by
 rw [cU,cU,cU,isD,isD,fm,fm];rfl
theorem CO {o:Bool}{as:List Pt}:isD (.lst o (as.map fun x=>ptP x))=true:=fm as
theorem jN:∀ (ns:List Int),cU (ns.map T.int)=true
 | []=>rfl
 | a::as=>by rw [f',cU,jN as];rfl
theorem fD:∀ (ns:List Int),br (dtL (ns.map T.int))=0
 | []=>by rw [Kc,dtL,br]
 | a::as=>by rw [f',dtL,br,fD as,dt,dpt.eq_def];rfl
theorem rW {x:Int}:∀ (ns:List Int),kZ (.int x) (ns.map T.int)=decide (x∈ns)
 | []=>rfl
 | a::as=>by
  have:=rW (x:=x) as
  unfold kZ at this ⊢
  rw [f',Ka,this,dt,dt,eqD,Kb,Bool.or_eq_true,beq_iff_eq,decide_eq_true_iff,decide_eq_true_iff,m_,eq_comm]
theorem Ab {ns:List Int}:(br (dtL (ns.map T.int)) < 180)=True:=eq_true (by rw [fD];decide)
theorem zd {d:Nat}(h:d < 8):List.findIdx? (fun e=>eqD e (dt (ptP (st8 d)))) (dtL (jI.map fun x=>ptP x))=some d:=by
 rw [kA,JB,List.findIdx?_map,show (fun e=>eqD e (dt (ptP (st8 d)))) ∘ dt ∘ (fun x=>ptP x)=fun p=>decide (p=st8 d) from funext fun p=>y4]
 rcases d with _ | _ | _ | _ | _ | _ | _ | _ | d
 all_goals first | decide | exact absurd h (by lia)
theorem wV:br (dtL (jI.map fun x=>ptP x)) < 180:=JM (n0 jI) (by decide)
theorem EA:∀ k:Fin 8,atI [T.int 1,.int 1,.int 0,.int (-1),.int (-1),.int (-1),.int 0,.int 1] (k.val:Int)=some (.int (mD k.val)):=by
 rintro⟨d,h⟩
 rcases d with _ | _ | _ | _ | _ | _ | _ | _ | d
 all_goals first | rfl | exact absurd h (by lia)
theorem zI {p:Pt}{b:List Nat}{i:Nat}(h:i<=b.length):atI ((pts p b).map fun x=>ptP x) (i:Int)=some (ptP (aM p (b.take i))):=lh (by rw [w_,tV h];rfl)
theorem vJ {p:Pt}{d:Nat}(h:d < 8):aq (aq p d) ((d + 4) % 8)=p:=by
 have e:∀ d:Fin 8,(st8 d.val).1 + (st8 ((d.val + 4) % 8)).1=0/\(st8 d.val).2 + (st8 ((d.val + 4) % 8)).2=0:=by decide
 have:=e ⟨d,h⟩
 dsimp only at this
 unfold aq
 refine G' ?_ ?_
 ·show p.1 + (st8 d).1 + (st8 ((d + 4) % 8)).1=p.1;lia
 ·show p.2 + (st8 d).2 + (st8 ((d + 4) % 8)).2=p.2;lia
def bak (b:List Nat):List Nat:=b.reverse.map fun d=>(d + 4) % 8
theorem Bw {b:List Nat}:∀ {p:Pt},vR b->(pts p b).reverse=pts (aM p b) (bak b)/\aM (aM p b) (bak b)=p:=by
 induction b with
 | nil=>intro p _;exact⟨rfl,rfl⟩
 | cons d b ih=>
  intro p h
  obtain⟨h1,h2⟩:=ih (p:=aq p d) fun x m=>h x (o_ _ m)
  have d8:=h d (t_ ..)
  have e:bak (d::b)=bak b++[(d + 4) % 8]:=by unfold bak;rw [Kr,l_];rfl
  rw [e,pts,Kr,h1,aM,mz,fB,h2,vJ d8]
  exact⟨rfl,rfl⟩
theorem Be {g x:Int}{b:List Nat}:x∈sd g (bak b)↔- x∈sd g b:=by
 unfold sd bak
 rw [JB,A_,A_]
 constructor
 ·rintro⟨d,m,rfl⟩
  exact⟨d,LO.mp m,by show _=- au ((d + 4) % 8) g;rw [mB];lia⟩
 ·rintro⟨d,m,e⟩
  exact⟨d,LO.mpr m,by show au ((d + 4) % 8) g=x;rw [mB,e];lia⟩
theorem CL {g:Int}{p:Pt}{b:List Nat}(h:vR b)(n:¬ ((1:Int)∈sd g b/\(-1:Int)∈sd g b)):∃ q c,pcL g p b=pts q c/\vR c/\c.length=b.length/\¬ (-1:Int)∈sd g c:=by
 unfold pcL
 by_cases m:(-1:Int)∈sd g b
 ·rw [if_pos m]
  refine⟨_,bak b,(Bw h).1,fun d md=>?_,?_,fun z=>n ⟨Be.mp z,m⟩⟩
  ·unfold bak at md
   obtain⟨x,_,rfl⟩:=A_.mp md
   lia
  ·unfold bak;rw [b_,JY]
 ·rw [if_neg m]
  exact⟨p,b,rfl,h,rfl,m⟩
def mt (M:List Pt):List (List Key × T):=M.map fun p=>(key p,.bl true)
theorem HM {M:List Pt}:mt M=wt M (fun _=>true):=rfl
theorem Ff {M:List Pt}:erT (mt M)=mt M:=sV (R:=fun _=>true)
theorem wY {M:List Pt}:dv (mt M)=true:=o9 (R:=fun _=>true)
theorem zN {M:List Pt}:gD (mt M)=true:=qB (R:=fun _=>true)
theorem F7 {M:List Pt}:(mt M).length=M.length:=b_ ..
theorem zC (M:List Pt)(q:Pt):(dM (mt M) (key q)).isSome=decide (q∈M):=by
 rw [HM,qa]
 by_cases m:q∈M
 ·rw [if_pos m,decide_eq_true m];rfl
 ·rw [if_neg m,decide_eq_false m];rfl
theorem GQ {o:Bool}{M:List Pt}{q:Pt}{k:T->Prop}:inT (ptP q) (.dT o (mt M)) k=k (.bl (decide (q∈M))):=by rw [<-zC];rfl
theorem yz {o:Bool}{M:List Pt}{q:Pt}{k:T->Prop}:C8 (ptP q) (.dT o (mt M)) k=k (.bl (decide (q ∉ M))):=by
 rw [show decide (q ∉ M)=!decide (q∈M) from decide_not,<-zC];rfl
def wal (M:List Pt)(p:Pt):Bool:=jI.all fun s=>decide ((p.1 + s.1,p.2 + s.2)∈M)
def csP (s:Pt):T:=.cst [.int s.1,.int s.2]
theorem dC {s:Pt}{k:T->Prop}:ixT (csP s) (.int 0) k=k (.int s.1):=rfl
theorem dc {s:Pt}{k:T->Prop}:ixT (csP s) (.int 1) k=k (.int s.2):=rfl
theorem bK {s:Pt}:isAny (csP s)=false:=rfl
theorem eK {s:Pt}:er (csP s)=csP s:=rfl
theorem bM {s:Pt}:aG (csP s)=true:=rfl
theorem yo:[T.cst [T.int 1,T.int 0],T.cst [T.int 1,T.int 1],T.cst [T.int 0,T.int 1],T.cst [T.int (-1),T.int 1],T.cst [T.int (-1),T.int 0],T.cst [T.int (-1),T.int (-1)],T.cst [T.int 0,T.int (-1)],T.cst [T.int 1,T.int (-1)]]=jI.map csP:=rfl
def inB (x y w h:Int)(q:Pt):Prop:=x<=q.1/\q.1 < x + w/\y<=q.2/\q.2 < y + h
def dep (x y w h:Int)(q:Pt):Int:=min (min (q.1 - x) (x + w - 1 - q.1)) (min (q.2 - y) (y + h - 1 - q.2))
def Bxd (x y w h:Int)(ps:List Pt):Prop:=ps.Nodup/\∀ q,q∈ps↔inB x y w h q
def inn (x y w h:Int)(ps:List Pt)(d:Int):List Pt:=ps.filter fun q=>decide (d<=dep x y w h q)
theorem fS {x y w h d:Int}{q:Pt}:d<=dep x y w h q↔(d<=q.1 - x/\d<=x + w - 1 - q.1)/\(d<=q.2 - y/\d<=y + h - 1 - q.2):=by unfold dep;rw [Nm,Nm,Nm]
theorem qV {o a b n:Prop}(h:a↔b/\n):(o/\a)↔(o/\b)/\n:=by rw [h,and_assoc]
theorem H0 {x y w h:Int}{q:Pt}(g:inB x y w h q):0<=dep x y w h q:=by unfold inB at g;unfold dep;lia
theorem Ai {x y w h:Int}{ps:List Pt}(g:Bxd x y w h ps):inn x y w h ps 0=ps:=by
 unfold inn
 exact List.filter_eq_self.mpr fun q m=>decide_eq_true (H0 ((g.2 q).mp m))
theorem A1 {x y w h d:Int}{ps:List Pt}(g:Bxd x y w h ps)(hd:0<=d):(inn x y w h ps d).filter (wal (inn x y w h ps d))=inn x y w h ps (d + 1):=by
 unfold inn
 rw [M4]
 refine M9 fun q m=>?_
 have hq:=(g.2 q).mp m
 have hw:∀ s∈jI,((q.1 + s.1,q.2 + s.2)∈ME (fun q=>decide (d<=dep x y w h q)) ps)↔inB x y w h (q.1 + s.1,q.2 + s.2)/\d<=dep x y w h (q.1 + s.1,q.2 + s.2):=fun s _=>by
  rw [JV,g.2,decide_eq_true_iff]
 rw [Kb,C_,decide_eq_true_iff,decide_eq_true_iff]
 unfold wal
 rw [Kf]
 constructor
 ·rintro⟨h1,h2⟩
  have a:=fun s (ms:s∈jI)=>(hw s ms).mp (of_decide_eq_true (h1 s ms))
  have a0:=fS.mp (a (1,0) (by decide)).2
  have a1:=fS.mp (a (0,1) (by decide)).2
  have a2:=fS.mp (a (-1,0) (by decide)).2
  have a3:=fS.mp (a (0,-1) (by decide)).2
  clear a hw h1 h2
  refine fS.mpr ?_
  dsimp only at a0 a1 a2 a3
  omega
 ·intro h1
  refine⟨fun s ms=>decide_eq_true ((hw s ms).mpr ?_),by omega⟩
  have:s∈[(1,0),(1,1),(0,1),(-1,1),(-1,0),(-1,-1),(0,-1),(1,-1)]:=ms
  simp only [m_,JP,or_false] at this
  have h2:=fS.mp h1
  rw [fS]
  clear hw h1
  unfold inB at *
  rcases this with rfl | rfl | rfl | rfl | rfl | rfl | rfl | rfl <;> dsimp only at * <;> omega
def vt (ks:List Pt)(f:Pt->Int):List (List Key × T):=ks.map fun q=>(key q,.int (f q))
theorem d4 {ks:List Pt}{f:Pt->Int}:erT (vt ks f)=vt ks f:=by
 unfold vt
 induction ks with
 | nil=>rfl
 | cons p ks ih=>rw [f',erT,ih];rfl
theorem bg {ks:List Pt}{f:Pt->Int}:dv (vt ks f)=true:=by
 unfold vt
 induction ks with
 | nil=>rfl
 | cons p ks ih=>rw [f',dv,ih];rfl
theorem bL {ks:List Pt}{f:Pt->Int}:gD (vt ks f)=true:=by
 unfold vt
 induction ks with
 | nil=>rfl
 | cons p ks ih=>rw [f',gD,ih];rfl
theorem dy {ks:List Pt}{f:Pt->Int}:(vt ks f).length=ks.length:=b_ ..
theorem Ah {ks:List Pt}{f:Pt->Int}{q:Pt}:((vt ks f).any fun kv=>decide (kv.1=key q))=decide (q∈ks):=by
 rw [Kb,KW,decide_eq_true_iff]
 constructor
 ·rintro⟨kv,m,e⟩
  obtain⟨p,hp,rfl⟩:=A_.mp m
  rw [<-hC (of_decide_eq_true e)]
  exact hp
 ·exact fun m=>⟨_,A_.mpr ⟨q,m,rfl⟩,decide_eq_true rfl⟩
theorem mE {ks:List Pt}{f g:Pt->Int}(h:∀ q∈ks,f q=g q):vt ks f=vt ks g:=B' fun q m=>by rw [h q m]
theorem Fz {ks:List Pt}{f:Pt->Int}{p:Pt}(h:p ∉ ks):dZ (vt ks f) (key p) (.int (f p))=vt (ks++[p]) f:=by
 unfold dZ
 rw [Ah,if_neg (by rw [decide_eq_true_iff];exact h)]
 unfold vt
 rw [l_]
 rfl
theorem EN {ks:List Pt}{f g:Pt->Int}{p:Pt}(h:p∈ks)(hg:∀ q,q≠p->f q=g q):dZ (vt ks f) (key p) (.int (g p))=vt ks g:=by
 unfold dZ
 rw [Ah,if_pos (by rw [decide_eq_true_iff];exact h)]
 unfold vt
 rw [JB]
 refine B' fun q _=>?_
 show (if key q=key p then (key q,T.int (g p)) else (key q,T.int (f q)))=_
 by_cases e:q=p
 ·rw [e,if_pos rfl]
 ·rw [if_neg (fun z=>e (hC z)),hg q e]
theorem FY {ks:List Pt}{f:Pt->Int}{q:Pt}(m:q∈ks):dM (vt ks f) (key q)=some (.int (f q)):=by
 unfold dM vt
 induction ks with
 | nil=>cases m
 | cons p ks ih=>
  rw [f',JG]
  by_cases h:p=q
  ·subst h
   rw [decide_eq_true (by rfl)]
   rfl
  ·rw [decide_eq_false (fun z=>h (hC z))]
   exact ih ((m_.mp m).resolve_left fun z=>h z.symm)
theorem Bq {ks:List Pt}{f:Pt->Int}:(vt ks f).map (·.1)=(ks.map row).map kI:=by
 unfold vt
 rw [JB,JB]
 rfl
def prD (x y w h:Int)(q:Pt):T:=.tup [ptP q,.int (dep x y w h q)]
theorem eU {o:Bool}{ks:List Pt}{f:Pt->Int}{p:Pt}{k:T->Prop}:ixT (.dT o (vt ks f)) (ptP p) k=fM (dM (vt ks f) (key p)) (k:=⟨k⟩):=rfl
theorem rJ {ps:List Pt}{p:Pt}(h:p∈ps):p∈bW ps:=by
 unfold bW
 exact A_.mpr ⟨row p,(cW (lt:=ZS.ltL) (ps.map row)).mem_iff.mpr (A_.mpr ⟨p,h,rfl⟩),rfl⟩
def lyr (x y w h:Int)(l:List Pt)(n:Nat):List (List Pt):=(y_ n).map fun (k:Nat)=>l.filter fun q=>decide (dep x y w h q=(k:Int))
def lyI (l:List Pt):T:=.lst true (l.map ptP)
theorem d9 {l:List Pt}:er (lyI l)=.lst false (l.map ptP):=by unfold lyI;rw [er,fP];rfl
theorem yr {x y w h:Int}{l:List Pt}{n:Nat}(g:∀ q∈l,dep x y w h q < n):lyr x y w h l (n + 1)=lyr x y w h l n++[[]]:=by
 unfold lyr
 rw [LV,l_]
 congr 1
 rw [Ma,List.filter_eq_nil_iff.mpr]
 intro q m
 rw [decide_eq_true_iff]
 have:=g q m
 lia
theorem Bx {x y w h:Int}{l:List Pt}{n d:Nat}{p:Pt}(hd:dep x y w h p=d)(hn:d < n):lyr x y w h (l++[p]) n=(lyr x y w h l n).set d ((l.filter fun q=>decide (dep x y w h q=(d:Int)))++[p]):=by
 refine LF fun i=>?_
 unfold lyr
 by_cases hi:i < n
 ·rw [w_,JQ hi]
  by_cases e:d=i
  ·subst e
   rw [K7 (by rw [b_,JI];exact hn)]
   show some (ME (fun q=>decide (dep x y w h q=(d:Int))) (l++[p]))=some _
   rw [Lv,Mt,if_pos (decide_eq_true hd)]
   rfl
  ·rw [KL e,w_,JQ hi]
   show some (ME (fun q=>decide (dep x y w h q=(i:Int))) (l++[p]))=some _
   rw [Lv,Mt,if_neg (by rw [decide_eq_true_iff,hd];lia),List.filter_nil,JF]
 ·rw [JL (by rw [b_,JI];lia),JL (by rw [I_,b_,JI];lia)]
theorem G7 {x y w h:Int}{l:List Pt}{n d:Nat}(hn:d < n):(lyr x y w h l n)[d]?=some (l.filter fun q=>decide (dep x y w h q=(d:Int))):=by
 unfold lyr
 rw [w_,JQ hn]
 rfl
theorem p8 {x y w h:Int}{l:List Pt}{n:Nat}:(lyr x y w h l n).length=n:=by unfold lyr;rw [b_,JI]
theorem cB {n:Nat}{gs:mN}{x y w h:Int}{q:Pt}{env:Ev}{k:Ev->Prop}:gTp n gs (prD x y w h q) env k=gTp n gs (.tup [ptP q,.int (dep x y w h q)]) env k:=rfl
theorem dD {x y w h:Int}{q:Pt}:er (prD x y w h q)=prD x y w h q:=rfl
theorem bG {x y w h:Int}{q:Pt}:bV (prD x y w h q)=true:=rfl
theorem cv {fe fa fk:PF}{env:Ev}{k:T->Ev->Prop}:GL fe fa fk env k=fe env fun t env1=>fa env1 fun u env2=>fk env2 fun v env3=>∃ o ts i j,t=.lst o ts/\u=.int i/\v=.int j/\aC ts=true/\0<=i/\0 < j/\k (.lst true (d6 ts i j)) env3:=rfl
def rep (n d:Nat):List Nat:=JA n d
def dsR (w h:Nat):List Nat:=if w=1 then rep (h - 1) 2 else if h=1 then rep (w - 1) 0 else rep (w - 1) 0++(rep (h - 1) 2++(rep (w - 1) 4++rep (h - 1) 6))
theorem dR {d:Nat}(n:Nat):∀ (p:Pt),aM p (rep n d)=(p.1 + (st8 d).1 * n,p.2 + (st8 d).2 * n):=by
 unfold rep
 induction n with
 | zero=>intro p;exact G' (by show p.1=p.1 + (st8 d).1 * ((0:Nat):Int);simp) (by show p.2=p.2 + (st8 d).2 * ((0:Nat):Int);simp)
 | succ n ih=>
  intro p
  rw [Kw,aM,ih]
  unfold aq
  have e:((n + 1:Nat):Int)=(n:Int) + 1:=by lia
  rw [e,NF,NF,L6,L6]
  exact G' (by dsimp only;lia) (by dsimp only;lia)
theorem lB {d:Nat}(n:Nat)(p:Pt):pts p (rep n d)=(y_ (n + 1)).map fun (i:Nat)=>(p.1 + (st8 d).1 * i,p.2 + (st8 d).2 * i):=by
 refine LF fun i=>?_
 have ln:(rep n d).length=n:=JU
 by_cases hi:i<=n
 ·rw [tV (by rw [ln];exact hi),w_,JQ (by lia)]
  have:(rep n d).take i=rep i d:=by unfold rep;rw [List.take_replicate,KD hi]
  rw [this,dR]
  rfl
 ·rw [JL (by rw [eN,ln];lia),JL (by rw [b_,JI];lia)]
theorem uI {p:Pt}:∀ {ds es:List Nat},pts p (ds++es)=pts p ds++(pts (aM p ds) es).drop 1:=by
 intro ds es
 induction ds generalizing p with
 | nil=>
  obtain⟨l,e⟩:=mC (p:=p) (ds:=es)
  show pts p es=[p]++(pts p es).drop 1
  rw [e]
  rfl
 | cons d ds ih=>
  show p::pts (aq p d) (ds++es)=p::pts (aq p d) ds++_
  rw [ih]
  rfl
theorem qw {p:Pt}{ds es:List Nat}:(pts p (ds++es)).drop 1=(pts p ds).drop 1++(pts (aM p ds) es).drop 1:=by
 rw [uI]
 obtain⟨l,e⟩:=mC (p:=p) (ds:=ds)
 rw [e]
 rfl
theorem mF {d:Nat}(n:Nat)(p:Pt):(pts p (rep n d)).drop 1=(y_ n).map fun (i:Nat)=>(p.1 + (st8 d).1 * (i + 1),p.2 + (st8 d).2 * (i + 1)):=by
 rw [lB,MB,f',List.drop_succ_cons,KR,JB]
 refine B' fun i _=>?_
 show (p.1 + (st8 d).1 * ((i + 1:Nat):Int),p.2 + (st8 d).2 * ((i + 1:Nat):Int))=_
 rw [show ((i + 1:Nat):Int)=(i:Int) + 1 by lia]
theorem fX:st8 0=(1,0):=rfl
theorem fW:st8 2=(0,1):=rfl
theorem jd:st8 4=(-1,0):=rfl
theorem jE:st8 6=(0,-1):=rfl
def rl {α:Type}(n:Nat)(f:Nat->α):List α:=(y_ n).map f
theorem xZ {x y:Int}{w h:Nat}(hw:2<=w)(hh:2<=h):pts (x,y) (dsR w h)=rl w (fun i=>(x + i,y))++rl (h - 1) (fun i=>(x + w - 1,y + (1 + (i:Int))))++rl (w - 1) (fun i=>(x + ((w:Int) - 1 - 1 - i),y + h - 1))++rl (h - 1) (fun i=>(x,y + ((h:Int) - 1 - 1 - i))):=by
 unfold dsR rl
 rw [if_neg (by lia),if_neg (by lia),uI,qw,qw,mF,mF,mF,lB]
 simp only [dR,fX,fW,jd,jE]
 rw [show w - 1 + 1=w by lia,gV,gV]
 congr 1
 ·exact B' fun i _=>G' (by dsimp only;lia) (by dsimp only;lia)
 congr 1
 ·exact B' fun i _=>G' (by dsimp only;lia) (by dsimp only;lia)
 congr 1
 ·exact B' fun i _=>G' (by dsimp only;lia) (by dsimp only;lia)
 ·exact B' fun i _=>G' (by dsimp only;lia) (by dsimp only;lia)
theorem lg {α:Type}{n:Nat}{f:Nat->α}:rl (n + 1) f=rl n f++[f n]:=by unfold rl;rw [LV,l_];rfl
theorem cT {α:Type}{n:Nat}{f:Nat->α}:(rl n f).length=n:=by unfold rl;rw [b_,JI]
theorem lO {lo:Int}{n:Nat}:(dnT lo n).length=n:=by unfold dnT;rw [b_,JI]
theorem DQ {lo:Int}{n i:Nat}{t:T}(h:(dnT lo n)[i]?=some t):i < n/\t=.int (lo - i):=by
 have hi:=(e_.mp h).1
 rw [lO] at hi
 unfold dnT at h
 rw [w_,JQ hi] at h
 cases h
 exact⟨hi,rfl⟩
theorem ck {fr:PFs}{env:Ev}{k:List T->Ev->Prop}:HF fr env k=fr env fun ts env1=>as1 ts fun j=>(0<=j/\j < 2 ^ 60)/\k (dnT (j - 1) j.toNat) env1:=rfl
def flw (F:(Pt->Bool)->Prop)(S:Pt->Bool)(c:Pt)(cur:List Nat):List Nat->Prop
 | []=>nx S c cur=none/\F S
 | d::r=>nx S c cur=some d/\flw F (off S (aq c d)) (aq c d) (D8 d TN) r
theorem CW {F:(Pt->Bool)->Prop}:∀ {ds:List Nat} {n:Nat} {S:Pt->Bool} {c:Pt} {cur:List Nat},flw F S c cur ds->ds.length<=n->c::(goR n S c (nx S c cur)).1=pts c ds/\F (goR n S c (nx S c cur)).2:=by
 intro ds
 induction ds with
 | nil=>
  intro n S c cur h _
  rw [h.1]
  cases n <;> exact⟨rfl,h.2⟩
 | cons d r ih=>
  intro n S c cur h hn
  cases n with
  | zero=>cases hn
  | succ n=>
   rw [h.1,goR]
   obtain⟨h1,h2⟩:=ih h.2 (MF hn)
   refine⟨?_,h2⟩
   show c::(aq c d::_)=c::pts (aq c d) r
   rw [h1]
theorem sC {S:Pt->Bool}{c:Pt}{cur pre post:List Nat}{d:Nat}(e:cur=pre++d::post)(h1:∀ x∈pre,S (aq c x)=false)(h2:S (aq c d)=true):nx S c cur=some d:=by
 unfold nx
 rw [e,LH,L'.mpr (fun x m=>by rw [h1 x m];decide),JG]
 show Option.or none (match S (aq c d) with | true=>some d | false=>_)=_
 rw [h2]
 rfl
theorem mQ {S:Pt->Bool}{c:Pt}{cur:List Nat}(h:∀ x∈cur,S (aq c x)=false):nx S c cur=none:=by
 unfold nx
 exact L'.mpr fun x m=>by rw [h x m];decide
def SP (S:Pt->Bool)(R:Pt->Prop):Prop:=∀ q,S q=true↔R q
theorem iU {S:Pt->Bool}{R:Pt->Prop}{q:Pt}(h:SP S R)(n:¬ R q):S q=false:=by
 cases e:S q with
 | false=>rfl
 | true=>exact absurd ((h q).mp e) n
theorem CQ {d:Nat}(h:d < 8):∃ t,D8 d TN=d::t:=⟨_,by unfold D8 TN;rw [f',Ly,Nat.mod_eq_of_lt h]⟩
theorem gL {F:(Pt->Bool)->Prop}{d:Nat}(hd:d < 8){pos:Nat->Pt}{P:Nat->Pt->Prop}{rest:List Nat}{M:Nat}(hpos:∀ i,pos (i + 1)=aq (pos i) d)(hP:∀ i,i < M->P i (pos (i + 1))/\∀ q,P (i + 1) q↔P i q/\q≠pos (i + 1))(hend:∀ S,SP S (P M)->flw F S (pos M) (D8 d TN) rest) :
  ∀ (m:Nat) {i:Nat} {S:Pt->Bool} {cur pre post:List Nat},i + (m + 1)=M->SP S (P i)->cur=pre++d::post->(∀ x∈pre,S (aq (pos i) x)=false)->flw F S (pos i) cur (rep (m + 1) d++rest):=by
 intro m
 induction m with
 | zero=>
  intro i S cur pre post hi hs e h1
  obtain⟨p1,p2⟩:=hP i (by lia)
  refine⟨sC e h1 (by rw [<-hpos];exact (hs _).mpr p1),?_⟩
  rw [<-hpos,show i + 1=M by omega]
  rw [show i + 1=M by omega] at p2
  refine hend _ fun q=>?_
  unfold off
  rw [p2 q]
  by_cases z:q=pos M
  ·rw [if_pos z];exact⟨(fun y=>nomatch y),fun y=>absurd z y.2⟩
  ·rw [if_neg z,hs q];exact⟨fun y=>⟨y,z⟩,fun y=>y.1⟩
 | succ m ih=>
  intro i S cur pre post hi hs e h1
  obtain⟨p1,p2⟩:=hP i (by lia)
  refine⟨sC e h1 (by rw [<-hpos];exact (hs _).mpr p1),?_⟩
  rw [<-hpos]
  obtain⟨t,et⟩:=CQ hd
  refine ih (i:=i + 1) (pre:=[]) (post:=t) (by lia) (fun q=>?_) et (fun x mx=>nomatch mx)
  unfold off
  rw [p2 q]
  by_cases z:q=pos (i + 1)
  ·rw [if_pos z];exact⟨(fun y=>nomatch y),fun y=>absurd z y.2⟩
  ·rw [if_neg z,hs q];exact⟨fun y=>⟨y,z⟩,fun y=>y.1⟩
def onF (x y w h:Int)(q:Pt):Prop:=inB x y w h q/\(q.1=x\/q.1=x + w - 1\/q.2=y\/q.2=y + h - 1)
def R0 (x y w h:Int)(i:Nat)(q:Pt):Prop:=onF x y w h q/\¬ (q.2=y/\q.1<=x + i)
def R1 (x y w h:Int)(i:Nat)(q:Pt):Prop:=onF x y w h q/\q.2≠y/\¬ (q.1=x + w - 1/\q.2<=y + i)
def R2 (x y w h:Int)(i:Nat)(q:Pt):Prop:=onF x y w h q/\q.2≠y/\q.1≠x + w - 1/\¬ (q.2=y + h - 1/\x + w - 1 - i<=q.1)
def R3 (x y w h:Int)(i:Nat)(q:Pt):Prop:=onF x y w h q/\q.2≠y/\q.1≠x + w - 1/\q.2≠y + h - 1/\¬ (q.1=x/\y + h - 1 - i<=q.2)
theorem st1 (c:Pt)(d:Nat):aq c d=(c.1 + (st8 d).1,c.2 + (st8 d).2):=rfl
theorem nY {q:Pt}{a b:Int}:q≠(a,b)↔¬ (q.1=a/\q.2=b):=not_congr ⟨fun e=>by rw [e];exact⟨rfl,rfl⟩,fun e=>G' e.1 e.2⟩
theorem J6:D8 0 TN=[0,1,7,2,6,3,5]:=rfl
theorem Ja:D8 2 TN=[2,3,1,4,0,5,7]:=rfl
theorem Jh:D8 4 TN=[4,5,3,6,2,7,1]:=rfl
theorem Jv:D8 6 TN=[6,7,5,0,4,1,3]:=rfl
theorem Jd:D8 0 ANY=[0,1,2,3,4,5,6,7]:=rfl
def noS (S:Pt->Bool):Prop:=∀ q,S q=false
theorem kR:st8 1=(1,1):=rfl
theorem lL:st8 3=(-1,1):=rfl
theorem oq:st8 5=(-1,-1):=rfl
theorem oC:st8 7=(1,-1):=rfl
theorem HW {x y:Int}{w h:Nat}(hw:2<=w)(hh:2<=h){S:Pt->Bool}(hs:SP S (R2 x y w h (w - 1))):flw noS S (x,y + h - 1) (D8 4 TN) (rep (h - 2) 6):=by
 by_cases e:h=2
 ·subst e
  refine⟨mQ fun d m=>iU hs ?_,fun q=>iU hs ?_⟩
  ·rw [Jh] at m
   simp only [m_,JP,or_false] at m
   unfold R2 onF inB
   rcases m with rfl | rfl | rfl | rfl | rfl | rfl | rfl <;> simp only [st1,fX,kR,fW,lL,jd,oq,jE,oC] <;> lia
  ·unfold R2 onF inB
   omega
 ·have hr:=gL (F:=noS) (d:=6) (by decide) (pos:=fun i=>(x,y + h - 1 - (i:Int))) (P:=R3 x y w h) (rest:=[]) (M:=h - 2) (fun i=>by
   rw [st1,jE]
   exact G' (by dsimp only;lia) (by dsimp only;lia)) (fun i hi=>⟨by unfold R3 onF inB;dsimp only;lia,fun q=>by
   rw [nY];exact qV (by omega)⟩) (fun S hs=>⟨mQ fun d m=>iU hs (by
    rw [Jv] at m
    simp only [m_,JP,or_false] at m
    unfold R3 onF inB
    rcases m with rfl | rfl | rfl | rfl | rfl | rfl | rfl <;> simp only [st1,fX,kR,fW,lL,jd,oq,jE,oC] <;> lia),fun q=>iU hs (by
    unfold R3 onF inB
    lia)⟩) (h - 3) (i:=0) (S:=S) (cur:=D8 4 TN) (pre:=[4,5,3]) (post:=[2,7,1]) (by lia) (fun q=>by
   rw [hs q];exact and_congr_right fun o=>by have:=o.1;unfold inB at this;omega) rfl (fun d m=>iU hs (by
   simp only [m_,JP,or_false] at m
   unfold R2 onF inB
   rcases m with rfl | rfl | rfl <;> simp only [st1,lL,jd,oq] <;> omega))
  rw [JF,show h - 3 + 1=h - 2 by lia] at hr
  have e2:((x,y + (h:Int) - 1 - ((0:Nat):Int)):Pt)=(x,y + h - 1):=G' rfl (by dsimp only;lia)
  rw [e2] at hr
  exact hr
theorem Ho {x y:Int}{w h:Nat}(hw:2<=w)(hh:2<=h){S:Pt->Bool}(hs:SP S (R1 x y w h (h - 1))):flw noS S (x + w - 1,y + h - 1) (D8 2 TN) (rep (w - 1) 4++rep (h - 2) 6):=by
 have hr:=gL (F:=noS) (d:=4) (by decide) (pos:=fun i=>(x + w - 1 - (i:Int),y + h - 1)) (P:=R2 x y w h) (rest:=rep (h - 2) 6) (M:=w - 1) (fun i=>by
  rw [st1,jd]
  exact G' (by dsimp only;lia) (by dsimp only;lia)) (fun i hi=>⟨by unfold R2 onF inB;dsimp only;lia,fun q=>by
  rw [nY];exact qV (by omega)⟩) (fun S hs=>by
   have e2:((x + (w:Int) - 1 - ((w - 1:Nat):Int),y + h - 1):Pt)=(x,y + h - 1):=G' (by dsimp only;lia) rfl
   rw [e2]
   exact HW hw hh hs) (w - 2) (i:=0) (S:=S) (cur:=D8 2 TN) (pre:=[2,3,1]) (post:=[0,5,7]) (by lia) (fun q=>by
  rw [hs q];exact and_congr_right fun o=>by have:=o.1;unfold inB at this;omega) rfl (fun d m=>iU hs (by
  simp only [m_,JP,or_false] at m
  unfold R1 onF inB
  rcases m with rfl | rfl | rfl <;> simp only [st1,kR,fW,lL] <;> lia))
 rw [show w - 2 + 1=w - 1 by lia] at hr
 have e2:((x + (w:Int) - 1 - ((0:Nat):Int),y + (h:Int) - 1):Pt)=(x + w - 1,y + h - 1):=G' (by dsimp only;lia) rfl
 rw [e2] at hr
 exact hr
theorem IL {x y:Int}{w h:Nat}(hw:2<=w)(hh:2<=h){S:Pt->Bool}(hs:SP S (R0 x y w h (w - 1))):flw noS S (x + w - 1,y) (D8 0 TN) (rep (h - 1) 2++(rep (w - 1) 4++rep (h - 2) 6)):=by
 have hr:=gL (F:=noS) (d:=2) (by decide) (pos:=fun i=>(x + w - 1,y + (i:Int))) (P:=R1 x y w h) (rest:=rep (w - 1) 4++rep (h - 2) 6) (M:=h - 1) (fun i=>by
  rw [st1,fW]
  exact G' (by dsimp only;lia) (by dsimp only;lia)) (fun i hi=>⟨by unfold R1 onF inB;dsimp only;lia,fun q=>by
  rw [nY];exact qV (by omega)⟩) (fun S hs=>by
   have e2:((x + (w:Int) - 1,y + ((h - 1:Nat):Int)):Pt)=(x + w - 1,y + h - 1):=G' rfl (by dsimp only;lia)
   rw [e2]
   exact Ho hw hh hs) (h - 2) (i:=0) (S:=S) (cur:=D8 0 TN) (pre:=[0,1,7]) (post:=[6,3,5]) (by lia) (fun q=>by
  rw [hs q];exact and_congr_right fun o=>by have:=o.1;unfold inB at this;omega) rfl (fun d m=>iU hs (by
  simp only [m_,JP,or_false] at m
  unfold R0 onF inB
  rcases m with rfl | rfl | rfl <;> simp only [st1,fX,kR,oC] <;> lia))
 rw [show h - 2 + 1=h - 1 by lia] at hr
 have e2:((x + (w:Int) - 1,y + ((0:Nat):Int)):Pt)=(x + w - 1,y):=G' rfl (by dsimp only;lia)
 rw [e2] at hr
 exact hr
def dsO (w h:Nat):List Nat:=if w=1 then rep (h - 1) 2 else if h=1 then rep (w - 1) 0 else rep (w - 1) 0++(rep (h - 1) 2++(rep (w - 1) 4++rep (h - 2) 6))
theorem Gq {x y:Int}{w h:Nat}(hw:1<=w)(hh:1<=h){S:Pt->Bool}(hs:SP S (fun q=>onF x y w h q/\q≠(x,y))):flw noS S (x,y) (D8 0 ANY) (dsO w h):=by
 unfold dsO
 have e0:∀ q,S q=true↔R0 x y w h 0 q:=fun q=>by
  have t:S q=true↔onF x y w h q/\q≠(x,y):=hs q
  rw [t,nY];exact and_congr_right fun o=>by have:=o.1;unfold inB at this;omega
 by_cases w1:w=1
 ·rw [if_pos w1]
  subst w1
  by_cases h1:h=1
  ·subst h1
   refine⟨mQ fun d m=>iU e0 ?_,fun q=>iU e0 ?_⟩
   ·rw [Jd] at m
    simp only [m_,JP,or_false] at m
    unfold R0 onF inB
    rcases m with rfl | rfl | rfl | rfl | rfl | rfl | rfl | rfl <;> simp only [st1,fX,kR,fW,lL,jd,oq,jE,oC] <;> omega
   ·unfold R0 onF inB
    lia
  ·have hr:=gL (F:=noS) (d:=2) (by decide) (pos:=fun i=>(x,y + (i:Int))) (P:=R1 x y 1 h) (rest:=[]) (M:=h - 1) (fun i=>by
    rw [st1,fW]
    exact G' (by dsimp only;lia) (by dsimp only;lia)) (fun i hi=>⟨by unfold R1 onF inB;dsimp only;lia,fun q=>by
    rw [nY];exact qV (by omega)⟩) (fun S hs=>⟨mQ fun d m=>iU hs (by
     rw [Ja] at m
     simp only [m_,JP,or_false] at m
     unfold R1 onF inB
     rcases m with rfl | rfl | rfl | rfl | rfl | rfl | rfl <;> simp only [st1,fX,kR,fW,lL,jd,oq,jE,oC] <;> lia),fun q=>iU hs (by
     unfold R1 onF inB
     omega)⟩) (h - 2) (i:=0) (S:=S) (cur:=D8 0 ANY) (pre:=[0,1]) (post:=[3,4,5,6,7]) (by lia) (fun q=>by
    rw [e0 q];exact and_congr_right fun o=>by have:=o.1;unfold inB at this;omega) rfl (fun d m=>iU e0 (by
    simp only [m_,JP,or_false] at m
    unfold R0 onF inB
    rcases m with rfl | rfl <;> simp only [st1,fX,kR] <;> omega))
   rw [JF,show h - 2 + 1=h - 1 by lia] at hr
   have e2:((x,y + ((0:Nat):Int)):Pt)=(x,y):=G' rfl (by dsimp only;lia)
   rw [e2] at hr
   exact hr
 ·rw [if_neg w1]
  have side:∀ (rest:List Nat),(∀ S,SP S (R0 x y w h (w - 1))->flw noS S (x + w - 1,y) (D8 0 TN) rest)->flw noS S (x,y) (D8 0 ANY) (rep (w - 1) 0++rest):=fun rest hend=>by
   have hr:=gL (F:=noS) (d:=0) (by decide) (pos:=fun i=>(x + (i:Int),y)) (P:=R0 x y w h) (rest:=rest) (M:=w - 1) (fun i=>by
    rw [st1,fX]
    exact G' (by dsimp only;lia) (by dsimp only;lia)) (fun i hi=>⟨by unfold R0 onF inB;dsimp only;lia,fun q=>by
    rw [nY];exact qV (by omega)⟩) (fun S hs=>by
     have e2:((x + ((w - 1:Nat):Int),y):Pt)=(x + w - 1,y):=G' (by dsimp only;lia) rfl
     rw [e2]
     exact hend S hs) (w - 2) (i:=0) (S:=S) (cur:=D8 0 ANY) (pre:=[]) (post:=[1,2,3,4,5,6,7]) (by lia) e0 rfl (fun d m=>nomatch m)
   rw [show w - 2 + 1=w - 1 by lia] at hr
   have e2:((x + ((0:Nat):Int),y):Pt)=(x,y):=G' (by dsimp only;lia) rfl
   rw [e2] at hr
   exact hr
  by_cases h1:h=1
  ·rw [if_pos h1]
   subst h1
   have:=side [] fun S hs=>⟨mQ fun d m=>iU hs (by
    rw [J6] at m
    simp only [m_,JP,or_false] at m
    unfold R0 onF inB
    rcases m with rfl | rfl | rfl | rfl | rfl | rfl | rfl <;> simp only [st1,fX,kR,fW,lL,jd,oq,jE,oC] <;> lia),fun q=>iU hs (by
    unfold R0 onF inB
    omega)⟩
   rw [JF] at this
   exact this
  ·rw [if_neg h1]
   exact side _ fun S hs=>IL (by lia) (by lia) hs
theorem Cs {F:(Pt->Bool)->Prop}:∀ {ds:List Nat} {S:Pt->Bool} {c:Pt} {cur:List Nat} {l:List Pt},flw F S c cur ds->(∀ q,S q=true->q∈l)->ds.length<=l.length:=by
 intro ds
 induction ds with
 | nil=>intro S c cur l _ _;exact B_ _
 | cons d r ih=>
  intro S c cur l h hl
  have m:=hl _ (uM h.1).1
  have:=ih (l:=l.erase (aq c d)) h.2 fun q hq=>by
   unfold off at hq
   by_cases z:q=aq c d
   ·rw [if_pos z] at hq;cases hq
   ·rw [if_neg z] at hq;exact (List.mem_erase_of_ne z).mpr (hl q hq)
  rw [List.length_erase_of_mem m] at this
  have:=List.length_pos_of_mem m
  rw [h_]
  lia
theorem tE {ks:List Pt}:∀ {ps:List Pt} {R:Pt->Bool},noS R->gc ks ps R=[]:=by
 intro ps
 induction ps with
 | nil=>intro R _;rfl
 | cons p ps ih=>
  intro R h
  rw [gc,if_neg (by rw [h p];decide)]
  exact ih h
def leP (a b:Pt):Prop:=ZS.ltL (row b) (row a)=false
theorem AB (ps:List Pt):(bW ps).Perm ps:=by
 unfold bW
 have:=(cW (lt:=ZS.ltL) (ps.map row)).map Br
 rw [JB] at this
 have e:ps.map (Br ∘ row)=ps:=by
  exact (B' (g:=id) (fun p _=>rfl)).trans (MD _)
 rw [e] at this
 exact this
theorem B5 (ps:List Pt):(bW ps).Pairwise leP:=by
 unfold bW
 rw [KJ]
 refine Kn (fun {a b} ma mb h=>?_) (gh ZS.wL (ps.map row))
 have ra:∀ a∈tS (ps.map row),row (Br a)=a:=fun a m=>by
  obtain⟨p,_,rfl⟩:=A_.mp ((cW (lt:=ZS.ltL) (ps.map row)).mem_iff.mp m)
  rfl
 unfold leP
 rw [ra a ma,ra b mb]
 exact h
theorem EM {a b:Pt}(h:leP a b):a.1 < b.1\/a.1=b.1/\a.2<=b.2:=by
 unfold leP row at h
 rw [ZS.ltL] at h
 by_cases e:b.1=a.1
 ·rw [if_pos e,ZS.ltL] at h
  by_cases e2:b.2=a.2
  ·lia
  ·rw [if_neg e2,decide_eq_false_iff_not] at h
   lia
 ·rw [if_neg e,decide_eq_false_iff_not] at h
  lia
theorem xD {p:Pt}{l:List Pt}{ds:List Nat}(h:p::l=pts p ds):gP p l=aM p ds:=by
 obtain⟨a,ea⟩:=oB (p:=p) (ps:=l)
 obtain⟨b,eb⟩:=qJ (p:=p) (ds:=ds)
 rw [h,eb] at ea
 have:=congrArg List.getLast? ea
 rw [MQ,MQ] at this
 exact (x_ this).symm
theorem Em {x y:Int}{w h:Nat}(hw:2<=w)(hh:2<=h):aM (x,y) (dsO w h)=(x,y + 1):=by
 unfold dsO
 rw [if_neg (by lia),if_neg (by lia),dW,dW,dW,dR,dR,dR,dR,fX,fW,jd,jE]
 exact G' (by dsimp only;lia) (by dsimp only;lia)
theorem Ik {w h:Nat}(hw:2<=w)(hh:2<=h):dsR w h=dsO w h++[6]:=by
 unfold dsO dsR
 rw [if_neg (by lia),if_neg (by lia),if_neg (by lia),if_neg (by lia),gV,gV,gV]
 unfold rep
 rw [show h - 1=h - 2 + 1 by lia,MP (n:=h - 2) (a:=6),show h - 2 + 1=h - 1 by lia]
theorem xg {x y:Int}{w h:Nat}(hw:1<=w)(hh:1<=h){l:List Pt}(e:(x,y)::l=pts (x,y) (dsO w h)):jY (x,y) l=pts (x,y) (dsR w h):=by
 unfold jY
 rw [xD e,e,eN]
 by_cases w1:w=1
 ·subst w1
  unfold dsO dsR
  rw [if_pos rfl,if_pos rfl,if_neg]
  rw [dR,fW]
  unfold rep far
  rw [JU]
  dsimp only
  lia
 by_cases h1:h=1
 ·subst h1
  unfold dsO dsR
  rw [if_neg w1,if_pos rfl,if_neg]
  rw [dR,fX]
  unfold rep far
  rw [JU]
  dsimp only
  lia
 have c1:2 < (dsO w h).length + 1:=by
  unfold dsO rep
  rw [if_neg w1,if_neg h1]
  simp only [g_,JU]
  lia
 have c2:far (x,y + 1) (x,y)=1:=by
  unfold far
  dsimp only
  lia
 have c3:aq (x,y + 1) 6=(x,y):=by
  rw [st1,jE]
  exact G' (by dsimp only;lia) (by dsimp only;lia)
 rw [Ik (by lia) (by lia),mz,Em (by lia) (by lia),if_pos ⟨c1,c2⟩,c3]
theorem xy {x y:Int}{w h:Nat}(hw:1<=w)(hh:1<=h){l:List Pt}(hl:∀ q,q∈l↔onF x y w h q):gc l (bW l) (fun p=>decide (p∈l))=[pts (x,y) (dsR w h)]:=by
 have m0:(x,y)∈l:=(hl _).mpr (by unfold onF inB;dsimp only;lia)
 have ms:=rJ m0
 cases hs:bW l with
 | nil=>rw [hs] at ms;cases ms
 | cons p ps=>
  have so:=B5 l
  rw [hs,Ki] at so
  have ep:p=(x,y):=by
   rw [hs] at ms
   rcases m_.mp ms with z | z
   ·exact z.symm
   ·have h1:=EM (so.1 _ z)
    have h2:=(hl p).mp (gj (by rw [hs];exact t_ ..))
    unfold onF inB at h2
    dsimp only at h1
    exact G' (by dsimp only;lia) (by dsimp only;lia)
  subst ep
  have sp:SP (off (fun p=>decide (p∈l)) (x,y)) (fun q=>onF x y w h q/\q≠(x,y)):=fun q=>by
   unfold off
   by_cases z:q=(x,y)
   ·rw [if_pos z];exact⟨(fun y=>nomatch y),fun y=>absurd z y.2⟩
   ·rw [if_neg z,decide_eq_true_iff,hl q];exact⟨fun y=>⟨y,z⟩,fun y=>y.1⟩
  have fl:=Gq hw hh sp
  have len:=Cs (l:=l) fl fun q hq=>(hl q).mpr ((sp q).mp hq).1
  obtain⟨g1,g2⟩:=CW fl len
  rw [gc,if_pos (decide_eq_true m0),tE g2,xg hw hh g1]
theorem C7 {x y:Int}{w h k:Nat}{ps:List Pt}(hb:Bxd x y w h ps)(hk:2 * k < min w h)(q:Pt):q∈(bW ps).filter (fun q=>decide (dep x y w h q=(k:Int)))↔onF (x + k) (y + k) (w - 2 * k:Nat) (h - 2 * k:Nat) q:=by
 rw [JV,decide_eq_true_iff,(AB ps).mem_iff,hb.2 q,show (dep x y w h q=(k:Int))↔((k:Int)<=dep x y w h q/\¬ (k:Int) + 1<=dep x y w h q) by omega,fS,fS]
 unfold onF inB
 omega
theorem CT {x y w h:Int}{k:Nat}{ps:List Pt}(hb:Bxd x y w h ps):((bW ps).filter (fun q=>decide (dep x y w h q=(k:Int)))).Nodup:=List.Pairwise.filter _ ((AB ps).nodup_iff.mpr hb.1)
theorem zV {x y w h:Int}{k:Nat}{ps:List Pt}:((bW ps).filter (fun q=>decide (dep x y w h q=(k:Int)))).length<=ps.length:=r_ (KC ..) (Lu iL)
theorem Cf {α β:Type}{g:α->Option β}{h:α->β}:∀ {l:List α},(∀ x∈l,g x=some (h x))->l.filterMap g=l.map h:=by
 intro l
 induction l with
 | nil=>intro _;rfl
 | cons x l ih=>
  intro e
  rw [Ll,e x (t_ ..),ih fun y m=>e y (o_ _ m)]
  rfl
theorem CH {α:Type}{f:Nat->α}{n a b m:Nat}(hb:1<=b)(h1:∀ i,i < m->a + i * b < n)(h2:¬ a + m * b < n):d6 ((y_ n).map f) (a:Int) (b:Int)=rl m fun i=>f (a + i * b):=by
 unfold d6 sliceRange rl
 have hl:((y_ n).map f).length=n:=by rw [b_,JI]
 rw [hl,if_pos (show (b:Int) > 0 by lia)]
 have ec:(if max 0 (min (a:Int) n) < (n:Int) then ((n:Int) - max 0 (min (a:Int) n) + b - 1) / b else 0).toNat=m:=by
  cases m with
  | zero=>
   rw [Mv] at h2
   rw [if_neg (by lia)]
   rfl
  | succ m=>
   have h3:=h1 m (Nf m)
   have h4:=h1 0 (NA m)
   rw [Mv] at h4
   rw [L8,L9] at h2
   have em:max 0 (min (a:Int) n)=a:=by lia
   have ep:((m * b:Nat):Int)=(m:Int) * b:=Nn m b
   rw [em,if_pos (by lia)]
   have e1:(m:Int) + 1<=((n:Int) - a + b - 1) / b:=(Int.le_ediv_iff_mul_le (by lia)).mpr (by rw [NG,Int.one_mul];lia)
   have e2:((n:Int) - a + b - 1) / b < (m:Int) + 2:=(Int.ediv_lt_iff_lt_mul (by lia)).mpr (by rw [NG];lia)
   lia
 dsimp only
 rw [ec,MZ]
 refine Cf fun i mi=>?_
 have hi:=h1 i (KQ.mp mi)
 have ep:((i * b:Nat):Int)=(b:Int) * i:=by rw [Nn,Int.mul_comm]
 show ((y_ n).map f)[(max 0 (min (a:Int) n) + (b:Int) * i).toNat]?=_
 rw [show (max 0 (min (a:Int) n) + (b:Int) * i).toNat=a + i * b by omega,w_,JQ hi]
 rfl
def cnK:Int->List Int->Nat
 | _,[]=>1
 | lie,s::r=>if s≠0/\lie≠0/\s≠lie then cnK s r + 1 else cnK (if s=0 then lie else s) r
theorem AS {g:Int}:∀ {ds cur:List Nat} {lie:Int},(blk g cur lie ds).length=cnK lie (sd g ds):=by
 intro ds
 induction ds with
 | nil=>intro cur lie;rfl
 | cons d ds ih=>
  intro cur lie
  rw [blk]
  show _=cnK lie (au d g::sd g ds)
  rw [cnK]
  split
  ·rw [h_,ih]
  ·exact ih
theorem Dk {lie s:Int}{r:List Int}(c:s≠0/\lie≠0/\s≠lie):cnK lie (s::r)=cnK s r + 1:=if_pos c
theorem Hl {lie:Int}{r:List Int}:cnK lie (0::r)=cnK lie r:=by rw [cnK,if_neg (fun h=>h.1 rfl),if_pos rfl]
theorem Ak {lie s:Int}{r:List Int}(c:¬ (s≠0/\lie≠0/\s≠lie))(z:s≠0):cnK lie (s::r)=cnK s r:=by rw [cnK,if_neg c,if_neg z]
theorem Bz {lie s:Int}{r:List Int}:cnK lie (s::s::r)=cnK lie (s::r):=by
 by_cases z:s=0
 ·subst z
  rw [Hl]
 ·have e:=Ak (lie:=s) (s:=s) (r:=r) (fun h=>h.2.2 rfl) z
  by_cases c:s≠0/\lie≠0/\s≠lie
  ·rw [Dk c,Dk c,e]
  ·rw [Ak c z,Ak c z,e]
theorem jH {lie s:Int}{r:List Int}(n:Nat):cnK lie (JA (n + 1) s++r)=cnK lie (s::r):=by
 induction n with
 | zero=>rfl
 | succ n ih=>
  rw [Kw,Kw,JH,JH,Bz]
  rw [Kw,JH] at ih
  exact ih
theorem m7 {s:Int}{a b:List Int}(h:∀ lie,cnK lie a=cnK lie b)(lie:Int):cnK lie (s::a)=cnK lie (s::b):=by rw [cnK,cnK,h,h]
theorem jJ {g:Int}{n d:Nat}:sd g (rep n d)=JA n (au d g):=Mb
theorem sS {g:Int}{a b:List Nat}:sd g (a++b)=sd g a++sd g b:=l_
theorem IS:∀ g:Fin 8,cnK 0 [au 0 g.val,au 2 g.val,au 4 g.val,au 6 g.val]<=3:=by decide
theorem Gx (s:Int):cnK 0 [s]=1:=by rw [cnK,if_neg (fun h=>h.2.1 rfl)];rfl
theorem Dn (s:Int)(n:Nat):cnK 0 (JA n s)=1:=by
 cases n with
 | zero=>rfl
 | succ n=>
  have:=jH (lie:=0) (s:=s) (r:=[]) n
  rw [JF] at this
  rw [this,Gx]
theorem wD {g:Nat}(hg:g < 8){w h:Nat}(hw:1<=w)(hh:1<=h):(blk g [] 0 (dsR w h)).length<=3:=by
 rw [AS]
 unfold dsR
 by_cases w1:w=1
 ·rw [if_pos w1,jJ,Dn];decide
 by_cases h1:h=1
 ·rw [if_neg w1,if_pos h1,jJ,Dn];decide
 rw [if_neg w1,if_neg h1,sS,sS,sS,jJ,jJ,jJ,jJ]
 obtain⟨a,rfl⟩:∃ a,w=a + 2:=⟨w - 2,by lia⟩
 obtain⟨b,rfl⟩:∃ b,h=b + 2:=⟨h - 2,by lia⟩
 rw [show a + 2 - 1=a + 1 by lia,show b + 2 - 1=b + 1 by lia,jH]
 have e:∀ lie,cnK lie (JA (b + 1) (au 2 g)++(JA (a + 1) (au 4 g)++JA (b + 1) (au 6 g)))=cnK lie [au 2 g,au 4 g,au 6 g]:=fun lie=>by
  rw [jH]
  refine m7 (fun lie=>?_) lie
  rw [jH]
  refine m7 (fun lie=>?_) lie
  have:=jH (lie:=lie) (s:=au 6 g) (r:=[]) b
  rw [JF] at this
  exact this
 rw [m7 e]
 exact IS ⟨g,hg⟩
theorem BD {g:Int}{ds:List Nat}(hd:ds≠[]):∀ b∈blk g [] 0 ds,b≠[]:=by
 intro b m
 obtain⟨i,e⟩:=Kj.mp m
 cases i with
 | succ i=>
  cases e0:(blk g [] 0 ds)[i]? with
  | none=>
   have h1:=(e_.mp e).1
   have h2:=List.getElem?_eq_none_iff.mp e0
   lia
  | some b0=>
   obtain⟨d,r,rfl,_⟩:=zi qj i b0 b e0 e
   intro z
   cases z
 | zero=>
  cases ds with
  | nil=>exact absurd rfl hd
  | cons d ds=>
   rw [blk,if_neg (fun h=>h.2.1 rfl)] at e
   obtain⟨r,bs,eb⟩:=rn (g:=g) (ds:=ds) (cur:=[]++[d]) (lie:=if au d g=0 then 0 else au d g)
   rw [eb] at e
   have:=x_ e
   rw [<-this]
   intro z
   cases z
theorem An (w h:Nat):vR (dsR w h):=fun d m=>by
 unfold dsR rep at m
 split at m
 ·rw [LA m];decide
 split at m
 ·rw [LA m];decide
 simp only [G_] at m
 rcases m with m | m | m | m <;> rw [LA m] <;> decide
theorem vv {w h:Nat}(hw:w < 1000)(hh:h < 1000):(dsR w h).length < 4000:=by
 unfold dsR rep
 split
 ·rw [JU];omega
 split
 ·rw [JU];omega
 simp only [g_,JU]
 omega
theorem Cc {bs:List (List Nat)}{i:Nat}{b:List Nat}(h:bs[i]?=some b):bs.flatten=(bs.take i).flatten++(b++(bs.drop (i + 1)).flatten):=by
 obtain⟨hi,rfl⟩:=e_.mp h
 rw [<-Le,<-J_ hi,<-L3,C']
theorem yT {bs:List (List Nat)}{b:List Nat}(h:b∈bs):∀ d∈b,d∈bs.flatten:=fun d m=>List.mem_flatten.mpr ⟨b,h,m⟩
theorem AI {bs:List (List Nat)}{b:List Nat}(h:b∈bs):b.length<=bs.flatten.length:=by
 obtain⟨i,e⟩:=Kj.mp h
 rw [Cc e,g_,g_]
 lia
theorem ID {g:Int}{p:Pt}{w h:Nat}{b:List Nat}(m:b∈blk g [] 0 (dsR w h)):∃ q c,pcL g p b=pts q c/\vR c/\c.length=b.length/\¬ (-1:Int)∈sd g c/\b.length<=(dsR w h).length/\((dsR w h).length≠0->b.length≠0):=by
 have fl:(blk g [] 0 (dsR w h)).flatten=dsR w h:=zo
 obtain⟨q,c,e,c1,c2,c3⟩:=CL (g:=g) (p:=p) (b:=b) (fun d md=>An w h d (by rw [<-fl];exact yT m d md)) (yl qj b m)
 refine⟨q,c,e,c1,c2,c3,r_ (AI m) (Lu (by rw [fl])),fun z z'=>?_⟩
 exact BD (fun y=>z (by rw [y];rfl)) b m (List.length_eq_zero_iff.mp z')
theorem jZ {lo:Int}{n i:Nat}{t:T}(h:(jT lo n)[i]?=some t):i < n:=by
 have:=(e_.mp h).1
 rw [aS] at this
 exact this
theorem Jb {r:Int}(h0:0<=r)(h1:r < 3):∃ v:Int,atI [T.int 4,T.int 9,T.int 24] r=some (.int v)/\1<=v/\v<=24:=by
 obtain rfl | rfl | rfl:r=0\/r=1\/r=2:=by lia
 ·exact⟨4,rfl,by decide,by decide⟩
 ·exact⟨9,rfl,by decide,by decide⟩
 ·exact⟨24,rfl,by decide,by decide⟩
theorem HG {P:Int->Prop}{cs:List Int}(hl:cs.length=2)(hv:∀ v∈cs,P v):∃ a b,cs=[a,b]/\P a/\P b:=by
 match cs,hl with
 | [a,b],_=>exact⟨a,b,rfl,hv a (t_ ..),hv b (o_ _ (t_ ..))⟩
def gr (x y:Int)(h:Nat):Nat->List Pt
 | 0=>[]
 | i + 1=>gr x y h i++rl h fun j=>(x + (i:Int),y + (j:Int))
theorem yF {x y:Int}{h:Nat}{q:Pt}:∀ {n:Nat},q∈gr x y h n↔inB x y n h q:=by
 intro n
 induction n with
 | zero=>exact⟨(fun m=>nomatch m),fun m=>by unfold inB at m;lia⟩
 | succ n ih=>
  rw [gr,G_,ih]
  unfold rl inB
  rw [A_]
  constructor
  ·rintro (m | ⟨j,m,rfl⟩)
   ·omega
   ·have:=KQ.mp m
    dsimp only
    lia
  ·intro m
   by_cases e:q.1=x + n
   ·exact .inr ⟨(q.2 - y).toNat,KQ.mpr (by omega),G' (by dsimp only;lia) (by dsimp only;lia)⟩
   ·exact .inl (by omega)
theorem Ib {x y:Int}{h:Nat}:∀ {n:Nat},(gr x y h n).Nodup:=by
 intro n
 induction n with
 | zero=>exact L4
 | succ n ih=>
  rw [gr,Ks]
  refine⟨ih,?_,fun a ma b mb e=>?_⟩
  ·unfold rl
   refine M_ _ (fun a b n z=>n ?_) List.nodup_range
   have:=congrArg Prod.snd z
   dsimp only at this
   lia
  ·have h1:=yF.mp ma
   unfold inB at h1
   unfold rl at mb
   obtain⟨j,_,rfl⟩:=A_.mp mb
   rw [e] at h1
   dsimp only at h1
   lia
theorem sO {x y:Int}{h:Nat}:∀ {n:Nat},(gr x y h n).length=n * h:=by
 intro n
 induction n with
 | zero=>rw [Mv];rfl
 | succ n ih=>rw [gr,g_,ih,cT,L8,L9]
theorem CM {x y:Int}{n h t:Nat}:Bxd x y n h (((gr x y h n).drop t).reverse++(gr x y h n).take t):=by
 have p:(((gr x y h n).drop t).reverse++(gr x y h n).take t).Perm (gr x y h n):=by
  refine ((M7 _).append_right _).trans ?_
  refine J'.trans ?_
  rw [C']
 exact⟨p.nodup_iff.mpr Ib,fun q=>by rw [p.mem_iff];exact yF⟩
theorem Jn {ts:List T}{n:Nat}:fZ ts (some (n:Int)) none=ts.drop n:=by
 unfold fZ
 rw [HT.je,HT.l4]
 rcases Nat.le_total n ts.length with h | h
 ·rw [KD h,JC (by rw [F'];lia)]
 ·rw [Lh h,K' (c_ _),K' h,Nu]
theorem Hx {ts:List T}{m:Int}(h:0<=m)(h2:m < ts.length):fZ ts (some m) none=ts.drop m.toNat/\fZ ts none (some m)=ts.take m.toNat:=by
 obtain⟨n,rfl⟩:=JW h
 refine⟨Jn,?_⟩
 unfold fZ
 rw [HT.je,HT.l4,KD (by lia)]
 rfl
theorem He {x y:Int}{wd hg n:Nat}{ps:List Pt}(hb:Bxd x y wd hg ps)(h1:∀ q∈ps,dep x y wd hg q < n)(h2:n=0\/∃ q∈ps,dep x y wd hg q=(n:Int) - 1)(k:Nat):2 * k < min wd hg↔k < n:=by
 constructor
 ·intro hk
  have:=h1 (x + k,y + k) ((hb.2 _).mpr (by unfold inB;dsimp only;lia))
  unfold dep at this
  dsimp only at this
  omega
 ·intro hk
  rcases h2 with h2 | ⟨q,_,e⟩
  ·lia
  ·unfold dep at e
   lia
theorem many {b n:Nat}(hb:1<=b):∀ (fuel a:Nat),n<=a + fuel->∃ m,m<=fuel/\(∀ i,i < m->a + i * b < n)/\¬ a + m * b < n:=by
 intro fuel
 induction fuel with
 | zero=>intro a h;exact⟨0,c_ _,(fun i hi=>absurd hi (LW _)),by lia⟩
 | succ f ih=>
  intro a h
  by_cases e:a < n
  ·obtain⟨m,h0,h1,h2⟩:=ih (a + b) (by lia)
   refine⟨m + 1,LQ h0,fun i hi=>?_,by rw [L8,L9];lia⟩
   cases i with
   | zero=>lia
   | succ i=>
    have:=h1 i (by lia)
    rw [L8,L9]
    lia
  ·exact⟨0,B_ _,(fun i hi=>absurd hi (LW _)),by lia⟩
theorem DC {α:Type}{n i:Nat}{f:Nat->α}{t:α}(h:(rl n f)[i]?=some t):i < n/\t=f i:=by
 have hi:=(e_.mp h).1
 rw [cT] at hi
 unfold rl at h
 rw [w_,JQ hi] at h
 exact⟨hi,(x_ h).symm⟩
theorem qh {n:Nat}{f g:Nat->T}(h:∀ i,er (f i)=g i):erL (rl n f)=rl n g:=by
 unfold rl
 rw [fP]
 exact B' fun i _=>h i
def rgT (x y w h:Int)(ps:List Pt)(k:Nat):T:=.lst false (((bW ps).filter fun q=>decide (dep x y w h q=(k:Int))).map ptP)
theorem IB {x y w h:Int}{ps:List Pt}{k:Nat}:er (rgT x y w h ps k)=rgT x y w h ps k:=lZ (o:=false)
theorem AZ {x y w h:Int}{ps:List Pt}{n a b m:Nat}(hb:1<=b)(h1:∀ i,i < m->a + i * b < n)(h2:¬ a + m * b < n):d6 ((lyr x y w h (bW ps) n).map fun l=>T.lst false (l.map ptP)) (a:Int) (b:Int)=rl m fun i=>rgT x y w h ps (a + i * b):=by
 unfold lyr
 rw [JB]
 exact CH (f:=rgT x y w h ps) hb h1 h2
def rdT (o:Bool)(x y:Int)(w h k:Nat):T:=.lst o [.lst o ((pts (x + (k:Int),y + (k:Int)) (dsR (w - 2 * k) (h - 2 * k))).map ptP)]
theorem yi {o:Bool}{x y:Int}{w h k:Nat}:er (rdT o x y w h k)=rdT false x y w h k:=by
 unfold rdT
 rw [er,erL,erL,lZ]
theorem BP {x y:Int}{w h k:Nat}:bV (rdT true x y w h k)=true:=by
 unfold rdT
 have e:bV (.lst true ((pts (x + (k:Int),y + (k:Int)) (dsR (w - 2 * k) (h - 2 * k))).map ptP))=true:=by rw [bV,fH];exact ir _
 rw [bV,bx,e]
 rfl
theorem xO {n:Nat}{f:Nat->T}(h:∀ i,bV (f i)=true):bx (rl n f)=true:=by
 unfold rl
 rw [fH]
 exact Kf.mpr fun i _=>h i
theorem gp {o:Bool}{x y:Int}{w h k:Nat}:dt (rdT o x y w h k)=.lst [.lst (dtL ((pts (x + (k:Int),y + (k:Int)) (dsR (w - 2 * k) (h - 2 * k))).map ptP))]:=by
 unfold rdT
 rw [dt,dtL,dtL,dt]
theorem GB {o o':Bool}{n:Nat}{f g:Nat->T}(h:∀ i,dt (f i)=dt (g i)):dt (.lst o (rl n f))=dt (.lst o' (rl n g)):=by
 unfold rl
 rw [dt,dt,kA,kA,JB,JB]
 exact congrArg Dt.lst (B' fun i _=>h i)
theorem Hk {o:Bool}{x y:Int}{w h k:Nat}(hw:w < 1000)(hh:h < 1000):Gd (rdT o x y w h k) 3:=by
 refine FH (jm (FH (uV fun p _=>Iz) ?_) qc) (by simp)
 rw [b_,eN]
 have:=vv (w:=w - 2 * k) (h:=h - 2 * k) (by lia) (by lia)
 lia
def j5:=d_ @Mp.G2 (d_ @Mp.FF (d_ @Mp.B6 (d_ @Mp.BF (d_ @Mp.Bs (d_ @Mp.CO (d_ @Mp.jN (d_ @Mp.Ab (d_ @Mp.rW (d_ @Mp.GQ (@Mp.yz))))))))))
def jk:=d_ @Mp.sV (d_ @Mp.o9 (d_ @Mp.qB (d_ @Mp.Ga (d_ @Mp.Bt (d_ @Mp.wy (d_ @Mp.tF (d_ @Mp.vi (d_ @Mp.Bv (d_ @Mp.BJ (d_ @Mp.Bg (d_ @Mp.sH (d_ @Mp.ud (d_ @Mp.vF (d_ @Mp.nQ (d_ @Mp.Ff (d_ @Mp.wY (d_ @Mp.zN (@Mp.F7))))))))))))))))))
end Mp
local macro_rules | `(tactic| walk_at "go")=>`(tactic| (simp only [↓Mp.iM,↓PL.eV,↓PL.dq,↓PL.eJ,↓PL.cD,↓PL.dk,↓PL.cw,↓PL.cq,↓PL.bP,↓PL.cF,↓PL.d7,↓PL.cG,↓PL.cg,↓PL.cy,↓PL.bI,↓PL.bO,↓PL.cj,↓PL.cK,↓PL.df,↓PL.cC,↓PL.eR,↓PL.cJ,↓PL.cm,↓PL.bZ,↓PL.dh,↓PL.cI,PL.du,PL.aY,PL.aZ,PL.bh,PL.er,PL.erL,PL.aG,PL.aC,PL.bV,PL.bx,PL.lend,PL.back,PL.outs,PL.frA,PL.iI,h_,K0,KZ,Kv,M1,L_,JA,JH,Kq,List.zipWith_cons_cons,List.zipWith_nil_left,PL.Th.v,if_true,if_false,Nat.reduceAdd,Nat.reduceSub,Nat.reduceLeDiff,Mp.j6,Mp.d5,Mp.bQ,Mp.bc,Mp.bq,↓Mp.bY,↓Mp.cf,↓Mp.bj,↓PL.bf,PL.cp,↓Mp.bH,↓Mp.cE,↓Mp.eL,Mp.bD,Mp.eF,Mp.dj,Mp.dw,Mp.cH,↓PL.ba,↓Mp.dC,↓Mp.dc,Mp.bK,Mp.eK,Mp.bM,Mp.d4,Mp.bg,Mp.bL,Mp.dy,↓Mp.eU,↓Mp.cB,Mp.dD,Mp.bG,↓Mp.cv,Mp.d9,↓Mp.ck,↓PL.cn,↓PL.cA,↓Mp.j5,Mp.jk]))
local macro_rules | `(tactic| walk_at "take")=>`(tactic| refine⟨_,_,_,rfl,by lia,by first | decide | lia,by first | decide | lia,?_⟩)
namespace Mp
open PySem L2 PL
def gW:FP:=fun ts k=>∃ (p:Pt) (d:Nat) (m:Int),ts=[ptP p,.int d,.int m]/\d < 8/\k (ptP (gI p d m)) ts
section
variable {P:Program}{w:World}{K:PySem.W.Frag}{mg:Str->Option Value}{base:Heap}
theorem lV:FnScope ["corner","direction","many","step"] ["corner","direction","many"] (ak kg):=⟨rfl,rfl,rfl,by decide +kernel,rfl,by decide +kernel,by decide +kernel⟩
set_option maxHeartbeats 4000000 in
theorem tD {f:Addr}{fd:FuncData}(F:Fun K "stepped" "stepped" kg f fd)(TX:Txt mg)(C_STEPS:Glb K mg "STEPS" lF) :FnOk P w K mg base CX0 1 f fd ["corner","direction","many"] (aU K 3 gW):=by
 refine dF F lV [true,true,true] rfl (fun cdv A outer s H E hr=>?_)
 have sc:=@lV
 refine⟨_,(af (aA (i:=3) sc.nd (by rfl) (p_ rfl) (by rfl) (aV (bo hr (jV C_STEPS (by rfl)) (ab 1)))) (ai (aL (aV (bB (ae (aj aE (bo hr (ab 0) ge_int) (aj j8 (bo hr (ab 3) ge_int) (ab 2))) (ae (aj aE (bo hr (ab 0) ge_int) (aj j8 (bo hr (ab 3) ge_int) (ab 2))) ag))))))),fun ts kk hl hp=>?_⟩
 clear hl
 obtain⟨p,d,m,rfl,hd,q⟩:=hp
 walk_at "go"
 refine bU (yI hd) ?_
 have:=wK d hd
 walk_at "go"
 exact⟨.inl (by omega),.inl (by omega),q⟩
end
def ik:FP:=fun ts k=>∃ (p q:Pt),ts=[ptP p,ptP q]/\k (kS p q) ts
section
variable {P:Program}{w:World}{K:PySem.W.Frag}{mg:Str->Option Value}{base:Heap}
theorem kJ:FnScope ["one","other","many","direction"] ["one","other"] (ak iq):=⟨rfl,rfl,rfl,by decide +kernel,rfl,by decide +kernel,by decide +kernel⟩
set_option maxHeartbeats 4000000 in
theorem qF {f:Addr}{fd:FuncData}(F:Fun K "straight" "straight" iq f fd)(TX:Txt mg)(C_STEPS:Glb K mg "STEPS" lF)(G_stepped:Cal P w K mg base 1 "stepped" ["corner","direction","many"] (aU K 3 gW)):FnOk P w K mg base CX0 2 f fd ["one","other"] (aU K 2 ik):=by
 refine dF F kJ [true,true] rfl (fun cdv A outer s H E hr=>?_)
 have sc:=@kJ
 refine⟨_,(af (aA (i:=2) sc.nd (by rfl) (p_ rfl) (by rfl) (aV (bt (xc rfl) (by rfl) TX.max (by decide +kernel) (ae (bt nZ (by rfl) TX.abs (by decide +kernel) (ae (aj bT (bo hr (ab 1) ge_int) (bo hr (ab 0) ge_int)) ag)) (ae (bt nZ (by rfl) TX.abs (by decide +kernel) (ae (aj bT (bo hr (ab 1) ge_int) (bo hr (ab 0) ge_int)) ag)) ag))))) (af (eP (fT (bF (gF hr) (ab 2) ge_int (aQ _))) (ai (aL lU)) cz) (af (eG PassesOwn.never (by rfl) (cX (by rfl) TX.range (ae (aV (bt d0 (by rfl) TX.len (by decide +kernel) (ae (jV C_STEPS (by rfl)) ag))) ag)) (ay (i:=3) sc.nd (by rfl) (p_ rfl) (by rfl)) (ai (eP (fT (bF (gF hr) (aI G_stepped hr (by rfl) (ah (ab 0) (ah (ab 3) (ah (ab 2) aJ)))) (cY dS (by rfl) TX.tuple (by decide +kernel) (ae (ab 1) ag)) (aQ _))) (ai (aL (aV (bB (ae (ab 3) (ae (ab 2) ag)))))) cz))) (ai (aL lU))))),fun ts kk hl hp=>?_⟩
 clear hl
 obtain⟨a,b,rfl,q⟩:=hp
 unfold kS lead far at q
 walk_at "go"
 refine aT (fun h=>?_) (fun h=>?_)
 ·walk_at "go"
  rw [if_pos h] at q
  exact q
 ·walk_at "go"
  rw [if_neg h] at q
  refine⟨by decide,dA (fun i env=>(∀ j,j < i->gI a j (far a b)≠b)/\∃ z,env=[ptP a,ptP b,.int (far a b),z]) ⟨fun j hj=>by omega,_,rfl⟩ ?_ ?_⟩
  ·rintro i t _ ⟨hb,z,rfl⟩ ei
   have hi:i < 8:=jZ ei
   have et:=gw ei
   subst et
   walk_at "go"
   refine⟨a,i,far a b,by rw [KY],hi,?_⟩
   walk_at "go"
   refine aT (fun h2=>?_) (fun h2=>?_)
   ·walk_at "go"
    have ef:(y_ 8).find? (fun d=>decide (gI a d (far a b)=b))=some i:=by
     rw [Mu]
     exact⟨decide_eq_true h2,KQ.mpr hi,fun j hj=>by rw [decide_eq_false (hb j hj)];rfl⟩
    unfold far at ef ⊢
    rw [ef] at q
    rw [KY]
    exact q
   ·walk_at "go"
    refine⟨fun j hj=>?_,_,rfl⟩
    rcases Nat.lt_succ_iff_lt_or_eq.mp hj with hj | rfl
    ·exact hb j hj
    ·exact h2
  ·rintro _ ⟨hb,z,rfl⟩
   walk_at "go"
   have ef:(y_ 8).find? (fun d=>decide (gI a d (far a b)=b))=none:=by
    rw [Ms]
    intro j hj
    rw [decide_eq_false (hb j (by rw [aS];exact hj))];rfl
   unfold far at ef
   rw [ef] at q
   exact q
end
end Mp
namespace Mp
open PySem L2 PL
def fG:FP:=fun ts k=>∃ (p:Pt) (d:Nat) (tn:List Nat) (ks:List Pt) (R:Pt->Bool) (o:Bool),ts=[ptP p,.int d,.cst (tn.map fun (t:Nat)=>T.int (t:Int)),.dT o (wt ks R)]/\Good ks R/\k (si (nx R p (D8 d tn))) ts
section
variable {P:Program}{w:World}{K:PySem.W.Frag}{mg:Str->Option Value}{base:Heap}
theorem eS:FnScope ["point","direction","turns","waiting","turn","onward"] ["point","direction","turns","waiting"] (ak dN):=⟨rfl,rfl,rfl,by decide +kernel,rfl,by decide +kernel,by decide +kernel⟩
set_option maxHeartbeats 4000000 in
theorem iV {f:Addr}{fd:FuncData}(F:Fun K "next_direction" "next_direction" dN f fd)(TX:Txt mg)  (G_stepped:Cal P w K mg base 1 "stepped" ["corner","direction","many"] (aU K 3 gW)):FnOk P w K mg base CX0 2 f fd ["point","direction","turns","waiting"] (aU K 4 fG):=by
 refine dF F eS [true,true,true,true] rfl (fun cdv A outer s H E hr=>?_)
 have sc:=@eS
 refine⟨_,(af (eG PassesOwn.never (by rfl) (cV (cP 2)) (ay (i:=4) sc.nd (by rfl) (p_ rfl) (by rfl)) (af (aA (i:=5) sc.nd (by rfl) (p_ rfl) (by rfl) (aV (aj oD (aj aE (ab 1) (ab 4)) ge_int))) (ai (eP (fT (mY (A4 hr (ab 3) (aI G_stepped hr (by rfl) (ah (ab 0) (ah (ab 5) (ah ge_int aJ)))) fY ⟨rfl,rfl,rfl,rfl⟩))) (ai (aL (nV 5))) cz)))) (ai (aL lU))),fun ts kk hl hp=>?_⟩
 clear hl
 obtain⟨p,d,tn,ks,R,o,rfl,g,q⟩:=hp
 walk_at "go"
 refine dA (fun i env=>nx R p (D8 d (tn.take i))=none/\∃ z4 z5,env=[ptP p,.int (d:Int),.cst (tn.map fun (t:Nat)=>T.int (t:Int)),.dT o (wt ks R),z4,z5]) ⟨rfl,_,_,rfl⟩ ?_ ?_
 ·rintro i t _ ⟨hb,z4,z5,rfl⟩ ei
  obtain⟨t,et,rfl⟩:=eD ei
  have hs:D8 d (tn.take (i + 1))=D8 d (tn.take i)++[(d + t) % 8]:=by unfold D8;rw [JJ,et,l_];rfl
  have hi:i < tn.length:=(e_.mp et).1
  walk_at "go"
  rw [show ((d:Int) + (t:Int)) % 8=(((d + t) % 8:Nat):Int) by omega]
  refine⟨by decide,p,(d + t) % 8,1,rfl,by omega,?_⟩
  rw [jc]
  walk_at "go"
  rw [DU g]
  walk_at "go"
  cases hR:R (aq p ((d + t) % 8)) with
  | true=>
   walk_at "go"
   have:nx R p (D8 d tn)=some ((d + t) % 8):=by
    have etn:tn.take i++t::tn.drop (i + 1)=tn:=by
     obtain⟨h,rfl⟩:=e_.mp et
     rw [<-J_ h,C']
    have e2:D8 d tn=D8 d (tn.take i)++([(d + t) % 8]++D8 d (tn.drop (i + 1))):=
     (congrArg (D8 d) etn.symm).trans (by unfold D8;rw [l_,f'];rfl)
    rw [e2]
    unfold nx at hb ⊢
    rw [LH,hb,LH,MR,if_pos hR]
    rfl
   rw [this] at q
   exact q
  | false=>
   walk_at "go"
   refine⟨?_,_,_,rfl⟩
   rw [hs]
   unfold nx at hb ⊢
   rw [LH,hb,MR,if_neg (by rw [hR];decide)]
   rfl
 ·rintro _ ⟨hb,z4,z5,rfl⟩
  rw [b_,JT] at hb
  walk_at "go"
  rw [hb] at q
  exact q
end
end Mp
namespace Mp
open PySem L2 PL
def mH:FP:=fun ts k=>∃ (p:Pt) (ks:List Pt) (R:Pt->Bool),ts=[ptP p,.dT true (wt ks R)]/\Good ks R/\ks.length < 10000/\R p=true/\k (.lst true ((p::(goR ks.length (off R p) p (nx (off R p) p (D8 0 ANY))).1).map ptP)) [ptP p,.dT true (wt ks (goR ks.length (off R p) p (nx (off R p) p (D8 0 ANY))).2)]
section
variable {P:Program}{w:World}{K:PySem.W.Frag}{mg:Str->Option Value}{base:Heap}
theorem kK:FnScope ["point","waiting","run","direction"] ["point","waiting"] (ak iF):=⟨rfl,rfl,rfl,by decide +kernel,rfl,by decide +kernel,by decide +kernel⟩
set_option maxHeartbeats 4000000 in
theorem rS {f:Addr}{fd:FuncData}(F:Fun K "run_from" "run_from" iF f fd)(TX:Txt mg)(C_ANY_TURN:Glb K mg "ANY_TURN" iB)(C_TURNS:Glb K mg "TURNS" pE)(G_stepped:Cal P w K mg base 1 "stepped" ["corner","direction","many"] (aU K 3 gW))(G_next_direction:Cal P w K mg base 2 "next_direction" ["point","direction","turns","waiting"] (aU K 4 fG)):FnOk P w K mg base CX0 3 f fd ["point","waiting"] (aU K 2 mH):=by
 refine dF F kK [true,true] rfl (fun cdv A outer s H E hr=>?_)
 have sc:=@kK
 refine⟨_,(af (aA (i:=2) sc.nd (by rfl) (p_ rfl) (by rfl) (aV (d3 (ae (ab 0) ag)))) (af (mS fY (t6 (i:=1) hr (cP 0))) (af (aA (i:=3) sc.nd (by rfl) (p_ rfl) (by rfl) (aV (aI G_next_direction hr (by rfl) (ah (ab 0) (ah ge_int (ah (jV C_ANY_TURN (by rfl)) (ah (ab 1) aJ))))))) (af (j9 PassesOwn.never (fT (bF rb (ab 3) lU (aQ _))) (af (eT (fU 2 PySem.F.slot_list_append PySem.F.type_list_append cN (ae (aV (aI G_stepped hr (by rfl) (ah (bo hr (ab 2) (cR ge_int)) (ah (ab 3) (ah ge_int aJ))))) ag))) (af (mS fY (t6 (i:=1) hr (aV (bo hr (ab 2) (cR ge_int))))) (ai (aA (i:=3) sc.nd (by rfl) (p_ rfl) (by rfl) (aV (aI G_next_direction hr (by rfl) (ah (bo hr (ab 2) (cR ge_int)) (ah (ab 3) (ah (jV C_TURNS (by rfl)) (ah (ab 1) aJ))))))))))) (ai (aL (nV 2))))))),fun ts kk hl hp=>?_⟩
 clear hl
 obtain⟨p,ks,R,rfl,g,hl,hR,q⟩:=hp
 walk_at "go"
 rw [yb (g p hR),sV,show iB=_ from GP]
 refine⟨by omega,p,0,ANY,ks,off R p,false,rfl,fy g,?_⟩
 walk_at "go"
 refine gX (fun m env=>∃ (acc:List Pt) (c:Pt) (S:Pt->Bool) (ds:List Nat) (n:Nat),m=cnt ks S/\Good ks S/\cnt ks S<=n/\acc.length + n<=ks.length/\(∀ x∈ds,x < 8)/\acc++c::(goR n S c (nx S c ds)).1=p::(goR ks.length (off R p) p (nx (off R p) p (D8 0 ANY))).1/\(goR n S c (nx S c ds)).2=(goR ks.length (off R p) p (nx (off R p) p (D8 0 ANY))).2/\env=[ptP p,.dT true (wt ks S),.lst true ((acc++[c]).map ptP),si (nx S c ds)]) (cnt ks (off R p)) ⟨[],p,off R p,D8 0 ANY,ks.length,rfl,fy g,Gk ..,by rw [K0];omega,fun x m=>Dx m,rfl,rfl,rfl⟩ ?_
 rintro m _ ⟨acc,c,S,ds,n,rfl,gS,hc,ha,hds,e1,e2,rfl⟩
 cases ho:nx S c ds with
 | none=>
  rw [ho] at e1 e2
  have eg:goR n S c none=([],S):=by cases n <;> rfl
  rw [eg] at e1 e2
  rw [<-e1,<-e2] at q
  show _
  unfold si
  walk_at "go"
  exact q
 | some d=>
  obtain⟨hS,hm⟩:=uM ho
  have d8:=hds d hm
  have hk:=gS _ hS
  have lt:=CF hk hS
  rw [ho] at e1 e2
  cases n with
  | zero=>omega
  | succ n=>
   unfold si
   have el:∀ (a:List Pt) (c:Pt),atI (JO (fun x=>ptP x) (a++[c])) (-1)=some (ptP c):=fun a c=>by rw [l_];exact n6 _ _
   walk_at "go"
   refine bU (el _ _) ?_
   walk_at "go"
   refine⟨c,d,1,rfl,d8,?_⟩
   rw [jc]
   walk_at "go"
   rw [show JO (fun x=>ptP x) (acc++[c])++[ptP (aq c d)]=JO (fun x=>ptP x) ((acc++[c])++[aq c d]) from by simp only [l_,f',Kc]]
   have la:(acc++[c]).length=acc.length + 1:=by rw [g_];rfl
   refine⟨by omega,bU (el _ _) ?_⟩
   walk_at "go"
   rw [yb hk]
   refine⟨by omega,bU (el _ _) ?_⟩
   walk_at "go"
   rw [show pE=_ from IZ]
   refine⟨aq c d,d,TN,ks,off S (aq c d),false,rfl,fy gS,?_⟩
   walk_at "go"
   refine⟨_,lt,acc++[c],aq c d,off S (aq c d),D8 d TN,n,rfl,fy gS,by omega,by omega,fun x m=>Dx m,?_,e2,rfl⟩
   rw [<-e1,gV]
   rfl
end
end Mp
namespace Mp
open PySem L2 PL
def rY:FP:=fun ts k=>∃ (p:Pt) (ps:List Pt),ts=[.lst true ((p::ps).map ptP)]/\ps.length < 20000/\∀ z,k (.lst true ((jY p ps).map ptP)) [z]
section
variable {P:Program}{w:World}{K:PySem.W.Frag}{mg:Str->Option Value}{base:Heap}
theorem o8:FnScope ["run","lead"] ["run"] (ak n8):=⟨rfl,rfl,rfl,by decide +kernel,rfl,by decide +kernel,by decide +kernel⟩
set_option maxHeartbeats 4000000 in
theorem xa {f:Addr}{fd:FuncData}(F:Fun K "closed" "closed" n8 f fd)(TX:Txt mg)  (G_straight:Cal P w K mg base 2 "straight" ["one","other"] (aU K 2 ik)):FnOk P w K mg base CX0 3 f fd ["run"] (aU K 1 rY):=by
 refine dF F o8 [true] rfl (fun cdv A outer s H E hr=>?_)
 have sc:=@o8
 refine⟨_,(af (aA (i:=1) sc.nd (by rfl) (p_ rfl) (by rfl) (aV (aI G_straight hr (by rfl) (ah (bo hr (ab 0) (cR ge_int)) (ah (bo hr (ab 0) ge_int) aJ))))) (af (eP (fT (Gf (nj (bF pf (bt d0 (by rfl) TX.len (by decide +kernel) (ae (ab 0) ag)) ge_int (aQ _)) (nj (bF rb (ab 1) lU (aQ _)) (pg (bF (gF hr) (bo hr (ab 1) ge_int) ge_int (aQ _))))))) (ai (aL (aV (aj aE (ab 0) (jo (ab 0) lG (l9 ge_int)))))) cz) (ai (aL (nV 0))))),fun ts kk hl hp=>?_⟩
 clear hl
 obtain⟨p,ps,rfl,hl,q⟩:=hp
 walk_at "go"
 refine bU xn ?_
 walk_at "go"
 refine⟨gP p ps,p,rfl,?_⟩
 unfold jY at q
 cases he:lead (gP p ps) p with
 | none=>
  have nf:¬ far (gP p ps) p=1:=fun z=>by
   obtain⟨d,e⟩:=xQ z
   rw [he] at e
   cases e
  rw [if_neg (fun z=>nf z.2)] at q
  rw [show kS (gP p ps) p=.non by unfold kS;rw [he]]
  walk_at "go"
  refine aT (fun h=>?_) (fun h=>?_) <;> (walk_at "go";exact q _)
 | some d=>
  rw [show kS (gP p ps) p=.tup [.int (d:Int),.int (far (gP p ps) p)] by unfold kS;rw [he]]
  walk_at "go"
  refine aT (fun h=>?_) (fun h=>?_)
  ·walk_at "go"
   refine aT (fun h2=>?_) (fun h2=>?_)
   ·walk_at "go"
    rw [if_pos ⟨by rw [h_];omega,h2⟩] at q
    have ec:fZ (ptP p::JO (fun x=>ptP x) ps) none (some 1)=[ptP p]:=xb _ 1
    rw [ec]
    have e2:JO ptP (p::ps++[p])=ptP p::(JO (fun x=>ptP x) ps++[ptP p]):=by rw [l_];rfl
    rw [e2] at q
    exact⟨by rw [KA];omega,rfl,q _⟩
   ·walk_at "go"
    rw [if_neg (fun z=>h2 z.2)] at q
    exact q _
  ·walk_at "go"
   rw [if_neg (fun z=>h (by have:=z.1;rw [h_] at this;omega))] at q
   exact q _
end
end Mp
namespace Mp
open PySem L2 PL
def ya:FP:=fun ts k=>∃ (b c:Bool) (ps:List Pt) (t:T),ts=[t]/\er t=sq b (ps.map fun p=>sq c [.int p.1,.int p.2])/\isAny t=false/\ps.length < 10000/\ps.Nodup/\∀ z,k (.lst true ((gc ps (bW ps) (fun p=>decide (p∈ps))).map HN)) [z]
section
variable {P:Program}{w:World}{K:PySem.W.Frag}{mg:Str->Option Value}{base:Heap}
theorem uA:FnScope ["points","found","point","waiting"] ["points"] (ak u6):=⟨rfl,rfl,rfl,by decide +kernel,rfl,by decide +kernel,by decide +kernel⟩
set_option maxHeartbeats 4000000 in
theorem Cu {f:Addr}{fd:FuncData}(F:Fun K "runs" "runs" u6 f fd)(TX:Txt mg)  (G_run_from:Cal P w K mg base 3 "run_from" ["point","waiting"] (aU K 2 mH))(G_closed:Cal P w K mg base 3 "closed" ["run"] (aU K 1 rY)):FnOk P w K mg base CX0 4 f fd ["points"] (aU K 1 ya):=by
 refine dF F uA [true] rfl (fun cdv A outer s H E hr=>?_)
 have sc:=@uA
 have nd1:(["point"]:List Str).Nodup:=by decide +kernel
 refine⟨_,(af (aA (i:=1) sc.nd (by rfl) (p_ rfl) (by rfl) (aV (d3 ag))) (af (aA (i:=3) sc.nd (by rfl) (p_ rfl) (by rfl) (aV (cY (lT rfl (Hn hr)) (by rfl) TX.dict (by decide +kernel) (ae (cO sc ["point"] [none] nd1 (by decide +kernel) (cV (ab 0)) (fun _ _ _=>(ay (i:=0) nd1 (by rfl) (p_ rfl) (by rfl) (hf:=(D_ rfl)))) (fun _ _ _=>cx) (fun _ _ _=>(bB (ae (cY dS (by rfl) TX.tuple (by decide +kernel) (ae (ab 0) ag)) (ae fY ag))))) ag)))) (af (eG PassesOwn.never (by rfl) (cV (aV (bt (jv rfl) (by rfl) TX.sorted (by decide +kernel) (ae (ab 3) ag)))) (ay (i:=2) sc.nd (by rfl) (p_ rfl) (by rfl)) (ai (eP (fT (mY (bo hr (ab 3) (ab 2)))) (ai (eT (fU 1 PySem.F.slot_list_append PySem.F.type_list_append cN (ae (aI G_closed hr (by rfl) (ah (aI G_run_from hr (by rfl) (ah (cP 2) (eI 3 aJ))) aJ)) ag)))) cz))) (ai (aL (nV 1)))))),fun ts kk hl hp=>?_⟩
 clear hl
 obtain⟨b,c,ps,t,rfl,et,ha,hl,nd,q⟩:=hp
 walk_at "go"
 rw [et]
 walk_at "go"
 refine bz (by rw [b_,sizeLine_eq];omega) (fun i acc ie=>acc=(ps.take i).map prT/\∃ z,ie=[z]) ⟨rfl,_,rfl⟩ ?_ ?_
 ·rintro i t _ _ ⟨rfl,z,rfl⟩ ei
  obtain⟨p,ep,rfl⟩:=eD ei
  have hst:JO prT (ps.take (i + 1))=JO prT (ps.take i)++[prT p]:=by rw [JJ,ep,l_];rfl
  rw [hst]
  walk_at "go"
  exact⟨rfl,_,rfl⟩
 rintro _ _ ⟨rfl,z',rfl⟩
 rw [b_,JT]
 walk_at "go"
 refine sZ (m5 ps) ⟨ow,?_⟩
 rw [vW nd]
 walk_at "go"
 refine⟨ps.map row,As,vD,fun _=>?_⟩
 rw [yB]
 walk_at "go"
 refine dA (fun i env=>∃ (S:Pt->Bool) (acc:List (List Pt)) (z:T),Good ps S/\acc++gc ps ((bW ps).drop i) S=gc ps (bW ps) (fun p=>decide (p∈ps))/\acc.length<=i/\∃ z0,env=[z0,.lst true (acc.map HN),z,.dT true (wt ps S)]) ⟨_,[],_,fun p h=>of_decide_eq_true h,rfl,c_ _,_,rfl⟩ ?_ ?_
 ·rintro i t _ ⟨S,acc,z,gS,ea,la,z0,rfl⟩ ei
  obtain⟨p,ep,rfl⟩:=eD ei
  have hi:i < (bW ps).length:=(e_.mp ep).1
  have hm:=gj (JK ep)
  have hd:(bW ps).drop i=p::(bW ps).drop (i + 1):=by
   rw [J_ hi]
   rw [a_ hi] at ep
   rw [x_ ep]
  rw [iL] at hi
  rw [hd,gc] at ea
  walk_at "go"
  refine bU (Eg hm) ?_
  walk_at "go"
  cases hS:S p with
  | true=>
   rw [if_pos hS] at ea
   walk_at "go"
   refine⟨p,ps,S,rfl,gS,hl,hS,?_⟩
   walk_at "go"
   have:=uo ps.length (off S p) p (nx (off S p) p (D8 0 ANY))
   refine⟨p,_,rfl,by omega,fun z=>?_⟩
   walk_at "go"
   refine⟨by omega,(goR ps.length (off S p) p (nx (off S p) p (D8 0 ANY))).2,acc++[jY p (goR ps.length (off S p) p (nx (off S p) p (D8 0 ANY))).1],ptP p,qW _ _ _ _ (fy gS),?_,?_,?_⟩
   ·rw [gV];exact ea
   ·rw [g_,KA];omega
   ·exact⟨_,by rw [l_];rfl⟩
  | false=>
   rw [if_neg (by rw [hS];decide)] at ea
   walk_at "go"
   exact⟨S,acc,_,gS,ea,by omega,_,rfl⟩
 ·rintro _ ⟨S,acc,z,gS,ea,la,z0,rfl⟩
  walk_at "go"
  rw [b_,Ng,gc,JF] at ea
  rw [ea]
  exact q _
end
end Mp
namespace Mp
open PySem L2 PL
def Au:FP:=fun ts k=>ts=[]/\k (.lst true [pt 1 0,pt 1 1,pt 0 1,pt (-1) 1,pt (-1) 0,pt (-1) (-1),pt 0 (-1),pt 1 (-1)]) []
section
variable {P:Program}{w:World}{K:PySem.W.Frag}{mg:Str->Option Value}{base:Heap}
theorem v9:FnScope [] [] (ak sW):=⟨rfl,rfl,rfl,by decide +kernel,rfl,by decide +kernel,by decide +kernel⟩
set_option maxHeartbeats 4000000 in
theorem D4 {f:Addr}{fd:FuncData}(F:Fun K "_law_ways" "_law_ways" sW f fd)(TX:Txt mg)  :FnOk P w K mg base CX0 1 f fd [] (aU K 0 Au):=by
 refine dF F v9 [] rfl (fun cdv A outer s H E hr=>?_)
 have sc:=@v9
 refine⟨_,(@ai _ _ _ _ (@aL _ _ _ _ _ (@aV _ _ _ (@d3 _ _ _ _ (@ae _ _ _ _ _ (@bB _ _ _ _ _ (@ae _ _ _ _ _ (@ge_int _ _ _ _) (@ae _ _ _ _ _ (@ge_int _ _ _ _) (@ag _) (by rfl)) (by rfl))) (@ae _ _ _ _ _ (@bB _ _ _ _ _ (@ae _ _ _ _ _ (@ge_int _ _ _ _) (@ae _ _ _ _ _ (@ge_int _ _ _ _) (@ag _) (by rfl)) (by rfl))) (@ae _ _ _ _ _ (@bB _ _ _ _ _ (@ae _ _ _ _ _ (@ge_int _ _ _ _) (@ae _ _ _ _ _ (@ge_int _ _ _ _) (@ag _) (by rfl)) (by rfl))) (@ae _ _ _ _ _ (@bB _ _ _ _ _ (@ae _ _ _ _ _ (@cR _ _ _ _ (@ge_int _ _ _ _)) (@ae _ _ _ _ _ (@ge_int _ _ _ _) (@ag _) (by rfl)) (by rfl))) (@ae _ _ _ _ _ (@bB _ _ _ _ _ (@ae _ _ _ _ _ (@cR _ _ _ _ (@ge_int _ _ _ _)) (@ae _ _ _ _ _ (@ge_int _ _ _ _) (@ag _) (by rfl)) (by rfl))) (@ae _ _ _ _ _ (@bB _ _ _ _ _ (@ae _ _ _ _ _ (@cR _ _ _ _ (@ge_int _ _ _ _)) (@ae _ _ _ _ _ (@cR _ _ _ _ (@ge_int _ _ _ _)) (@ag _) (by rfl)) (by rfl))) (@ae _ _ _ _ _ (@bB _ _ _ _ _ (@ae _ _ _ _ _ (@ge_int _ _ _ _) (@ae _ _ _ _ _ (@cR _ _ _ _ (@ge_int _ _ _ _)) (@ag _) (by rfl)) (by rfl))) (@ae _ _ _ _ _ (@bB _ _ _ _ _ (@ae _ _ _ _ _ (@ge_int _ _ _ _) (@ae _ _ _ _ _ (@cR _ _ _ _ (@ge_int _ _ _ _)) (@ag _) (by rfl)) (by rfl))) (@ag _) (by rfl)) (by rfl)) (by rfl)) (by rfl)) (by rfl)) (by rfl)) (by rfl)) (by rfl)))))),fun ts kk hl hp=>?_⟩
 clear hl
 obtain⟨rfl,q⟩:=hp
 walk_at "go"
 exact q
end
end Mp
namespace Mp
open PySem L2 PL
def i7:FP:=fun ts k=>∃ (p:Pt) (d:Nat) (g:Int),ts=[ptP p,ptP (aq p d),.int g]/\d < 8/\k (.int (au d g)) ts
section
variable {P:Program}{w:World}{K:PySem.W.Frag}{mg:Str->Option Value}{base:Heap}
theorem gC:FnScope ["one","other","grain","turn"] ["one","other","grain"] (ak f6):=⟨rfl,rfl,rfl,by decide +kernel,rfl,by decide +kernel,by decide +kernel⟩
set_option maxHeartbeats 4000000 in
theorem mJ {f:Addr}{fd:FuncData}(F:Fun K "lie_of_step" "lie_of_step" f6 f fd)(TX:Txt mg)(C_ACROSS:Glb K mg "ACROSS" mW)(C_WITH:Glb K mg "WITH" zJ)(C_AGAINST:Glb K mg "AGAINST" jR)(G_straight:Cal P w K mg base 2 "straight" ["one","other"] (aU K 2 ik)):FnOk P w K mg base CX0 3 f fd ["one","other","grain"] (aU K 3 i7):=by
 refine dF F gC [true,true,true] rfl (fun cdv A outer s H E hr=>?_)
 have sc:=@gC
 refine⟨_,(af (aA (i:=3) sc.nd (by rfl) (p_ rfl) (by rfl) (aV (aj oD (aj bT (bo hr (aI G_straight hr (by rfl) (ah (ab 0) (ah (ab 1) aJ))) ge_int) (ab 2)) ge_int))) (af (aA (i:=3) sc.nd (by rfl) (p_ rfl) (by rfl) (aV (bt (jX rfl) (by rfl) TX.min (by decide +kernel) (ae (ab 3) (ae (aj bT ge_int (ab 3)) ag))))) (af (eP (fT (bF (gF hr) (ab 3) ge_int (aQ _))) (ai (aL (jV C_ACROSS (by rfl)))) cz) (ai (aL (aV (ge_if (bF tM (ab 3) ge_int (aQ _)) (jV C_WITH (by rfl)) (jV C_AGAINST (by rfl))))))))),fun ts kk hl hp=>?_⟩
 clear hl
 obtain⟨p,d,g,rfl,d8,q⟩:=hp
 walk_at "go"
 refine⟨p,aq p d,rfl,?_⟩
 rw [vK d8]
 walk_at "go"
 obtain⟨k,e,e2⟩:=Cv d g
 rw [e2] at q
 rw [e]
 refine⟨by decide,aT (fun h=>?_) (fun h=>?_)⟩
 ·walk_at "go"
  rw [Eo k h] at q
  exact q
 ·walk_at "go"
  refine aT (fun h2=>?_) (fun h2=>?_)
  ·walk_at "go"
   rw [Fw k h2] at q
   exact q
  ·walk_at "go"
   rw [DZ k h h2] at q
   exact q
end
def qv:FP:=fun ts k=>∃ (ps:List Pt) (lie:Int),ts=[.lst false (ps.map ptP),.int lie]/\k (.lst (decide (lie=-1)) ((if lie=-1 then ps.reverse else ps).map ptP)) ts
section
variable {P:Program}{w:World}{K:PySem.W.Frag}{mg:Str->Option Value}{base:Heap}
theorem nK:FnScope ["piece","lie"] ["piece","lie"] (ak lX):=⟨rfl,rfl,rfl,by decide +kernel,rfl,by decide +kernel,by decide +kernel⟩
set_option maxHeartbeats 4000000 in
theorem xk {f:Addr}{fd:FuncData}(F:Fun K "turned" "turned" lX f fd)(TX:Txt mg)(C_AGAINST:Glb K mg "AGAINST" jR) :FnOk P w K mg base CX0 1 f fd ["piece","lie"] (aU K 2 qv):=by
 refine dF F nK [true,true] rfl (fun cdv A outer s H E hr=>?_)
 have sc:=@nK
 refine⟨_,(ai (aL (ge_if (fT (bF (gF hr) (ab 1) (jV C_AGAINST (by rfl)) (aQ _))) (aV (nk (by rfl) (by rfl) TX.list (by rfl) TX.reversed (ab 0))) (cP 0)))),fun ts kk hl hp=>?_⟩
 clear hl
 obtain⟨ps,lie,rfl,q⟩:=hp
 walk_at "go"
 refine aT (fun h=>?_) (fun h=>?_)
 ·walk_at "go"
  rw [if_pos h,decide_eq_true h] at q
  exact q
 ·walk_at "go"
  rw [if_neg h,decide_eq_false h] at q
  exact q
end
end Mp
namespace Mp
open PySem L2 PL
def iS:FP:=fun ts k=>∃ (p:Pt) (ds:List Nat) (g:Int),ts=[.lst false ((pts p ds).map ptP),.int g]/\vR ds/\ds.length < 20000/\k (.lst true (along (pcT g) p (blk g [] 0 ds))) ts
section
variable {P:Program}{w:World}{K:PySem.W.Frag}{mg:Str->Option Value}{base:Heap}
theorem ij:FnScope ["run","grain","pieces","piece","lie","corner","step"] ["run","grain"] (ak fR):=⟨rfl,rfl,rfl,by decide +kernel,rfl,by decide +kernel,by decide +kernel⟩
set_option maxHeartbeats 4000000 in
theorem nz {f:Addr}{fd:FuncData}(F:Fun K "with_grain" "with_grain" fR f fd)(TX:Txt mg)(C_ACROSS:Glb K mg "ACROSS" mW)(G_lie_of_step:Cal P w K mg base 3 "lie_of_step" ["one","other","grain"] (aU K 3 i7))(G_turned:Cal P w K mg base 1 "turned" ["piece","lie"] (aU K 2 qv)):FnOk P w K mg base CX0 4 f fd ["run","grain"] (aU K 2 iS):=by
 refine dF F ij [true,true] rfl (fun cdv A outer s H E hr=>?_)
 have sc:=@ij
 refine⟨_,(af (aA (i:=2) sc.nd (by rfl) (p_ rfl) (by rfl) (aV (d3 ag))) (af (aA (i:=3) sc.nd (by rfl) (p_ rfl) (by rfl) (aV (d3 (ae (cY dS (by rfl) TX.tuple (by decide +kernel) (ae (bo hr (ab 0) ge_int) ag)) ag)))) (af (aA (i:=4) sc.nd (by rfl) (p_ rfl) (by rfl) (jV C_ACROSS (by rfl))) (af (eG PassesOwn.never (by rfl) (cV (aV (jo (ab 0) (l9 ge_int) lG))) (ay (i:=5) sc.nd (by rfl) (p_ rfl) (by rfl)) (af (aA (i:=6) sc.nd (by rfl) (p_ rfl) (by rfl) (aV (aI G_lie_of_step hr (by rfl) (ah (bo hr (ab 3) (cR ge_int)) (ah (ab 5) (ah (ab 1) aJ)))))) (vC (eP (fT (Gf (nj (bF (sU hr) (ab 6) (jV C_ACROSS (by rfl)) (aQ _)) (nj (bF (sU hr) (ab 4) (jV C_ACROSS (by rfl)) (aQ _)) (pg (bF (sU hr) (ab 6) (ab 4) (aQ _))))))) (af (eT (fU 2 PySem.F.slot_list_append PySem.F.type_list_append cN (ae (aI G_turned hr (by rfl) (ah (cP 3) (ah (cP 4) aJ))) ag))) (ai (aA (i:=3) sc.nd (by rfl) (p_ rfl) (by rfl) (aV (d3 (ae (bo hr (ab 3) (cR ge_int)) ag)))))) cz) (af (eT (fU 3 PySem.F.slot_list_append PySem.F.type_list_append cN (ae (aV (cY dS (by rfl) TX.tuple (by decide +kernel) (ae (ab 5) ag))) ag))) (ai (aA (i:=4) sc.nd (by rfl) (p_ rfl) (by rfl) (aV (ge_if (bF (gF hr) (ab 6) (jV C_ACROSS (by rfl)) (aQ _)) (ab 4) (ab 6))))))))) (af (eT (fU 2 PySem.F.slot_list_append PySem.F.type_list_append cN (ae (aI G_turned hr (by rfl) (ah (cP 3) (ah (cP 4) aJ))) ag))) (ai (aL (nV 2)))))))),fun ts kk hl hp=>?_⟩
 clear hl
 obtain⟨p,ds,g,rfl,h8,hl,q⟩:=hp
 walk_at "go"
 refine bU D9 ?_
 walk_at "go"
 have ec:fZ (JO (fun x=>ptP x) (pts p ds)) (some 1) none=JO (fun x=>ptP x) ((pts p ds).drop 1):=(wo _ 1).trans MV.symm
 rw [ec]
 walk_at "go"
 refine dA (Wg p ds g) ⟨[],[],0,_,_,qj,rfl,rfl,c_ _,c_ _,rfl⟩ ?_ ?_
 ·rintro i t _ ⟨dn,cur,lie,z5,z6,hL,eb,ep,ld,lc,rfl⟩ ei
  obtain⟨x,ex,rfl⟩:=eD ei
  obtain⟨d,ed,rfl⟩:=yy ex
  have d8:=h8 d (JK ed)
  have hi:i < ds.length:=(e_.mp ed).1
  have hd:ds.drop i=d::ds.drop (i + 1):=by
   rw [J_ hi]
   rw [a_ hi] at ed
   rw [x_ ed]
  rw [hd,blk] at eb
  rw [<-ep]
  walk_at "go"
  refine bU ue ?_
  walk_at "go"
  refine⟨_,d,g,rfl,d8,?_⟩
  walk_at "go"
  refine Ay (fun env=>∃ (dm:List (List Nat)) (cu:List Nat),gA g (cu++[d]) (if au d g=0 then lie else au d g)/\dm++blk g (cu++[d]) (if au d g=0 then lie else au d g) (ds.drop (i + 1))=blk g [] 0 ds/\aM (aM p dm.flatten) cu=aM (aM p dn.flatten) cur/\dm.length<=i + 1/\cu.length<=i/\env=[.lst false ((pts p ds).map ptP),.int g,.lst true (along (pcT g) p dm),.lst true ((pts (aM p dm.flatten) cu).map ptP),.int lie,ptP (aq (aM (aM p dn.flatten) cur) d),.int (au d g)]) ?_ ?_
  ·have i5:¬ (au d g≠0/\lie≠0/\au d g≠lie)->∃ (dm:List (List Nat)) (cu:List Nat),gA g (cu++[d]) (if au d g=0 then lie else au d g)/\dm++blk g (cu++[d]) (if au d g=0 then lie else au d g) (ds.drop (i + 1))=blk g [] 0 ds/\aM (aM p dm.flatten) cu=aM (aM p dn.flatten) cur/\dm.length<=i + 1/\cu.length<=i/\[T.lst false ((pts p ds).map ptP),.int g,.lst true (along (pcT g) p dn),.lst true ((pts (aM p dn.flatten) cur).map ptP),.int lie,ptP (aq (aM (aM p dn.flatten) cur) d),.int (au d g)]=[.lst false ((pts p ds).map ptP),.int g,.lst true (along (pcT g) p dm),.lst true ((pts (aM p dm.flatten) cu).map ptP),.int lie,ptP (aq (aM (aM p dn.flatten) cur) d),.int (au d g)]:=fun c=>by
    rw [if_neg c] at eb
    exact⟨dn,cur,mO hL c,eb,rfl,by omega,lc,rfl⟩
   walk_at "go"
   refine aT (fun h1=>?_) (fun h1=>?_)
   ·walk_at "go"
    exact i5 fun c=>c.1 h1
   walk_at "go"
   refine aT (fun h2=>?_) (fun h2=>?_)
   ·walk_at "go"
    exact i5 fun c=>c.2.1 h2
   walk_at "go"
   refine aT (fun h3=>?_) (fun h3=>?_)
   ·walk_at "go"
    exact i5 fun c=>c.2.2 h3
   rw [if_pos ⟨h1,h2,h3⟩] at eb
   walk_at "go"
   refine⟨_,lie,rfl,?_⟩
   rw [uD hL]
   walk_at "go"
   refine⟨by omega,bU ue ?_⟩
   walk_at "go"
   refine⟨dn++[cur],[],?_,?_,?_,?_,B_ _,?_⟩
   ·rw [if_neg h1];exact pV
   ·rw [if_neg h1,gV];exact eb
   ·rw [L3,MG,dW];rfl
   ·rw [g_,KA];omega
   ·rw [mU,L3,MG,dW];rfl
  rintro _ ⟨dm,cu,hM,em,eq,lm,lu,rfl⟩
  walk_at "go"
  rw [eN]
  refine⟨by omega,?_⟩
  have fin:Wg p ds g (i + 1) [T.lst false ((pts p ds).map ptP),.int g,.lst true (along (pcT g) p dm),.lst true ((pts (aM p dm.flatten) cu).map ptP++[ptP (aq (aM (aM p dn.flatten) cur) d)]),.int (if au d g=0 then lie else au d g),ptP (aq (aM (aM p dn.flatten) cur) d),.int (au d g)]:=by
   refine⟨dm,cu++[d],_,ptP (aq (aM (aM p dn.flatten) cur) d),.int (au d g),hM,em,?_,lm,by rw [g_,KA];omega,?_⟩
   ·rw [fB,eq,ep,<-fB,JJ,ed];rfl
   ·rw [<-eq]
    exact congrArg (fun l=>[T.lst false ((pts p ds).map ptP),.int g,.lst true (along (pcT g) p dm),.lst true l,.int (if au d g=0 then lie else au d g),ptP (aq (aM (aM p dm.flatten) cu) d),.int (au d g)]) yY
  refine aT (fun h=>?_) (fun h=>?_)
  ·walk_at "go"
   rw [if_pos h] at fin
   exact fin
  ·walk_at "go"
   rw [if_neg h] at fin
   exact fin
 ·rintro _ ⟨dn,cur,lie,z5,z6,hL,eb,ep,ld,lc,rfl⟩
  rw [b_,F',eN,Nat.add_sub_cancel] at eb ld lc
  rw [Ng,blk] at eb
  walk_at "go"
  refine⟨_,lie,rfl,?_⟩
  rw [uD hL]
  walk_at "go"
  rw [<-mU,eb]
  exact⟨by omega,q⟩
end
end Mp
namespace Mp
open PySem L2 PL
def yj:FP:=fun ts k=>∃ (p:Pt) (d:Nat) (g:Int),ts=[ptP p,ptP (aq p d),.int g]/\d < 8/\k (.int (au d g)) ts
section
variable {P:Program}{w:World}{K:PySem.W.Frag}{mg:Str->Option Value}{base:Heap}
theorem ux:FnScope ["_law_one","_law_other","_law_grain","_law_turned"] ["_law_one","_law_other","_law_grain"] (ak tJ):=⟨rfl,rfl,rfl,by decide +kernel,rfl,by decide +kernel,by decide +kernel⟩
set_option maxHeartbeats 4000000 in
theorem Bo {f:Addr}{fd:FuncData}(F:Fun K "_law_side" "_law_side" tJ f fd)(TX:Txt mg)  (G_ways:Cal P w K mg base 1 "_law_ways" [] (aU K 0 Au)):FnOk P w K mg base CX0 2 f fd ["_law_one","_law_other","_law_grain"] (aU K 3 yj):=by
 refine dF F ux [true,true,true] rfl (fun cdv A outer s H E hr=>?_)
 have sc:=@ux
 refine⟨_,(af (aA (i:=3) sc.nd (by rfl) (p_ rfl) (by rfl) (aV (aj oD (aj bT (Aj PySem.F.slot_list_index PySem.F.type_list_index (wW hr) (D5 G_ways hr (by rfl)) (ae (bB (ae (aj bT (bo hr (ab 1) ge_int) (bo hr (ab 0) ge_int)) (ae (aj bT (bo hr (ab 1) ge_int) (bo hr (ab 0) ge_int)) ag))) ag)) (ab 2)) ge_int))) (ai (aL (aV (bo hr (d3 (ae ge_int (ae ge_int (ae ge_int (ae (cR ge_int) (ae (cR ge_int) (ae (cR ge_int) (ae ge_int (ae ge_int ag))))))))) (ab 3)))))),fun ts kk hl hp=>?_⟩
 clear hl
 obtain⟨p,d,g,rfl,d8,q⟩:=hp
 walk_at "go"
 refine⟨rfl,?_⟩
 walk_at "go"
 have e1:(aq p d).1 - p.1=(st8 d).1:=by show p.1 + (st8 d).1 - p.1=_;omega
 have e2:(aq p d).2 - p.2=(st8 d).2:=by show p.2 + (st8 d).2 - p.2=_;omega
 rw [e1,e2]
 refine⟨rfl,rfl,wV,bU (zd d8) ?_⟩
 walk_at "go"
 obtain⟨k,e,e2⟩:=Cv d g
 rw [e2] at q
 rw [e]
 refine⟨by decide,bU (EA k) ?_⟩
 walk_at "go"
 exact q
end
end Mp
namespace Mp
open PySem L2 PL
def kF:FP:=fun ts k=>∃ (p:Pt) (o:Bool) (M:List Pt),ts=[ptP p,.dT o (mt M)]/\k (.bl (wal M p)) ts
section
variable {P:Program}{w:World}{K:PySem.W.Frag}{mg:Str->Option Value}{base:Heap}
theorem jA:FnScope ["point","there","step"] ["point","there"] (ak gy):=⟨rfl,rfl,rfl,by decide +kernel,rfl,by decide +kernel,by decide +kernel⟩
set_option maxHeartbeats 4000000 in
theorem pA {f:Addr}{fd:FuncData}(F:Fun K "is_walled" "is_walled" gy f fd)(TX:Txt mg)(C_STEPS:Glb K mg "STEPS" lF) :FnOk P w K mg base CX0 1 f fd ["point","there"] (aU K 2 kF):=by
 refine dF F jA [true,true] rfl (fun cdv A outer s H E hr=>?_)
 have sc:=@jA
 refine⟨_,(af (eG PassesOwn.never (by rfl) (cV (jV C_STEPS (by rfl))) (ay (i:=2) sc.nd (by rfl) (p_ rfl) (by rfl)) (ai (eP (fT (bF (BQ hr) (bB (ae (aj aE (bo hr (ab 0) ge_int) (bo hr (ab 2) ge_int)) (ae (aj aE (bo hr (ab 0) ge_int) (bo hr (ab 2) ge_int)) ag))) (ab 1) (by with_unfolding_all rfl))) (ai (aL fY)) cz))) (ai (aL fY))),fun ts kk hl hp=>?_⟩
 clear hl
 obtain⟨p,o,M,rfl,q⟩:=hp
 walk_at "go"
 rw [yo]
 refine dA (fun i env=>((jI.take i).all fun s=>decide ((p.1 + s.1,p.2 + s.2)∈M))=true/\∃ z,env=[ptP p,.dT o (mt M),z]) ⟨rfl,_,rfl⟩ ?_ ?_
 ·rintro i t _ ⟨h,z,rfl⟩ ei
  obtain⟨s,es,rfl⟩:=eD ei
  walk_at "go"
  rw [show (dM (mt M) [Sum.inl (p.1 + s.1),Sum.inl (p.2 + s.2)]).isSome=decide ((p.1 + s.1,p.2 + s.2)∈M) from zC M (p.1 + s.1,p.2 + s.2)]
  refine aT (fun g=>?_) (fun g=>?_)
  ·walk_at "go"
   refine⟨?_,_,rfl⟩
   rw [JJ,es,MA,h,KI]
   show (decide _ && true)=true
   rw [LM,decide_eq_true_iff]
   exact g
  ·walk_at "go"
   have:wal M p=false:=by
    unfold wal
    rw [List.all_eq_false]
    exact⟨s,JK es,by rw [decide_eq_true_iff];exact g⟩
   rw [this] at q
   exact q
 ·rintro _ ⟨h,z,rfl⟩
  rw [b_,JT] at h
  walk_at "go"
  rw [show wal M p=true from h] at q
  exact q
end
def ja:FP:=fun ts k=>∃ (o:Bool) (ps:List Pt),ts=[.lst o (ps.map ptP)]/\ps.length < 10000/\ps.Nodup/\k (.lst true ((ps.filter (wal ps)).map ptP)) ts
section
variable {P:Program}{w:World}{K:PySem.W.Frag}{mg:Str->Option Value}{base:Heap}
theorem ig:FnScope ["points","there"] ["points"] (ak fL):=⟨rfl,rfl,rfl,by decide +kernel,rfl,by decide +kernel,by decide +kernel⟩
set_option maxHeartbeats 4000000 in
theorem nC {f:Addr}{fd:FuncData}(F:Fun K "within_rim" "within_rim" fL f fd)(TX:Txt mg)  (G_is_walled:Cal P w K mg base 1 "is_walled" ["point","there"] (aU K 2 kF)):FnOk P w K mg base CX0 2 f fd ["points"] (aU K 1 ja):=by
 refine dF F ig [true] rfl (fun cdv A outer s H E hr=>?_)
 have sc:=@ig
 have nd1:(["point"]:List Str).Nodup:=by decide +kernel
 have nd2:(["point","there"]:List Str).Nodup:=by decide +kernel
 refine⟨_,(af (aA (i:=1) sc.nd (by rfl) (D_ rfl) (by rfl) (aV (cY (lT rfl (Hn hr)) (by rfl) TX.dict (by decide +kernel) (ae (cO sc ["point"] [none] nd1 (by decide +kernel) (cV (ab 0)) (fun _ _ _=>(ay (i:=0) nd1 (by rfl) (p_ rfl) (by rfl) (hf:=(D_ rfl)))) (fun _ _ _=>cx) (fun _ _ _=>(bB (ae (ab 0) (ae fY ag))))) ag)))) (ai (aL (aV (cO sc ["point","there"] [none,some 1] nd2 (by decide +kernel) (cV (ab 0)) (fun _ _ _=>(ay (i:=0) nd2 (by rfl) (p_ rfl) (by rfl) (hf:=(D_ rfl)))) (fun _ _ _=>(B8 (mY (aI G_is_walled hr (by rfl) (ah (ab 0) (ah (ab 1) aJ)))))) (fun _ _ _=>(ab 0))))))),fun ts kk hl hp=>?_⟩
 clear hl
 obtain⟨o,ps,rfl,hl,nd,q⟩:=hp
 walk_at "go"
 refine bz (by rw [b_,sizeLine_eq];omega) (fun i acc ie=>acc=(ps.take i).map prT/\∃ z,ie=[z]) ⟨rfl,_,rfl⟩ ?_ ?_
 ·rintro i t _ _ ⟨rfl,z,rfl⟩ ei
  obtain⟨p,ep,rfl⟩:=eD ei
  walk_at "go"
  exact⟨by rw [map_take ep];rfl,_,rfl⟩
 rintro _ _ ⟨rfl,z',rfl⟩
 rw [b_,JT]
 walk_at "go"
 refine sZ (m5 ps) ⟨ow,?_⟩
 have ed:putAll (ps.map fun p=>(key p,T.bl true))=mt ps:=by
  unfold putAll
  rw [mn [] _ (by rw [Kq];exact nodup_keys nd),Kq]
  rfl
 rw [ed]
 walk_at "go"
 refine bz (by rw [b_,sizeLine_eq];omega) (fun i acc ie=>∃ z,acc=((ps.take i).filter (wal ps)).map ptP/\ie=[z,.dT false (mt ps)]) ⟨_,rfl,rfl⟩ ?_ ?_
 ·rintro i t _ _ ⟨z,rfl,rfl⟩ ei
  obtain⟨p,ep,rfl⟩:=eD ei
  rw [wN ep]
  walk_at "go"
  refine⟨p,false,ps,rfl,?_⟩
  walk_at "go"
  refine zH (fun h=>?_) (fun h=>?_)
  ·walk_at "go"
   exact⟨_,by rw [if_pos h],rfl⟩
  ·walk_at "go"
   exact⟨_,by rw [if_neg (by rw [h];decide),JF],rfl⟩
 rintro _ _ ⟨z,rfl,rfl⟩
 rw [b_,JT]
 walk_at "go"
 exact q
end
end Mp
namespace Mp
open PySem L2 PL
def kE:FP:=fun ts k=>∃ (o:Bool) (ps:List Pt) (x y w h:Int),ts=[.lst o (ps.map ptP)]/\ps.length < 10000/\Bxd x y w h ps/\k (.lst true ((bW ps).map (prD x y w h))) ts
section
variable {P:Program}{w:World}{K:PySem.W.Frag}{mg:Str->Option Value}{base:Heap}
theorem jD:FnScope ["points","depths","depth","point","inner"] ["points"] (ak gB):=⟨rfl,rfl,rfl,by decide +kernel,rfl,by decide +kernel,by decide +kernel⟩
set_option maxHeartbeats 4000000 in
theorem pT {f:Addr}{fd:FuncData}(F:Fun K "depths_in" "depths_in" gB f fd)(TX:Txt mg)  (G_within_rim:Cal P w K mg base 2 "within_rim" ["points"] (aU K 1 ja)):FnOk P w K mg base CX0 3 f fd ["points"] (aU K 1 kE):=by
 refine dF F jD [true] rfl (fun cdv A outer s H E hr=>?_)
 have sc:=@jD
 have nd1:(["point"]:List Str).Nodup:=by decide +kernel
 have nd2:(["point","depths"]:List Str).Nodup:=by decide +kernel
 refine⟨_,(af (aA (i:=1) sc.nd (by rfl) (D_ rfl) (by rfl) (aV F2)) (af (aA (i:=2) sc.nd (by rfl) (p_ rfl) (by rfl) ge_int) (af (rQ sc (i:=4) ["point"] [none] nd1 (by decide +kernel) (by rfl) (p_ rfl) (by rfl) (cV (ab 0)) (fun _ _ _=>(ay (i:=0) nd1 (by rfl) (p_ rfl) (by rfl) (hf:=(D_ rfl)))) (fun _ _ _=>cx) (fun _ _ _=>(cY dS (by rfl) TX.tuple (by decide +kernel) (ae (ab 0) ag))) (by rfl)) (af (j9 PassesOwn.never (fT (mY (ab 4))) (af (eG PassesOwn.never (by rfl) (cV (cP 4)) (ay (i:=3) sc.nd (by rfl) (p_ rfl) (by rfl)) (ai (mS (cP 2) (t6 (i:=1) hr (cP 3))))) (af (aA (i:=4) sc.nd (by rfl) (p_ rfl) (by rfl) (aV (aI G_within_rim hr (by rfl) (ah (ab 4) aJ)))) (ai (El (i:=2) sc.nd (by rfl) (p_ rfl) (by rfl) ge_int Cr))))) (ai (aL (aV (cO sc ["point","depths"] [none,some 1] nd2 (by decide +kernel) (cV (bt (jv rfl) (by rfl) TX.sorted (by decide +kernel) (ae (ab 1) ag))) (fun _ _ _=>(ay (i:=0) nd2 (by rfl) (p_ rfl) (by rfl) (hf:=(D_ rfl)))) (fun _ _ _=>cx) (fun _ _ _=>(bB (ae (ab 0) (ae (bo hr (ab 1) (ab 0)) ag)))))))))))),fun ts kk hl hp=>?_⟩
 clear hl
 obtain⟨o,ps,x,y,w',h,rfl,hl,hb,q⟩:=hp
 walk_at "go"
 refine⟨rfl,bz (by rw [b_,sizeLine_eq];lia) (fun i acc ie=>∃ z,acc=(ps.take i).map ptP/\ie=[z]) ⟨_,rfl,rfl⟩ ?_ ?_⟩
 ·rintro i t _ _ ⟨z,rfl,rfl⟩ ei
  obtain⟨p,ep,rfl⟩:=eD ei
  walk_at "go"
  exact⟨_,by rw [map_take ep],rfl⟩
 rintro _ _ ⟨z,rfl,rfl⟩
 rw [b_,JT]
 walk_at "go"
 have il:∀ d,(inn x y w' h ps d).length<=ps.length:=fun d=>KC ..
 have ind:∀ d,(inn x y w' h ps d).Nodup:=fun d=>hb.1.filter _
 refine gX (fun m env=>∃ (d:Nat) (z3:T),m=w'.toNat + 1 - d/\env=[.lst o (ps.map ptP),.dT true (vt (if d=0 then [] else ps) fun q=>min (dep x y w' h q) ((d:Int) - 1)),.int (d:Int),z3,.lst true ((inn x y w' h ps d).map ptP)]) (w'.toNat + 1) ⟨0,.any,rfl,?_⟩ ?_
 ·rw [if_pos rfl,show ((0:Nat):Int)=0 from rfl,Ai hb]
  rfl
 rintro m _ ⟨d,z3,rfl,rfl⟩
 walk_at "go"
 refine zH (fun he=>?_) (fun he=>?_)
 ·have hnil:inn x y w' h ps d=[]:=by
   have:=List.isEmpty_iff.mp he
   exact List.map_eq_nil_iff.mp this
  have hlt:∀ q∈ps,dep x y w' h q < d:=fun q m=>by
   have:q ∉ inn x y w' h ps d:=by rw [hnil];exact JP
   unfold inn at this
   rw [JV,decide_eq_true_iff] at this
   exact NJ.mp fun z=>this ⟨m,z⟩
  have ev:(vt (if d=0 then [] else ps) fun q=>min (dep x y w' h q) ((d:Int) - 1))=vt ps (dep x y w' h):=by
   by_cases z:d=0
   ·rw [if_pos z]
    have:ps=[]:=by
     rw [z] at hnil
     rw [<-Ai hb]
     exact hnil
    rw [this]
    rfl
   ·rw [if_neg z]
    exact mE fun q m=>by have:=hlt q m;lia
  rw [ev]
  walk_at "go"
  refine⟨ps.map row,Bq,vD,fun _=>?_⟩
  rw [yB]
  walk_at "go"
  refine bz (by rw [b_,iL,sizeLine_eq];lia) (fun i acc ie=>∃ z,acc=((bW ps).take i).map (prD x y w' h)/\ie=[z,.dT false (vt ps (dep x y w' h))]) ⟨_,rfl,rfl⟩ ?_ ?_
  ·rintro i t _ _ ⟨z,rfl,rfl⟩ ei
   obtain⟨p,ep,rfl⟩:=eD ei
   walk_at "go"
   refine bU (FY (gj (JK ep))) ?_
   walk_at "go"
   exact⟨_,by rw [map_take ep];rfl,rfl⟩
  rintro _ _ ⟨z,rfl,rfl⟩
  rw [b_,JT]
  walk_at "go"
  first | exact q | exact⟨Kf.mpr fun _ _=>rfl,q⟩
 ·have hne:inn x y w' h ps d≠[]:=fun z=>by rw [z] at he;cases he
  obtain⟨q0,m0⟩:=List.exists_mem_of_ne_nil _ hne
  have hd:d < w'.toNat:=by
   obtain⟨m1,m2⟩:=JV.mp m0
   have:=(hb.2 q0).mp m1
   have:=of_decide_eq_true m2
   unfold inB dep at *
   omega
  walk_at "go"
  have ll:=il d
  have nn:=ind d
  have ine:∀ q,q∈ps->(q∈inn x y w' h ps d↔(d:Int)<=dep x y w' h q):=fun q m=>by
   unfold inn
   rw [JV,decide_eq_true_iff]
   exact⟨fun z=>z.2,fun z=>⟨m,z⟩⟩
  have isub:∀ q∈inn x y w' h ps d,q∈ps:=fun q m=>(JV.mp m).1
  have i0:d=0->inn x y w' h ps d=ps:=fun z=>by rw [z];exact Ai hb
  have inx:=A1 (d:=(d:Int)) hb (by lia)
  generalize inn x y w' h ps d=il' at *
  refine dA (fun j env=>∃ z3,env=[.lst o (ps.map ptP),.dT true (vt (if d=0 then ps.take j else ps) fun q=>if q∈il'.take j then (d:Int) else min (dep x y w' h q) ((d:Int) - 1)),.int (d:Int),z3,.lst false (il'.map ptP)]) ⟨z3,?_⟩ ?_ ?_
  ·simp only [Np,JP,if_false]
  ·rintro j t _ ⟨z3,rfl⟩ ej
   obtain⟨p,ep,rfl⟩:=eD ej
   walk_at "go"
   have hj:j < il'.length:=(e_.mp ep).1
   have hp:p ∉ il'.take j:=fun z=>by
    obtain⟨j',hj',ej'⟩:=List.mem_take_iff_getElem.mp z
    obtain⟨hi',ei'⟩:=e_.mp ep
    exact Lq.mp nn j' j (by lia) hi' (by lia) (ej'.trans ei'.symm)
   have et:il'.take (j + 1)=il'.take j++[p]:=by rw [JJ,ep];rfl
   refine⟨?_,ptP p,?_⟩
   ·split
    ·rw [A'];lia
    ·lia
   ·have ev:dZ (vt (if d=0 then ps.take j else ps) fun q=>if q∈il'.take j then (d:Int) else min (dep x y w' h q) ((d:Int) - 1)) (key p) (.int d)=vt (if d=0 then ps.take (j + 1) else ps) fun q=>if q∈il'.take (j + 1) then (d:Int) else min (dep x y w' h q) ((d:Int) - 1):=by
     by_cases hz:d=0
     ·rw [if_pos hz,if_pos hz]
      have hi:=i0 hz
      rw [hi] at ep hp et ⊢
      have e1:vt (ps.take j) (fun q=>if q∈ps.take j then (d:Int) else min (dep x y w' h q) ((d:Int) - 1))=vt (ps.take j) (fun q=>if q∈ps.take (j + 1) then (d:Int) else min (dep x y w' h q) ((d:Int) - 1)):=mE fun q m=>by
       rw [if_pos m,if_pos (by rw [et];exact E_ _ m)]
      have e2:=Fz (ks:=ps.take j) (f:=fun q=>if q∈ps.take (j + 1) then (d:Int) else min (dep x y w' h q) ((d:Int) - 1)) hp
      rw [if_pos (by rw [et];exact k_ _ (.head _))] at e2
      rw [e1,e2,<-et]
     ·rw [if_neg hz,if_neg hz]
      have e2:=EN (ks:=ps) (f:=fun q=>if q∈il'.take j then (d:Int) else min (dep x y w' h q) ((d:Int) - 1)) (g:=fun q=>if q∈il'.take (j + 1) then (d:Int) else min (dep x y w' h q) ((d:Int) - 1)) (p:=p) (isub p (JK ep)) (fun q n=>by
       have:q∈il'.take (j + 1)↔q∈il'.take j:=by
        rw [et,G_,D']
        exact⟨fun z=>z.resolve_right n,.inl⟩
       by_cases z:q∈il'.take j
       ·rw [if_pos z,if_pos (this.mpr z)]
       ·rw [if_neg z,if_neg (fun y=>z (this.mp y))])
      rw [if_pos (by rw [et];exact k_ _ (.head _))] at e2
      exact e2
    rw [ev]
  ·rintro _ ⟨z3,rfl⟩
   walk_at "go"
   refine⟨false,il',rfl,by lia,nn,?_⟩
   rw [inx]
   walk_at "go"
   refine⟨_,?_,d + 1,z3,rfl,?_⟩
   ·lia
   ·have ev:(vt (if d=0 then ps.take il'.length else ps) fun q=>if q∈il'.take il'.length then (d:Int) else min (dep x y w' h q) ((d:Int) - 1))=vt (if d + 1=0 then [] else ps) fun q=>min (dep x y w' h q) (((d + 1:Nat):Int) - 1):=by
     rw [if_neg (Nat.succ_ne_zero d),JT]
     have e1:(if d=0 then ps.take il'.length else ps)=ps:=by
      split
      ·rename_i z
       rw [i0 z,JT]
      ·rfl
     rw [e1]
     refine mE fun q m=>?_
     have:=ine q m
     by_cases z:q∈il'
     ·rw [if_pos z];have:=this.mp z;lia
     ·rw [if_neg z];have h9:=NJ.mp fun y=>z (this.mpr y);lia
    rw [ev,show ((d + 1:Nat):Int)=(d:Int) + 1 by lia]
end
end Mp
namespace Mp
open PySem L2 PL
def vp:FP:=fun ts k=>∃ (o:Bool) (ps:List Pt) (x y w h a b:Int),ts=[.lst o (ps.map ptP),.int a,.int b]/\ps.length < 10000/\w < 10000/\Bxd x y w h ps/\0<=a/\0 < b/\∀ (n:Nat) (z:T),(∀ q∈ps,dep x y w h q < n)->(n=0\/∃ q∈ps,dep x y w h q=(n:Int) - 1)->k (.lst true (d6 ((lyr x y w h (bW ps) n).map fun l=>T.lst false (l.map ptP)) a b)) [z,.int a,.int b]
section
variable {P:Program}{w:World}{K:PySem.W.Frag}{mg:Str->Option Value}{base:Heap}
theorem sj:FnScope ["points","first","width","layers","point","depth"] ["points","first","width"] (ak qk):=⟨rfl,rfl,rfl,by decide +kernel,rfl,by decide +kernel,by decide +kernel⟩
set_option maxHeartbeats 4000000 in
theorem zK {f:Addr}{fd:FuncData}(F:Fun K "rings" "rings" qk f fd)(TX:Txt mg)  (G_depths_in:Cal P w K mg base 3 "depths_in" ["points"] (aU K 1 kE)):FnOk P w K mg base CX0 4 f fd ["points","first","width"] (aU K 3 vp):=by
 refine dF F sj [true,true,true] rfl (fun cdv A outer s H E hr=>?_)
 have sc:=@sj
 refine⟨_,(af (aA (i:=3) sc.nd (by rfl) (p_ rfl) (by rfl) (aV (d3 ag))) (af (eG PassesOwn.never (by rfl) (cV (aV (aI G_depths_in hr (by rfl) (ah (ab 0) aJ)))) (sR (n:=2) (by rfl) (fu (ay (i:=4) sc.nd (by rfl) (p_ rfl) (by rfl)) (fu (ay (i:=5) sc.nd (by rfl) (p_ rfl) (by rfl)) pN))) (af (j9 PassesOwn.never (fT (bF Fi (bt d0 (by rfl) TX.len (by decide +kernel) (ae (ab 3) ag)) (ab 5) (aQ _))) (ai (eT (fU 3 PySem.F.slot_list_append PySem.F.type_list_append cN (ae (aV (d3 ag)) ag))))) (ai (eT (wu 3 5 PySem.F.slot_list_append PySem.F.type_list_append cN (ae (cP 4) ag)))))) (ai (aL (x6 (cP 3) (cP 1) (cP 2)))))),fun ts kk hl hp=>?_⟩
 clear hl
 obtain⟨o,ps,x,y,w',h,a,b,rfl,hl,hw,hb,ha,hbb,q⟩:=hp
 walk_at "go"
 refine⟨false,ps,x,y,w',h,rfl,hl,hb,?_⟩
 walk_at "go"
 have sl:=iL (ps:=ps)
 have dp:∀ q∈bW ps,0<=dep x y w' h q/\dep x y w' h q < w':=fun q m=>by
  have:=(hb.2 q).mp (gj m)
  unfold inB dep at *
  omega
 refine dA (fun i env=>∃ (n:Nat) (z0 z4 z5:T),(∀ q∈(bW ps).take i,dep x y w' h q < n)/\(n=0\/∃ q∈(bW ps).take i,dep x y w' h q=(n:Int) - 1)/\env=[z0,.int a,.int b,.lst true ((lyr x y w' h ((bW ps).take i) n).map lyI),z4,z5]) ⟨0,_,_,_,(fun _ m=>nomatch m),.inl rfl,rfl⟩ ?_ ?_
 ·rintro i t _ ⟨n,z0,z4,z5,k1,k2,rfl⟩ ei
  obtain⟨p,ep,rfl⟩:=eD ei
  have hp:=dp p (JK ep)
  obtain⟨d,ed⟩:=JW hp.1
  have hi:i < (bW ps).length:=(e_.mp ep).1
  have li:((bW ps).take i).length<=ps.length:=by rw [A'];omega
  have et:(bW ps).take (i + 1)=(bW ps).take i++[p]:=by rw [JJ,ep];rfl
  rw [et]
  generalize (bW ps).take i=l at *
  walk_at "go"
  rw [ed]
  refine gX (fun m env=>∃ (n':Nat),n<=n'/\(n'=n\/n'<=d + 1)/\m=d + 1 - n'/\env=[z0,.int a,.int b,.lst true ((lyr x y w' h l n').map lyI),ptP p,.int (d:Int)]) (d + 1 - n) ⟨n,c_ _,.inl rfl,rfl,rfl⟩ ?_
  rintro m _ ⟨n',n1,n2,rfl,rfl⟩
  walk_at "go"
  rw [p8]
  refine aT (fun hc=>?_) (fun hc=>?_)
  ·walk_at "go"
   rw [p8]
   refine⟨by omega,_,?_,n' + 1,by omega,.inr (by omega),rfl,?_⟩
   ·omega
   ·rw [yr (fun q m=>by have:=k1 q m;omega),l_]
    rfl
  ·walk_at "go"
   have hd:d < n':=by omega
   have eq2:ixN ((lyr x y w' h l n').map lyI).length (d:Int)=some d:=by
    unfold ixN
    rw [b_,p8,if_pos (by omega),if_pos (by omega)]
    rfl
   refine⟨_,_,d,lyI (l.filter fun q=>decide (dep x y w' h q=(d:Int))),rfl,rfl,by decide,eq2,by rw [w_,G7 hd];rfl,rfl,?_⟩
   unfold lyI
   walk_at "go"
   have fl:(l.filter fun q=>decide (dep x y w' h q=(d:Int))).length<=l.length:=KC ..
   refine⟨by omega,n',z0,ptP p,.int (d:Int),fun q m=>?_,.inr ?_,?_⟩
   ·rcases G_.mp m with m | m
    ·have:=k1 q m;omega
    ·rw [D'.mp m];omega
   ·rcases n2 with n2 | n2
    ·rcases k2 with k2 | ⟨q,m,e⟩
     ·omega
     ·exact⟨q,E_ _ m,by omega⟩
    ·exact⟨p,k_ _ (.head _),by omega⟩
   ·rw [Bx ed hd,NB,l_]
    rfl
 ·rintro _ ⟨n,z0,z4,z5,k1,k2,rfl⟩
  rw [b_,JT] at *
  walk_at "go"
  refine⟨_,_,_,_,rfl,rfl,rfl,?_,ha,hbb,?_⟩
  ·rw [eE]
   refine Kf.mpr fun l _=>?_
   rw [aG,eE]
   exact ir _
  ·exact q n z0 (fun q m=>k1 q (rJ m)) (k2.imp id fun ⟨q,m,e⟩=>⟨q,gj m,e⟩)
end
end Mp
namespace Mp
open PySem L2 PL
def vd:FP:=fun ts k=>∃ (x y:Int) (w h:Nat),ts=[.int x,.int y,.int (w:Int),.int (h:Int)]/\1<=w/\w < 1000/\1<=h/\h < 1000/\k (.lst true ((pts (x,y) (dsR w h)).map ptP)) ts
section
variable {P:Program}{w:World}{K:PySem.W.Frag}{mg:Str->Option Value}{base:Heap}
theorem rN:FnScope ["_law_x","_law_y","_law_wide","_law_high","_law_road"] ["_law_x","_law_y","_law_wide","_law_high"] (ak pC):=⟨rfl,rfl,rfl,by decide +kernel,rfl,by decide +kernel,by decide +kernel⟩
set_option maxHeartbeats 4000000 in
theorem yL {f:Addr}{fd:FuncData}(F:Fun K "_law_round" "_law_round" pC f fd)(TX:Txt mg)  :FnOk P w K mg base CX0 1 f fd ["_law_x","_law_y","_law_wide","_law_high"] (aU K 4 vd):=by
 refine dF F rN [true,true,true,true] rfl (fun cdv A outer s H E hr=>?_)
 have sc:=@rN
 have nd1:(["_law_one","_law_y","_law_x"]:List Str).Nodup:=by decide +kernel
 have nd2:(["_law_one","_law_y","_law_x"]:List Str).Nodup:=by decide +kernel
 have nd3:(["_law_one","_law_y","_law_x"]:List Str).Nodup:=by decide +kernel
 have nd4:(["_law_one","_law_y","_law_x","_law_wide"]:List Str).Nodup:=by decide +kernel
 have nd5:(["_law_one","_law_y","_law_high","_law_x"]:List Str).Nodup:=by decide +kernel
 have nd6:(["_law_one","_law_y","_law_x"]:List Str).Nodup:=by decide +kernel
 refine⟨_,(af (eP (fT (bF (gF hr) (ab 2) ge_int (aQ _))) (ai (aL (aV (cO sc ["_law_one","_law_y","_law_x"] [none,some 1,some 0] nd1 (by decide +kernel) (cX (by rfl) TX.range (ae (ab 3) ag)) (fun _ _ _=>(ay (i:=0) nd1 (by rfl) (p_ rfl) (by rfl) (hf:=(D_ rfl)))) (fun _ _ _=>cx) (fun _ _ _=>(bB (ae (ab 2) (ae (aj aE (ab 1) (ab 0)) ag)))))))) cz) (af (eP (fT (bF (gF hr) (ab 3) ge_int (aQ _))) (ai (aL (aV (cO sc ["_law_one","_law_y","_law_x"] [none,some 1,some 0] nd2 (by decide +kernel) (cX (by rfl) TX.range (ae (ab 2) ag)) (fun _ _ _=>(ay (i:=0) nd2 (by rfl) (p_ rfl) (by rfl) (hf:=(D_ rfl)))) (fun _ _ _=>cx) (fun _ _ _=>(bB (ae (aj aE (ab 2) (ab 0)) (ae (ab 1) ag)))))))) cz) (af (aA (i:=4) sc.nd (by rfl) (p_ rfl) (by rfl) (aV (aj aE (cO sc ["_law_one","_law_y","_law_x"] [none,some 1,some 0] nd3 (by decide +kernel) (cX (by rfl) TX.range (ae (ab 2) ag)) (fun _ _ _=>(ay (i:=0) nd3 (by rfl) (p_ rfl) (by rfl) (hf:=(D_ rfl)))) (fun _ _ _=>cx) (fun _ _ _=>(bB (ae (aj aE (ab 2) (ab 0)) (ae (ab 1) ag))))) (cO sc ["_law_one","_law_y","_law_x","_law_wide"] [none,some 1,some 0,some 2] nd4 (by decide +kernel) (xA (by rfl) TX.range (ae ge_int (ae (ab 3) ag))) (fun _ _ _=>(ay (i:=0) nd4 (by rfl) (p_ rfl) (by rfl) (hf:=(D_ rfl)))) (fun _ _ _=>cx) (fun _ _ _=>(bB (ae (aj bT (aj aE (ab 2) (ab 3)) ge_int) (ae (aj aE (ab 1) (ab 0)) ag)))))))) (af (aA (i:=4) sc.nd (by rfl) (p_ rfl) (by rfl) (aV (aj aE (ab 4) (cO sc ["_law_one","_law_y","_law_high","_law_x"] [none,some 1,some 3,some 0] nd5 (by decide +kernel) (jt (by rfl) TX.reversed (by rfl) TX.range (ae (aj bT (ab 2) ge_int) ag)) (fun _ _ _=>(ay (i:=0) nd5 (by rfl) (p_ rfl) (by rfl) (hf:=(D_ rfl)))) (fun _ _ _=>cx) (fun _ _ _=>(bB (ae (aj aE (ab 3) (ab 0)) (ae (aj bT (aj aE (ab 1) (ab 2)) ge_int) ag)))))))) (ai (aL (aV (aj aE (ab 4) (cO sc ["_law_one","_law_y","_law_x"] [none,some 1,some 0] nd6 (by decide +kernel) (jt (by rfl) TX.reversed (by rfl) TX.range (ae (aj bT (ab 3) ge_int) ag)) (fun _ _ _=>(ay (i:=0) nd6 (by rfl) (p_ rfl) (by rfl) (hf:=(D_ rfl)))) (fun _ _ _=>cx) (fun _ _ _=>(bB (ae (ab 2) (ae (aj aE (ab 1) (ab 0)) ag))))))))))))),fun ts kk hl hp=>?_⟩
 clear hl
 obtain⟨x,y,w',h,rfl,w1,w2,h1,h2,q⟩:=hp
 have r0:∀ {f:Nat->Pt} {i:Nat} {t:T},(rl i f).map ptP++[ptP (f i)]=(rl (i + 1) f).map ptP:=fun {f i t}=>by rw [lg,l_];rfl
 walk_at "go"
 refine aT (fun hc=>?_) (fun hc=>?_)
 ·have ew:w'=1:=by lia
  subst ew
  walk_at "go"
  refine⟨⟨by lia,by lia⟩,bz (by rw [aS,sizeLine_eq];lia) (fun i acc ie=>∃ z,acc=(rl i fun i=>(x,y + (i:Int))).map ptP/\ie=[z,.int y,.int x]) ⟨_,rfl,rfl⟩ ?_ ?_⟩
  ·rintro i t _ _ ⟨z,rfl,rfl⟩ ei
   have et:=gw ei
   subst et
   walk_at "go"
   exact⟨_,by rw [KY,<-r0 (t:=.non)];rfl,rfl⟩
  rintro _ _ ⟨z,rfl,rfl⟩
  rw [aS]
  walk_at "go"
  have:pts (x,y) (dsR 1 h)=rl ((h:Int).toNat) fun i=>(x,y + (i:Int)):=by
   unfold dsR rl
   rw [if_pos rfl,lB,show h - 1 + 1=(h:Int).toNat by lia,fW]
   exact B' fun i _=>G' (by dsimp only;lia) (by dsimp only;lia)
  rw [this] at q
  exact q
 walk_at "go"
 refine aT (fun hd=>?_) (fun hd=>?_)
 ·have eh:h=1:=by lia
  subst eh
  walk_at "go"
  refine⟨⟨by lia,by lia⟩,bz (by rw [aS,sizeLine_eq];lia) (fun i acc ie=>∃ z,acc=(rl i fun i=>(x + (i:Int),y)).map ptP/\ie=[z,.int y,.int x]) ⟨_,rfl,rfl⟩ ?_ ?_⟩
  ·rintro i t _ _ ⟨z,rfl,rfl⟩ ei
   have et:=gw ei
   subst et
   walk_at "go"
   exact⟨_,by rw [KY,<-r0 (t:=.non)];rfl,rfl⟩
  rintro _ _ ⟨z,rfl,rfl⟩
  rw [aS]
  walk_at "go"
  have:pts (x,y) (dsR w' 1)=rl ((w':Int).toNat) fun i=>(x + (i:Int),y):=by
   unfold dsR rl
   rw [if_neg (by lia),if_pos rfl,lB,show w' - 1 + 1=(w':Int).toNat by lia,fX]
   exact B' fun i _=>G' (by dsimp only;lia) (by dsimp only;lia)
  rw [this] at q
  exact q
 walk_at "go"
 refine⟨⟨by lia,by lia⟩,bz (by rw [aS,sizeLine_eq];lia) (fun i acc ie=>∃ z,acc=(rl i fun i=>(x + (i:Int),y)).map ptP/\ie=[z,.int y,.int x]) ⟨_,rfl,rfl⟩ ?_ ?_⟩
 ·rintro i t _ _ ⟨z,rfl,rfl⟩ ei
  have et:=gw ei
  subst et
  walk_at "go"
  exact⟨_,by rw [KY,<-r0 (t:=.non)];rfl,rfl⟩
 rintro _ _ ⟨z,rfl,rfl⟩
 rw [aS]
 walk_at "go"
 refine⟨⟨by decide,by decide,by lia,by lia⟩,bz (by rw [aS,sizeLine_eq];lia) (fun i acc ie=>∃ z,acc=(rl i fun i=>(x + (w':Int) - 1,y + (1 + (i:Int)))).map ptP/\ie=[z,.int y,.int x,.int (w':Int)]) ⟨_,rfl,rfl⟩ ?_ ?_⟩
 ·rintro i t _ _ ⟨z,rfl,rfl⟩ ei
  have et:=gw ei
  subst et
  walk_at "go"
  exact⟨_,by rw [<-r0 (t:=.non)];rfl,rfl⟩
 rintro _ _ ⟨z1,rfl,rfl⟩
 rw [aS]
 walk_at "go"
 rw [cT,cT]
 refine⟨by lia,⟨by lia,by lia⟩,bz (by rw [lO,sizeLine_eq];lia) (fun i acc ie=>∃ z,acc=(rl i fun i=>(x + ((w':Int) - 1 - 1 - (i:Int)),y + (h:Int) - 1)).map ptP/\ie=[z,.int y,.int (h:Int),.int x]) ⟨_,rfl,rfl⟩ ?_ ?_⟩
 ·rintro i t _ _ ⟨z,rfl,rfl⟩ ei
  obtain⟨_,rfl⟩:=DQ ei
  walk_at "go"
  exact⟨_,by rw [<-r0 (t:=.non)];rfl,rfl⟩
 rintro _ _ ⟨z2,rfl,rfl⟩
 rw [lO]
 walk_at "go"
 rw [g_,b_,b_,cT,cT,cT]
 refine⟨by lia,⟨by lia,by lia⟩,bz (by rw [lO,sizeLine_eq];lia) (fun i acc ie=>∃ z,acc=(rl i fun i=>(x,y + ((h:Int) - 1 - 1 - (i:Int)))).map ptP/\ie=[z,.int y,.int x]) ⟨_,rfl,rfl⟩ ?_ ?_⟩
 ·rintro i t _ _ ⟨z,rfl,rfl⟩ ei
  obtain⟨_,rfl⟩:=DQ ei
  walk_at "go"
  exact⟨_,by rw [<-r0 (t:=.non)];rfl,rfl⟩
 rintro _ _ ⟨z3,rfl,rfl⟩
 rw [lO]
 walk_at "go"
 refine⟨by rw [g_,g_,b_,b_,b_,cT,cT,cT,cT];lia,?_⟩
 rw [xZ (by lia) (by lia)] at q
 rw [show (w':Int).toNat=w' by lia,show ((h:Int) - 1).toNat=h - 1 by lia,show ((w':Int) - 1).toNat=w' - 1 by lia]
 rw [l_,l_,l_] at q
 exact q
end
def Dj:FP:=fun ts k=>∃ (x y:Int) (w h a b:Nat),ts=[.int x,.int y,.int (w:Int),.int (h:Int),.int (a:Int),.int (b:Int)]/\1<=w/\w < 1000/\1<=h/\h < 1000/\a < 1000/\1<=b/\b < 10/\∀ n:Nat,n<=w->(∀ i,i < n->2 * (a + i * b) < min w h)->¬ 2 * (a + n * b) < min w h->k (.lst true (rl n fun i=>T.lst true [.lst true ((pts (x + ((a + i * b:Nat):Int),y + ((a + i * b:Nat):Int)) (dsR (w - 2 * (a + i * b)) (h - 2 * (a + i * b)))).map ptP)])) ts
section
variable {P:Program}{w:World}{K:PySem.W.Frag}{mg:Str->Option Value}{base:Heap}
theorem zF:FnScope ["_law_x","_law_y","_law_wide","_law_high","_law_first","_law_width","_law_found","_law_depth"] ["_law_x","_law_y","_law_wide","_law_high","_law_first","_law_width"] (ak zY):=⟨rfl,rfl,rfl,by decide +kernel,rfl,by decide +kernel,by decide +kernel⟩
set_option maxHeartbeats 4000000 in
theorem E1 {f:Addr}{fd:FuncData}(F:Fun K "_law_due" "_law_due" zY f fd)(TX:Txt mg)  (G_round:Cal P w K mg base 1 "_law_round" ["_law_x","_law_y","_law_wide","_law_high"] (aU K 4 vd)):FnOk P w K mg base CX0 2 f fd ["_law_x","_law_y","_law_wide","_law_high","_law_first","_law_width"] (aU K 6 Dj):=by
 refine dF F zF [true,true,true,true,true,true] rfl (fun cdv A outer s H E hr=>?_)
 have sc:=@zF
 refine⟨_,(af (aA (i:=6) sc.nd (by rfl) (p_ rfl) (by rfl) (aV (d3 ag))) (af (aA (i:=7) sc.nd (by rfl) (p_ rfl) (by rfl) (cP 4)) (af (j9 PassesOwn.never (fT (bF tM (aj j8 ge_int (ab 7)) (bt (jX rfl) (by rfl) TX.min (by decide +kernel) (ae (ab 2) (ae (ab 3) ag))) (aQ _))) (af (eT (fU 6 PySem.F.slot_list_append PySem.F.type_list_append cN (ae (aV (d3 (ae (aI G_round hr (by rfl) (ah (aj aE (ab 0) (ab 7)) (ah (aj aE (ab 1) (ab 7)) (ah (aj bT (ab 2) (aj j8 ge_int (ab 7))) (ah (aj bT (ab 3) (aj j8 ge_int (ab 7))) aJ))))) ag))) ag))) (ai (aA (i:=7) sc.nd (by rfl) (p_ rfl) (by rfl) (aV (aj aE (ab 7) (ab 5))))))) (ai (aL (nV 6)))))),fun ts kk hl hp=>?_⟩
 clear hl
 obtain⟨x,y,w',h,a,b,rfl,w1,w2,h1,h2,a1,b1,b2,q⟩:=hp
 walk_at "go"
 refine gX (fun m env=>∃ n:Nat,n<=w'/\m=w' + 1 - n/\(∀ i,i < n->2 * (a + i * b) < min w' h)/\n<=a + n * b/\env=[.int x,.int y,.int (w':Int),.int (h:Int),.int (a:Int),.int (b:Int),.lst true (rl n fun i=>T.lst true [.lst true ((pts (x + ((a + i * b:Nat):Int),y + ((a + i * b:Nat):Int)) (dsR (w' - 2 * (a + i * b)) (h - 2 * (a + i * b)))).map ptP)]),.int ((a + n * b:Nat):Int)]) (w' + 1) ⟨0,B_ _,rfl,(fun i hi=>absurd hi (LW _)),B_ _,?_⟩ ?_
 ·rw [Mv,Ly]
  rfl
 rintro m _ ⟨n,n1,rfl,n2,n3,rfl⟩
 walk_at "go"
 refine⟨.inl ⟨by decide,by decide⟩,aT (fun hc=>?_) (fun hc=>?_)⟩
 ·have hm:a + (n + 1) * b=a + n * b + b:=by rw [L8,L9];lia
  have n4:2 * (a + n * b) < min w' h:=by omega
  walk_at "go"
  refine⟨.inl ⟨by decide,by decide⟩,.inl ⟨by decide,by decide⟩,x + ((a + n * b:Nat):Int),y + ((a + n * b:Nat):Int),w' - 2 * (a + n * b),h - 2 * (a + n * b),?_,by omega,by omega,by omega,by omega,?_⟩
  ·rw [show ((w' - 2 * (a + n * b):Nat):Int)=(w':Int) - 2 * ((a + n * b:Nat):Int) by lia,show ((h - 2 * (a + n * b):Nat):Int)=(h:Int) - 2 * ((a + n * b:Nat):Int) by lia]
  walk_at "go"
  refine⟨by rw [cT];lia,_,?_,n + 1,by lia,rfl,fun i hi=>?_,by lia,?_⟩
  ·lia
  ·by_cases e:i=n
   ·rw [e];exact n4
   ·exact n2 i (by lia)
  ·rw [lg,hm,show ((a + n * b + b:Nat):Int)=((a + n * b:Nat):Int) + (b:Int) by lia]
 ·walk_at "go"
  exact q n n1 n2 (by omega)
end
end Mp
namespace Mp
open PySem L2 PL
section
variable {P:Program}{w:World}{K:PySem.W.Frag}{mg:Str->Option Value}{base:Heap}
theorem zf:FnScope ["_law_script","_law_state","_law_turn","_law_wide","_law_high","_law_x","_law_y","_law_first","_law_width","_law_points","_law_one","_law_told","_law_some","_law_road","_law_grain","_law_pieces","_law_piece"] ["_law_script"] (ak gm):=⟨rfl,rfl,rfl,by decide +kernel,rfl,by decide +kernel,by decide +kernel⟩
set_option maxHeartbeats 4000000 in
theorem F0 {f:Addr}{fd:FuncData}(F:Fun K "law" "law" gm f fd)(TX:Txt mg)  (G_runs:Cal P w K mg base 4 "runs" ["points"] (aU K 1 ya))(G_with_grain:Cal P w K mg base 4 "with_grain" ["run","grain"] (aU K 2 iS))(G_rings:Cal P w K mg base 4 "rings" ["points","first","width"] (aU K 3 vp))(G_begin:Cal P w K mg base 1 "_law_begin" ["_law_script"] (aU K 1 (oI K)))(G_take:Cal P w K mg base 1 "_law_take" ["_law_state","_law_many"] (aU K 2 t9))(G_same:Cal P w K mg base 5 "_law_same" ["_law_found","_law_due_here"] (aU K 2 (pS 5)))(G_side:Cal P w K mg base 2 "_law_side" ["_law_one","_law_other","_law_grain"] (aU K 3 yj))(G_due:Cal P w K mg base 2 "_law_due" ["_law_x","_law_y","_law_wide","_law_high","_law_first","_law_width"] (aU K 6 Dj)):FnOk P w K mg base CX0 6 f fd ["_law_script"] (aU K 1 (zj K)):=by
 refine dF F zf [true] rfl (fun cdv A outer s H E hr=>?_)
 have sc:=@zf
 have nd1:(["_law_turn","_law_state"]:List Str).Nodup:=by decide +kernel
 have nd2:(["_law_other","_law_y","_law_x","_law_one"]:List Str).Nodup:=by decide +kernel
 have nd3:(["_law_ring"]:List Str).Nodup:=by decide +kernel
 have nd4:(["_law_k","_law_grain","_law_piece"]:List Str).Nodup:=by decide +kernel
 refine⟨_,(vC (aA (i:=1) sc.nd (by rfl) (D_ rfl) (by rfl) (aV (aI G_begin hr (by rfl) (ah (ab 0) aJ)))) (af (mS (cO sc ["_law_turn","_law_state"] [none,some 1] nd1 (by decide +kernel) (cX (by rfl) TX.range (ae ge_int ag)) (fun _ _ _=>(ay (i:=0) nd1 (by rfl) (p_ rfl) (by rfl) (hf:=(D_ rfl)))) (fun _ _ _=>cx) (fun _ _ _=>(aj aE ge_int (aI G_take hr (by rfl) (eI 1 (ah (bo hr (aV (d3 (ae ge_int (ae ge_int (ae ge_int ag))))) (aI G_take hr (by rfl) (eI 1 (ah ge_int aJ)))) aJ)))))) (uQ (n:=2) (by rfl) (fu (ay (i:=3) sc.nd (by rfl) (p_ rfl) (by rfl)) (fu (ay (i:=4) sc.nd (by rfl) (p_ rfl) (by rfl)) pN)))) (af (mS (bB (ae (aj bT (aI G_take hr (by rfl) (eI 1 (ah ge_int aJ))) ge_int) (ae (aj bT (aI G_take hr (by rfl) (eI 1 (ah ge_int aJ))) ge_int) ag))) (uQ (n:=2) (by rfl) (fu (ay (i:=5) sc.nd (by rfl) (D_ rfl) (by rfl)) (fu (ay (i:=6) sc.nd (by rfl) (D_ rfl) (by rfl)) pN)))) (af (aA (i:=7) sc.nd (by rfl) (p_ rfl) (by rfl) (bo hr (d3 (ae (aI G_take hr (by rfl) (eI 1 (ah ge_int aJ))) (ae (aI G_take hr (by rfl) (eI 1 (ah (aV (aj Cn (aj aE (bt (jX rfl) (by rfl) TX.min (by decide +kernel) (ae (ab 3) (ae (ab 4) ag))) ge_int) ge_int)) aJ))) ag))) (cY xK (by rfl) TX.int (by decide +kernel) (ae (Gj pf (aI G_take hr (by rfl) (eI 1 (ah ge_int aJ))) ge_int (aQ _)) ag)))) (af (aA (i:=8) sc.nd (by rfl) (p_ rfl) (by rfl) (aj aE ge_int (aI G_take hr (by rfl) (eI 1 (ah ge_int aJ))))) (af (aA (i:=9) sc.nd (by rfl) (p_ rfl) (by rfl) (aV (d3 ag))) (af (eG PassesOwn.never (by rfl) (cX (by rfl) TX.range (ae (cP 3) ag)) (ay (i:=10) sc.nd (by rfl) (D_ rfl) (by rfl)) (ai (aA (i:=9) sc.nd (by rfl) (p_ rfl) (by rfl) (aV (aj aE (ab 9) (cO sc ["_law_other","_law_y","_law_x","_law_one"] [none,some 6,some 5,some 10] nd2 (by decide +kernel) (cX (by rfl) TX.range (ae (ab 4) ag)) (fun _ _ _=>(ay (i:=0) nd2 (by rfl) (p_ rfl) (by rfl) (hf:=(D_ rfl)))) (fun _ _ _=>cx) (fun _ _ _=>(bB (ae (aj aE (ab 2) (ab 3)) (ae (aj aE (ab 1) (ab 0)) ag)))))))))) (af (aA (i:=2) sc.nd (by rfl) (p_ rfl) (by rfl) (aI G_take hr (by rfl) (eI 1 (ah (aV (bt d0 (by rfl) TX.len (by decide +kernel) (ae (ab 9) ag))) aJ)))) (af (aA (i:=9) sc.nd (by rfl) (p_ rfl) (by rfl) (aV (aj aE (nk (by rfl) (by rfl) TX.list (by rfl) TX.reversed (jo (ab 9) (l9 (ab 2)) lG)) (jo (ab 9) lG (l9 (ab 2)))))) (af (rQ sc (i:=11) ["_law_ring"] [none] nd3 (by decide +kernel) (by rfl) (p_ rfl) (by rfl) (cV (aI G_rings hr (by rfl) (ah (ab 9) (ah (ab 7) (ah (ab 8) aJ))))) (fun _ _ _=>(ay (i:=0) nd3 (by rfl) (p_ rfl) (by rfl) (hf:=(D_ rfl)))) (fun _ _ _=>cx) (fun _ _ _=>(aI G_runs hr (by rfl) (ah (ab 0) aJ))) (by rfl)) (af (eP (fT (FI (mY (aI G_same hr (by rfl) (ah (ab 11) (ah (aI G_due hr (by rfl) (ah (ab 5) (ah (ab 6) (ah (ab 3) (ah (ab 4) (ah (ab 7) (ah (ab 8) aJ))))))) aJ)))))) (ai (aL fY)) cz) (af (eG PassesOwn.never (by rfl) (cV (cP 11)) (ay (i:=12) sc.nd (by rfl) (p_ rfl) (by rfl)) (ai (eG PassesOwn.never (by rfl) (cV (cP 12)) (ay (i:=13) sc.nd (by rfl) (p_ rfl) (by rfl)) (af (aA (i:=14) sc.nd (by rfl) (D_ rfl) (by rfl) (aI G_take hr (by rfl) (eI 1 (ah ge_int aJ)))) (af (aA (i:=15) sc.nd (by rfl) (p_ rfl) (by rfl) (aI G_with_grain hr (by rfl) (ah (cP 13) (ah (cP 14) aJ)))) (af (eP (fT (bF pf (bt d0 (by rfl) TX.len (by decide +kernel) (ae (ab 15) ag)) ge_int (aQ _))) (ai (aL fY)) cz) (ai (eG PassesOwn.never (by rfl) (cV (cP 15)) (ay (i:=16) sc.nd (by rfl) (D_ rfl) (by rfl)) (af (eP (fT (Gf (nj (bF tM (bt d0 (by rfl) TX.len (by decide +kernel) (ae (ab 16) ag)) ge_int (aQ _)) (pg (bF pf (bt d0 (by rfl) TX.len (by decide +kernel) (ae (ab 13) ag)) ge_int (aQ _)))))) (ai (aL fY)) cz) (ai (eP (fT (bF (G3 hr) (cR ge_int) (cO sc ["_law_k","_law_grain","_law_piece"] [none,some 14,some 16] nd4 (by decide +kernel) (cX (by rfl) TX.range (ae (aj bT (bt d0 (by rfl) TX.len (by decide +kernel) (ae (ab 16) ag)) ge_int) ag)) (fun _ _ _=>(ay (i:=0) nd4 (by rfl) (p_ rfl) (by rfl) (hf:=(D_ rfl)))) (fun _ _ _=>cx) (fun _ _ _=>(aI G_side hr (by rfl) (ah (bo hr (ab 2) (ab 0)) (ah (bo hr (ab 2) (aj aE (ab 0) ge_int)) (ah (ab 1) aJ)))))) (by with_unfolding_all rfl))) (ai (aL fY)) cz))))))))))) (ai (aL fY)))))))))))))),fun ts kk hl hp=>?_⟩
 clear hl
 obtain⟨t,ns,rfl,hs,hn,q⟩:=hp
 refine Ay (fun env=>∃ z c,env=[z,stT c 0,.any,.any,.any,.any,.any,.any,.any,.any,.any,.any,.any,.any,.any,.any,.any]) ?_ ?_
 ·walk_at "go"
  obtain⟨e,i⟩:=Fn hs
  rw [e]
  exact⟨i,t,ns,rfl,hs,hn,fun c=>⟨bD,_,c,rfl⟩⟩
 rintro _ ⟨z,c,rfl⟩
 walk_at "go"
 refine⟨⟨by decide,by decide⟩,bz (by rw [aS,sizeLine_eq];decide) (fun i acc ie=>∃ c' n' cs z,n'<=2 * i/\acc=JO T.int cs/\cs.length=i/\(∀ v∈cs,1<=v/\v<=24)/\ie=[z,stT c' n']) ⟨c,0,[],_,c_ _,rfl,rfl,(fun _ m=>by cases m),rfl⟩ ?_ ?_⟩
 ·rintro i t _ _ ⟨c',n',cs,z,l2,rfl,hl,hv,rfl⟩ ei
  have hi:i < 2:=jZ ei
  walk_at "go"
  walk_at "take"
  intro r c2 a2 b2
  walk_at "go"
  obtain⟨v,ev,v0,v1⟩:=Jb a2 b2
  refine bU ev ?_
  walk_at "go"
  walk_at "take"
  intro r2 c3 a3 b3
  walk_at "go"
  refine⟨c3,n' + 1 + 1,cs++[1 + r2],_,by lia,by rw [l_];rfl,by rw [g_,hl];rfl,fun v m=>?_,rfl⟩
  rcases G_.mp m with m | m
  ·exact hv v m
  ·rw [D'.mp m];lia
 rintro _ _ ⟨c2,n2,cs,z',l2,rfl,hl,hv,rfl⟩
 rw [aS] at l2 hl
 obtain⟨w',h',rfl,⟨w0,w1⟩,h0,h1⟩:=HG (P:=fun v=>1<=v/\v<=24) hl hv
 walk_at "go"
 walk_at "take"
 intro x0 c3 a3 b3
 walk_at "go"
 walk_at "take"
 intro y0 c4 a4 b4
 walk_at "go"
 walk_at "take"
 intro f0 c5 a5 b5
 walk_at "go"
 refine⟨by unfold zq;lia,?_⟩
 walk_at "take"
 intro f1 c6 a6 b6
 walk_at "go"
 walk_at "take"
 intro f2 c7 a7 b7
 walk_at "go"
 obtain⟨fi,ef,fi0,fi1⟩:∃ v:Int,atI [T.int f0,T.int f1] (if 0 < f2 then 1 else 0)=some (.int v)/\0<=v/\v < 20:=by
  split
  ·exact⟨f1,rfl,a6,by lia⟩
  ·exact⟨f0,rfl,a5,by lia⟩
 refine bU ef ?_
 walk_at "go"
 walk_at "take"
 intro b0 c8 a8 b8
 walk_at "go"
 have bN:n2 + 1 + 1 + 1 + 1 + 1 + 1 < 100:=by lia
 generalize n2 + 1 + 1 + 1 + 1 + 1 + 1=N at *
 generalize x0 - 20=x
 generalize y0 - 20=y
 obtain⟨wd,rfl⟩:=JW (a:=w') (by lia)
 obtain⟨hg,rfl⟩:=JW (a:=h') (by lia)
 obtain⟨a,rfl⟩:=JW (a:=fi) (by omega)
 obtain⟨b,eb⟩:=JW (a:=1 + b0) (by lia)
 rw [eb]
 have l1:(gr x y hg wd).length<=576:=by rw [sO];exact Nq (show wd<=24 by lia) (show hg<=24 by lia)
 have l2:0 < (gr x y hg wd).length:=by rw [sO];exact Nat.mul_pos (by lia) (by lia)
 refine⟨⟨by lia,by lia⟩,dA (fun i env=>∃ z10,env=[z,stT c8 N,.any,.int (wd:Int),.int (hg:Int),.int x,.int y,.int (a:Int),.int (b:Int),.lst true ((gr x y hg i).map ptP),z10,.any,.any,.any,.any,.any,.any]) ⟨_,rfl⟩ ?_ ?_⟩
 ·rintro i t _ ⟨z10,rfl⟩ ei
  have hi:=jZ ei
  have et:=gw ei
  rw [KY] at et
  subst et
  walk_at "go"
  refine⟨⟨by lia,by lia⟩,bz (by rw [aS,sizeLine_eq];lia) (fun j acc ie=>∃ z,acc=(rl j fun j=>(x + (i:Int),y + (j:Int))).map ptP/\ie=[z,.int y,.int x,.int (i:Int)]) ⟨_,rfl,rfl⟩ ?_ ?_⟩
  ·rintro j t _ _ ⟨z,rfl,rfl⟩ ej
   have et:=gw ej
   rw [KY] at et
   subst et
   walk_at "go"
   exact⟨_,by rw [lg,l_];rfl,rfl⟩
  rintro _ _ ⟨z1,rfl,rfl⟩
  rw [aS,show (hg:Int).toNat=hg from JX hg]
  have li:(gr x y hg i).length<=576:=by rw [sO];exact Nq (show i<=24 by lia) (show hg<=24 by lia)
  walk_at "go"
  rw [cT]
  exact⟨by lia,_,by rw [gr,l_]⟩
 rintro _ ⟨z10,rfl⟩
 rw [aS,show (wd:Int).toNat=wd from JX wd]
 walk_at "go"
 walk_at "take"
 intro tn c9 a9 b9
 walk_at "go"
 obtain⟨ct1,ct2⟩:=Hx (ts:=(gr x y hg wd).map fun x=>ptP x) a9 (by rw [b_];exact b9)
 rw [ct1,ct2,<-MV,<-Nv,vi]
 walk_at "go"
 have hb:=CM (x:=x) (y:=y) (n:=wd) (h:=hg) (t:=tn.toNat)
 have lp:((NK tn.toNat (gr x y hg wd)).reverse).length + (NL tn.toNat (gr x y hg wd)).length<=576:=by
  rw [JY,F',A']
  lia
 rw [<-l_]
 rw [<-g_] at lp
 refine⟨by rw [<-g_];lia,?_⟩
 generalize (NK tn.toNat (gr x y hg wd)).reverse++NL tn.toNat (gr x y hg wd)=ps at *
 refine⟨false,ps,x,y,wd,hg,a,b,rfl,by lia,by lia,hb,by omega,by lia,fun n zr g1 g2=>?_⟩
 have gn:=He hb g1 g2
 have nw:n<=24:=by
  cases n with
  | zero=>lia
  | succ n=>
   have:=(gn n).mpr (Nf n)
   lia
 clear g1 g2
 obtain⟨m,m0,m1,m2⟩:=many (b:=b) (n:=n) (by lia) 24 a (by lia)
 rw [AZ (by lia) m1 m2]
 walk_at "go"
 rw [qh fun i=>IB]
 have mk:∀ i,i < m->2 * (a + i * b) < min wd hg:=fun i hi=>(gn _).mpr (m1 i hi)
 refine bz (by rw [cT,sizeLine_eq];lia) (fun i acc ie=>∃ z,acc=(rl i fun i=>rdT true x y wd hg (a + i * b))/\ie=[z]) ⟨_,rfl,rfl⟩ ?_ ?_
 ·rintro i t _ _ ⟨z,rfl,rfl⟩ ei
  obtain⟨hi,rfl⟩:=DC ei
  have hk:=mk i hi
  unfold rgT
  walk_at "go"
  refine⟨false,true,(bW ps).filter fun q=>decide (dep x y (wd:Int) (hg:Int) q=((a + i * b:Nat):Int)),_,rfl,by rw [er,fP];rfl,rfl,by have:=zV (x:=x) (y:=y) (w:=wd) (h:=hg) (k:=a + i * b) (ps:=ps);lia,CT hb,fun z1=>?_⟩
  rw [xy (w:=wd - 2 * (a + i * b)) (h:=hg - 2 * (a + i * b)) (by omega) (by omega) (C7 hb hk)]
  walk_at "go"
  exact⟨_,by rw [lg];rfl,rfl⟩
 rintro _ _ ⟨z',rfl,rfl⟩
 rw [cT]
 walk_at "go"
 refine⟨xO fun i=>BP,x,y,wd,hg,a,b,rfl,by lia,by lia,by lia,by lia,by lia,by lia,by lia,fun n' e1 e2 e3=>?_⟩
 have en:n'=m:=by
  rcases Nat.lt_trichotomy n' m with y | y | y
  ·exact absurd (mk _ y) e3
  ·exact y
  ·exact absurd ((gn _).mp (e2 _ y)) m2
 subst en
 walk_at "go"
 rw [qh fun i=>yi]
 have gdr:∀ o,Gd (.lst o (rl n' fun i=>rdT o x y wd hg (a + i * b))) 4:=fun o=>FH (uV fun i _=>Hk (by lia) (by lia)) (by rw [cT];lia)
 refine CY (gdr true) (by decide) (gdr false).1 (GB fun i=>by rw [gp];exact gp.symm) ?_
 walk_at "go"
 rw [qh fun i=>yi,qh fun i=>yi]
 have bN2:N + 1 < 101:=by lia
 generalize N + 1=N1 at *
 generalize T.lst true (ps.map fun x=>ptP x)=z9
 generalize ez11:T.lst false (rl n' fun i=>rdT false x y wd hg (a + i * b))=z11
 refine dA (fun i env=>∃ (c':Cells) (v:Nat) (t12 t13 t14 t15 t16:T),v<=N1 + i/\env=[z,stT c' v,.int tn,.int (wd:Int),.int (hg:Int),.int x,.int y,.int (a:Int),.int (b:Int),z9,z10,z11,t12,t13,t14,t15,t16]) ⟨c9,N1,_,_,_,_,_,c_ _,rfl⟩ ?_ ?_
 ·rintro i t _ ⟨c',v,t12,t13,t14,t15,t16,hv,rfl⟩ ei
  obtain⟨hi,rfl⟩:=DC ei
  have hk:=mk i hi
  unfold rdT
  have ww:1<=wd - 2 * (a + i * b):=by omega
  have hh:1<=hg - 2 * (a + i * b):=by omega
  have ww2:wd - 2 * (a + i * b) < 1000:=by lia
  have hh2:hg - 2 * (a + i * b) < 1000:=by lia
  generalize wd - 2 * (a + i * b)=W at *
  generalize hg - 2 * (a + i * b)=Hh at *
  generalize ((x + ((a + i * b:Nat):Int),y + ((a + i * b:Nat):Int)):Pt)=p0
  have ld:=vv ww2 hh2
  walk_at "go"
  refine dA (fun j env=>∃ (c':Cells) (v:Nat) (t12 t13 t14 t15 t16:T),v<=N1 + i + j/\env=[z,stT c' v,.int tn,.int (wd:Int),.int (hg:Int),.int x,.int y,.int (a:Int),.int (b:Int),z9,z10,z11,t12,t13,t14,t15,t16]) ⟨c',v,_,_,_,_,_,hv,rfl⟩ ?_ ?_
  ·rintro j t _ ⟨c2,v2,s12,s13,s14,s15,s16,hv2,rfl⟩ ej
   have hj:j < 1:=(e_.mp ej).1
   obtain rfl:j=0:=by lia
   obtain rfl:=x_ ej
   walk_at "go"
   walk_at "take"
   intro g c3 g0 g1
   walk_at "go"
   obtain⟨g,rfl⟩:=JW (a:=g) g0
   have b3:=wD (g:=g) (by lia) ww hh
   refine⟨p0,dsR W Hh,g,rfl,An W Hh,by lia,?_⟩
   have pc:=fun p b m=>ID (g:=(g:Int)) (p:=p) (w:=W) (h:=Hh) (b:=b) m
   generalize blk (g:Int) [] 0 (dsR W Hh)=bs at *
   walk_at "go"
   refine aT (fun hc=>absurd hc (by lia)) (fun hc=>?_)
   walk_at "go"
   refine dA (fun _ env=>∃ (t15 t16:T),env=[z,stT c3 (v2 + 1),.int tn,.int (wd:Int),.int (hg:Int),.int x,.int y,.int (a:Int),.int (b:Int),z9,z10,z11,s12,.lst false (JO (fun x=>ptP x) (pts p0 (dsR W Hh))),.int (g:Int),t15,t16]) ⟨_,_,rfl⟩ ?_ ?_
   ·rintro l t _ ⟨t15,t16,rfl⟩ el
    obtain⟨bb,eb,rfl⟩:=yJ el
    obtain⟨q1,cc,ec,k1,k2,k3,k4,k5⟩:=pc (aM p0 (bs.take l).flatten) bb (JK eb)
    unfold pcF
    rw [ec]
    walk_at "go"
    have en:((pts q1 cc).length:Int) - 1=(cc.length:Int):=by rw [eN];lia
    refine aT (fun hc=>?_) (fun hc=>?_)
    walk_at "go"
    refine aT (fun h2=>absurd h2 fun y=>by
     rw [eN] at y
     have:=k5 (by lia)
     lia) (fun h2=>?_)
    all_goals walk_at "go"
    all_goals
     rw [en,JX]
     refine⟨by lia,bz (by rw [aS,sizeLine_eq];lia) (fun i acc ie=>acc=((sd g cc).take i).map T.int/\∃ z,ie=[z,.int (g:Int),.lst false ((pts q1 cc).map ptP)]) ⟨rfl,_,rfl⟩ ?_ ?_⟩
     ·rintro i t _ _ ⟨rfl,z,rfl⟩ ei
      have hi:i < cc.length:=jZ ei
      have et:=gw ei
      subst et
      have ed:cc[i]?=some cc[i]:=a_ hi
      have es:(sd g cc)[i]?=some (au cc[i] g):=by unfold sd;rw [w_,ed];rfl
      rw [map_take es,KY]
      walk_at "go"
      refine bU (zI (Jz hi)) ?_
      walk_at "go"
      refine bU (zI (i:=i + 1) hi) ?_
      walk_at "go"
      refine⟨_,cc[i],g,by rw [JJ,ed];exact congrArg (fun q=>[ptP (aM q1 (cc.take i)),ptP q,T.int g]) fB,k1 _ (JK ed),?_⟩
      walk_at "go"
      exact⟨_,rfl⟩
     rintro _ _ ⟨rfl,z',rfl⟩
     rw [aS,JC (by unfold sd;rw [b_];exact c_ _)]
     walk_at "go"
     refine aT (fun h3=>absurd h3 k3) (fun h3=>?_)
     walk_at "go"
     exact⟨_,_,rfl⟩
   ·rintro _ ⟨t15,t16,rfl⟩
    walk_at "go"
    exact⟨c3,v2 + 1,_,_,_,_,_,by lia,rfl⟩
  ·rintro _ ⟨c2,v2,s12,s13,s14,s15,s16,hv2,rfl⟩
   walk_at "go"
   exact⟨c2,v2,_,_,_,_,_,hv2,rfl⟩
 ·rintro _ ⟨c',v,t12,t13,t14,t15,t16,hv,rfl⟩
  walk_at "go"
  exact q z
end
end Mp
namespace Mp
open PySem L2 PL
theorem ar0 {α:Type}{P:List α->Prop}(h:P []):∀ us:List α,us.length=0->P us:=fun us e=>by
 cases us with
 | nil=>exact h
 | cons a r=>cases e
theorem ar1 {α:Type}{P:List α->Prop}(h:∀ a0,P [a0]):∀ us:List α,us.length=1->P us:=fun us e=>by
 cases us with
 | nil=>cases e
 | cons a0 r=>exact ar0 (P:=fun r=>P (a0::r)) (h a0) r (Ky e)
theorem ar2 {α:Type}{P:List α->Prop}(h:∀ a0 a1,P [a0,a1]):∀ us:List α,us.length=2->P us:=fun us e=>by
 cases us with
 | nil=>cases e
 | cons a0 r=>exact ar1 (P:=fun r=>P (a0::r)) (h a0) r (Ky e)
theorem ar3 {α:Type}{P:List α->Prop}(h:∀ a0 a1 a2,P [a0,a1,a2]):∀ us:List α,us.length=3->P us:=fun us e=>by
 cases us with
 | nil=>cases e
 | cons a0 r=>exact ar2 (P:=fun r=>P (a0::r)) (h a0) r (Ky e)
theorem ar4 {α:Type}{P:List α->Prop}(h:∀ a0 a1 a2 a3,P [a0,a1,a2,a3]):∀ us:List α,us.length=4->P us:=fun us e=>by
 cases us with
 | nil=>cases e
 | cons a0 r=>exact ar3 (P:=fun r=>P (a0::r)) (h a0) r (Ky e)
theorem ar5 {α:Type}{P:List α->Prop}(h:∀ a0 a1 a2 a3 a4,P [a0,a1,a2,a3,a4]):∀ us:List α,us.length=5->P us:=fun us e=>by
 cases us with
 | nil=>cases e
 | cons a0 r=>exact ar4 (P:=fun r=>P (a0::r)) (h a0) r (Ky e)
theorem ar6 {α:Type}{P:List α->Prop}(h:∀ a0 a1 a2 a3 a4 a5,P [a0,a1,a2,a3,a4,a5]):∀ us:List α,us.length=6->P us:=fun us e=>by
 cases us with
 | nil=>cases e
 | cons a0 r=>exact ar5 (P:=fun r=>P (a0::r)) (h a0) r (Ky e)
theorem walk {l:PySem.W.OpenLaw}{q:Program}{loose:List Str}{XP:(Str->Option Value)->Heap->Prop}{YP:World->Heap->Prop}{d:DefRec}{K:Params->PySem.W.Frag}(hn:l.most=some 63)(hdf:d.params.defaults=[])
  (hY:∀ (w:World) (h:Heap),YP w h->(K w.params).In h)
  (F:∀ (w:World) (mg:Str->Option Value) (fa:Addr) (h:Heap),(K w.params).In h->h.Ns mainGlobals mg->mg d.name=some (.ref fa)->
   ∃ fd:FuncData,(∀ (s:Shared) (u:Value),BindsTo s fd ⟨[u],[]⟩ [("_law_script",u)])/\∀ base:Heap,(K w.params).In base->base.Ns mainGlobals mg->FnOk l.prog w (K w.params) mg base CX0 6 fa fd ["_law_script"] (uZ (K w.params))) :
  PySem.W.WalkO q loose XP YP l.row.toRowW d [] (fun f vs=>PySem.call f vs):=
 L2.BY (n:=63) (k:=6) (x:="_law_script") (CX:=fun _=>CX0) (sp:=fun w=>uZ (K w.params)) hn (by decide) hdf ⟨rfl,by decide,by decide,rfl⟩ hY F (fun _ _ a ns hl _ hS=>⟨a,ns,rfl,hS,hl,fun _=>rfl⟩) fun _ _ _ _ _ z=>z
noncomputable def kd (P:Params) (x:Str) (t:Tok) (v:Value):DictEntry:=⟨PyData.keyHash P x,.str x t,v⟩
noncomputable def kf (n:Str) (s:Stmt) (m:Value) (c:Addr):Obj:=⟨.type "function",none,.func (PySem.W.fnOf n n (eO s) (dQ s) (ak s) .none .none .none m none (.ref c) .none),#[]⟩
noncomputable def KK (P:Params):PySem.W.Frag:=[(3,⟨.type "dict",none,.dict #[kd P "__name__" 165 (.str "law_millpath_k33_runs_round_rings" 362),kd P "__doc__" 166 (.none),kd P "__package__" 167 (.none),kd P "__loader__" 168 (.builtin "__main__.__loader__#opaque"),kd P "__spec__" 169 (.none),kd P "__annotations__" 170 (.ref 6),kd P "__builtins__" 171 (.ref 4),kd P "__file__" 173 (.str "/claim/cut.py" 172),kd P "__cached__" 174 (.none),kd P "STEPS" 211 (.ref 23),kd P "stepped" 221 (.ref 30),kd P "straight" 231 (.ref 37),kd P "ANY_TURN" 242 (.ref 38),kd P "TURNS" 250 (.ref 39),kd P "runs" 256 (.ref 44),kd P "run_from" 266 (.ref 51),kd P "next_direction" 278 (.ref 58),kd P "closed" 286 (.ref 65),kd P "WITH" 290 (.int (1) 289),kd P "ACROSS" 292 (.int (0) 291),kd P "AGAINST" 295 (.int (-1) 294),kd P "with_grain" 308 (.ref 72),kd P "lie_of_step" 318 (.ref 79),kd P "turned" 326 (.ref 86),kd P "depths_in" 334 (.ref 91),kd P "within_rim" 340 (.ref 96),kd P "is_walled" 349 (.ref 103),kd P "rings" 361 (.ref 110),kd P "_law_begin" 371 (.ref 117),kd P "_law_take" 384 (.ref 124),kd P "_law_same" 390 (.ref 129),kd P "_law_ways" 396 (.ref 136),kd P "_law_side" 406 (.ref 143),kd P "_law_round" 412 (.ref 148),kd P "_law_due" 426 (.ref 155),kd P "law" 432 (.ref 160)] 36,#[]⟩),(30,kf "stepped" kg (.str "millpath.corners" 187) 29),(29,⟨.type "code",none,.fields #[.str "stepped" 212,.str "stepped" 213,.str "/claim/cut.py" 214,.int (3) 0,.int (3) 0,.int (0) 0,.int (0) 0,.int (3) 0,.ref 24,.bool true,.int (181) 0,.ref 25,.none,.ref 26,.ref 27,.ref 28,.int (219) 0,.int (3) 0,.str "/claim/cut.py" 220],#[]⟩),(37,kf "straight" iq (.str "millpath.corners" 187) 36),(36,⟨.type "code",none,.fields #[.str "straight" 222,.str "straight" 223,.str "/claim/cut.py" 224,.int (6) 0,.int (2) 0,.int (0) 0,.int (0) 0,.int (3) 0,.ref 31,.bool true,.int (181) 0,.ref 32,.none,.ref 33,.ref 34,.ref 35,.int (229) 0,.int (6) 0,.str "/claim/cut.py" 230],#[]⟩),(44,kf "runs" u6 (.str "millpath.runs" 232) 43),(43,⟨.type "code",none,.fields #[.str "runs" 251,.str "runs" 252,.str "/claim/cut.py" 253,.int (17) 0,.int (1) 0,.int (0) 0,.int (0) 0,.int (3) 0,.ref 40,.bool true,.int (181) 0,.ref 41,.none,.none,.none,.ref 42,.int (254) 0,.int (17) 0,.str "/claim/cut.py" 255],#[]⟩),(51,kf "run_from" iF (.str "millpath.runs" 232) 50),(50,⟨.type "code",none,.fields #[.str "run_from" 257,.str "run_from" 258,.str "/claim/cut.py" 259,.int (24) 0,.int (2) 0,.int (0) 0,.int (0) 0,.int (3) 0,.ref 45,.bool true,.int (181) 0,.ref 46,.none,.ref 47,.ref 48,.ref 49,.int (264) 0,.int (24) 0,.str "/claim/cut.py" 265],#[]⟩),(58,kf "next_direction" dN (.str "millpath.runs" 232) 57),(57,⟨.type "code",none,.fields #[.str "next_direction" 267,.str "next_direction" 268,.str "/claim/cut.py" 269,.int (33) 0,.int (4) 0,.int (0) 0,.int (0) 0,.int (3) 0,.ref 52,.bool true,.int (181) 0,.ref 53,.none,.ref 54,.ref 55,.ref 56,.int (276) 0,.int (33) 0,.str "/claim/cut.py" 277],#[]⟩),(65,kf "closed" n8 (.str "millpath.runs" 232) 64),(64,⟨.type "code",none,.fields #[.str "closed" 279,.str "closed" 280,.str "/claim/cut.py" 281,.int (39) 0,.int (1) 0,.int (0) 0,.int (0) 0,.int (3) 0,.ref 59,.bool true,.int (181) 0,.ref 60,.none,.ref 61,.ref 62,.ref 63,.int (284) 0,.int (39) 0,.str "/claim/cut.py" 285],#[]⟩),(72,kf "with_grain" fR (.str "millpath.grain" 287) 71),(71,⟨.type "code",none,.fields #[.str "with_grain" 296,.str "with_grain" 297,.str "/claim/cut.py" 298,.int (48) 0,.int (2) 0,.int (0) 0,.int (0) 0,.int (3) 0,.ref 66,.bool true,.int (181) 0,.ref 67,.none,.ref 68,.ref 69,.ref 70,.int (306) 0,.int (48) 0,.str "/claim/cut.py" 307],#[]⟩),(79,kf "lie_of_step" f6 (.str "millpath.grain" 287) 78),(78,⟨.type "code",none,.fields #[.str "lie_of_step" 309,.str "lie_of_step" 310,.str "/claim/cut.py" 311,.int (61) 0,.int (3) 0,.int (0) 0,.int (0) 0,.int (3) 0,.ref 73,.bool true,.int (181) 0,.ref 74,.none,.ref 75,.ref 76,.ref 77,.int (316) 0,.int (61) 0,.str "/claim/cut.py" 317],#[]⟩),(86,kf "turned" lX (.str "millpath.grain" 287) 85),(85,⟨.type "code",none,.fields #[.str "turned" 319,.str "turned" 320,.str "/claim/cut.py" 321,.int (67) 0,.int (2) 0,.int (0) 0,.int (0) 0,.int (3) 0,.ref 80,.bool true,.int (181) 0,.ref 81,.none,.ref 82,.ref 83,.ref 84,.int (324) 0,.int (67) 0,.str "/claim/cut.py" 325],#[]⟩),(91,kf "depths_in" gB (.str "millpath.rings" 327) 90),(90,⟨.type "code",none,.fields #[.str "depths_in" 329,.str "depths_in" 330,.str "/claim/cut.py" 331,.int (70) 0,.int (1) 0,.int (0) 0,.int (0) 0,.int (3) 0,.ref 87,.bool true,.int (181) 0,.ref 88,.none,.none,.none,.ref 89,.int (332) 0,.int (70) 0,.str "/claim/cut.py" 333],#[]⟩),(96,kf "within_rim" fL (.str "millpath.rings" 327) 95),(95,⟨.type "code",none,.fields #[.str "within_rim" 335,.str "within_rim" 336,.str "/claim/cut.py" 337,.int (80) 0,.int (1) 0,.int (0) 0,.int (0) 0,.int (3) 0,.ref 92,.bool true,.int (181) 0,.ref 93,.none,.none,.none,.ref 94,.int (338) 0,.int (80) 0,.str "/claim/cut.py" 339],#[]⟩),(103,kf "is_walled" gy (.str "millpath.rings" 327) 102),(102,⟨.type "code",none,.fields #[.str "is_walled" 341,.str "is_walled" 342,.str "/claim/cut.py" 343,.int (83) 0,.int (2) 0,.int (0) 0,.int (0) 0,.int (3) 0,.ref 97,.bool true,.int (181) 0,.ref 98,.none,.ref 99,.ref 100,.ref 101,.int (347) 0,.int (83) 0,.str "/claim/cut.py" 348],#[]⟩),(110,kf "rings" qk (.str "millpath.rings" 327) 109),(109,⟨.type "code",none,.fields #[.str "rings" 350,.str "rings" 351,.str "/claim/cut.py" 352,.int (88) 0,.int (3) 0,.int (0) 0,.int (0) 0,.int (3) 0,.ref 104,.bool true,.int (181) 0,.ref 105,.none,.ref 106,.ref 107,.ref 108,.int (359) 0,.int (88) 0,.str "/claim/cut.py" 360],#[]⟩),(117,kf "_law_begin" lH (.str "law_millpath_k33_runs_round_rings" 362) 116),(116,⟨.type "code",none,.fields #[.str "_law_begin" 364,.str "_law_begin" 365,.str "/claim/cut.py" 366,.int (96) 0,.int (1) 0,.int (0) 0,.int (0) 0,.int (3) 0,.ref 111,.bool true,.int (181) 0,.ref 112,.none,.ref 113,.ref 114,.ref 115,.int (369) 0,.int (96) 0,.str "/claim/cut.py" 370],#[]⟩),(124,kf "_law_take" pI (.str "law_millpath_k33_runs_round_rings" 362) 123),(123,⟨.type "code",none,.fields #[.str "_law_take" 372,.str "_law_take" 373,.str "/claim/cut.py" 374,.int (101) 0,.int (2) 0,.int (0) 0,.int (0) 0,.int (3) 0,.ref 118,.bool true,.int (181) 0,.ref 119,.none,.ref 120,.ref 121,.ref 122,.int (382) 0,.int (101) 0,.str "/claim/cut.py" 383],#[]⟩),(129,kf "_law_same" s_same (.str "law_millpath_k33_runs_round_rings" 362) 128),(128,⟨.type "code",none,.fields #[.str "_law_same" 385,.str "_law_same" 386,.str "/claim/cut.py" 387,.int (112) 0,.int (2) 0,.int (0) 0,.int (0) 0,.int (3) 0,.ref 125,.bool true,.int (181) 0,.ref 126,.none,.none,.none,.ref 127,.int (388) 0,.int (112) 0,.str "/claim/cut.py" 389],#[]⟩),(136,kf "_law_ways" sW (.str "law_millpath_k33_runs_round_rings" 362) 135),(135,⟨.type "code",none,.fields #[.str "_law_ways" 391,.str "_law_ways" 392,.str "/claim/cut.py" 393,.int (128) 0,.int (0) 0,.int (0) 0,.int (0) 0,.int (3) 0,.ref 130,.bool true,.int (181) 0,.ref 131,.none,.ref 132,.ref 133,.ref 134,.int (394) 0,.int (128) 0,.str "/claim/cut.py" 395],#[]⟩),(143,kf "_law_side" tJ (.str "law_millpath_k33_runs_round_rings" 362) 142),(142,⟨.type "code",none,.fields #[.str "_law_side" 397,.str "_law_side" 398,.str "/claim/cut.py" 399,.int (130) 0,.int (3) 0,.int (0) 0,.int (0) 0,.int (3) 0,.ref 137,.bool true,.int (181) 0,.ref 138,.none,.ref 139,.ref 140,.ref 141,.int (404) 0,.int (130) 0,.str "/claim/cut.py" 405],#[]⟩),(148,kf "_law_round" pC (.str "law_millpath_k33_runs_round_rings" 362) 147),(147,⟨.type "code",none,.fields #[.str "_law_round" 407,.str "_law_round" 408,.str "/claim/cut.py" 409,.int (133) 0,.int (4) 0,.int (0) 0,.int (0) 0,.int (3) 0,.ref 144,.bool true,.int (181) 0,.ref 145,.none,.none,.none,.ref 146,.int (410) 0,.int (133) 0,.str "/claim/cut.py" 411],#[]⟩),(155,kf "_law_due" zY (.str "law_millpath_k33_runs_round_rings" 362) 154),(154,⟨.type "code",none,.fields #[.str "_law_due" 413,.str "_law_due" 414,.str "/claim/cut.py" 415,.int (141) 0,.int (6) 0,.int (0) 0,.int (0) 0,.int (3) 0,.ref 149,.bool true,.int (181) 0,.ref 150,.none,.ref 151,.ref 152,.ref 153,.int (424) 0,.int (141) 0,.str "/claim/cut.py" 425],#[]⟩),(160,kf "law" gm (.str "law_millpath_k33_runs_round_rings" 362) 159),(159,⟨.type "code",none,.fields #[.str "law" 427,.str "law" 428,.str "/claim/cut.py" 429,.int (148) 0,.int (1) 0,.int (0) 0,.int (0) 0,.int (3) 0,.ref 156,.bool true,.int (181) 0,.ref 157,.none,.none,.none,.ref 158,.int (430) 0,.int (148) 0,.str "/claim/cut.py" 431],#[]⟩),(23,⟨.type "tuple",none,.seq #[.ref 15,.ref 16,.ref 17,.ref 18,.ref 19,.ref 20,.ref 21,.ref 22] 0,#[]⟩),(15,⟨.type "tuple",none,.seq #[.int (1) 189,.int (0) 190] 0,#[]⟩),(16,⟨.type "tuple",none,.seq #[.int (1) 191,.int (1) 192] 0,#[]⟩),(17,⟨.type "tuple",none,.seq #[.int (0) 193,.int (1) 194] 0,#[]⟩),(18,⟨.type "tuple",none,.seq #[.int (-1) 196,.int (1) 197] 0,#[]⟩),(19,⟨.type "tuple",none,.seq #[.int (-1) 199,.int (0) 200] 0,#[]⟩),(20,⟨.type "tuple",none,.seq #[.int (-1) 202,.int (-1) 204] 0,#[]⟩),(21,⟨.type "tuple",none,.seq #[.int (0) 205,.int (-1) 207] 0,#[]⟩),(22,⟨.type "tuple",none,.seq #[.int (1) 208,.int (-1) 210] 0,#[]⟩),(38,⟨.type "tuple",none,.seq #[.int (0) 234,.int (1) 235,.int (2) 236,.int (3) 237,.int (4) 238,.int (5) 239,.int (6) 240,.int (7) 241] 0,#[]⟩),(39,⟨.type "tuple",none,.seq #[.int (0) 243,.int (1) 244,.int (7) 245,.int (2) 246,.int (6) 247,.int (3) 248,.int (5) 249] 0,#[]⟩)]
def kas:List Addr:=[3,30,29,37,36,44,43,51,50,58,57,65,64,72,71,79,78,86,85,91,90,96,95,103,102,110,109,117,116,124,123,129,128,136,135,143,142,148,147,155,154,160,159,23,15,16,17,18,19,20,21,22,38,39]
theorem t7 (P:Params):kas=(KK P).map (·.1):=by kernel_rfl
noncomputable def VW:Program:=PySem.W.view PySem.Challenge.pw_millpath_k33_runs_round_rings [1,2,3,5,6,7,8,9,10,12,13,14,15,16,17,19,20,21,22,24,25,26,27,28,29,30,31]
def ED (s:Stmt):Pos:=match s with
 | .FunctionDef _ _ _ _ _ _ _ _ _ p=>p
 | _=>⟨0,0,0,0⟩
theorem dfn {h:Heap}{mg:Str->Option Value}{P:Params}{x:Str}{st:Stmt}{ps:List Str}(X:(KK P).In h)(G:h.Ns mainGlobals mg)(f c:Addr)(m:Value)(l:(KK P).lookup f=some (kf x st m c):=by kernel_rfl)(a:PySem.W.nsIn (KK P) mainGlobals x=some (some (.ref f)):=by kernel_rfl)(cd:PySem.W.codeIn (KK P) (.ref c) x=true:=by kernel_rfl)(kp:PySem.W.keepIn (KK P) (.ref f)=true:=by kernel_rfl)
  (hb:∀ (kV doc pm:Value) (an:Option Addr) (cdv ct:Value) (us:List Value),us.length=ps.length->bindArgs (PySem.W.fnOf x x (eO st) (dQ st) (ak st) .none kV doc pm an cdv ct) ⟨us,[]⟩=pure (ps.zip us):=by intro _ _ _ _ _ _ us;revert us;first | (apply ar0;rfl) | (apply ar1;intros;rfl) | (apply ar2;intros;rfl) | (apply ar3;intros;rfl) | (apply ar4;intros;rfl) | (apply ar6;intros;rfl)):Dfn (KK P) mg x st ps:=⟨f,_,tO (st:=st) l cd kp,PySem.W.mg_of X G a,(tO (st:=st) l cd kp).binds hb⟩
def mo0:Value:=.str "millpath.corners" 187
def mo1:Value:=.str "millpath.runs" 232
def mo2:Value:=.str "millpath.grain" 287
def mo3:Value:=.str "millpath.rings" 327
def mo4:Value:=.str "law_millpath_k33_runs_round_rings" 362
set_option maxHeartbeats 0 in
theorem all_mk {l:PySem.W.OpenLaw}{w:World}{h:Heap}{mg:Str->Option Value}{fa:Addr}(X:(KK w.params).In h)(G:h.Ns mainGlobals mg)(hfa:mg "law"=some (.ref fa)):∃ fd:FuncData,(∀ (s:Shared) (v:Value),BindsTo s fd ⟨[v],[]⟩ [("_law_script",v)])/\∀ base:Heap,(KK w.params).In base->base.Ns mainGlobals mg->FnOk l.prog w (KK w.params) mg base CX0 6 fa fd ["_law_script"] (uZ (KK w.params)):=by
 have e:=hfa.symm.trans (PySem.W.mg_of X G (show PySem.W.nsIn (KK w.params) mainGlobals "law"=some (some (.ref 160)) by kernel_rfl))
 cases e
 have z:∀ {x:Str},PySem.W.nsIn (KK w.params) mainGlobals x=some none->mg x=none:=fun h=>PySem.W.mg_none_of X G h
 have T:Txt mg:=⟨z (by kernel_rfl),z (by kernel_rfl),z (by kernel_rfl),z (by kernel_rfl),z (by kernel_rfl),z (by kernel_rfl),z (by kernel_rfl),z (by kernel_rfl),z (by kernel_rfl),z (by kernel_rfl),z (by kernel_rfl),z (by kernel_rfl),z (by kernel_rfl),z (by kernel_rfl),z (by kernel_rfl),z (by kernel_rfl),z (by kernel_rfl),z (by kernel_rfl),z (by kernel_rfl),z (by kernel_rfl),z (by kernel_rfl)⟩
 have F:=tO (st:=gm) (K:=KK w.params) (x:="law") (qual:="law") (f:=160) (oc:=.type "function") (od:=none) (an:=none) (osl:=#[]) (kV:=.none) (doc:=.none) (pm:=mo4) (cdv:=.ref 159) (ct:=.none) (by kernel_rfl) (by kernel_rfl) (by kernel_rfl)
 refine⟨PySem.W.fnOf "law" "law" (eO gm) (dQ gm) (ak gm) .none .none .none mo4 none (.ref 159) .none,fun s v=>.of_eq rfl,fun base _ _=>?_⟩
 have cl1:(KK w.params).lookup 23=some ⟨.type "tuple",none,.seq #[.ref 15,.ref 16,.ref 17,.ref 18,.ref 19,.ref 20,.ref 21,.ref 22] 0,#[]⟩:=by kernel_rfl
 have cl2:(KK w.params).lookup 15=some ⟨.type "tuple",none,.seq #[.int (1) 189,.int (0) 190] 0,#[]⟩:=by kernel_rfl
 have cl3:(KK w.params).lookup 16=some ⟨.type "tuple",none,.seq #[.int (1) 191,.int (1) 192] 0,#[]⟩:=by kernel_rfl
 have cl4:(KK w.params).lookup 17=some ⟨.type "tuple",none,.seq #[.int (0) 193,.int (1) 194] 0,#[]⟩:=by kernel_rfl
 have cl5:(KK w.params).lookup 18=some ⟨.type "tuple",none,.seq #[.int (-1) 196,.int (1) 197] 0,#[]⟩:=by kernel_rfl
 have cl6:(KK w.params).lookup 19=some ⟨.type "tuple",none,.seq #[.int (-1) 199,.int (0) 200] 0,#[]⟩:=by kernel_rfl
 have cl7:(KK w.params).lookup 20=some ⟨.type "tuple",none,.seq #[.int (-1) 202,.int (-1) 204] 0,#[]⟩:=by kernel_rfl
 have cl8:(KK w.params).lookup 21=some ⟨.type "tuple",none,.seq #[.int (0) 205,.int (-1) 207] 0,#[]⟩:=by kernel_rfl
 have cl9:(KK w.params).lookup 22=some ⟨.type "tuple",none,.seq #[.int (1) 208,.int (-1) 210] 0,#[]⟩:=by kernel_rfl
 have cl10:(KK w.params).lookup 38=some ⟨.type "tuple",none,.seq #[.int (0) 234,.int (1) 235,.int (2) 236,.int (3) 237,.int (4) 238,.int (5) 239,.int (6) 240,.int (7) 241] 0,#[]⟩:=by kernel_rfl
 have cl11:(KK w.params).lookup 39=some ⟨.type "tuple",none,.seq #[.int (0) 243,.int (1) 244,.int (7) 245,.int (2) 246,.int (6) 247,.int (3) 248,.int (5) 249] 0,#[]⟩:=by kernel_rfl
 have gt_STEPS:PySem.W.nsIn (KK w.params) mainGlobals "STEPS"=some (some (.ref 23)):=by kernel_rfl
 have gt_ANY_TURN:PySem.W.nsIn (KK w.params) mainGlobals "ANY_TURN"=some (some (.ref 38)):=by kernel_rfl
 have gt_TURNS:PySem.W.nsIn (KK w.params) mainGlobals "TURNS"=some (some (.ref 39)):=by kernel_rfl
 have gi_ACROSS:PySem.W.nsIn (KK w.params) mainGlobals "ACROSS"=some (some (.int (0) 291)):=by kernel_rfl
 have gi_WITH:PySem.W.nsIn (KK w.params) mainGlobals "WITH"=some (some (.int (1) 289)):=by kernel_rfl
 have gi_AGAINST:PySem.W.nsIn (KK w.params) mainGlobals "AGAINST"=some (some (.int (-1) 294)):=by kernel_rfl
 have C_STEPS:Glb (KK w.params) mg "STEPS" lF:=⟨.ref 23,_,PySem.W.mg_of X G gt_STEPS,rfl,fun _ _=>(.cst (.inr ⟨_,_,0,cl1,rfl,rfl,(by show 8<=sizeLine;decide),(.cons (show RelV (.ref 15) (.ref 15) from rfl) (.cons (show RelV (.ref 16) (.ref 16) from rfl) (.cons (show RelV (.ref 17) (.ref 17) from rfl) (.cons (show RelV (.ref 18) (.ref 18) from rfl) (.cons (show RelV (.ref 19) (.ref 19) from rfl) (.cons (show RelV (.ref 20) (.ref 20) from rfl) (.cons (show RelV (.ref 21) (.ref 21) from rfl) (.cons (show RelV (.ref 22) (.ref 22) from rfl) .nil))))))))⟩) (.cons rfl (.cst (.inr ⟨_,_,0,cl2,rfl,rfl,(by show 2<=sizeLine;decide),(.cons (show RelV (.int (1)) (.int (1) 189) from ⟨_,rfl⟩) (.cons (show RelV (.int (0)) (.int (0) 190) from ⟨_,rfl⟩) .nil))⟩) (.cons rfl .int (.cons rfl .int .nil))) (.cons rfl (.cst (.inr ⟨_,_,0,cl3,rfl,rfl,(by show 2<=sizeLine;decide),(.cons (show RelV (.int (1)) (.int (1) 191) from ⟨_,rfl⟩) (.cons (show RelV (.int (1)) (.int (1) 192) from ⟨_,rfl⟩) .nil))⟩) (.cons rfl .int (.cons rfl .int .nil))) (.cons rfl (.cst (.inr ⟨_,_,0,cl4,rfl,rfl,(by show 2<=sizeLine;decide),(.cons (show RelV (.int (0)) (.int (0) 193) from ⟨_,rfl⟩) (.cons (show RelV (.int (1)) (.int (1) 194) from ⟨_,rfl⟩) .nil))⟩) (.cons rfl .int (.cons rfl .int .nil))) (.cons rfl (.cst (.inr ⟨_,_,0,cl5,rfl,rfl,(by show 2<=sizeLine;decide),(.cons (show RelV (.int (-1)) (.int (-1) 196) from ⟨_,rfl⟩) (.cons (show RelV (.int (1)) (.int (1) 197) from ⟨_,rfl⟩) .nil))⟩) (.cons rfl .int (.cons rfl .int .nil))) (.cons rfl (.cst (.inr ⟨_,_,0,cl6,rfl,rfl,(by show 2<=sizeLine;decide),(.cons (show RelV (.int (-1)) (.int (-1) 199) from ⟨_,rfl⟩) (.cons (show RelV (.int (0)) (.int (0) 200) from ⟨_,rfl⟩) .nil))⟩) (.cons rfl .int (.cons rfl .int .nil))) (.cons rfl (.cst (.inr ⟨_,_,0,cl7,rfl,rfl,(by show 2<=sizeLine;decide),(.cons (show RelV (.int (-1)) (.int (-1) 202) from ⟨_,rfl⟩) (.cons (show RelV (.int (-1)) (.int (-1) 204) from ⟨_,rfl⟩) .nil))⟩) (.cons rfl .int (.cons rfl .int .nil))) (.cons rfl (.cst (.inr ⟨_,_,0,cl8,rfl,rfl,(by show 2<=sizeLine;decide),(.cons (show RelV (.int (0)) (.int (0) 205) from ⟨_,rfl⟩) (.cons (show RelV (.int (-1)) (.int (-1) 207) from ⟨_,rfl⟩) .nil))⟩) (.cons rfl .int (.cons rfl .int .nil))) (.cons rfl (.cst (.inr ⟨_,_,0,cl9,rfl,rfl,(by show 2<=sizeLine;decide),(.cons (show RelV (.int (1)) (.int (1) 208) from ⟨_,rfl⟩) (.cons (show RelV (.int (-1)) (.int (-1) 210) from ⟨_,rfl⟩) .nil))⟩) (.cons rfl .int (.cons rfl .int .nil))) .nil)))))))))⟩
 have C_ANY_TURN:Glb (KK w.params) mg "ANY_TURN" iB:=⟨.ref 38,_,PySem.W.mg_of X G gt_ANY_TURN,rfl,fun _ _=>(.cst (.inr ⟨_,_,0,cl10,rfl,rfl,(by show 8<=sizeLine;decide),(.cons (show RelV (.int (0)) (.int (0) 234) from ⟨_,rfl⟩) (.cons (show RelV (.int (1)) (.int (1) 235) from ⟨_,rfl⟩) (.cons (show RelV (.int (2)) (.int (2) 236) from ⟨_,rfl⟩) (.cons (show RelV (.int (3)) (.int (3) 237) from ⟨_,rfl⟩) (.cons (show RelV (.int (4)) (.int (4) 238) from ⟨_,rfl⟩) (.cons (show RelV (.int (5)) (.int (5) 239) from ⟨_,rfl⟩) (.cons (show RelV (.int (6)) (.int (6) 240) from ⟨_,rfl⟩) (.cons (show RelV (.int (7)) (.int (7) 241) from ⟨_,rfl⟩) .nil))))))))⟩) (.cons rfl .int (.cons rfl .int (.cons rfl .int (.cons rfl .int (.cons rfl .int (.cons rfl .int (.cons rfl .int (.cons rfl .int .nil)))))))))⟩
 have C_TURNS:Glb (KK w.params) mg "TURNS" pE:=⟨.ref 39,_,PySem.W.mg_of X G gt_TURNS,rfl,fun _ _=>(.cst (.inr ⟨_,_,0,cl11,rfl,rfl,(by show 7<=sizeLine;decide),(.cons (show RelV (.int (0)) (.int (0) 243) from ⟨_,rfl⟩) (.cons (show RelV (.int (1)) (.int (1) 244) from ⟨_,rfl⟩) (.cons (show RelV (.int (7)) (.int (7) 245) from ⟨_,rfl⟩) (.cons (show RelV (.int (2)) (.int (2) 246) from ⟨_,rfl⟩) (.cons (show RelV (.int (6)) (.int (6) 247) from ⟨_,rfl⟩) (.cons (show RelV (.int (3)) (.int (3) 248) from ⟨_,rfl⟩) (.cons (show RelV (.int (5)) (.int (5) 249) from ⟨_,rfl⟩) .nil)))))))⟩) (.cons rfl .int (.cons rfl .int (.cons rfl .int (.cons rfl .int (.cons rfl .int (.cons rfl .int (.cons rfl .int .nil))))))))⟩
 have C_ACROSS:Glb (KK w.params) mg "ACROSS" mW:=⟨.int (0),_,PySem.W.mg_of X G gi_ACROSS,⟨_,rfl⟩,fun _ _=>.int⟩
 have C_WITH:Glb (KK w.params) mg "WITH" zJ:=⟨.int (1),_,PySem.W.mg_of X G gi_WITH,⟨_,rfl⟩,fun _ _=>.int⟩
 have C_AGAINST:Glb (KK w.params) mg "AGAINST" jR:=⟨.int (-1),_,PySem.W.mg_of X G gi_AGAINST,⟨_,rfl⟩,fun _ _=>.int⟩
 have G_take:Cal l.prog w (KK w.params) mg base 1 "_law_take" ["_law_state","_law_many"] (aU (KK w.params) 2 t9):=xW (dfn X G 124 123 mo4) T
 have G_begin:Cal l.prog w (KK w.params) mg base 1 "_law_begin" ["_law_script"] (aU (KK w.params) 1 (oI (KK w.params))):=wz (dfn X G 117 116 mo4) T
 have G_same:Cal l.prog w (KK w.params) mg base 5 "_law_same" ["_law_found","_law_due_here"] (aU (KK w.params) 2 (pS 5)):=Aq (dfn X G 129 128 mo4) 5 (qA (dfn X G 129 128 mo4) T 5)
 have G_stepped:=(dfn X G 30 29 mo0).cal (base:=base) (P:=l.prog) (w:=w) fun _ _ F=>tD F T C_STEPS
 have G_straight:=(dfn X G 37 36 mo0).cal (base:=base) (P:=l.prog) (w:=w) fun _ _ F=>qF F T C_STEPS G_stepped
 have G_next_direction:=(dfn X G 58 57 mo1).cal (base:=base) (P:=l.prog) (w:=w) fun _ _ F=>iV F T G_stepped
 have G_run_from:=(dfn X G 51 50 mo1).cal (base:=base) (P:=l.prog) (w:=w) fun _ _ F=>rS F T C_ANY_TURN C_TURNS G_stepped G_next_direction
 have G_closed:=(dfn X G 65 64 mo1).cal (base:=base) (P:=l.prog) (w:=w) fun _ _ F=>xa F T G_straight
 have G_runs:=(dfn X G 44 43 mo1).cal (base:=base) (P:=l.prog) (w:=w) fun _ _ F=>Cu F T G_run_from G_closed
 have G_ways:=(dfn X G 136 135 mo4).cal (base:=base) (P:=l.prog) (w:=w) fun _ _ F=>D4 F T
 have G_lie_of_step:=(dfn X G 79 78 mo2).cal (base:=base) (P:=l.prog) (w:=w) fun _ _ F=>mJ F T C_ACROSS C_WITH C_AGAINST G_straight
 have G_turned:=(dfn X G 86 85 mo2).cal (base:=base) (P:=l.prog) (w:=w) fun _ _ F=>xk F T C_AGAINST
 have G_with_grain:=(dfn X G 72 71 mo2).cal (base:=base) (P:=l.prog) (w:=w) fun _ _ F=>nz F T C_ACROSS G_lie_of_step G_turned
 have G_side:=(dfn X G 143 142 mo4).cal (base:=base) (P:=l.prog) (w:=w) fun _ _ F=>Bo F T G_ways
 have G_is_walled:=(dfn X G 103 102 mo3).cal (base:=base) (P:=l.prog) (w:=w) fun _ _ F=>pA F T C_STEPS
 have G_within_rim:=(dfn X G 96 95 mo3).cal (base:=base) (P:=l.prog) (w:=w) fun _ _ F=>nC F T G_is_walled
 have G_depths_in:=(dfn X G 91 90 mo3).cal (base:=base) (P:=l.prog) (w:=w) fun _ _ F=>pT F T G_within_rim
 have G_rings:=(dfn X G 110 109 mo3).cal (base:=base) (P:=l.prog) (w:=w) fun _ _ F=>zK F T G_depths_in
 have G_round:=(dfn X G 148 147 mo4).cal (base:=base) (P:=l.prog) (w:=w) fun _ _ F=>yL F T
 have G_due:=(dfn X G 155 154 mo4).cal (base:=base) (P:=l.prog) (w:=w) fun _ _ F=>E1 F T G_round
 exact FD (F0 F T G_runs G_with_grain G_rings G_begin G_take G_same G_side G_due)
end Mp
open PySem PySem.W PyProof.Rows
set_option maxRecDepth 100000 in
set_option maxHeartbeats 0 in
theorem Mp.E4:PySem.Challenge.rw_millpath_k33_runs_round_rings.wellSaid=true:=by kernel_rfl
set_option maxRecDepth 100000 in
theorem Mp.left:PySem.W.LeftO PySem.Challenge.rw_millpath_k33_runs_round_rings.row.prog Mp.VW [] (fun s=>PySem.W.xlAt Mp.VW [] s && PySem.W.recOk (PySem.Challenge.rw_millpath_k33_runs_round_rings.row.toRowW.records) s) (PySem.W.Hook.obs (PySem.W.kHook Mp.KK Mp.kas Mp.t7)) (PySem.W.Hook.val (PySem.W.kHook Mp.KK Mp.kas Mp.t7)) 6000:=fun w=>by kernel_rfl
set_option maxRecDepth 100000 in
set_option maxHeartbeats 0 in
theorem PySem.Challenge.cw_millpath_k33_runs_round_rings_holds : PySem.Challenge.rw_millpath_k33_runs_round_rings.Holds := by
 refine PySem.W.holds_law Mp.E4 fun E4=>?_
 refine PySem.W.holds_open (r:=PySem.Challenge.rw_millpath_k33_runs_round_rings.row) (XP:=PySem.W.XL Mp.VW []) (YP:=PySem.W.Hook.says (PySem.W.kHook Mp.KK Mp.kas Mp.t7)) (d:=⟨"law",L2.eO Mp.gm,L2.dQ Mp.gm,L2.ak Mp.gm,Mp.ED Mp.gm⟩) (kwd:=[]) Mp.left (PySem.W.Hook.of _) (PySem.W.Hook.keeps _) (fun s e=>PySem.W.xl_of s (MT.mp e).1) PySem.W.XL.keeps (by kernel_rfl) (by kernel_rfl) (by kernel_rfl) (fun s e=>PySem.W.recFacts_of (MT.mp e).2) (by kernel_rfl) E4 (by kernel_rfl) ⟨rfl,rfl,rfl,rfl,rfl,by decide +kernel⟩ ?hw ?hc
 case hw=>w_witness2
 case hc=>
  refine Mp.walk (l:=PySem.Challenge.rw_millpath_k33_runs_round_rings) rfl (by kernel_rfl) (fun w h Y=>PySem.W.kIn_of Y) ?F
  case F=>
  intro w mg fa h KX G hmg
  exact Mp.all_mk KX G hmg
