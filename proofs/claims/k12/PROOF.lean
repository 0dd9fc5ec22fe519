import PyProof.Rows.All
import Wide.All
import OpenK.AllK
import Wide.FinOn
import Lean
import PyProof.EqAt
import PyProof.EqKinds
import PyProof.TupleCall
import KE.KIsAll
import PyProof.ExcAttrAll.ValueError
import PyProof.NeKinds
import PyProof.InstStoreFacts
import KE.KUnpackStar
import KE.KSortTup
import PyProof.TupleOfSeq
import PyProof.Rows.SortWalk
import PyProof.DictCompW
import PyProof.TupleKey
import PyProof.SetKind
import PyProof.DictRoadsH
import PyProof.DictKinds
import PyProof.Rows.SetFrom
import PyProof.WalksMore
import PyProof.SetRoads
import PyProof.CollectWalk
import PyProof.EnumFor
import PyProof.EnumStmt
import PyProof.ListRange
import PyProof.DictWalks
import PyProof.StrBlock
import PyProof.StrBlockI
import PyProof.StrBlockL
import PyProof.StrCalls2
import PyProof.Rows.StrNews2
import PyProof.FString
import PyProof.CallStr
import KE.KIntText
import PyProof.Rows.StrInSeq3
import KE.KSortKey
import PyProof.DictStraight
import PySem.Challenge.RW_pickalike_k12_depths_and_letters
noncomputable section
open And renaming intro->Ol
open Array renaming length_toList->KN,getElem?_eq_some_iff->Lx,getElem?_eq_getElem->LV,getD->Mx,getElem?_toList->Ni,toList->P5,size_append->Rw,toList_inj->RT
open Bool renaming and_eq_true->KU,false_ne_true->Lu,false_eq_true->Lw,or_eq_true->MX,and_false->Of,true_and->Pk,and_eq_true_iff->QK,or_false->Ra,eq_false_iff->Ru,not_eq_true'->RA,not_eq_true->RX,not_false->Sx
open Classical renaming byContradiction->Ml,propDecidable->Td
open False renaming elim->Nm
open ForInStep renaming yield->MC
open Iff renaming rfl->UA
open Int renaming toNat_natCast->Mg,emod_nonneg->MD,emod_lt_of_pos->MM,zero_add->RN,ediv_one->Tn,le_refl->Uh
open List renaming length_map->Km,length_append->Ko,mem_cons_of_mem->Kq,mem_cons_self->Ku,size_toArray->Kv,mem_singleton->Kw,range->Ky,mem_cons->KA,getElem?_eq_getElem->KG,getElem?_map->KQ,mem_range->KR,getElem?_eq_some_iff->KY,mem_map->K0,getD_eq_getElem?_getD->K2,mem_append->K3,replicate->K6,getElem?_set_ne->K_,mem_append_right->La,flatMap_cons->Lb,mem_flatMap->Lc,map_append->Le,length_replicate->Li,idxOf_lt_length_of_mem->Ls,length_range->LB,getElem?_set_self->LC,all_eq_true->LG,not_mem_nil->LH,getElem_mem->LJ,map_cons->LN,getElem?_append_right->LO,mem_append_left->LQ,length_drop->LX,lookup_cons->LZ,length_cons->L3,replicate_succ->L5,flatMap_append->L6,append_nil->Mc,length_take->Me,getElem?_append_left->Mh,drop_eq_getElem_cons->Mj,mem_filter->Mm,nodup_cons->MB,pairwise_lt_range->MG,perm_ext_iff_of_nodup->MI,take_append_drop->MN,take_succ_eq_append_getElem->MR,mem_of_getElem?->MS,pairwise_map->MZ,map_map->M4,getElem_idxOf->Nd,foldl_cons->Nj,map_id->Nl,append_assoc->Nq,mem_iff_getElem->Nu,pairwise_iff_getElem->Nx,ext_getElem->NC,filterMap_cons->NF,reverse_append->NH,eq_of_mem_replicate->NL,getElem_append_left->NN,mem_filterMap->NO,getElem?_replicate->NS,all_cons->NW,drop_eq_nil_of_le->N5,reverse_cons->N7,eraseIdx_eq_take_drop_succ->Ob,nodup_nil->Og,singleton_append->Om,any_eq_true->Ot,nodup_range->Ou,map_take->Oz,map_drop->OA,getElem?_range->OM,find?_cons->OO,filter_eq_self->OU,nodup_iff_pairwise_ne->OX,pairwise_cons->O0,map->O1,take_sublist->Pa,append_cancel_right->Pd,filterMap_cons_some->Pf,pairwise_filterMap->Pn,length_eq_zero_iff->Po,filter_cons_of_pos->Pp,filter_cons_of_neg->Pq,getElem_inj->Pu,perm_middle->Py,take_length->PJ,range_succ_eq_map->PN,take_of_length_le->PX,getElem_cons_drop->PY,reverse_singleton->PZ,of_mem_zip->P6,getElem?_reverse->Qc,dropLast_eq_take->Qd,length_filter_le->Qj,getElem?_toArray->Qu,eq_nil_or_concat->Qv,concat_eq_append->Qw,length_eraseIdx->QF,reverse_reverse->QH,mem_of_mem_drop->QI,mem_of_mem_take->QJ,drop_zero->QN,length->QS,length_reverse->QY,filterMap_map->Q7,contains_cons->Rf,any_cons->Rh,filter_append->Rj,drop_sublist->RB,getElem_drop->RE,idxOf_append->RG,all_map->RM,mem_reverse->RV,map_flatMap->RW,flatMap_nil->RY,nil_append->R9,range_succ->R_,filterMap->Su,map_nil->Tp,any_map->Tz,lookup->Ua,foldl->Uu,getD->UB
open List.Nodup renaming length_le_of_subset->Mu
open List.Pairwise renaming nil->N8,and_mem->Qn
open List.Perm renaming of_eq->Qp,append_left->TJ
open List.cons renaming inj->UE
open Nat renaming le_refl->Kr,le_of_ble_eq_true->Ks,ne_of_lt->KI,lt_of_lt_of_le->KP,zero_le->K1,le_trans->Lg,lt_succ_self->LI,lt_trans->LS,ne_of_gt->Mq,not_lt_zero->Mt,lt_irrefl->My,le_succ->MP,lt_succ_of_lt->MY,le_of_succ_le->M0,lt_of_le_of_lt->N2,le_add_left->N4,le_of_lt_succ->Oa,mul_le_mul_right->Ow,le_of_lt->OY,mod_lt->Pe,div_div_eq_div_mul->PV,succ_pos->Qh,zero_add->Qm,lt_or_eq_of_le->Rm,lt_trichotomy->RD,mul_le_mul->Sn,le_of_eq->Tq,pow_succ->TH
open Ne renaming symm->Mz
open Option renaming isSome_iff_exists->L8,bind_some->Pw,getD_none->RQ,map_some->R7,none->T_
open Option.some renaming inj->Lp
open Or renaming inr->OQ,inl->Qi
open PyProof.Rows renaming slot_tuple_getitem->K4,callWith_type1->OF,envOfC->OG,entry_tuple_getitem->OI,args_tuple_getitem->OZ,slicePart_none->O3,StrsAre->O5,subscriptTail_builtinR->PL,AllBare->P0,tupleItemsOf_->Q8,callWith_builtin1->RL,Subscript_->SE,callWith_kw->SN,slicePart_int->S3,subscriptTail->S5,tail_any->S6,IntsAre->S8,boot_max->Tv,kws_cons->Tw,kws_nil->TU,seqObj->Up
open PyProof.Rows.F renaming plain_set_update_loop->LW,entry_set_update_loop->NB
open PyProof.Rows.IsTup renaming new->To
open PySem renaming wpAny_bind->Kd,wpAny_pure->Kf,Value->Kg,Shared->Kh,starEach->KC,wpAny->KH,Addr->KJ,Program->KL,model->KS,mainGlobals->KW,wpAny_newObj_type->KZ,World->K5,FuncData->K7,Expr->K8,Around->Lh,SetTable->Lj,bootBuiltins->Lm,wpAny_call_entry->Lo,wpAny_mono->Lq,sizeLine_eq->Ly,wpAny_holding->Lz,cellsFrom->LA,behindInMarks->LK,foldedSetIterable->LL,wpAny_callSpecial?_slot->LM,codeAny_builtin->LU,wpAny_askSetting->L4,Heap->L7,codeAny->Mb,wpAny_truthy_bool->Mf,plainId_quiet->Mk,wpAny_updateSeq->Ms,letOwnedTupleGo->MA,wpAny_setEntries_of->ME,NameKind->ML,wpAny_setField_rec->MO,backTo->MQ,sysModules->MT,compareOp->MU,wpAny_passesOwn->MV,wpAny_setState_of->M3,Scope->M5,mem_of_lookup->M6,wpAny_standAt->M8,assignEach->M_,Stmt->Nc,standAt->Ng,codeAny_mono->Nh,Comprehension->Np,isSubtype_type->Ny,hashStr->ND,wpAny_of_eq->NG,pyNext->NI,wpAny_typeOf->NK,binaryOp->NP,wpAny_Call_Name_kw->NQ,wpAny_attempt->NT,mem_of_lookup->NZ,codeAny_of_tree->N1,sliceBounds->N6,wpAny_pyIter_list->N9,wpAny_rule->N_,wpAny_pyIter_slot->Oc,wpAny_seqItems->Oh,wpAny_tryCatch->Oi,compTurn->Oj,builtinLookup_eq_fast->Oo,checkBuiltinCall->Oq,codeAny_call_builtin->Ov,attributeBase->Ox,wpAny_execs_nil->OD,pyIter->OE,wpAny_field->OH,wpAny_loadPart'->ON,cLine->OW,wpAny_fieldsOf->O6,firstArgMember->O7,swapsWith->O_,wpAny_sequenceKey->Pb,Builtin->Ph,strKind->Pj,wpAny_pyHash_str->Pr,wpAny_isInstance->PF,codeAny_compStart_list->PU,wpAny_isTrue_Compare1->P4,getItem->P7,DictEntry->P9,valueAt->Qe,updateSeq->Qg,compStart->Qk,theWindowsPlace->Ql,isSubtype->Qo,typeLookup_type->Qq,bindArgs->Qx,wpAny_call->Qy,setsByText->QA,codeAny_extend_loopS->QG,isTrue->QL,wpAny_runValue->QO,excClassObj->QU,wpAny_letGo->QW,Paired->Q3,swapsWithSole->Q4,Result->Q5,IsPart->Q6,evalPart_none->Q9,wpAny_pyIter_tuple->Ri,noteFrame->Rk,wpAny_notedAt->Rl,slot_list_getitem->Rp,call_meets->Rr,callerA->Rt,wpAny_setEpoch_of->RI,wpAny_storeSet_of->RK,wpAny_execs_cons->RP,PassesOwn->R1,BindsTo->R3,keywordEach->R4,Keyword->R5,pushCells->Sa,wpAny_alloc->Sb,pushCells_keeps->Sd,theTreesLotGoes->Se,pickOrder->Sh,recursionLimit->Sl,newFunctionEnv->Ss,entryFor_alias->Sv,isSubtype_stop->Sw,builtinsNs->Sz,wpAny_Name->SA,wpAny_load->SD,typeIs_int->SG,call->SH,argsOk->SM,strKind_is->SO,Model->SW,swappedStores->SX,intBits_le_64->S0,evalPart_some->S4,call_list_seq->S7,notedBy->S_,fieldsOf->Te,wpAny_handled->Tf,rawInt->Tj,seqItems?->Tu,wpAny_ite->TF,bindL->TX,bindC->TY,CellsOk->Uc,GenState->Ui,backToKw->Ul,Params->Um,entryFor->Uq
open PySem.Around renaming under_plainId->Ln
open PySem.Bind renaming checkArgs->Sq
open PySem.Builtin.Builtins renaming bindParams->OP
open PySem.Builtin.Frozenset renaming sizeOf->M1,updateFrom->R0,newClass->Sj,oneOther->Sk,addrOf->SS
open PySem.Builtin.List renaming listTooLong->Mw,listExtendWith->MF,listLengthHint->OS,listSameRef->Pg
open PySem.Builtin.Range renaming rangeSize->SY
open PySem.Builtin.Slice renaming slicePlaces->Ll,sliceAdjust->Mi,sliceApplied->MH,sliceFields->O4,slicePartIndex->RZ
open PySem.Builtin.Str renaming occurrences->NX,tooLong->QV
open PySem.Builtin.Tuple renaming tupleExact->Lr,tupleItemsOf->Nt,tupleIsExact->Si,tupleHashOf->Sm
open PySem.Calls renaming Name_function_global->OV,callWith_builtin->PM
open PySem.Challenge renaming rw_pickalike_k12_depths_and_letters->Ld,pw_pickalike_k12_depths_and_letters->LD
open PySem.CmpOp renaming NotIn->TV,In->UC
open PySem.Env renaming kindOf->Us
open PySem.F renaming plain_max_loop->MJ,called_set->Nk,plainAttrs_list->NY,plain_list_iadd->Od,attrBase_ValueError->OL,slot_set_iter->OR,entry_max_loop->Px,entry_proto_collect->Qs,plain_proto_collect->Qt,args_list_extend_2->QC,entry_list_extend->QT,plain_extend_loop->QX,slot_list_extend->Rb,args_set_iter_1->RH,entry_list_iadd->RJ,plain_set_new->Sg
open PySem.Heap renaming get?_push_of_some->Kl,get?_push_size->Kn,lt_size->Kz,get?_update_other->Lf,get?_update_self->LF,size_push->Ma,SameBut->Mp,ExtBut->Ud
open PySem.Heap.IsList renaming push->Uy
open PySem.Heap.IsSliceOf renaming new->Q_
open PySem.Heap.SameBut renaming update->OT,refl->RC
open PySem.IsL renaming update->Uv
open PySem.ItemsOf renaming nil->Ue
open PySem.Moved renaming trans->Ug
open PySem.NameKind renaming free->LY,cell->NV
open PySem.Obj renaming mapSeq->MW,putSet->SQ
open PySem.Paired renaming length->SV
open PySem.PassesOwn renaming leaving->Rz,never->R8
open PySem.PyData renaming keyHash->Lv
open PySem.SeqAt renaming EqAt->Nb,ne_of_list_tuple->PR
open PySem.SeqAt.EqAt renaming same->P8,int_str->QZ,str_int->Q2,of_refs->Rg,tuple_list->Tr,list_tuple->Tt,none_bool->TM,bool_none->TN,bool_bool->TQ,none_int->TZ,none_str->T3,bool_int->T4,bool_str->T5,int_none->T6,int_bool->T7,str_none->T8,str_bool->T9,int_int->Uj,str_str->Uk
open PySem.SeqAt.RcAt renaming tuples->Rv,lists->RS,lists_lengths->SJ
open PySem.SeqAt.RcNeAt renaming tuples->Ub,lists->Uo
open PySem.SetTable renaming sizeAbove->Nf,insertAt->Nr,below->Nz,grown->O8,advance->Pz,tooFull->RU,runEnd->Sf,fill->Tc
open PySem.Shared renaming TypeIs->N3
open PySem.Str renaming ofString->NJ,length->Rq,empty->TL
open PySem.Value renaming none->Mv,isStrOf->MK,type->M9,bool->OB,int->OC,builtin->Rc,str->Th,ref->Ti
open PySem.Value.ref renaming inj->UD
open PySem.W renaming Frag->Ke,nsIn->K9,mg_none_of->Lk,fnOf->LR,findIn->L_,kia_one->Mr,mg_of->M7,keepIn->Na,mroIn->Nn,InstAt->Nv,clsIn->NU,codeIn->Oe,findObj->OJ,methodObj->O9,specialIn->Pc,cellsFrom_some->PK,OpenLaw->P_,takesIn->Qa,looks_findIn->QE,kitOne->QM,kitx_dict->Ry,kitMeta->R6,notCls->So,WalkO->S9
open PySem.W.Hook renaming obs->Uw,val->Ux
open PySem.W.LeftO renaming of_split->Tg
open PySem.W.OpenLaw renaming wellSaid->SI
open PySem.W.RowW renaming records->TR
open PySem.W.WData renaming int->Uz
open PySem.W.WShape renaming has->Ur
open PySem.Walks renaming list->SK
open PySem.pickOrder renaming go->RO
open Sum renaming inl->Rn,inr->Ro
open True renaming intro->Qz
set_option Elab.async false
set_option linter.all false
set_option autoImplicit true
set_option relaxedAutoImplicit true
set_option maxRecDepth 100000
namespace L2
open PySem PySem.Spec PyProof.Rows
noncomputable abbrev Key:=Sum Int Str
noncomputable def Bs:Key->Kg->Bool
 | .inl k,v=>Value.isInt k v
 | .inr x,v=>MK x v
noncomputable def GR (w:K5):Key->Int
 | .inl k=>hashInt k
 | .inr x=>ND w x
theorem c_:∀{k:Key}{v:Kg},Bs k v=true->(∃i t,k=Rn i/\v=OC i t)\/(∃x t,k=Ro x/\v=Th x t)
 | .inl i,v,h=>by obtain ⟨t,e⟩:=Value.isInt_shape (k:=i) (v:=v) h;exact .inl ⟨i,t,rfl,e⟩
 | .inr x,v,h=>by obtain ⟨t,e⟩:=Value.isStrOf_shape (x:=x) (v:=v) h;exact .inr ⟨x,t,rfl,e⟩
theorem En (a b:Int):decide ((Rn a:Key)=Rn b)=(a == b):=by
 by_cases e:a=b
 ·subst e;simp
 ·have h:¬(Rn a:Key)=Rn b:=λq=>e (Sum.inl.inj q);rw [decide_eq_false h];exact (beq_eq_false_iff_ne.mpr e).symm
theorem Er (a b:Str):decide ((Ro a:Key)=Ro b)=decide (a=b):=by
 by_cases e:a=b
 ·subst e;simp
 ·have h:¬(Ro a:Key)=Ro b:=λq=>e (Sum.inr.inj q);rw [decide_eq_false h,decide_eq_false e]
theorem Eo (a:Int) (b:Str):decide ((Rn a:Key)=Ro b)=false:=decide_eq_false (λq=>nomatch q)
theorem Ep (a:Str) (b:Int):decide ((Ro a:Key)=Rn b)=false:=decide_eq_false (λq=>nomatch q)
noncomputable def p5 (prog:KL) (w:K5):PySem.KeyKind prog w Key where
 is:=Bs
 hash:=GR w
 inj:=λv a b ha hb=>by
  rcases c_ ha with ⟨i,t,rfl,rfl⟩ | ⟨x,t,rfl,rfl⟩
  ·rcases c_ hb with ⟨j,u,rfl,e⟩ | ⟨y,u,rfl,e⟩
   ·injection e with e1 _;rw [e1]
   ·exact nomatch e
  ·rcases c_ hb with ⟨j,u,rfl,e⟩ | ⟨y,u,rfl,e⟩
   ·exact nomatch e
   ·injection e with e1 _;rw [e1]
 byValue:=λk v h=>by rcases c_ h with ⟨i,t,rfl,rfl⟩ | ⟨x,t,rfl,rfl⟩ <;> rfl
 pyHash:=λhv h=>by
  rcases c_ hv with ⟨i,t,rfl,rfl⟩ | ⟨x,t,rfl,rfl⟩
  ·exact wpAny_pyHash_int h
  ·exact Pr h
 eqBool:=λhu hv h=>by
  rcases c_ hu with ⟨i,t,rfl,rfl⟩ | ⟨x,t,rfl,rfl⟩
  ·rcases c_ hv with ⟨j,u,rfl,rfl⟩ | ⟨y,u,rfl,rfl⟩
   ·rw [En] at h;exact wpAny_eqBool_int h
   ·rw [Eo] at h;exact QZ i t y u _ _ _ _ h
  ·rcases c_ hv with ⟨j,u,rfl,rfl⟩ | ⟨y,u,rfl,rfl⟩
   ·rw [Ep] at h;exact Q2 x t j u _ _ _ _ h
   ·rw [Er] at h;exact wpAny_eqBool_str h
 «strs»:=λk x t v h=>by
  rcases c_ h with ⟨i,u,rfl,e⟩ | ⟨y,u,rfl,e⟩
  ·exact nomatch e
  ·injection e with e1 _
   subst e1;cases v <;> rfl
inductive V where
 | non | bl (b:Bool) | int (i:Int) | str (x:Str) | byt (b:Array UInt8) | flt (b:UInt64) | ref (a:KJ) | ty (n:String)
 deriving DecidableEq
noncomputable def RelV:V->Kg->Prop
 | .non,u=>u=Mv
 | .bl b,u=>u=OB b
 | .int i,u=>∃t,u=OC i t
 | .str x,u=>∃t,u=Th x t
 | .byt b,u=>∃t,u=Value.bytes b t
 | .flt b,u=>∃t,u=Value.float b t
 | .ref a,u=>u=Ti a
 | .ty n,u=>u=M9 n
noncomputable abbrev Vals:List V->List Kg->Prop:=Q3 RelV
theorem Vals.length {xs:List V}{us:List Kg}(r:Vals xs us):xs.length=us.length:=SV r
theorem Vals.get:∀{xs:List V}{us:List Kg}{i:Nat}{x:V},Vals xs us->xs[i]?=some x->∃u,us[i]?=some u/\RelV x u
 | _,_,_,_,.nil,e=>by simp at e
 | _,_,0,_,.cons r _,e=>by simp at e;subst e;exact ⟨_,rfl,r⟩
 | _,_,i + 1,x,.cons _ t,e=>by obtain ⟨u,h1,h2⟩:=Vals.get (i:=i) (x:=x) t (by simpa using e);exact ⟨u,by simpa using h1,h2⟩
theorem Vals.append:∀{xs ys:List V}{us ws:List Kg},Vals xs us->Vals ys ws->Vals (xs++ys) (us++ws)
 | _,_,_,_,.nil,s=>s
 | _,_,_,_,.cons r t,s=>.cons r (Vals.append t s)
theorem Vals.take:∀{xs:List V}{us:List Kg}(n:Nat),Vals xs us->Vals (xs.take n) (us.take n)
 | _,_,0,_=>.nil
 | _,_,_ + 1,.nil=>.nil
 | _,_,n + 1,.cons r t=>.cons r (Vals.take n t)
theorem Vals.drop:∀{xs:List V}{us:List Kg}(n:Nat),Vals xs us->Vals (xs.drop n) (us.drop n)
 | _,_,0,r=>r
 | _,_,_ + 1,.nil=>.nil
 | _,_,n + 1,.cons _ t=>Vals.drop n t
noncomputable def DG:Option V->Option Kg->Prop
 | some v,some u=>RelV v u
 | none,none=>True
 | _,_=>False
noncomputable def KV {κ:Type}:List (κ×V)->List (κ×Kg)->Prop:=Q3 λ(p:κ×V) (q:κ×Kg)=>p.1=q.1/\RelV p.2 q.2
noncomputable def kV:Key->V
 | .inl i=>.int i
 | .inr x=>.str x
inductive HO where
  | lst (xs:List V)
  | tup (xs:List V)
  | dK (Ka:List (Key×V)) | dT (Ka:List (List Key×V))
  | set (S:Int->Bool) (n:Nat)
  | ins (C dx:KJ) (fs:List (Str×V))
  | own (x:KJ)
  | xd (fs:List (Str×V))
  | met (f x:KJ)
  | rng (lo hi:Int)
  | frz (o:Obj) (u:HO)
  | tbl (ps:Array Kg)
  | ext (φ:L7->Prop)
noncomputable abbrev Hp:=KJ->Option HO
noncomputable def upd (H:Hp) (a:KJ) (o:HO):Hp:=λb=>if b=a then some o else H b
theorem cj {H:Hp}:upd H a o a=some o:=by unfold upd;rw [if_pos rfl]
theorem a_ {H:Hp}(h:b≠a):upd H a o b=H b:=by unfold upd;rw [if_neg h]
theorem ez {H:Hp}(h:H a=some o) (h':H b=none):a≠b:=by intro e;subst e;rw [h] at h';cases h'
section
variable (P:KL) (w:K5)
noncomputable def Hj (h:L7) (a:KJ):Prop:=∀o,h.get? a=some o->o.dict=none
noncomputable def cX (H:Hp) (h:L7) (a:KJ):HO->Prop
 | .lst xs=>xs.length<=sizeLine/\∃(JY:List Kg) (n:Nat),Vals xs JY/\h.get? a=some {cls:=.type "list",data:=.seq JY.toArray n}
 | .tup xs=>xs.length<=sizeLine/\∃JY:List Kg,Vals xs JY/\IsTup h a JY.toArray/\Hj h a
 | .dK Ka=>Ka.length<=sizeLine/\(a == MT)=false/\∃vs,KV Ka vs/\h.DictOf (p5 P w) a vs
 | .dT Ka=>Ka.length<=sizeLine/\(a == MT)=false/\∃xs:List (List Key×KJ×Kg),
   Q3 (λ(p:List Key×V) (q:List Key×KJ×Kg)=>p.1=q.1/\H q.2.1=some (.tup (p.1.map kV))/\RelV p.2 q.2.2) Ka xs/\
   ∃o es ep,h.get? a=some o/\o.ExactDict/\o.data=.dict es ep/\es.toList=xs.map (entryOfKey (tupleKind (p5 P w)))/\(xs.map (·.1)).Nodup
 | .set S n=>h.SetOf (intKind P w) a S n
 | .ins C dx fs=>H dx=some (.own a)/\fs.length<=1000/\dx≠a/\h.get? a=some (W.instObj C dx)/\
   ∃mA,h.Ns1 dx mA/\(∀f,DG (fs.lookup f) (mA f))/\PySem.Within mA (fs.map (·.1))
 | .own _=>∃o,h.get? a=some o
 | .xd fs=>∃mA,h.Ns1 a mA/\∀f,DG (fs.lookup f) (mA f)
 | .rng lo hi=>∃t u v,h.get? a=some {cls:=.type "range",data:=.fields #[.int lo t,.int hi u,.int 1 v]}
 | .frz o u=>h.get? a=some o/\cX H h a u
 | .tbl ps=>h.get? a=some {cls:=.none,data:=.fields ps}
 | .met f x=>h.get? a=some (O9 (.ref f) (.ref x))
 | .ext φ=>φ h/\(∃o,h.get? a=some o)/\∀h1 h2:L7,φ h1->(∀o,h1.get? a=some o->h2.get? a=some o)->φ h2
noncomputable def fB (H:Hp) (h:L7):Prop:=∀a o,H a=some o->cX P w H h a o
end
section
variable {P:KL}{w:K5}{H H':Hp}{h h':L7}{a:KJ}{o:HO}
theorem cX.lt (x:cX P w H h a o):a < h.objs.size:=by
 cases o with
 | lst xs=>obtain ⟨_,_,_,_,e⟩:=x;exact Kz e
 | tup xs=>obtain ⟨_,_,_,p,_⟩:=x;exact p.lt
 | dK Ka=>obtain ⟨_,_,_,_,o,_,_,e,_⟩:=x;exact Kz e
 | dT Ka=>obtain ⟨_,_,_,_,o,_,_,e,_⟩:=x;exact Kz e
 | set S n=>obtain ⟨o,_,_,_,e,_⟩:=x;exact Kz e
 | ins C dx fs=>obtain ⟨_,_,_,e,_⟩:=x;exact Kz e
 | own y=>obtain ⟨_,e⟩:=x;exact Kz e
 | xd fs=>obtain ⟨_,⟨_,_,_,e,_⟩,_⟩:=x;exact Kz e
 | rng lo hi=>obtain ⟨_,_,_,e⟩:=x;exact Kz e
 | frz ob u=>obtain ⟨e,_⟩:=x;exact Kz e
 | tbl ps=>exact Kz (show h.get? a=some _ from x)
 | met f y=>exact Kz (show h.get? a=some _ from x)
 | ext φ=>obtain ⟨_,⟨_,e⟩,_⟩:=x;exact Kz e
theorem Q3.mapP {α β:Type}{F G:α->β->Prop}:∀{l₁:List α}{l₂:List β},Q3 F l₁ l₂->(∀a b,F a b->G a b)->Q3 G l₁ l₂
 | _,_,.nil,_=>.nil
 | _,_,.cons r t,f=>.cons (f _ _ r) (Q3.mapP t f)
theorem cX.stay (x:cX P w H h a o) (k:∀b u,(b=a\/H b=some (.own a))->h.get? b=some u->h'.get? b=some u)
  (ho:∀b,H b=some (.own a)->H' b=some (.own a)) (ht:∀b xs,H b=some (.tup xs)->H' b=some (.tup xs)):cX P w H' h' a o:=by
 induction o with
 | lst xs=>obtain ⟨z,JY,n,r,e⟩:=x;exact ⟨z,JY,n,r,k _ _ (.inl rfl) e⟩
 | tup xs=>obtain ⟨z,JY,r,⟨ob,e,c⟩,nd⟩:=x;exact ⟨z,JY,r,⟨ob,k _ _ (.inl rfl) e,c⟩,λo q=>by rw [k _ _ (.inl rfl) e] at q;cases q;exact nd _ e⟩
 | dK Ka=>obtain ⟨z,y,vs,r,ob,es,ep,e,c⟩:=x;exact ⟨z,y,vs,r,ob,es,ep,k _ _ (.inl rfl) e,c⟩
 | dT Ka=>
  obtain ⟨z,y,xs,r,ob,es,ep,e,c⟩:=x;exact ⟨z,y,xs,Q3.mapP r λp q z=>⟨z.1,ht _ _ z.2.1,z.2.2⟩,ob,es,ep,k _ _ (.inl rfl) e,c⟩
 | set S n=>obtain ⟨ob,es,ep,t,e,c⟩:=x;exact ⟨ob,es,ep,t,k _ _ (.inl rfl) e,c⟩
 | ins C dx fs=>
  obtain ⟨d,z,ne,e,mA,⟨od,es,ep,e2,c⟩,r⟩:=x;exact ⟨ho _ d,z,ne,k _ _ (.inl rfl) e,mA,⟨od,es,ep,k _ _ (.inr d) e2,c⟩,r⟩
 | own y=>obtain ⟨ob,e⟩:=x;exact ⟨ob,k _ _ (.inl rfl) e⟩
 | xd fs=>obtain ⟨mA,⟨od,es,ep,e,c⟩,r⟩:=x;exact ⟨mA,⟨od,es,ep,k _ _ (.inl rfl) e,c⟩,r⟩
 | rng lo hi=>obtain ⟨t,u,v,e⟩:=x;exact ⟨t,u,v,k _ _ (.inl rfl) e⟩
 | frz ob u ih=>obtain ⟨e,q⟩:=x;exact ⟨k _ _ (.inl rfl) e,ih q⟩
 | tbl ps=>
  have e:h.get? a=some {cls:=.none,data:=.fields ps}:=x;show h'.get? a=some {cls:=.none,data:=.fields ps};exact k a _ (.inl rfl) e
 | met f y=>
  have e:h.get? a=some (O9 (.ref f) (.ref y)):=x;show h'.get? a=some (O9 (.ref f) (.ref y));exact k a _ (.inl rfl) e
 | ext φ=>obtain ⟨p,⟨o,e⟩,st⟩:=x;exact ⟨st _ _ p λo q=>k _ _ (.inl rfl) q,⟨o,k _ _ (.inl rfl) e⟩,st⟩
theorem fB.lt (x:fB P w H h) (e:H a=some o):a < h.objs.size:=(x a o e).lt
theorem fB.fresh (x:fB P w H h) (e:h.objs.size<=a):H a=none:=by
 cases q:H a with
 | none=>rfl
 | some u=>exact absurd (KP (x.lt q) e) (My _)
theorem fB.kept (x:fB P w H h) (k:∀b u,h.get? b=some u->h'.get? b=some u):fB P w H h':=λa o e=>
 (x a o e).stay (λb u _ q=>k b u q) (λ_ q=>q) λ_ _ q=>q
theorem fB.laid (x:fB P w H h) (k:∀b u,h.get? b=some u->h'.get? b=some u) (hp:h.objs.size<=a) (new:cX P w (upd H a o) h' a o):fB P w (upd H a o) h':=λb u e=>by
 have hn:=x.fresh hp;by_cases hb:b=a
 ·subst hb;rw [cj] at e;cases e;exact new
 ·rw [a_ hb] at e;exact (x b u e).stay (λc v _ q=>k c v q) (λc q=>by rw [a_ (ez q hn)];exact q) λc xs q=>by rw [a_ (ez q hn)];exact q
end
noncomputable def Rd (H:Hp) (a:KJ) (u:HO):Prop:=H a=some u\/∃o,H a=some (.frz o u)
theorem Rd.ok {H:Hp}(r:Rd H a u) (x:fB P w H h):cX P w H h a u:=by
 rcases r with r | ⟨o,r⟩
 ·exact x a u r
 ·obtain ⟨_,q⟩:=x a _ r;exact q
noncomputable def Bf:Option HO->Prop
 | some (.lst _)=>True
 | some (.dK _)=>True
 | some (.dT _)=>True
 | some (.set _ _)=>True
 | some (.ins _ _ _)=>True
 | some (.ext _)=>True
 | _=>False
section
variable {P:KL}{w:K5}{H:Hp}{h h':L7}{x e:KJ}{o':HO}
theorem fB.write (ok:fB P w H h) (mu:Bf (H x)) (he:e=x\/H e=some (.own x)) (k:∀b u,b≠e->h.get? b=some u->h'.get? b=some u) (IP:∃u,h'.get? e=some u)
  (new:cX P w (upd H x o') h' x o'):fB P w (upd H x o') h':=λb u q=>by
 have nown:∀c y,H c=some (.own y)->c≠x:=λc y r z=>by subst z;rw [r] at mu;exact mu
 have ntup:∀c xs,H c=some (.tup xs)->c≠x:=λc xs r z=>by subst z;rw [r] at mu;exact mu
 by_cases hb:b=x
 ·subst hb;rw [cj] at q;cases q;exact new
 ·rw [a_ hb] at q;by_cases IK:b=e
  ·have q':H b=some (.own x):=by
    rcases he with z | z
    ·exact absurd (IK.trans z) hb
    ·rw [IK];exact z
   rw [q] at q';cases q';obtain ⟨v,hv⟩:=IP;exact ⟨v,by rw [IK];exact hv⟩
  ·refine (ok b u q).stay (λc v hc r=>k c v ?_ r) (λc r=>by rw [a_ (nown c b r)];exact r) λc xs r=>by rw [a_ (ntup c xs r)];exact r
   rcases hc with rfl | hc
   ·exact IK
   ·rintro rfl;rcases he with z | z
    ·exact nown c b hc z
    ·rw [hc] at z;cases z;exact hb rfl
end
structure Un (fs ex:List KJ) (H H':Hp) (h h':L7):Prop where
 keep:∀b o,h.get? b=some o->H b=none->b∉fs->b∉ex->h'.get? b=some o
 slot:∀b o,h.get? b=some o->H b=none->b∈fs->b∉ex->∃sl,h'.get? b=some {o with slots:=sl}
 free:∀b o,h.get? b=some o->H b=none->b∉ex->H' b=none
 there:∀b o,h.get? b=some o->b∉ex->∃o',h'.get? b=some o'
 tups:∀b xs,H b=some (.tup xs)->H' b=some (.tup xs)
 frzs:∀b o u,H b=some (.frz o u)->H' b=some (.frz o u)
 tbls:∀b ps,H b=some (.tbl ps)->∃more,H' b=some (.tbl (ps++more))
section
variable {fs fs' ex ex':List KJ}{H H1 H2:Hp}{h h1 h2 h':L7}{a x e:KJ}{o:HO}
theorem Un.any (u:Un fs ex H H1 h h1) (q:h.get? b=some ob) (n:H b=none) (hx:b∉ex):∃sl,h1.get? b=some {ob with slots:=sl}:=by
 by_cases hb:b∈fs
 ·exact u.slot b ob q n hb hx
 ·exact ⟨ob.slots,u.keep b ob q n hb hx⟩
theorem Un.kept (k:∀b u,h.get? b=some u->h'.get? b=some u):Un fs ex H H h h':=
 ⟨λb ob q _ _ _=>k b ob q,λb ob q _ _ _=>⟨ob.slots,k b ob q⟩,λ_ _ _ n _=>n,λb ob q _=>⟨ob,k b ob q⟩,λ_ _ q=>q,λ_ _ _ q=>q,λ_ ps q=>⟨#[],by rw [q];simp⟩⟩
theorem Un.refl:Un fs ex H H h h:=Un.kept λ_ _ q=>q
theorem Un.laid (k:∀b u,h.get? b=some u->h'.get? b=some u) (hp:h.objs.size<=a) (hn:H a=none):Un fs ex H (upd H a o) h h' where
 keep:=λb u q _ _ _=>k b u q
 slot:=λb u q _ _ _=>⟨u.slots,k b u q⟩
 free:=λb u q n _=>by rw [a_ (KI (KP (Kz q) hp))];exact n
 there:=λb u q _=>⟨u,k b u q⟩
 tups:=λb xs q=>by rw [a_ (ez q hn)];exact q
 frzs:=λb u xs q=>by rw [a_ (ez q hn)];exact q
 tbls:=λb ps q=>⟨#[],by rw [a_ (ez q hn),q];simp⟩
theorem Un.write (mu:Bf (H x)) (he:e=x\/H e=some (.own x)) (k:∀b u,b≠e->h.get? b=some u->h'.get? b=some u) (IP:∃u,h'.get? e=some u):Un fs ex H (upd H x o) h h':=by
 have hx:∀b,H b=none->b≠x:=λb n z=>by subst z;rw [n] at mu;exact mu
 have hb:∀b,H b=none->b≠e:=λb n z=>by
  subst z;rcases he with r | r
  ·exact hx b n r
  ·rw [n] at r;cases r
 have hm:∀b u,H b=some u->¬Bf (some u)->b≠x:=λb u q nm z=>by subst z;rw [q] at mu;exact nm mu
 refine ⟨λb u q n _ _=>k b u (hb b n) q,λb u q n _ _=>⟨u.slots,k b u (hb b n) q⟩,λb u q n _=>by rw [a_ (hx b n)];exact n,λb u q _=>?_,
  λb xs q=>by rw [a_ (hm b _ q λz=>z)];exact q,λb u xs q=>by rw [a_ (hm b _ q λz=>z)];exact q,λb ps q=>⟨#[],by rw [a_ (hm b _ q λz=>z),q];simp⟩⟩
 by_cases IK:b=e
 ·subst IK;exact IP
 ·exact ⟨u,k b u IK q⟩
end
noncomputable def BI (h:L7) (H:Hp):List KJ:=(Ky h.objs.size).filter λa=>(H a).isSome
noncomputable def j6 (h:L7) (H:Hp):L7:=W.hideAll h (BI h H)
theorem yR (h:L7) (H:Hp):(j6 h H).objs.size=h.objs.size:=W.hideAll_size _ _
theorem Aq {h:L7}{H:Hp}(e:h.get? b=some o) (n:H b=none):(j6 h H).get? b=some o:=
 W.hideAll_get _ e λhm=>by have q:(H b).isSome=true:=(Mm.mp hm).2;rw [n] at q;simp at q
theorem Ct {h:L7}{H:Hp}(e:(j6 h H).get? b=some o):h.get? b=some o/\H b=none:=by
 have e':h.get? b=some o:=W.of_hideAll (BI h H) e;refine ⟨e',?_⟩;cases q:H b with
 | none=>rfl
 | some x=>
  have hm:b∈BI h H:=Mm.mpr ⟨KR.mpr (Kz e'),by simp [q]⟩;have z:(j6 h H).get? b=none:=W.hideAll_none (BI h H) hm;rw [z] at e;cases e
noncomputable def BS (g h:L7) (L:KJ):List (KJ×Obj):=(Ky h.objs.size).filterMap λa=>if a=L\/(g.get? a).isSome=true then none else (h.get? a).map λo=>(a,o)
noncomputable def rest (g h:L7) (L d:KJ):List (KJ×Obj):=(BS g h L).filter λp=>decide (p.1≠d)
structure Mod (K:Ke) (mg:Str->Option Kg) (base:L7):Prop where
 kin:K.In base
 glob:base.Ns KW mg
 blt:∃mb,base.Ns Sz mb/\∀x:Str,x≠"__name__"->mb x=Lm x
 nolimit:base.NoLimit
structure Cx where
 prog:KL
 w:K5
 K:Ke
 mg:Str->Option Kg
 base:L7
 A:Lh
 N:List Str
 s₀:Kh
 H₀:Hp
 env:Env
 outer:List Env
 stack:List Env
 ex:List KJ
 fn:Str->Bool
 calm:Bool
 pn:List (KJ×Obj)
 xe:Kg->Kh->Prop
noncomputable def frs (l:List Env):List KJ:=l.filterMap (·.frame)
noncomputable abbrev Cx.fs (X:Cx):List KJ:=frs X.outer
noncomputable def vg (sc:M5) (x:Str):Prop:=sc.names.lookup x=some .local\/sc.names.lookup x=some .cell\/sc.names.lookup x=some .free
noncomputable def Loc (sc:M5) (x:Str):Prop:=sc.names.lookup x=some .local\/sc.names.lookup x=some .cell
noncomputable def Look (env:Env) (h:L7) (m:Str->Option Kg) (x:Str) (u:Kg):Prop:=
 (env.kindOf x=some .local/\m x=some u)\/((env.kindOf x=some .cell\/env.kindOf x=some .free)/\∃c,env.cells.lookup x=some c/\h.IsCell c (some u))
structure Cx.Ok (X:Cx):Prop where
 mod:Mod X.K X.mg X.base
 kind:X.env.scope.kind=.function
 glob:X.env.globals=KW
 blt:X.env.builtins=Sz
 above:X.s₀.heap.objs.size<=X.env.locals
 inj:∀x y c,X.env.cells.lookup x=some c->X.env.cells.lookup y=some c->x=y
 has:∀x,(X.env.kindOf x=some .cell\/X.env.kindOf x=some .free)->∃c,X.env.cells.lookup x=some c
 cab:∀x c,X.fn x=true->X.env.cells.lookup x=some c->X.s₀.heap.objs.size<=c
 hd:X.calm=true->X.A.handled=none
 frames:X.A.frames=some X.stack
 stk:X.stack=X.outer\/(X.stack=X.env::X.outer/\X.env.frame=some X.env.locals)
 exf:∀b∈X.ex,b≠X.env.locals/\∀x c,X.env.cells.lookup x=some c->c≠b
 bs:∀b o,X.base.get? b=some o->X.s₀.heap.get? b=some o/\X.H₀ b=none
 bsz:X.base.objs.size<=X.s₀.heap.objs.size
 noex:∀b o,X.base.get? b=some o->b∉X.ex
 exfs:∀b∈X.ex,b∉X.fs
 funs:X.s₀.heap.FunFrames X.base X.outer
 frf:∀b∈X.fs,X.H₀ b=none
structure Inv (X:Cx) (JW:List (KJ×Obj)) (σ:List (Option V)) (H:Hp) (s:Kh):Prop where
 ok:X.Ok
 os:s.os=X.s₀.os
 bare:P0 s.gens
 base:Un X.fs X.ex X.H₀ H X.s₀.heap s.heap
 loc:∃m,s.heap.Ns X.env.locals m/\∀(i:Nat) (x:Str) (v:V),X.N[i]?=some x->σ[i]?=some (some v)->vg X.env.scope x->∃u,RelV v u/\Look X.env s.heap m x u
 cell:∀x c,X.env.cells.lookup x=some c->∃v,s.heap.IsCell c v
 free:H X.env.locals=none
 freeC:∀x c,X.env.cells.lookup x=some c->H c=none
 pin:∀p∈X.pn++JW,s.heap.get? p.1=some p.2/\H p.1=none/\p.1≠X.env.locals/\p.1∉X.fs/\∀v,p.2.data≠.cell v
 hok:fB X.prog X.w H s.heap
 len:σ.length=X.N.length
section
variable {X:Cx}{JW:List (KJ×Obj)}{σ:List (Option V)}{H H':Hp}{s:Kh}{h':L7}
theorem Cx.Ok.nofr (ok:X.Ok) (e:X.base.get? b=some o):b∉X.fs:=λhb=>by have:=(ok.funs.mem hb).1;rw [e] at this;cases this
theorem Inv.bs (I:Inv X JW σ H s):∀b o,X.base.get? b=some o->s.heap.get? b=some o/\H b=none:=λb o e=>
 ⟨I.base.keep b o (I.ok.bs b o e).1 (I.ok.bs b o e).2 (I.ok.nofr e) (I.ok.noex b o e),I.base.free b o (I.ok.bs b o e).1 (I.ok.bs b o e).2 (I.ok.noex b o e)⟩
theorem Inv.bk (I:Inv X JW σ H s):∀b o,X.base.get? b=some o->s.heap.get? b=some o:=λb o e=>(I.bs b o e).1
theorem Inv.mod (I:Inv X JW σ H s):Mod X.K X.mg X.base:=I.ok.mod
theorem Inv.kIn (I:Inv X JW σ H s):X.K.In s.heap:=I.ok.mod.kin.keeps I.bk
theorem Inv.lt (I:Inv X JW σ H s):X.env.locals < s.heap.objs.size:=let ⟨_,hn,_⟩:=I.loc;hn.lt
theorem Inv.sz (I:Inv X JW σ H s):X.s₀.heap.objs.size<=s.heap.objs.size:=Lg I.ok.above (OY I.lt)
theorem Inv.nofs (I:Inv X JW σ H s) (h:s.heap.objs.size<=a):a∉X.fs:=λhb=>by obtain ⟨_,o,ho,_⟩:=I.ok.funs.mem hb;exact absurd (KP (Kz ho) (Lg I.sz h)) (My _)
theorem Inv.cne (I:Inv X JW σ H s):∀x c,X.env.cells.lookup x=some c->c≠X.env.locals:=λx c e z=>by obtain ⟨v,o,ho,hd⟩:=I.cell x c e;obtain ⟨m,⟨o',es,ep,ho',hd',_⟩,_⟩:=I.loc;rw [z,ho'] at ho;cases ho;rw [hd'] at hd;cases hd
theorem Inv.funs (I:Inv X JW σ H s):s.heap.FunFrames X.base X.outer:=by
 have all:∀(l:List Env),(∀b∈frs l,b∈X.fs)->X.s₀.heap.FunFrames X.base l->s.heap.FunFrames X.base l:=by
  intro l
  induction l with
  | nil=>intro _ _;trivial
  | cons env r ih=>
   intro hs hl;obtain ⟨hk,⟨L,o,hf,hn,ho,hd⟩,hr⟩:=hl;have hL:L∈X.fs:=hs L (by unfold frs;rw [NF,hf];exact Ku);obtain ⟨sl,e⟩:=I.base.slot L o ho (I.ok.frf L hL) hL λz=>I.ok.exfs L z hL;exact ⟨hk,⟨L,_,hf,hn,e,hd⟩,ih (λb hb=>hs b (by unfold frs;rw [NF,hf];exact Kq _ hb)) hr⟩
 exact all X.outer (λ_ hb=>hb) I.ok.funs
theorem Inv.stack (I:Inv X JW σ H s):s.heap.FunFrames X.base X.stack:=by
 rcases I.ok.stk with e | ⟨e,hf⟩
 ·rw [e];exact I.funs
 ·rw [e];obtain ⟨m,hn,_⟩:=I.loc;refine .cons (by rw [I.ok.kind];decide) hf hn ?_ I.funs;exact Heap.get?_none_of_le (Lg I.ok.bsz I.ok.above)
theorem Inv.stkSub (I:Inv X JW σ H s):∀b∈frs X.stack,b∈X.env.locals::X.fs:=λb hb=>by
 rcases I.ok.stk with e | ⟨e,hf⟩
 ·rw [e] at hb;exact Kq _ hb
 ·rw [e] at hb;unfold frs at hb;rw [NF,hf] at hb;exact hb
theorem Inv.stkFree (I:Inv X JW σ H s):∀b∈frs X.stack,H b=none:=λb hb=>by
 rcases KA.mp (I.stkSub b hb) with e | hb
 ·rw [e];exact I.free
 ·obtain ⟨_,o,ho,_⟩:=I.ok.funs.mem hb;exact I.base.free b o ho (I.ok.frf b hb) λz=>I.ok.exfs b z hb
theorem Inv.step {g':Array Ui}{t':Nat}{d':Drawn}{ch:List KJ}(I:Inv X JW σ H s)
  (hch:∀b∈ch,(b∈X.ex\/X.s₀.heap.objs.size<=b)/\b≠X.env.locals/\(∀x c,X.env.cells.lookup x=some c->c≠b)/\∀p∈X.pn++JW,p.1≠b)
  (keep:∀b o,b≠X.env.locals->b∉X.fs->b∉ch->s.heap.get? b=some o->H b=none->h'.get? b=some o)
  (slot:∀b o,b≠X.env.locals->b∈X.fs->b∉ch->s.heap.get? b=some o->H b=none->∃sl,h'.get? b=some {o with slots:=sl}) (free:∀b o,b∉ch->s.heap.get? b=some o->H b=none->H' b=none)
  (there:∀b o,b∉ch->s.heap.get? b=some o->∃o',h'.get? b=some o')
  (tups:∀b xs,H b=some (.tup xs)->H' b=some (.tup xs)) (frzs:∀b o u,H b=some (.frz o u)->H' b=some (.frz o u)) (tbls:∀b ps,H b=some (.tbl ps)->∃more,H' b=some (.tbl (ps++more)))
  (ns:∀m,s.heap.Ns X.env.locals m->h'.Ns X.env.locals m) (hok:fB X.prog X.w H' h') (hg:P0 g'):
  Inv X JW σ H' {s with heap:=h',gens:=g',drawn:=d',toks:=t'}:=by
 have neL:∀b o,X.s₀.heap.get? b=some o->b≠X.env.locals:=λb o e=>KI (KP (Kz e) I.ok.above);have neC:∀b o,X.s₀.heap.get? b=some o->b∉X.ex->b∉ch:=λb o e hx hb=>by
  rcases (hch b hb).1 with z | z
  ·exact hx z
  ·exact absurd (KP (Kz e) z) (My _)
 have cellK:∀x c,X.env.cells.lookup x=some c->∀v,s.heap.IsCell c v->h'.IsCell c v:=λx c e v ⟨o,ho,hd⟩=>by
  have nch:c∉ch:=λz=>(hch c z).2.2.1 x c e rfl;by_cases hc:c∈X.fs
  ·obtain ⟨sl,q⟩:=slot c o (I.cne x c e) hc nch ho (I.freeC x c e);exact ⟨_,q,hd⟩
  ·exact ⟨o,keep c o (I.cne x c e) hc nch ho (I.freeC x c e),hd⟩
 refine ⟨I.ok,I.os,hg,⟨λb o e n hb hx=>?_,λb o e n hb hx=>?_,λb o e n hx=>?_,λb o e hx=>?_,λb xs e=>tups b xs (I.base.tups b xs e),λb o xs e=>frzs b o xs (I.base.frzs b o xs e),λb ps e=>?_⟩,?_,λx c e=>?_,?_,λx c e=>?_,λp hp=>?_,hok,I.len⟩
 ·exact keep b o (neL b o e) hb (neC b o e hx) (I.base.keep b o e n hb hx) (I.base.free b o e n hx)
 ·obtain ⟨sl,e1⟩:=I.base.slot b o e n hb hx;obtain ⟨sl',e2⟩:=slot b _ (neL b o e) hb (neC b o e hx) e1 (I.base.free b o e n hx);exact ⟨sl',e2⟩
 ·obtain ⟨o',e1⟩:=I.base.there b o e hx;exact free b o' (neC b o e hx) e1 (I.base.free b o e n hx)
 ·obtain ⟨o',e1⟩:=I.base.there b o e hx;exact there b o' (neC b o e hx) e1
 ·obtain ⟨m1,e1⟩:=I.base.tbls b ps e;obtain ⟨m2,e2⟩:=tbls b _ e1;exact ⟨m1++m2,by rw [e2,Array.append_assoc]⟩
 ·obtain ⟨m,hn,hl⟩:=I.loc;refine ⟨m,ns m hn,λi x v e1 e2 e3=>?_⟩;obtain ⟨u,r,l⟩:=hl i x v e1 e2 e3;refine ⟨u,r,?_⟩;rcases l with l | ⟨k,c,e,z⟩
  ·exact .inl l
  ·exact .inr ⟨k,c,e,cellK x c e _ z⟩
 ·obtain ⟨v,z⟩:=I.cell x c e;exact ⟨v,cellK x c e v z⟩
 ·obtain ⟨m,⟨o,_,_,ho,_⟩,_⟩:=I.loc;exact free _ o (λz=>(hch _ z).2.1 rfl) ho I.free
 ·obtain ⟨v,o,ho,hd⟩:=I.cell x c e;exact free c o (λz=>(hch c z).2.2.1 x c e rfl) ho (I.freeC x c e)
 ·obtain ⟨e,n,ne,nf,d⟩:=I.pin p hp;have nch:p.1∉ch:=λz=>(hch p.1 z).2.2.2 p hp rfl;exact ⟨keep p.1 p.2 ne nf nch e n,free p.1 p.2 nch e n,ne,nf,d⟩
theorem Inv.un (I:Inv X JW σ H s) (u:Un X.fs [] H H' s.heap h') (hok:fB X.prog X.w H' h'):Inv X JW σ H' {s with heap:=h',toks:=t'}:=by
 obtain ⟨m,⟨o,es,ep,ho,r⟩,_⟩:=id I.loc;obtain ⟨sl,hL⟩:=u.any ho I.free (by simp);exact I.step (g':=s.gens) (d':=s.drawn) (ch:=[]) (λ_ z=>nomatch z) (λb o _ hb _ e n=>u.keep b o e n hb (by simp)) (λb o _ hb _ e n=>u.slot b o e n hb (by simp)) (λb o _ e n=>u.free b o e n (by simp)) (λb o _ e=>u.there b o e (by simp)) u.tups u.frzs u.tbls (λm' hm=>by
  obtain ⟨o',es',ep',ho',r'⟩:=hm;rw [ho] at ho';cases ho';exact ⟨_,es',ep',hL,r'⟩) hok I.bare
theorem Inv.call (I:Inv X JW σ H s) (u:Un (frs X.stack) ch H H' s.heap h') (hok:fB X.prog X.w H' h') (hg:P0 g')
 (hch:∀b∈ch,(b∈X.ex\/X.s₀.heap.objs.size<=b)/\b≠X.env.locals/\(∀x c,X.env.cells.lookup x=some c->c≠b)/\∀p∈X.pn++JW,p.1≠b):
  Inv X JW σ H' {s with heap:=h',gens:=g',drawn:=d',toks:=t'}:=by
 obtain ⟨m,⟨o,es,ep,ho,r⟩,_⟩:=id I.loc;obtain ⟨sl,hL⟩:=u.any ho I.free λz=>(hch _ z).2.1 rfl;exact I.step (ch:=ch) hch (λb o hL hb hc e n=>u.keep b o e n (λz=>(KA.mp (I.stkSub b z)).elim hL hb) hc) (λb o _ _ hc e n=>u.any e n hc) (λb o hc e n=>u.free b o e n hc) (λb o hc e=>u.there b o e hc) u.tups u.frzs u.tbls (λm' hm=>by
  obtain ⟨o',es',ep',ho',r'⟩:=hm;rw [ho] at ho';cases ho';exact ⟨_,es',ep',hL,r'⟩) hok hg
theorem Inv.turned {t':Nat}{it:KJ}(I:Inv X JW σ H s) (k:∀b o,b≠it->s.heap.get? b=some o->h'.get? b=some o) (hn:H it=none) (hL:it≠X.env.locals)
  (h1:it∈X.ex\/X.s₀.heap.objs.size<=it) (h2:∀x c,X.env.cells.lookup x=some c->c≠it) (h3:∀p∈X.pn++JW,p.1≠it):Inv X JW σ H {s with heap:=h',toks:=t'}:=by
 have nit:∀b u,H b=some u->b≠it:=λb u e z=>by rw [z,hn] at e;cases e
 refine I.step (g':=s.gens) (d':=s.drawn) (ch:=[it]) (λb hb=>?_) (λb o _ _ hc e _=>k b o (λz=>hc (by simp [z])) e) (λb o _ _ hc e _=>⟨o.slots,k b o (λz=>hc (by simp [z])) e⟩) (λ_ _ _ _ n=>n)
  (λb o hc e=>⟨o,k b o (λz=>hc (by simp [z])) e⟩) (λ_ _ e=>e) (λ_ _ _ e=>e) (λb ps e=>⟨#[],by rw [e];simp⟩) (λm hm=>?_) (λb u e=>?_) I.bare
 ·have e:b=it:=by simpa using hb
  subst e;exact ⟨h1,hL,h2,h3⟩
 ·obtain ⟨o,es,ep,ho,r⟩:=hm;exact ⟨o,es,ep,k _ o (Mz hL) ho,r⟩
 ·refine (I.hok b u e).stay (λc v hc q=>k c v ?_ q) (λ_ q=>q) λ_ _ q=>q;rcases hc with z | z
  ·rw [z];exact nit b u e
  ·exact nit c _ z
theorem Inv.tok (I:Inv X JW σ H s) (t:Nat):Inv X JW σ H {s with toks:=t}:=I.un (h':=s.heap) (t':=t) Un.refl I.hok
theorem Inv.kept (I:Inv X JW σ H s) (k:∀b u,s.heap.get? b=some u->h'.get? b=some u):Inv X JW σ H {s with heap:=h',toks:=t'}:=I.un (Un.kept k) (I.hok.kept k)
theorem Inv.laid (I:Inv X JW σ H s) (k:∀b u,s.heap.get? b=some u->h'.get? b=some u) (hp:s.heap.objs.size<=a) (new:cX X.prog X.w (upd H a o) h' a o):
  Inv X JW σ (upd H a o) {s with heap:=h',toks:=t'}:=I.un (Un.laid k hp (I.hok.fresh hp)) (I.hok.laid k hp new)
theorem Inv.write (I:Inv X JW σ H s) (mu:Bf (H x)) (he:e=x\/H e=some (.own x)) (k:∀b u,b≠e->s.heap.get? b=some u->h'.get? b=some u) (IP:∃u,h'.get? e=some u)
 (new:cX X.prog X.w (upd H x o) h' x o):Inv X JW σ (upd H x o) {s with heap:=h',toks:=t'}:=I.un (Un.write mu he k IP) (I.hok.write mu he k IP new)
theorem Inv.pins_of (I:Inv X JW σ H s) (h:∀p∈pins',s.heap.get? p.1=some p.2/\H p.1=none/\p.1≠X.env.locals/\p.1∉X.fs/\∀v,p.2.data≠.cell v):Inv X pins' σ H s:=
 ⟨I.ok,I.os,I.bare,I.base,I.loc,I.cell,I.free,I.freeC,λp hp=>(K3.mp hp).elim (λz=>I.pin p (LQ _ z)) (h p),I.hok,I.len⟩
theorem t9 {N:List Str}(hN:N.Nodup){i j:Nat}{x:Str}(a:N[i]?=some x) (b:N[j]?=some x):i=j:=by obtain ⟨h1,e1⟩:=KY.mp a;obtain ⟨h2,e2⟩:=KY.mp b;exact (Pu hN).mp (e1.trans e2.symm)
theorem qW {M:SW}{E:Kg->Kh->Prop}{Q:Unit->Kh->Prop}(I:Inv X JW σ H s) (hN:X.N.Nodup) (hi:X.N[i]?=some x) (hx:Loc X.env.scope x) (r:RelV v u)
 (h:∀s',Inv X JW (σ.set i (some v)) H s'->(∃a,Mp a s.heap s'.heap/\(a=X.env.locals\/X.env.cells.lookup x=some a))->Q () s') (hf:X.fn x=true\/X.env.scope.names.lookup x=some .local:=by first | exact .inl rfl | exact .inr rfl | assumption):KH M A (storeName X.env x u) Q E s:=by
 obtain ⟨m,hn,hl⟩:=id I.loc;have hcls:(X.env.scope.kind == .class || (X.env.scope.kind == .module && X.env.locals != X.env.globals))=false:=by rw [I.ok.kind];rfl
 have hiσ:i < σ.length:=by rw [I.len];exact (KY.mp hi).1
 have cne:=I.cne;have tracked:∀{a:KJ}{h':L7},(∃o,s.heap.get? a=some o/\H a=none)->Mp a s.heap h'->fB X.prog X.w H h':=fun {a h'} ha hs b ob e=>by
  obtain ⟨_,_,hfree⟩:=ha;refine (I.hok b ob e).stay (λc w' hc q=>(hs.2 c ?_).trans q) (λ_ q=>q) λ_ _ q=>q;rintro rfl;rcases hc with rfl | hc
  ·rw [hfree] at e;cases e
  ·rw [hfree] at hc;cases hc
 rcases hx with hk | hk
 ·refine wpAny_storeName_local hk hn (λh' hn' hs=>?_) hcls;obtain ⟨oL,_,_,JL,_⟩:=id hn;refine h _ ⟨I.ok,I.os,I.bare,⟨λb o e n hb hx=>?_,λb o e n hb hx=>?_,I.base.free,λb o e hx=>?_,I.base.tups,I.base.frzs,I.base.tbls⟩,⟨_,hn',λj y v' e1 e2 e3=>?_⟩,λy c e=>?_,I.free,I.freeC,λp hp=>?_,tracked ⟨oL,JL,I.free⟩ hs,by simpa using I.len⟩ ⟨_,hs,.inl rfl⟩
  ·exact (hs.2 b (KI (KP (Kz e) I.ok.above))).trans (I.base.keep b o e n hb hx)
  ·obtain ⟨sl,e1⟩:=I.base.slot b o e n hb hx;exact ⟨sl,(hs.2 b (KI (KP (Kz e) I.ok.above))).trans e1⟩
  ·obtain ⟨o',e1⟩:=I.base.there b o e hx;exact ⟨o',(hs.2 b (KI (KP (Kz e) I.ok.above))).trans e1⟩
  ·by_cases hj:j=i
   ·subst hj;rw [hi] at e1;cases e1;rw [LC hiσ] at e2;cases e2;exact ⟨u,r,.inl ⟨hk,by simp⟩⟩
   ·rw [K_ (Mz hj)] at e2;obtain ⟨u',r',q⟩:=hl j y v' e1 e2 e3;refine ⟨u',r',?_⟩;rcases q with ⟨k,e⟩ | ⟨k,c,e,z⟩
    ·refine .inl ⟨k,?_⟩;have:y≠x:=λe=>hj (t9 hN e1 (e▸hi));simp [this,e]
    ·exact .inr ⟨k,c,e,z.sameBut hs (cne y c e)⟩
  ·obtain ⟨w',z⟩:=I.cell y c e;exact ⟨w',z.sameBut hs (cne y c e)⟩
  ·obtain ⟨e,n,ne,nf,d⟩:=I.pin p hp;exact ⟨(hs.2 p.1 ne).trans e,n,ne,nf,d⟩
 ·have hfn:X.fn x=true:=by
   rcases hf with z | z
   ·exact z
   ·rw [z] at hk;cases hk
  obtain ⟨c,hc⟩:=I.ok.has x (.inl hk);obtain ⟨w',z⟩:=I.cell x c hc;refine wpAny_storeName_cell I.ok.kind hk hc z (λh' hc' hs=>?_);obtain ⟨oc,hoc,Jh⟩:=id z;refine h {s with heap:=h'} ⟨I.ok,I.os,I.bare,⟨λb o e n hb hx=>?_,λb o e n hb hx=>?_,I.base.free,λb o e hx=>?_,I.base.tups,I.base.frzs,I.base.tbls⟩,⟨m,hn.sameBut hs (Mz (cne x c hc)),λj y v' e1 e2 e3=>?_⟩,λy c' e=>?_,I.free,I.freeC,λp hp=>?_,tracked ⟨oc,hoc,I.freeC x c hc⟩ hs,by simpa using I.len⟩ ⟨c,hs,.inr hc⟩
  ·exact (hs.2 b (KI (KP (Kz e) (I.ok.cab x c hfn hc)))).trans (I.base.keep b o e n hb hx)
  ·obtain ⟨sl,e1⟩:=I.base.slot b o e n hb hx;exact ⟨sl,(hs.2 b (KI (KP (Kz e) (I.ok.cab x c hfn hc)))).trans e1⟩
  ·obtain ⟨o',e1⟩:=I.base.there b o e hx;exact ⟨o',(hs.2 b (KI (KP (Kz e) (I.ok.cab x c hfn hc)))).trans e1⟩
  ·by_cases hj:j=i
   ·subst hj;rw [hi] at e1;cases e1;rw [LC hiσ] at e2;cases e2;exact ⟨u,r,.inr ⟨.inl hk,c,hc,hc'⟩⟩
   ·rw [K_ (Mz hj)] at e2;obtain ⟨u',r',q⟩:=hl j y v' e1 e2 e3;refine ⟨u',r',?_⟩;rcases q with q | ⟨k,c',e,z'⟩
    ·exact .inl q
    ·refine .inr ⟨k,c',e,z'.sameBut hs ?_⟩;rintro rfl;exact hj (t9 hN e1 (I.ok.inj _ _ _ e hc▸hi))
  ·by_cases hcc:c'=c
   ·subst hcc;exact ⟨_,hc'⟩
   ·obtain ⟨w2,z2⟩:=I.cell y c' e;exact ⟨w2,z2.sameBut hs hcc⟩
  ·obtain ⟨e,n,ne,nf,d⟩:=I.pin p hp;refine ⟨(hs.2 p.1 ?_).trans e,n,ne,nf,d⟩;intro q;rw [q,hoc] at e;have q':oc=p.2:=Lp e;exact d w' (by rw [<-q'];exact Jh)
theorem uA {M:SW}{E:Kg->Kh->Prop}{Q:Unit->Kh->Prop}(I:Inv X JW σ H s) (hN:X.N.Nodup) (hi:X.N[i]?=some x) (hx:Loc X.env.scope x) (r:RelV v u)
 (h:∀s',Inv X JW (σ.set i (some v)) H s'->Q () s') (hf:X.fn x=true\/X.env.scope.names.lookup x=some .local:=by first | exact .inl rfl | exact .inr rfl | assumption):KH M A (storeName X.env x u) Q E s:=
 qW I hN hi hx r (λs' I' _=>h s' I') hf
theorem Inv.call' {s':Kh}(I:Inv X JW σ H s) (ho:s'.os=s.os) (u:Un (frs X.stack) ch H H' s.heap s'.heap) (hok:fB X.prog X.w H' s'.heap) (hg:P0 s'.gens)
 (hch:∀b∈ch,(b∈X.ex\/X.s₀.heap.objs.size<=b)/\b≠X.env.locals/\(∀x c,X.env.cells.lookup x=some c->c≠b)/\∀p∈X.pn++JW,p.1≠b):Inv X JW σ H' s':=by obtain ⟨h',g',d',t',o'⟩:=s';have e:o'=s.os:=ho;subst e;exact I.call (g':=g') (t':=t') (d':=d') u hok hg hch
end
noncomputable abbrev XK:=Kg->Option KJ->Hp->Prop
noncomputable abbrev St:=List (Option V)
noncomputable abbrev VK:=V->Hp->Prop
noncomputable abbrev TE:=St->Hp->VK->Prop
noncomputable abbrev TT:=St->Hp->(Bool->Hp->Prop)->Prop
noncomputable abbrev TA:=St->Hp->(List V->Hp->Prop)->Prop
structure Ends where
 nx:St->Hp->Prop
 rt:VK
 bk:St->Hp->Prop:=λ_ _=>False
 ct:St->Hp->Prop:=λ_ _=>False
noncomputable abbrev TS:=Ends->St->Hp->Prop
noncomputable def EP (X:Cx) (JW:List (KJ×Obj)) (σ:St) (Q:VK) (u:Kg) (s':Kh):Prop:=∃v H',Inv X JW σ H' s'/\RelV v u/\Q v H'
noncomputable def TP (X:Cx) (JW:List (KJ×Obj)) (σ:St) (Q:Bool->Hp->Prop) (b:Bool) (s':Kh):Prop:=∃H',Inv X JW σ H' s'/\Q b H'
noncomputable def AP (X:Cx) (JW:List (KJ×Obj)) (σ:St) (Q:List V->Hp->Prop) (us:List Kg) (s':Kh):Prop:=∃vs H',Inv X JW σ H' s'/\Vals vs us/\Q vs H'
noncomputable def SP (X:Cx) (JW:List (KJ×Obj)) (D:Ends) (f:Flow) (s':Kh):Prop:=
 match f with
 | .next=>∃σ' H',Inv X JW σ' H' s'/\D.nx σ' H'
 | .brk=>∃σ' H',Inv X JW σ' H' s'/\D.bk σ' H'
 | .cont=>∃σ' H',Inv X JW σ' H' s'/\D.ct σ' H'
 | .ret u=>∃v σ' H',Inv X JW σ' H' s'/\RelV v u/\D.rt v H'
noncomputable def PE (X:Cx) (e:K8) (t:TE):Prop:=
 ∀(JW:List (KJ×Obj)) (s:Kh) (σ:St) (H:Hp) (Q:VK),Inv X JW σ H s->t σ H Q->KH (KS X.prog X.w) X.A (eval e X.env) (EP X JW σ Q) X.xe s
noncomputable def PT (X:Cx) (e:K8) (t:TT):Prop:=
 ∀(JW:List (KJ×Obj)) (s:Kh) (σ:St) (H:Hp) (Q:Bool->Hp->Prop),Inv X JW σ H s->t σ H Q->KH (KS X.prog X.w) X.A (QL e X.env (eval e X.env)) (TP X JW σ Q) X.xe s
noncomputable def PW (X:Cx) (e:K8) (t:TT):Prop:=
 ∀(whole:Sem Kg) (JW:List (KJ×Obj)) (s:Kh) (σ:St) (H:Hp) (Q:Bool->Hp->Prop),Inv X JW σ H s->t σ H Q->KH (KS X.prog X.w) X.A (QL e X.env whole) (TP X JW σ Q) X.xe s
theorem PW.pt (h:PW X e t):PT X e t:=h _
noncomputable def PA (X:Cx) (es:List K8) (t:TA):Prop:=
 ∀(pos:Pos) (JW:List (KJ×Obj)) (s:Kh) (σ:St) (H:Hp) (Q:List V->Hp->Prop),Inv X JW σ H s->t σ H Q->KH (KS X.prog X.w) X.A (spliced (MQ pos (KC es X.env))) (AP X JW σ Q) X.xe s
noncomputable def PS (X:Cx) (st:Nc) (t:TS):Prop:=
 ∀(JW:List (KJ×Obj)) (s:Kh) (σ:St) (H:Hp) (D:Ends),Inv X JW σ H s->t D σ H->KH (KS X.prog X.w) X.A (exec st X.env) (SP X JW D) X.xe s
noncomputable def g9 (X:Cx) (st:List Nc) (t:TS):Prop:=
 ∀(JW:List (KJ×Obj)) (s:Kh) (σ:St) (H:Hp) (D:Ends),Inv X JW σ H s->t D σ H->KH (KS X.prog X.w) X.A (execs st X.env) (SP X JW D) X.xe s
theorem bF {α:Type}{t:Sem α}{Q Q':α->Kh->Prop}{M:SW}{A:Lh}{E:Kg->Kh->Prop}{s:Kh}(h:KH M A t Q E s) (hQ:∀a s,Q a s->Q' a s):KH M A t Q' E s:=Lq h hQ λ_ _ x=>x
section
variable {X:Cx}
theorem bin {a b:K8}{ta tb:TE}(ha:PE X a ta) (hb:PE X b tb){JW:List (KJ×Obj)}{s:Kh}{σ:St}{H:Hp}{R:V->V->Hp->Prop}(I:Inv X JW σ H s) (h:ta σ H λx H1=>tb σ H1 λy H2=>R x y H2)
  {α:Type}{Q:α->Kh->Prop}{f:Kg->Kg->Sem α}
  (hf:∀v u s2 x y H2,Inv X JW σ H2 s2->RelV x v->RelV y u->R x y H2->KH (KS X.prog X.w) X.A (f v u) Q X.xe s2):
  KH (KS X.prog X.w) X.A (eval a X.env) (λv s₁=>KH (KS X.prog X.w) X.A (eval b X.env) (λu s₂=>KH (KS X.prog X.w) X.A (f v u) Q X.xe s₂) X.xe s₁) X.xe s:=by refine bF (ha JW s σ H _ I h) λv s1 ⟨x,H1,I1,r1,q1⟩=>?_;refine bF (hb JW s1 σ H1 _ I1 q1) λu s2 ⟨y,H2,I2,r2,q2⟩=>?_;exact hf v u s2 x y H2 I2 r1 r2 q2
noncomputable def Fl (i:Nat):TE:=λσ H Q=>∃v,σ[i]?=some (some v)/\Q v H
noncomputable def tC (v:V):TE:=λ_ H Q=>Q v H
theorem oV {pos:Pos}(hN:X.N[i]?=some x) (hv:vg X.env.scope x) (hd:(x == ("__debug__":Str))=false:=by decide) (hcd:(x == ("__classdict__":Str))=false:=by decide):PE X (.Name x pos) (Fl i):=by
 intro JW s σ H Q I h;obtain ⟨v,e,h⟩:=h;obtain ⟨m,hn,hl⟩:=I.loc;obtain ⟨u,r,l⟩:=hl i x v hN e hv;have fin:EP X JW σ Q u s:=⟨v,H,I,r,h⟩;rcases l with ⟨hk,hm⟩ | ⟨hk,c,hc,hcell⟩
 ·exact SA (wpAny_loadName_local I.ok.kind hk hn hm fin) hd
 ·rcases hk with hk | hk
  ·exact SA (wpAny_loadName_cell I.ok.kind hk hc hcell fin) hd
  ·exact SA (wpAny_loadName_free I.ok.kind hk hc hcell fin hcd) hd
theorem ug {i j pos}:PE X (.Constant (.int i) j pos) (tC (.int i)):=λ_ _ _ H _ I h=>wpAny_Constant_int ⟨.int i,H,I.tok _,⟨_,rfl⟩,h⟩
theorem F1 {b j pos}:PE X (.Constant (.bool b) j pos) (tC (.bl b)):=λ_ _ _ H _ I h=>Constant_bool ⟨.bl b,H,I,rfl,h⟩
theorem EO {x j pos}:PE X (.Constant (.str x) j pos) (tC (.str x)):=λ_ _ _ H _ I h=>Calls.Constant_str ⟨.str x,H,I.tok _,⟨_,rfl⟩,h⟩
noncomputable def Gl (X:Cx) (x:Str):Prop:=X.env.kindOf x=some .globalImplicit
theorem vJ {E:Kg->Kh->Prop}{H:Hp}{pos:Pos}{Q:Kg->Kh->Prop}(I:Inv X JW σ H s) (hg:Gl X x) (hm:X.mg x=some u) (h:Q u s)
 (hd:(x == ("__debug__":Str))=false:=by decide):KH (KS X.prog X.w) X.A (eval (.Name x pos) X.env) Q E s:=
 OV I.ok.kind hg (Calls.loadGlobal_global (by rw [I.ok.glob];exact I.mod.glob.keeps I.bk) hm h) hd
theorem lK {E:Kg->Kh->Prop}{H:Hp}{pos:Pos}{Q:Kg->Kh->Prop}(I:Inv X JW σ H s) (hg:Gl X x) (hm:X.mg x=none) (hv:Lm x=some u) (h:Q u s)
 (hn:x≠"__name__":=by decide) (hd:(x == ("__debug__":Str))=false:=by decide):KH (KS X.prog X.w) X.A (eval (.Name x pos) X.env) Q E s:=by obtain ⟨mb,h1,h2⟩:=I.mod.blt;exact OV I.ok.kind hg (Calls.loadGlobal_builtin (by rw [I.ok.glob];exact I.mod.glob.keeps I.bk) hm (by rw [I.ok.blt];exact h1.keeps I.bk) ((h2 x hn).trans hv) h) hd
theorem p9 {pos:Pos}(hg:Gl X x) (hm:X.mg x=some u) (r:RelV v u) (hd:(x == ("__debug__":Str))=false:=by decide):PE X (.Name x pos) (tC v):=
 λ_ _ _ H _ I h=>vJ I hg hm ⟨v,H,I,r,h⟩ hd
theorem CF {pos:Pos}(hg:Gl X x) (hm:X.mg x=none) (hv:Lm x=some u) (r:RelV v u) (hn:x≠"__name__":=by decide) (hd:(x == ("__debug__":Str))=false:=by decide):PE X (.Name x pos) (tC v):=
 λ_ _ _ H _ I h=>lK I hg hm hv ⟨v,H,I,r,h⟩ hn hd
variable {a b:K8}{ta tb:TE}{pos:Pos}
noncomputable def PC (X:Cx) (op:CmpOp) (a b:K8) (t:TE):Prop:=
 ∀(JW:List (KJ×Obj)) (s:Kh) (σ:St) (H:Hp) (Q:VK),Inv X JW σ H s->t σ H Q->
  KH (KS X.prog X.w) X.A (eval a X.env) (λv s₁=>KH (KS X.prog X.w) X.A (eval b X.env) (λu s₂=>KH (KS X.prog X.w) X.A (MU op v u) (EP X JW σ Q) X.xe s₂) X.xe s₁) X.xe s
theorem AG (b:K8) (h:op≠.In) (h2:op≠.NotIn):LK op b=false:=by
 have e1:(op == UC)=false:=by cases op <;> first | rfl | exact absurd rfl h
 have e2:(op == TV)=false:=by cases op <;> first | rfl | exact absurd rfl h2
 cases b <;> simp [LK,e1,e2]
noncomputable def tB (t:TE):TT:=λσ H Q=>t σ H λx H1=>∃c,x=.bl c/\Q c H1
theorem Hr {op:CmpOp}{t:TE}(h:PC X op a b t) (h1:LK op b=false:=by first | exact AG _ (by decide) (by decide) | rfl):PT X (.Compare a [op] [b] pos) (tB t):=by intro JW s σ H Q I hw;refine P4 (bF (h JW s σ H _ I hw) λv s1 h1=>bF h1 λu s2 h2=>bF h2 λc s3 ⟨x,H1,I1,r1,q1⟩=>?_) h1;obtain ⟨d,rfl,q⟩:=q1;cases r1;exact Mf ⟨H1,I1,q⟩
theorem EY {e:K8}{t:TE}(h:PE X e t) (he:∀whole,QL e X.env whole=(do let v <-whole;Ng e.pos;holding [v] (truthy v)):=by intro _;rfl):PT X e (tB t):=by intro JW s σ H Q I hw;refine isTrue_plain (bF (h JW s σ H _ I hw) λv s1 ⟨x,H1,I1,r1,q1⟩=>?_) (he _);obtain ⟨d,rfl,q⟩:=q1;cases r1;exact Mf ⟨H1,I1,q⟩
variable {tA tB':TT}{rest:List K8}
noncomputable def G4 (t u:TT):TT:=λσ H Q=>t σ H λc H1=>if c=true then u σ H1 Q else Q false H1
noncomputable def Hy (t u:TT):TT:=λσ H Q=>t σ H λc H1=>if c=true then Q true H1 else u σ H1 Q
noncomputable def G9 (t:TT):TT:=λσ H Q=>t σ H λc H1=>Q (!c) H1
theorem CO (ha:PT X a tA):PW X (.BoolOp .And [a] pos) tA:=by
 intro wh JW s σ H Q I h;refine isTrue_and (bF (ha JW s σ H Q I h) λc s1 e=>?_);cases c with
 | true=>exact isTrue_and_nil e
 | false=>exact e
theorem E1 (ha:PT X a tA):PW X (.BoolOp .Or [a] pos) tA:=by
 intro wh JW s σ H Q I h;refine isTrue_or (bF (ha JW s σ H Q I h) λc s1 e=>?_);cases c with
 | false=>exact isTrue_or_nil e
 | true=>exact e
theorem EZ (ha:PT X a tA) (hb:PW X (.BoolOp .And (b::rest) pos) tB'):PW X (.BoolOp .And (a::b::rest) pos) (G4 tA tB'):=by
 intro wh JW s σ H Q I h;refine isTrue_and (bF (ha JW s σ H _ I h) λc s1 ⟨H1,I1,q1⟩=>?_);cases c with
 | true=>exact hb wh JW s1 σ H1 Q I1 q1
 | false=>exact ⟨H1,I1,q1⟩
theorem F8 (ha:PT X a tA) (hb:PW X (.BoolOp .Or (b::rest) pos) tB'):PW X (.BoolOp .Or (a::b::rest) pos) (Hy tA tB'):=by
 intro wh JW s σ H Q I h;refine isTrue_or (bF (ha JW s σ H _ I h) λc s1 ⟨H1,I1,q1⟩=>?_);cases c with
 | true=>exact ⟨H1,I1,q1⟩
 | false=>exact hb wh JW s1 σ H1 Q I1 q1
theorem EX (ha:PT X a tA):PT X (.UnaryOp .Not a pos) (G9 tA):=by intro JW s σ H Q I h;exact isTrue_not (ha JW s σ H (λc H1=>Q (!c) H1) I h)
noncomputable def Gd (ta tb:TE):TE:=λσ H Q=>ta σ H λx H1=>∃c,x=.bl c/\if c=true then tb σ H1 Q else Q (.bl false) H1
noncomputable def G_ (ta tb:TE):TE:=λσ H Q=>ta σ H λx H1=>∃c,x=.bl c/\if c=true then Q (.bl true) H1 else tb σ H1 Q
theorem EN {op}{t:TE}(h:PE X a t):PE X (.BoolOp op [a] pos) t:=λJW s σ H Q I hw=>BoolOp_one (h JW s σ H Q I hw)
theorem EK (ha:PE X a ta) (hb:PE X (.BoolOp .And (b::rest) pos) tb):PE X (.BoolOp .And (a::b::rest) pos) (Gd ta tb):=by
 intro JW s σ H Q I h;refine BoolOp_and (bF (ha JW s σ H _ I h) λv s1 ⟨x,H1,I1,r1,q1⟩=>?_);obtain ⟨c,rfl,q1⟩:=q1;cases r1;refine Mf ?_;cases c with
 | true=>exact hb JW s1 σ H1 Q I1 q1
 | false=>exact ⟨.bl false,H1,I1,rfl,q1⟩
theorem F5 (ha:PE X a ta) (hb:PE X (.BoolOp .Or (b::rest) pos) tb):PE X (.BoolOp .Or (a::b::rest) pos) (G_ ta tb):=by
 intro JW s σ H Q I h;refine BoolOp_or (bF (ha JW s σ H _ I h) λv s1 ⟨x,H1,I1,r1,q1⟩=>?_);obtain ⟨c,rfl,q1⟩:=q1;cases r1;refine Mf ?_;cases c with
 | false=>exact hb JW s1 σ H1 Q I1 q1
 | true=>exact ⟨.bl true,H1,I1,rfl,q1⟩
end
noncomputable def bV (K:Ke) (H:Hp) (a:KJ) (xs:List V):Prop:=
 Rd H a (.lst xs)\/
  ∃(o:Obj) (JY:Array Kg) (n:Nat),K.lookup a=some o/\o.cls=.type "list"/\o.dict=none/\o.data=.seq JY n/\JY.size<=sizeLine/\Vals xs JY.toList
noncomputable def eH (K:Ke) (H:Hp) (a:KJ) (xs:List V):Prop:=
 Rd H a (.tup xs)\/
  ∃(o:Obj) (JY:Array Kg) (n:Nat),K.lookup a=some o/\o.cls=.type "tuple"/\o.dict=none/\o.data=.seq JY n/\JY.size<=sizeLine/\Vals xs JY.toList
noncomputable def GH:Kg->Option V
 | .none=>some .non
 | .bool b=>some (.bl b)
 | .int i _=>some (.int i)
 | .str x _=>some (.str x)
 | .bytes b _=>some (.byt b)
 | .float b _=>some (.flt b)
 | .ref a=>some (.ref a)
 | .type n=>some (.ty n)
 | _=>none
theorem RelV.abs (r:RelV x u):GH u=some x:=by
 cases x with
 | non=>cases r;rfl
 | bl _=>cases r;rfl
 | int _=>obtain ⟨t,rfl⟩:=r;rfl
 | str _=>obtain ⟨t,rfl⟩:=r;rfl
 | byt _=>obtain ⟨t,rfl⟩:=r;rfl
 | flt _=>obtain ⟨t,rfl⟩:=r;rfl
 | ref _=>cases r;rfl
 | ty _=>cases r;rfl
theorem RelV.inj (r:RelV x u) (q:RelV y u):x=y:=Lp (r.abs.symm.trans q.abs)
theorem Vals.inj:∀{xs ys:List V}{us:List Kg},Vals xs us->Vals ys us->xs=ys
 | _,_,_,.nil,.nil=>rfl
 | _,_,_,.cons r t,.cons r' t'=>by rw [r.inj r',Vals.inj t t']
section
variable {X:Cx}{JW:List (KJ×Obj)}{σ:St}{H:Hp}{s:Kh}{a:KJ}{xs ys:List V}
theorem bV.of {K:Ke}(h:H a=some (.lst xs)):bV K H a xs:=.inl (.inl h)
theorem Inv.list (I:Inv X JW σ H s) (h:bV X.K H a xs):∃JY:List Kg,Vals xs JY/\PlainL s.heap a JY.toArray/\xs.length<=sizeLine:=by
 rcases h with h | ⟨o,JY,n,hk,hc,hd,hs,hz,r⟩
 ·obtain ⟨z,JY,n,r,e⟩:=h.ok I.hok;exact ⟨JY,r,⟨_,n,e,rfl,rfl,rfl⟩,z⟩
 ·refine ⟨JY.toList,r,⟨o,n,I.kIn a o hk,hc,hd,by simpa using hs⟩,?_⟩;have e:=r.length;simp only [KN] at e;omega
theorem Inv.tuple (I:Inv X JW σ H s) (h:eH X.K H a xs):∃JY:List Kg,Vals xs JY/\IsTup s.heap a JY.toArray/\xs.length<=sizeLine:=by
 rcases h with h | ⟨o,JY,n,hk,hc,hn,hs,hz,r⟩
 ·obtain ⟨z,JY,r,p,_⟩:=h.ok I.hok;exact ⟨JY,r,p,z⟩
 ·refine ⟨JY.toList,r,⟨o,I.kIn a o hk,hc,n,by simpa using hs⟩,?_⟩;have e:=r.length;simp only [KN] at e;omega
theorem Inv.list_inj (I:Inv X JW σ H s) (h:bV X.K H a xs) (h':bV X.K H a ys):xs=ys:=by
 obtain ⟨JY,r,⟨o,n,e,_,_,d⟩,_⟩:=I.list h;obtain ⟨its',r',⟨o',n',e',_,_,d'⟩,_⟩:=I.list h';rw [e] at e';cases e';rw [d] at d';injection d' with d1 _
 have:JY=its':=by simpa using congrArg P5 d1
 subst this;exact r.inj r'
theorem Inv.tuple_inj (I:Inv X JW σ H s) (h:eH X.K H a xs) (h':eH X.K H a ys):xs=ys:=by
 obtain ⟨JY,r,⟨o,e,_,n,d⟩,_⟩:=I.tuple h;obtain ⟨its',r',⟨o',e',_,n',d'⟩,_⟩:=I.tuple h';rw [e] at e';cases e';rw [d] at d';injection d' with d1 _
 have:JY=its':=by simpa using congrArg P5 d1
 subst this;exact r.inj r'
end
noncomputable abbrev Cx.wish (X:Cx) (E:Kg->Kh->Prop):Cx:={X with xe:=E}
noncomputable abbrev Cx.nox (X:Cx):Cx:=X.wish λ_ _=>False
theorem Cx.Ok.wish {X:Cx}(ok:X.Ok) (E:Kg->Kh->Prop):(X.wish E).Ok:=
 ⟨ok.mod,ok.kind,ok.glob,ok.blt,ok.above,ok.inj,ok.has,ok.cab,ok.hd,ok.frames,ok.stk,ok.exf,ok.bs,ok.bsz,ok.noex,ok.exfs,ok.funs,ok.frf⟩
theorem Cx.Ok.unwish {X:Cx}{E:Kg->Kh->Prop}(ok:(X.wish E).Ok):X.Ok:=
 ⟨ok.mod,ok.kind,ok.glob,ok.blt,ok.above,ok.inj,ok.has,ok.cab,ok.hd,ok.frames,ok.stk,ok.exf,ok.bs,ok.bsz,ok.noex,ok.exfs,ok.funs,ok.frf⟩
section
variable {X:Cx}{JW:List (KJ×Obj)}{σ:St}{H:Hp}{s:Kh}{E:Kg->Kh->Prop}
theorem Inv.wish (I:Inv X JW σ H s) (E:Kg->Kh->Prop):Inv (X.wish E) JW σ H s:=⟨I.ok.wish E,I.os,I.bare,I.base,I.loc,I.cell,I.free,I.freeC,I.pin,I.hok,I.len⟩
theorem Inv.unwish (I:Inv (X.wish E) JW σ H s):Inv X JW σ H s:=⟨I.ok.unwish,I.os,I.bare,I.base,I.loc,I.cell,I.free,I.freeC,I.pin,I.hok,I.len⟩
theorem SP.unwish {D:Ends}(h:SP (X.wish E) JW D f s'):SP X JW D f s':=by
 cases f with
 | next=>obtain ⟨σ',H',I,q⟩:=h;exact ⟨σ',H',I.unwish,q⟩
 | brk=>obtain ⟨σ',H',I,q⟩:=h;exact ⟨σ',H',I.unwish,q⟩
 | cont=>obtain ⟨σ',H',I,q⟩:=h;exact ⟨σ',H',I.unwish,q⟩
 | ret u=>obtain ⟨v,σ',H',I,r,q⟩:=h;exact ⟨v,σ',H',I.unwish,r,q⟩
theorem g9.nox {st:List Nc}{t:TS}(h:g9 X.nox st t):g9 X st t:=λJW s σ H D I hw=>
 Lq (h JW s σ H D (I.wish _) hw) (λ_ _ q=>q.unwish) λ_ _ z=>Nm z
end
section
variable {X:Cx}{st:Nc}{rest:List Nc}{t u:TS}{e:K8}{te:TE}{pos:Pos}
noncomputable def Gg:TS:=λD σ H=>D.nx σ H
noncomputable def Hg (t u:TS):TS:=λD σ H=>t {D with nx:=u D} σ H
theorem CM:g9 X [] Gg:=λ_ _ σ H _ I h=>OD ⟨σ,H,I,h⟩
theorem AQ (h1:PS X st t) (h2:g9 X rest u):g9 X (st::rest) (Hg t u):=by
 intro JW s σ H D I h;refine RP (bF (h1 JW s σ H {D with nx:=u D} I h) λf s1 q=>?_);cases f with
 | next=>
  obtain ⟨σ',H',I',q⟩:=q;exact h2 JW s1 σ' H' D I' q
 | ret v=>exact q
 | brk=>exact q
 | cont=>exact q
theorem CN (h1:PS X st t):g9 X [st] t:=by
 intro JW s σ H D I h;refine RP (bF (h1 JW s σ H D I h) λf s1 q=>?_);cases f with
 | next=>exact OD q
 | ret v=>exact q
 | brk=>exact q
 | cont=>exact q
theorem Inv.quiet {H:Hp}(I:Inv X JW σ H s):interactive X.env=false:=by simp [interactive,I.ok.kind]
noncomputable def Gf (te:TE):TS:=λD σ H=>te σ H λ_ H1=>D.nx σ H1
theorem vU (he:PE X e te) (hs:O_ e none pos.line X.env=pure false:=by rfl):PS X (.Expr e pos) (Gf te):=by intro JW s σ H D I h;exact wpAny_Expr_any (bF (he JW s σ H _ I h) λv s1 ⟨x,H1,I1,r1,q1⟩=>⟨σ,H1,I1,q1⟩) I.quiet hs
noncomputable def Hf (te:TE):TS:=λD σ H=>te σ H D.rt
theorem EW (he:PE X e te):PS X (.Return (some e) pos) (Hf te):=by intro JW s σ H D I h;exact wpAny_Return_some (bF (he JW s σ H _ I h) λv s1 ⟨x,H1,I1,r1,q1⟩=>⟨x,σ,H1,I1,r1,q1⟩)
noncomputable def G7 (c:TT) (t u:TS):TS:=λD σ H=>c σ H λb H1=>if b=true then t D σ H1 else u D σ H1
theorem F6 {c:K8}{a b:List Nc}{tc:TT}(hc:PT X c tc) (ha:g9 X a t) (hb:g9 X b u):PS X (.If c a b pos) (G7 tc t u):=by
 intro JW s σ H D I h;refine wpAny_If (bF (hc JW s σ H _ I h) λd s1 ⟨H1,I1,q1⟩=>?_);cases d with
 | true=>exact ha JW s1 σ H1 D I1 q1
 | false=>exact hb JW s1 σ H1 D I1 q1
end
noncomputable abbrev TG:=V->St->Hp->(St->Hp->Prop)->Prop
noncomputable abbrev qq:=List V->St->Hp->(St->Hp->Prop)->Prop
noncomputable def PG (X:Cx) (JZ:K8) (t:TG):Prop:=
 ∀(JW:List (KJ×Obj)) (s:Kh) (σ:St) (H:Hp) (v:V) (u:Kg) (Q:St->Hp->Prop),Inv X JW σ H s->RelV v u->t v σ H Q->
  KH (KS X.prog X.w) X.A (assign JZ X.env u) (λ_ s'=>∃σ' H',Inv X JW σ' H' s'/\Q σ' H') X.xe s
noncomputable def se (X:Cx) (ts:List K8) (t:qq):Prop:=
 ∀(JW:List (KJ×Obj)) (s:Kh) (σ:St) (H:Hp) (vs:List V) (us:List Kg) (Q:St->Hp->Prop),Inv X JW σ H s->Vals vs us->t vs σ H Q->
  KH (KS X.prog X.w) X.A (assignInOrder ((M_ ts X.env).map (·.2)) us) (λ_ s'=>∃σ' H',Inv X JW σ' H' s'/\Q σ' H') X.xe s
section
variable {X:Cx}{pos:Pos}
noncomputable def Bp (i:Nat):TG:=λv σ H Q=>Q (σ.set i (some v)) H
theorem CI (hN:X.N.Nodup) (hi:X.N[i]?=some x) (hx:Loc X.env.scope x) (hf:X.fn x=true\/X.env.scope.names.lookup x=some .local:=by first | exact .inl rfl | exact .inr rfl | assumption):PG X (.Name x pos) (Bp i):=by intro JW s σ H v u Q I r h;exact wpAny_assign_Name (uA I hN hi hx r (λs' I'=>⟨_,H,I',h⟩) hf)
noncomputable def ay:qq:=λvs σ H Q=>vs=[]/\Q σ H
noncomputable def ai (t:TG) (u:qq):qq:=λvs σ H Q=>∃v r,vs=v::r/\t v σ H λσ' H'=>u r σ' H' Q
theorem CJ:se X [] ay:=by intro JW s σ H vs us Q I r h;obtain ⟨e,h⟩:=h;subst e;cases r;exact assignInOrder_nil ⟨σ,H,I,h⟩
theorem AK {e:K8}{es:List K8}{t:TG}{u:qq}(h1:PG X e t) (h2:se X es u)
  (hs:(M_ (e::es) X.env).map (·.2)=assign e X.env::(M_ es X.env).map (·.2):=by rfl):se X (e::es) (ai t u):=by
 intro JW s σ H vs us Q I r h;obtain ⟨v,vr,e1,h⟩:=h;subst e1;cases r with
 | cons r rr=>
  rw [hs];refine assignInOrder_cons (bF (h1 JW s σ H _ _ _ I r h) λ_ s1 ⟨σ1,H1,I1,q1⟩=>?_);exact h2 JW s1 σ1 H1 _ _ Q I1 rr q1
noncomputable def cF (K:Ke) (n:Nat) (t:qq):TG:=λv σ H Q=>∃a xs,v=.ref a/\eH K H a xs/\xs.length=n/\t xs σ H Q
theorem ES (hc:X.calm=true) (h:se X es t)
 (hn:(M_ es X.env).length=n:=by rfl) (hst:(M_ es X.env).findIdx? (·.1)=none:=by rfl):PG X (.Tuple es k pos) (cF X.K n t):=by intro JW s σ H v u Q I r hw;obtain ⟨a,xs,e1,hq,hl,hw⟩:=hw;subst e1;cases r;obtain ⟨JY,rv,ht,hz⟩:=I.tuple hq;refine assign_Tuple_tuple (I.ok.hd hc) ht (by simp [hn,<-hl,rv.length]) hst λh' hx=>?_;have I1:Inv X JW σ H {s with heap:=h'}:=I.kept (t':=s.toks) λb o e=>hx b o (KI (Kz e)) e;exact h JW _ σ H xs _ Q I1 (by simpa using rv) hw
noncomputable def A5 (te:TE) (g:TG):TS:=λD σ H=>te σ H λx H1=>g x σ H1 D.nx
theorem EU {tg e:K8}{te:TE}{g:TG}(he:PE X e te) (hg:PG X tg g) (hs:Q4 [tg] e pos.line X.env=pure false:=by rfl) (hw:SX [tg] e X.env=pure none:=by rfl)
  (h1:(M_ [tg] X.env).map (·.2)=[assign tg X.env]:=by rfl):PS X (.Assign [tg] e pos) (A5 te g):=by intro JW s σ H D I h;refine wpAny_Assign_stores (bF (he JW s σ H _ I h) λv s1 ⟨x,H1,I1,r1,q1⟩=>?_) hs hw;rw [h1];exact bF (hg JW s1 σ H1 x v _ I1 r1 q1) λ_ s2 q=>q
theorem zv {i:Nat}{x:Str}{e:K8}{te:TE}{pos':Pos}(hN:X.N.Nodup) (hi:X.N[i]?=some x) (hx:Loc X.env.scope x) (he:PE X e te) (hs:O_ e (some (.Name x pos')) pos.line X.env=pure false:=by rfl) (hf:X.fn x=true\/X.env.scope.names.lookup x=some .local:=by first | exact .inl rfl | exact .inr rfl | assumption):
  PS X (.Assign [.Name x pos'] e pos) (A5 te (Bp i)):=by intro JW s σ H D I h;refine wpAny_Assign_Name (bF (he JW s σ H _ I h) λv s1 ⟨y,H1,I1,r1,q1⟩=>?_) hs;exact uA I1 hN hi hx r1 (λs2 I2=>⟨_,H1,I2,q1⟩) hf
noncomputable def Fo (c:TT) (tb:TS):TS:=λD σ H=>∃W:Nat->St->Hp->Prop,(∃m,W m σ H)/\∀m σ H,W m σ H->
 c σ H λb H1=>if b=true then ∃N:St->Hp->Prop,(∀σ' H',N σ' H'->∃m',m' < m/\W m' σ' H')/\tb {D with nx:=N,ct:=N,bk:=D.nx} σ H1 else D.nx σ H1
theorem AO {c:K8}{body:List Nc}{tc:TT}{tb:TS}(hp:R1 (KS X.prog X.w) X.A X.env X.xe) (hc:PT X c tc) (hb:g9 X body tb):PS X (.While c body [] pos) (Fo tc tb):=by
 intro JW s σ H D I h;obtain ⟨W,⟨m0,w0⟩,turn⟩:=h;refine wpAny_While (codeAny_whileLoop (λn s'=>∃σ' H',Inv X JW σ' H' s'/\W n σ' H') ?_ m0 ⟨σ,H,I,w0⟩);rintro n s1 ⟨σ1,H1,I1,w1⟩;refine MV hp (bF (hc JW s1 σ1 H1 _ I1 (turn n σ1 H1 w1)) λb s2 ⟨H2,I2,q2⟩=>?_);cases b with
 | true=>
  obtain ⟨N,hN,q2⟩:=q2;rw [if_pos rfl];refine MV hp (bF (hb JW s2 σ1 H2 _ I2 q2) λf s3 q3=>?_);cases f with
  | next=>
   obtain ⟨σ3,H3,I3,n3⟩:=q3;obtain ⟨m',hm,w3⟩:=hN σ3 H3 n3;exact ⟨m',hm,σ3,H3,I3,w3⟩
  | cont=>
   obtain ⟨σ3,H3,I3,n3⟩:=q3;obtain ⟨m',hm,w3⟩:=hN σ3 H3 n3;exact ⟨m',hm,σ3,H3,I3,w3⟩
  | brk=>exact q3
  | ret v=>exact q3
 | false=>
  rw [if_neg Lu];exact OD ⟨σ1,H2,I2,q2⟩
end
structure It where
 go:Nat->Hp->Prop
 yld:Nat->Hp->V->Hp->Prop
 stop:Nat->Hp->Prop
noncomputable def ie (X:Cx) (JW:List (KJ×Obj)) (H:Hp) (b:KJ):Prop:=
 H b=none/\b≠X.env.locals/\b∉X.fs/\(b∈X.ex\/X.s₀.heap.objs.size<=b)/\(∀x c,X.env.cells.lookup x=some c->c≠b)/\∀p∈X.pn++JW,p.1≠b
theorem Inv.fpOk {H H':Hp}{s:Kh}(I:Inv X JW σ H s) (hb:s.heap.objs.size<=b) (hn:H' b=none):ie X JW H' b:=by
 refine ⟨hn,Mq (KP I.lt hb),I.nofs hb,.inr (Lg I.sz hb),λx c e z=>?_,λp hp z=>?_⟩
 ·obtain ⟨v,q⟩:=I.cell x c e;exact absurd (KP q.lt (by rw [z];exact hb)) (My _)
 ·exact absurd (KP (Kz (I.pin p hp).1) (by rw [z];exact hb)) (My _)
structure Turn (P:KL) (w:K5) (K:Ke) (tg:K8) (J:It) (fp:List KJ) (it:KJ) (tn:Nat->L7->Prop):Prop where
 mem:it∈fp
 obj:∀i h,tn i h->∀b∈fp,∃o,h.get? b=some o/\∀v,o.data≠.cell v
 keep:∀i h h',tn i h->(∀b∈fp,∀o,h.get? b=some o->h'.get? b=some o)->tn i h'
 item:∀(X:Cx),X.prog=P->X.w=w->X.K=K->X.calm=true->∀(i:Nat) (JW:List (KJ×Obj)) (s:Kh) (σ:St) (H:Hp) (E:Kg->Kh->Prop),Inv X JW σ H s->(∀b∈fp,ie X JW H b)->tn i s.heap->J.go i H->
  KH (KS P w) X.A (NI (.ref it)) (λr s1=>∃u,r=some u/\
   KH (KS P w) X.A (MA tg (.ref it) u) (λ_ s2=>∃x H',Inv X JW σ H' s2/\RelV x u/\J.yld i H x H'/\tn (i + 1) s2.heap/\∀b∈fp,H' b=none) E s1) E s
 done:∀(X:Cx),X.prog=P->X.w=w->X.K=K->X.calm=true->∀(i:Nat) (JW:List (KJ×Obj)) (s:Kh) (σ:St) (H:Hp) (E:Kg->Kh->Prop),Inv X JW σ H s->(∀b∈fp,ie X JW H b)->tn i s.heap->J.stop i H->
  KH (KS P w) X.A (NI (.ref it)) (λr s1=>r=none/\Inv X JW σ H s1) E s
 self:∀(A:Lh) (i:Nat) (s:Kh) (Q:Kg->Kh->Prop) (E:Kg->Kh->Prop),tn i s.heap->Q (.ref it) s->KH (KS P w) A (OE (.ref it)) Q E s
noncomputable abbrev TI:=St->Hp->(It->Hp->Prop)->Prop
noncomputable def DE (X:Cx) (JW:List (KJ×Obj)) (σ:St) (tg:K8) (R:It->Hp->Prop) (itv:Kg) (s2:Kh):Prop:=
 ∃(it:KJ) (fp:List KJ) (tn:Nat->L7->Prop) (J:It) (H':Hp),itv=.ref it/\Inv X JW σ H' s2/\Turn X.prog X.w X.K tg J fp it tn/\tn 0 s2.heap/\(∀b∈fp,ie X JW H' b)/\R J H'
noncomputable def PI (X:Cx) (tg J6:K8) (wi:TI):Prop:=
 ∀(JW:List (KJ×Obj)) (s:Kh) (σ:St) (H:Hp) (R:It->Hp->Prop),Inv X JW σ H s->wi σ H R->
  KH (KS X.prog X.w) X.A (eval J6 X.env) (λv s1=>KH (KS X.prog X.w) X.A (OE v) (DE X JW σ tg R) X.xe s1) X.xe s
theorem rS {M:SW}{E:Kg->Kh->Prop}{s:Kh}{o:Obj}{Q:Unit->Kh->Prop}(ho:s.heap.get? it=some o) (hc:o.cls=.type n) (hd:o.data=.fields vs)
 (hn:["enumerate","zip","dict_itemiterator","dict_reverseitemiterator","odict_iterator","itertools.zip_longest","itertools.pairwise"].contains n=false) (hQ:Q () s):KH M A (MA tg (.ref it) u) Q E s:=by
 unfold MA;cases tg <;> first
  | exact Kf hQ
  | (cases u <;> first
    | exact Kf hQ
    | (refine Kd (SD ho ?_);rw [hc,hd];show KH M A (if (["enumerate","zip","dict_itemiterator","dict_reverseitemiterator","odict_iterator","itertools.zip_longest","itertools.pairwise"].contains n && vs[0]? == some (Tj _))=true then _ else _) Q E s;rw [if_neg (by intro h;rw [hn,Bool.false_and] at h;cases h)];exact Kf hQ))
noncomputable def Ba (K:Ke) (a:KJ):It:=
 ⟨λi H=>∃xs x,bV K H a xs/\xs[i]?=some x,λi H x H'=>H'=H/\∀xs,bV K H a xs->xs[i]?=some x,λi H=>∃xs,bV K H a xs/\xs.length<=i⟩
noncomputable def Bd (K:Ke) (a:KJ):It:=
 ⟨λi H=>∃xs x,eH K H a xs/\xs[i]?=some x,λi H x H'=>H'=H/\∀xs,eH K H a xs->xs[i]?=some x,λi H=>∃xs,eH K H a xs/\xs.length<=i⟩
noncomputable def Bb (lo:Int) (n:Nat):It:=⟨λi _=>i < n,λi H x H'=>H'=H/\x=.int (lo + i),λi _=>n<=i⟩
theorem zO {P:KL}{w:K5}{K:Ke}{tg:K8}(a it:KJ):Turn P w K tg (Ba K a) [it] it (λi h=>h.IsListIter it a i) where
 mem:=by simp
 obj:=λi h st b hb=>by
  have e:b=it:=by simpa using hb
  subst e;obtain ⟨o,e,c,d⟩:=st;exact ⟨o,e,λv z=>by rw [d] at z;cases z⟩
 keep:=λi h h' st k=>st.at λo e=>k it (by simp) o e
 item:=by intro X hP hw hK hc i JW s σ H E I hf st hg;subst hP hw hK;obtain ⟨xs,x,hq,hx⟩:=hg;obtain ⟨JY,rv,p,hz⟩:=I.list hq;obtain ⟨u,hu,ru⟩:=rv.get hx;obtain ⟨f0,f1,f2,f3,f4,f5⟩:=hf it (by simp);refine wpAny_pyNext_list_item st p.isList (x:=u) (by simpa using hu) λh' st' sb=>?_;have I1:Inv X JW σ H {s with heap:=h'}:=I.turned (t':=s.toks) (λb o hb e=>(sb.2 b hb).trans e) f0 f1 f3 f4 f5;obtain ⟨o,e,c,d⟩:=id st';exact ⟨u,rfl,rS (s:={s with heap:=h'}) e c d (by decide) ⟨x,H,I1,ru,⟨rfl,λys hy=>by rw [I.list_inj hy hq];exact hx⟩,st',λb hb=>(hf b hb).1⟩⟩
 done:=by intro X hP hw hK hc i JW s σ H E I hf st hg;subst hP hw hK;obtain ⟨xs,hq,hx⟩:=hg;obtain ⟨JY,rv,p,hz⟩:=I.list hq;obtain ⟨f0,f1,f2,f3,f4,f5⟩:=hf it (by simp);have hl:=rv.length;exact wpAny_pyNext_list_end (I.ok.hd hc) st p.isList (by simp;omega) λh' eb=>⟨rfl,I.turned (t':=s.toks) (λb o hb e=>eb b o hb e) f0 f1 f3 f4 f5⟩
 self:=λ_ _ _ _ _ st h=>wpAny_pyIter_listiter st h
theorem ya {P:KL}{w:K5}{K:Ke}{tg:K8}(a it:KJ):Turn P w K tg (Bd K a) [it] it (λi h=>h.IsTupleIter it a i) where
 mem:=by simp
 obj:=λi h st b hb=>by
  have e:b=it:=by simpa using hb
  subst e;obtain ⟨o,e,c,d⟩:=st;exact ⟨o,e,λv z=>by rw [d] at z;cases z⟩
 keep:=λi h h' st k=>st.at λo e=>k it (by simp) o e
 item:=by intro X hP hw hK hc i JW s σ H E I hf st hg;subst hP hw hK;obtain ⟨xs,x,hq,hx⟩:=hg;obtain ⟨JY,rv,p,hz⟩:=I.tuple hq;obtain ⟨u,hu,ru⟩:=rv.get hx;obtain ⟨f0,f1,f2,f3,f4,f5⟩:=hf it (by simp);refine wpAny_pyNext_tuple_item st (show s.heap.IsTuple a JY.toArray from p) (x:=u) (by simpa using hu) λh' st' sb=>?_;have I1:Inv X JW σ H {s with heap:=h'}:=I.turned (t':=s.toks) (λb o hb e=>(sb.2 b hb).trans e) f0 f1 f3 f4 f5;obtain ⟨o,e,c,d⟩:=id st';exact ⟨u,rfl,rS (s:={s with heap:=h'}) e c d (by decide) ⟨x,H,I1,ru,⟨rfl,λys hy=>by rw [I.tuple_inj hy hq];exact hx⟩,st',λb hb=>(hf b hb).1⟩⟩
 done:=by intro X hP hw hK hc i JW s σ H E I hf st hg;subst hP hw hK;obtain ⟨xs,hq,hx⟩:=hg;obtain ⟨JY,rv,p,hz⟩:=I.tuple hq;obtain ⟨f0,f1,f2,f3,f4,f5⟩:=hf it (by simp);have hl:=rv.length;exact wpAny_pyNext_tuple_end (I.ok.hd hc) st (show s.heap.IsTuple a JY.toArray from p) (by simp;omega) λh' eb=>⟨rfl,I.turned (t':=s.toks) (λb o hb e=>eb b o hb e) f0 f1 f3 f4 f5⟩
 self:=λ_ _ _ _ _ st h=>wpAny_pyIter_tupleiter st h
theorem x_ {P:KL}{w:K5}{K:Ke}{tg:K8}(it:KJ) (lo:Int) (n:Nat):Turn P w K tg (Bb lo n) [it] it (λi h=>IsRangeIter h it (lo + (i:Nat) * 1) ((n:Int) - (i:Nat)) 1) where
 mem:=by simp
 obj:=λi h st b hb=>by
  have e:b=it:=by simpa using hb
  subst e;exact ⟨_,st,λv z=>by
   have z':Data.fields _=Data.cell v:=z;cases z'⟩
 keep:=λi h h' st k=>k it (by simp) _ st
 item:=by intro X hP hw hK hc i JW s σ H E I hf st hg;subst hP hw hK;obtain ⟨f0,f1,f2,f3,f4,f5⟩:=hf it (by simp);have W:=Walks.range (prog:=X.prog) (w:=X.w) (I.ok.hd hc) it lo 1 n;refine W.item i s _ _ hg st λv h' tk hv st' kk=>?_;obtain ⟨t,rfl⟩:=hv;have I1:Inv X JW σ H {s with heap:=h',toks:=tk}:=I.turned (λb o hb e=>kk b o (by simpa using hb) e) f0 f1 f3 f4 f5;refine ⟨_,rfl,rS (s:={s with heap:=h',toks:=tk}) (n:="range_iterator") st' rfl rfl (by decide) ⟨.int (lo + i),H,I1,⟨t,?_⟩,⟨rfl,rfl⟩,st',λb hb=>(hf b hb).1⟩⟩;rw [Int.mul_one]
 done:=by intro X hP hw hK hc i JW s σ H E I hf st hg;subst hP hw hK;obtain ⟨f0,f1,f2,f3,f4,f5⟩:=hf it (by simp);exact wpAny_pyNext_range_end (I.ok.hd hc) st (by have:n<=i:=hg;omega) λh' eb=>⟨rfl,I.turned (t':=s.toks) (λb o hb e=>eb b o hb e) f0 f1 f3 f4 f5⟩
 self:=λ_ _ _ _ _ st h=>wpAny_pyIter_rangeiter st h
section
variable {X:Cx}{tg:K8}
theorem AY {JW:List (KJ×Obj)}{σ:St}{H:Hp}{s:Kh}{R:It->Hp->Prop}{E:Kg->Kh->Prop}{lo hi:Int}{t u v:Tok}{tk:Nat}(I:Inv X JW σ H s) (h1:-(2 ^ 62)<=lo) (h2:lo < 2 ^ 62) (h3:-(2 ^ 62)<=hi) (h4:hi < 2 ^ 62)
  (q:R (Bb lo (hi - lo).toNat) H):KH (KS X.prog X.w) X.A (OE (.ref s.heap.objs.size)) (DE X JW σ tg R) E {s with heap:=s.heap.push {cls:=.type "range",data:=.fields #[.int lo t,.int hi u,.int 1 v]},toks:=tk}:=by
 refine wpAny_pyIter_range (IsRange.new ..) (small_one h1 h2 h3 h4) ?_;have I1:Inv X JW σ H {s with heap:=s.heap.push {cls:=.type "range",data:=.fields #[.int lo t,.int hi u,.int 1 v]},toks:=tk}:=I.kept λb o e=>Kl _ e;refine ⟨(s.heap.push {cls:=.type "range",data:=.fields #[.int lo t,.int hi u,.int 1 v]}).objs.size,[(s.heap.push {cls:=.type "range",data:=.fields #[.int lo t,.int hi u,.int 1 v]}).objs.size],_,_,H,rfl,
  I1.kept (t':=tk) λb o e=>Kl _ e,x_ _ lo (hi - lo).toNat,?_,λb hb=>?_,q⟩
 ·have e1:lo + ((0:Nat):Int) * 1=lo:=by simp
  have e2:(((hi - lo).toNat:Nat):Int) - ((0:Nat):Int)=SY lo hi 1:=by rw [rangeSize_one];split <;> omega
  show IsRangeIter _ _ (lo + ((0:Nat):Int) * 1) ((((hi - lo).toNat:Nat):Int) - ((0:Nat):Int)) 1;rw [e1,e2];exact Kn _ rfl
 ·have e:b=(s.heap.push {cls:=.type "range",data:=.fields #[.int lo t,.int hi u,.int 1 v]}).objs.size:=by simpa using hb
  subst e;exact I1.fpOk (Kr _) (I1.hok.fresh (Kr _))
noncomputable def FP (ta:TA):TI:=λσ H R=>ta σ H λvs H1=>∃j:Int,vs=[.int j]/\-(2 ^ 62)<=j/\j < 2 ^ 62/\R (Bb 0 j.toNat) H1
theorem zo {a:K8}{ta:TA}{p pos:Pos}(hg:Gl X "range") (hm:X.mg "range"=none) (ha:PA X [a] ta) (hs:KC [a] X.env=[(false,eval a X.env)]:=by rfl):PI X tg (.Call (.Name "range" p) [a] [] pos) (FP ta):=by
 intro JW s σ H R I h;refine Call_ (lK I hg hm boot_range (OF (bF (ha pos JW s σ H _ I h) λus s1 ⟨vs,H1,I1,r1,q1⟩=>?_) hs rfl));obtain ⟨j,e,q1,q2,q⟩:=q1;subst e;cases r1 with
 | cons r rr=>
  cases rr;obtain ⟨t,rfl⟩:=r;exact call_range_1 (AY I1 (by omega) (by omega) q1 q2 (by simpa using q))
noncomputable def G6 (wi:TI) (g:TG) (tb:TS):TS:=λD σ H=>wi σ H λJ H1=>∃W:Nat->Nat->St->Hp->Prop,(∃m,W 0 m σ H1)/\∀i m σ H,W i m σ H->
 (J.stop i H/\D.nx σ H)\/(J.go i H/\∃N:St->Hp->Prop,(∀σ' H',N σ' H'->∃m',m' < m/\W (i + 1) m' σ' H')/\∀x H',J.yld i H x H'->g x σ H' λσ2 H2=>tb {D with nx:=N,ct:=N,bk:=D.nx} σ2 H2)
noncomputable def lO (fp:List KJ) (h:L7):List (KJ×Obj):=fp.filterMap λb=>(h.get? b).map λo=>(b,o)
theorem iB {h:L7}(hb:b∈fp) (e:h.get? b=some o):(b,o)∈lO fp h:=NO.mpr ⟨b,hb,by rw [e];rfl⟩
theorem zd {h:L7}{p:KJ×Obj}(hp:p∈lO fp h):p.1∈fp/\h.get? p.1=some p.2:=by
 obtain ⟨b,hb,e⟩:=NO.mp hp;cases q:h.get? b with
 | none=>rw [q] at e;cases e
 | some o=>
  rw [q] at e;have e':(b,o)=p:=Lp e;subst e';exact ⟨hb,q⟩
theorem Inv.pinned {H:Hp}{s:Kh}(I:Inv X JW σ H s) (hf:∀b∈fp,ie X JW H b) (ho:∀b∈fp,∃o,s.heap.get? b=some o/\∀v,o.data≠.cell v):Inv X (JW++lO fp s.heap) σ H s:=
 I.pins_of λp hp=>(K3.mp hp).elim (λz=>I.pin p (La _ z)) λz=>by obtain ⟨hb,e⟩:=zd z;obtain ⟨f0,f1,f2,_⟩:=hf p.1 hb;obtain ⟨o,e',d⟩:=ho p.1 hb;rw [e] at e';cases e';exact ⟨e,f0,f1,f2,d⟩
theorem Inv.unpinned {H:Hp}(I:Inv X (JW++pl) σ H s):Inv X JW σ H s:=I.pins_of λp hp=>I.pin p (La _ (LQ _ hp))
theorem EV {J6:K8}{body:List Nc}{wi:TI}{g:TG}{tb:TS}{pos:Pos}(hp:R1 (KS X.prog X.w) X.A X.env X.xe) (hc:X.calm=true) (hi:PI X tg J6 wi) (hg:PG X tg g) (hb:g9 X body tb)
  (hs:∀x,LL J6 X.env x=pure x:=by intro _;rfl):PS X (.For tg J6 body [] pos) (G6 wi g tb):=by
 intro JW s σ H D I h;refine wpAny_For (bF (hi JW s σ H _ I h) λv s1 h1=>bF h1 λitv s2 h2=>?_) hs;obtain ⟨it,fp,tn,J,H2,e,I2,T,st2,f2,W,⟨m0,w0⟩,turn⟩:=h2;subst e;have stat:∀{H':Hp},(∀b∈fp,H' b=none)->∀b∈fp,ie X JW H' b:=λhn b hb=>⟨hn b hb,(f2 b hb).2⟩;refine codeAny_forLoop_any (λn s'=>∃i σ' H',Inv X JW σ' H' s'/\tn i s'.heap/\(∀b∈fp,H' b=none)/\W i n σ' H') ?_ m0 ⟨0,σ,H2,I2,st2,λb hb=>(f2 b hb).1,w0⟩;rintro n s3 ⟨i,σ3,H3,I3,st3,fr3,w3⟩;rcases turn i n σ3 H3 w3 with ⟨stop,qn⟩ | ⟨go,N,hN,step⟩
 ·refine MV hp (bF (T.done X rfl rfl rfl hc i JW s3 σ3 H3 X.xe I3 (stat fr3) st3 stop) λr s4 ⟨hr,I4⟩=>?_);subst hr;exact OD ⟨σ3,H3,I4,qn⟩
 ·refine MV hp (bF (T.item X rfl rfl rfl hc i JW s3 σ3 H3 X.xe I3 (stat fr3) st3 go) λr s4 ⟨u,hr,h4⟩=>?_);subst hr;refine MV hp (bF h4 λ_ s5 ⟨x,H5,I5,r5,y5,st5,fr5⟩=>?_);have I5':=I5.pinned (stat fr5) (T.obj _ _ st5);refine MV hp (bF (hg _ s5 σ3 H5 x u _ I5' r5 (step x H5 y5)) λ_ s6 ⟨σ6,H6,I6,q6⟩=>?_);refine MV hp (bF (hb _ s6 σ6 H6 _ I6 q6) λf s7 q7=>?_);have again:∀{σ7:St}{H7:Hp},Inv X (JW++lO fp s5.heap) σ7 H7 s7->N σ7 H7->∃m,m < n/\∃i σ' H',Inv X JW σ' H' s7/\tn i s7.heap/\(∀b∈fp,H' b=none)/\W i m σ' H':=fun {σ7 H7} I7 n7=>by obtain ⟨m',hm,w7⟩:=hN σ7 H7 n7;refine ⟨m',hm,i + 1,σ7,H7,I7.unpinned,T.keep _ _ _ st5 λb hb o e=>(I7.pin (b,o) (La _ (La _ (iB hb e)))).1,λb hb=>?_,w7⟩;obtain ⟨o,e,d⟩:=T.obj _ _ st5 b hb;exact (I7.pin (b,o) (La _ (La _ (iB hb e)))).2.1
  cases f with
  | next=>obtain ⟨σ7,H7,I7,n7⟩:=q7;exact again I7 n7
  | cont=>obtain ⟨σ7,H7,I7,n7⟩:=q7;exact again I7 n7
  | brk=>obtain ⟨σ7,H7,I7,q7⟩:=q7;exact ⟨σ7,H7,I7.unpinned,q7⟩
  | ret v=>obtain ⟨x7,σ7,H7,I7,r7,q7⟩:=q7;exact ⟨x7,σ7,H7,I7.unpinned,r7,q7⟩
end
noncomputable abbrev R2:=V->V->Hp->VK->Prop
noncomputable def dI (X:Cx) (f:Kg->Kg->Sem Kg) (r:R2):Prop:=
 ∀(JW:List (KJ×Obj)) (s:Kh) (σ:St) (H:Hp) (x y:V) (v u:Kg) (Q:VK),Inv X JW σ H s->RelV x v->RelV y u->r x y H Q->
  KH (KS X.prog X.w) X.A (f v u) (EP X JW σ Q) X.xe s
noncomputable def DI (X:Cx) (f:Kg->Sem Kg) (r:V->Hp->VK->Prop):Prop:=
 ∀(JW:List (KJ×Obj)) (s:Kh) (σ:St) (H:Hp) (x:V) (v:Kg) (Q:VK),Inv X JW σ H s->RelV x v->r x H Q->
  KH (KS X.prog X.w) X.A (f v) (EP X JW σ Q) X.xe s
noncomputable def dD (X:Cx) (f:Kg) (r:List V->Hp->VK->Prop):Prop:=
 ∀(JW:List (KJ×Obj)) (s:Kh) (σ:St) (H:Hp) (xs:List V) (us:List Kg) (Q:VK),Inv X JW σ H s->Vals xs us->r xs H Q->
  KH (KS X.prog X.w) X.A (call f us) (EP X JW σ Q) X.xe s
noncomputable def GG (X:Cx) (r:V->Hp->(Bool->Hp->Prop)->Prop):Prop:=
 ∀(JW:List (KJ×Obj)) (s:Kh) (σ:St) (H:Hp) (x:V) (v:Kg) (Q:Bool->Hp->Prop),Inv X JW σ H s->RelV x v->r x H Q->
  KH (KS X.prog X.w) X.A (truthy v) (TP X JW σ Q) X.xe s
noncomputable def zJ (r:R2) (ta tb:TE):TE:=λσ H Q=>ta σ H λx H1=>tb σ H1 λy H2=>r x y H2 Q
noncomputable def HB (r:V->Hp->VK->Prop) (ta:TE):TE:=λσ H Q=>ta σ H λx H1=>r x H1 Q
noncomputable def rI (C:Int->Int->Prop) (g:Int->Int->V):R2:=λx y H Q=>∃i j,x=.int i/\y=.int j/\C i j/\Q (g i j) H
noncomputable def qM (g:Int->Int->V):R2:=λx y H Q=>∃i j,x=.int i/\y=.int j/\Q (g i j) H
noncomputable def rU (g:Int->V):V->Hp->VK->Prop:=λx H Q=>∃i,x=.int i/\Q (g i) H
section
variable {X:Cx}{a b c:K8}{ta tb tc:TE}{pos:Pos}
theorem z_ (ha:PE X a ta) (hb:PE X b tb){JW:List (KJ×Obj)}{s:Kh}{σ:St}{H:Hp}{R:V->V->Hp->Prop}(I:Inv X JW σ H s)
  (h:ta σ H λx H1=>tb σ H1 λy H2=>R x y H2){Q:Kg->Kh->Prop}{f:Kg->Kg->Sem Kg}
  (hf:∀v u s2 x y H2,Inv X JW σ H2 s2->RelV x v->RelV y u->R x y H2->KH (KS X.prog X.w) X.A (f v u) Q X.xe s2):
  KH (KS X.prog X.w) X.A (eval a X.env) (λv s₁=>KH (KS X.prog X.w) X.A (eval b X.env) (λu s₂=>KH (KS X.prog X.w) X.A (f v u) Q X.xe s₂) X.xe s₁) X.xe s:=by refine bF (ha JW s σ H _ I h) λv s1 ⟨x,H1,I1,r1,q1⟩=>?_;refine bF (hb JW s1 σ H1 _ I1 q1) λu s2 ⟨y,H2,I2,r2,q2⟩=>?_;exact hf v u s2 x y H2 I2 r1 r2 q2
theorem F4 (ho:dI X (NP op) r) (ha:PE X a ta) (hb:PE X b tb):PE X (.BinOp a op b pos) (zJ r ta tb):=by intro JW s σ H Q I h;exact wpAny_BinOp (z_ ha hb I h λv u s2 x y H2 I2 rx ry q=>ho JW s2 σ H2 x y v u Q I2 rx ry q)
theorem By {r:V->Hp->VK->Prop}(ho:DI X (unaryOp op) r) (ha:PE X a ta):PE X (.UnaryOp op a pos) (HB r ta):=by intro JW s σ H Q I h;exact UnaryOp_ (bF (ha JW s σ H _ I h) λv s1 ⟨x,H1,I1,r1,q1⟩=>ho JW s1 σ H1 x v Q I1 r1 q1)
theorem Bv {f:Kg->Kg->Sem Kg}{C:Int->Int->Prop}{g:Int->Int->Int}
  (rule:∀(i j:Int) (t u:Tok) (s:Kh) (Q:Kg->Kh->Prop) (E:Kg->Kh->Prop),C i j->Q (.int (g i j) s.toks) {s with toks:=s.toks + 1}->KH (KS X.prog X.w) X.A (f (.int i t) (.int j u)) Q E s):
  dI X f (rI C λi j=>.int (g i j)):=by intro JW s σ H x y v u Q I rx ry h;obtain ⟨i,j,rfl,rfl,hc,q⟩:=h;obtain ⟨t,rfl⟩:=rx;obtain ⟨t',rfl⟩:=ry;exact rule i j t t' s _ _ hc ⟨.int (g i j),H,I.tok _,⟨_,rfl⟩,q⟩
theorem EB {f:Kg->Kg->Sem Kg}{g:Int->Int->Int}
  (rule:∀(i j:Int) (t u:Tok) (s:Kh) (Q:Kg->Kh->Prop) (E:Kg->Kh->Prop),Q (.int (g i j) s.toks) {s with toks:=s.toks + 1}->KH (KS X.prog X.w) X.A (f (.int i t) (.int j u)) Q E s):
  dI X f (qM λi j=>.int (g i j)):=by intro JW s σ H x y v u Q I rx ry h;obtain ⟨i,j,rfl,rfl,q⟩:=h;obtain ⟨t,rfl⟩:=rx;obtain ⟨t',rfl⟩:=ry;exact rule i j t t' s _ _ ⟨.int (g i j),H,I.tok _,⟨_,rfl⟩,q⟩
theorem EA {f:Kg->Kg->Sem Kg}{g:Int->Int->Bool}
  (rule:∀(i j:Int) (t u:Tok) (s:Kh) (Q:Kg->Kh->Prop) (E:Kg->Kh->Prop),Q (.bool (g i j)) s->KH (KS X.prog X.w) X.A (f (.int i t) (.int j u)) Q E s):
  dI X f (qM λi j=>.bl (g i j)):=by intro JW s σ H x y v u Q I rx ry h;obtain ⟨i,j,rfl,rfl,q⟩:=h;obtain ⟨t,rfl⟩:=rx;obtain ⟨t',rfl⟩:=ry;exact rule i j t t' s _ _ ⟨.bl (g i j),H,I,rfl,q⟩
noncomputable def GB (i j:Int):Prop:=0 < j/\j < 1073741824
noncomputable def GC (i j:Int):Prop:=0<=j/\j<=1000000/\i.natAbs < 2 ^ 64
noncomputable def wz (i j:Int):Prop:=(-(2 ^ 64) < i/\i < 2 ^ 64)\/(-(2 ^ 64) < j/\j < 2 ^ 64)
theorem wz.ok (h:wz i j):IntMulOk i j:=by
 rcases h with ⟨h1,h2⟩ | ⟨h1,h2⟩
 ·exact .of_left (S0 h1 h2)
 ·exact .of_right (S0 h1 h2)
theorem EC:dI X (NP .Add) (qM λi j=>.int (i + j)):=EB λ_ _ _ _ _ _ _ q=>add_int q
theorem EI:dI X (NP .Sub) (qM λi j=>.int (i - j)):=EB λ_ _ _ _ _ _ _ q=>sub_int q
theorem EG:dI X (NP .Mult) (rI wz λi j=>.int (i * j)):=Bv λ_ _ _ _ _ _ _ hc q=>mul_int q hc.ok
theorem Cv:dI X (NP .FloorDiv) (rI GB λi j=>.int (i / j)):=Bv λi j _ _ _ _ _ hc q=>by have h1:(0:Int) < j:=hc.1;have h2:j < 1073741824:=hc.2;exact floordiv_int (by omega) (by rw [Int.fdiv_eq_ediv_of_nonneg i (by omega)];exact q) (.inl (PyProof.noPylong_small (by omega)))
theorem EF:dI X (NP .Mod) (rI (λ_ j=>0 < j) λi j=>.int (i % j)):=Bv λi j _ _ _ _ _ hc q=>by have h1:(0:Int) < j:=hc;exact mod_int' (by omega) (by rw [Int.fmod_eq_emod_of_nonneg i (by omega)];exact q)
theorem EH:dI X (NP .Pow) (rI GC λi j=>.int (i ^ j.toNat)):=Bv λ_ _ _ _ _ _ _ hc q=>pow_int_small hc.1 hc.2.1 hc.2.2 q
theorem HC {f:Kg->Sem Kg}{g:Int->Int}
  (rule:∀(i:Int) (t:Tok) (s:Kh) (Q:Kg->Kh->Prop) (E:Kg->Kh->Prop),Q (.int (g i) s.toks) {s with toks:=s.toks + 1}->KH (KS X.prog X.w) X.A (f (.int i t)) Q E s):
  DI X f (rU λi=>.int (g i)):=by intro JW s σ H x v Q I rx h;obtain ⟨i,rfl,q⟩:=h;obtain ⟨t,rfl⟩:=rx;exact rule i t s _ _ ⟨.int (g i),H,I.tok _,⟨_,rfl⟩,q⟩
theorem zR:DI X (unaryOp .USub) (rU λi=>.int (-i)):=HC λ_ _ _ _ _ q=>neg_int q
theorem xO:dI X (MU .Lt) (qM λi j=>.bl (decide (i < j))):=EA λ_ _ _ _ _ _ _ q=>lt_int q
theorem xN:dI X (MU .Gt) (qM λi j=>.bl (decide (j < i))):=EA λ_ _ _ _ _ _ _ q=>gt_int q
theorem dI.or {f:Kg->Kg->Sem Kg}{r r':R2}(h:dI X f r) (h':dI X f r'):dI X f (λx y H Q=>r x y H Q\/r' x y H Q):=by
 intro JW s σ H x y v u Q I rx ry q;rcases q with q | q
 ·exact h JW s σ H x y v u Q I rx ry q
 ·exact h' JW s σ H x y v u Q I rx ry q
theorem t_ (b:K8) (h:op≠.In:=by decide) (h2:op≠.NotIn:=by decide):LK op b=false:=by
 have e1:(op == UC)=false:=by cases op <;> first | rfl | exact absurd rfl h
 have e2:(op == TV)=false:=by cases op <;> first | rfl | exact absurd rfl h2
 cases b <;> simp [LK,e1,e2]
theorem CH (ho:dI X (MU op) r) (ha:PE X a ta) (hb:PE X b tb) (hm:LK op b=false):PE X (.Compare a [op] [b] pos) (zJ r ta tb):=by intro JW s σ H Q I h;exact wpAny_Compare1 (z_ ha hb I h λv u s2 x y H2 I2 rx ry q=>ho JW s2 σ H2 x y v u Q I2 rx ry q) hm
noncomputable def Gi (t:TE):TT:=λσ H Q=>t σ H λx H'=>∃k,x=.bl k/\Q k H'
theorem vV {op:CmpOp}{r:R2}(ho:dI X (MU op) r) (ha:PE X a ta) (hb:PE X b tb) (hm:LK op b=false):PT X (.Compare a [op] [b] pos) (Gi (zJ r ta tb)):=by
 intro JW s σ H Q I h;refine P4 (bF (ha JW s σ H _ I h) λv s1 ⟨x,H1,I1,r1,q1⟩=>bF (hb JW s1 σ H1 _ I1 q1) λu s2 ⟨y,H2,I2,r2,q2⟩=>
  bF (ho JW s2 σ H2 x y v u _ I2 r1 r2 q2) λc s3 ⟨z,H3,I3,r3,k,e,q3⟩=>?_) hm
 subst e;cases r3;exact Mf ⟨H3,I3,q3⟩
noncomputable def zY (K:Ke) (x:V) (H:Hp) (k:Bool):Prop:=
 match x with
 | .non=>k=false
 | .bl b=>k=b
 | .int i=>k=(i != 0)
 | .str y=>y.length<=sizeLine/\k=((y.length:Int) != 0)
 | .byt y=>y.size<=sizeLine/\k=((y.size:Int) != 0)
 | .ref p=>(∃xs,bV K H p xs/\k=!xs.isEmpty)\/(∃xs,eH K H p xs/\k=!xs.isEmpty)\/∃Ka,H p=some (.dK Ka)/\k=!Ka.isEmpty
 | _=>False
theorem xw {κ:Type}{Ka:List (κ×V)}{vs:List (κ×Kg)}(r:KV Ka vs):(!vs.isEmpty)=!Ka.isEmpty:=by cases r <;> rfl
theorem oR {xs:List V}{JY:List Kg}(r:Vals xs JY):(!JY.toArray.isEmpty)=!xs.isEmpty:=by cases r <;> simp
theorem jJ:(sizeLine:Nat) < 2 ^ 63:=by rw [Ly];decide
theorem Fp:GG X (λx H Q=>∃k,zY X.K x H k/\Q k H):=by
 intro JW s σ H x v Q I rx h;obtain ⟨k,e,q⟩:=h;have hl:=jJ;have hs:sizeLine=16777216:=Ly;cases x with
 | non=>
  cases rx;have e':k=false:=e;subst e';exact truthy_none ⟨H,I,q⟩
 | bl b=>
  cases rx;have e':k=b:=e;subst e';exact Mf ⟨H,I,q⟩
 | int i=>
  obtain ⟨t,rfl⟩:=rx;have e':k=(i != 0):=e;subst e';exact PySem.P.truthy_int ⟨H,I,q⟩
 | str y=>
  obtain ⟨t,rfl⟩:=rx;obtain ⟨hy,e'⟩:y.length<=sizeLine/\k=((y.length:Int) != 0):=e;subst e';exact PySem.P.truthy_str (by omega) ⟨H,I.tok _,q⟩
 | byt y=>
  obtain ⟨t,rfl⟩:=rx;obtain ⟨hy,e'⟩:y.size<=sizeLine/\k=((y.size:Int) != 0):=e;subst e';exact W.truthy_bytes (by omega) ⟨H,I.tok _,q⟩
 | ref p=>
  cases rx;have e':(∃xs,bV X.K H p xs/\k=!xs.isEmpty)\/(∃xs,eH X.K H p xs/\k=!xs.isEmpty)\/∃Ka,H p=some (.dK Ka)/\k=!Ka.isEmpty:=e;rcases e' with ⟨xs,hx,e'⟩ | ⟨xs,hx,e'⟩ | ⟨Ka,hx,e'⟩
  ·subst e';obtain ⟨JY,r,pl,hz⟩:=I.list hx;have hlen:=r.length;exact wpAny_truthy_list pl.isList (by simp only [Kv];omega) ⟨H,I.tok _,by rw [oR r];exact q⟩
  ·subst e';obtain ⟨JY,r,pl,hz⟩:=I.tuple hx;have hlen:=r.length;exact truthy_tuple pl (by simp only [Kv];omega) ⟨H,I.tok _,by rw [oR r];exact q⟩
  ·subst e';obtain ⟨hz,hS,vs,r,m⟩:Ka.length<=sizeLine/\(p == MT)=false/\∃vs,KV Ka vs/\s.heap.DictOf (p5 X.prog X.w) p vs:=I.hok p _ hx;have hlen:Ka.length=vs.length:=SV r;exact wpAny_truthy_dict hS m (by omega) ⟨H,I.tok _,by rw [xw r];exact q⟩
 | _=>exact (show False from e).elim
theorem AR (ha:PE X a ta) (he:∀whole,QL a X.env whole=(do let v <-whole;Ng a.pos;holding [v] (truthy v))):
  PT X a (λσ H Q=>ta σ H λx H'=>∃k,zY X.K x H' k/\Q k H'):=by intro JW s σ H Q I h;exact isTrue_plain (bF (ha JW s σ H _ I h) λv s1 ⟨x,H1,I1,r1,q1⟩=>Fp JW s1 σ H1 x v Q I1 r1 q1) (he _)
theorem xM:dI X (NP .Add) (λx y H Q=>∃i j,x=.str i/\y=.str j/\i.length + j.length<=sizeLine/\Q (.str (i++j)) H):=by intro JW s σ H x y v u Q I rx ry h;obtain ⟨i,j,rfl,rfl,hz,q⟩:=h;obtain ⟨t,rfl⟩:=rx;obtain ⟨t',rfl⟩:=ry;exact add_str (λt' tk=>⟨.str (i++j),H,I.tok _,⟨_,rfl⟩,q⟩) hz
theorem vals1 (r:Vals [x] us):∃u,us=[u]/\RelV x u:=by
 cases r with
 | cons r1 r2=>cases r2;exact ⟨_,rfl,r1⟩
theorem vals2 (r:Vals [x,y] us):∃u w',us=[u,w']/\RelV x u/\RelV y w':=by
 cases r with
 | cons r1 r2=>
  cases r2 with
  | cons r3 r4=>cases r4;exact ⟨_,_,rfl,r1,r3⟩
theorem yv (hc:X.calm=true):dD X (.builtin "max") (λxs H Q=>∃i j,xs=[.int i,.int j]/\Q (.int (if j > i then j else i)) H):=by
 intro JW s σ H xs us Q I r h;obtain ⟨i,j,rfl,q⟩:=h;obtain ⟨u,w',rfl,⟨t,rfl⟩,⟨t',rfl⟩⟩:=vals2 r;refine max_two_ints (I.ok.hd hc) λh' tk k=>⟨_,H,I.kept k,?_,q⟩;by_cases hj:j > i
 ·rw [if_pos hj,if_pos hj];exact ⟨_,rfl⟩
 ·rw [if_neg hj,if_neg hj];exact ⟨_,rfl⟩
theorem yu:dD X (.type "int") (λxs H Q=>(∃i,xs=[.int i]/\Q (.int i) H)\/∃k,xs=[.bl k]/\Q (.int (if k then 1 else 0)) H):=by
 intro JW s σ H xs us Q I r h;rcases h with ⟨i,rfl,q⟩ | ⟨k,rfl,q⟩
 ·obtain ⟨u,rfl,t,rfl⟩:=vals1 r;exact call_int_int ⟨.int i,H,I,⟨_,rfl⟩,q⟩
 ·obtain ⟨u,rfl,r1⟩:=vals1 r;cases r1;exact call_int_bool ⟨.int (if k then 1 else 0),H,I.tok _,⟨_,rfl⟩,q⟩
end
structure dg (k:Nat) (A:Lh):Prop where
 hd:A.handled=none
 dp:A.depth + 3 * k + 5 < Sl
 un:A.units + 16 * k + 200 < OW
theorem dg.mono (r:dg k A) (h:j<=k):dg j A:=⟨r.hd,by have:=r.dp;omega,by have:=r.un;omega⟩
theorem dg.deeper {A:Lh}(r:dg (k + 1) A) (env:Env):dg k (A.deeper env):=
 ⟨r.hd,by have:=r.dp;show A.depth + 1 + 3 * k + 5 < _;omega,by have:=r.un;show A.units + 3 + 16 * k + 200 < _;omega⟩
theorem dg.depth {A:Lh}(r:dg k A):A.depth < Sl:=by have:=r.dp;omega
theorem dg.units {A:Lh}(r:dg k A):A.units + 64 < OW:=by have:=r.un;omega
noncomputable def A6:TA:=λ_ H Q=>Q [] H
noncomputable def Ge (ta:TE) (tr:TA):TA:=λσ H Q=>ta σ H λx H1=>tr σ H1 λxs H2=>Q (x::xs) H2
section
variable {X:Cx}{e:K8}{es:List K8}{te:TE}{t:TA}{pos:Pos}
theorem iZ:PA X [] A6:=λ_ _ _ _ H Q I h=>Calls.spliced_nil ⟨[],H,I,.nil,h⟩
theorem gy (ha:PE X e te) (hr:PA X es t) (hs:KC (e::es) X.env=(false,eval e X.env)::KC es X.env:=by rfl):PA X (e::es) (Ge te t):=by intro pos JW s σ H Q I h;rw [hs];show KH _ _ (spliced ((false,eval e X.env)::MQ pos (KC es X.env))) _ _ s;refine Calls.spliced_cons (bF (ha JW s σ H _ I h) λu s1 ⟨x,H1,I1,r1,q1⟩=>?_);exact bF (hr pos JW s1 σ H1 _ I1 q1) λus s2 ⟨xs,H2,I2,r2,q2⟩=>⟨x::xs,H2,I2,.cons r1 r2,q2⟩
noncomputable def Hh (t:TA):TE:=λσ H Q=>t σ H λxs H1=>xs.length<=sizeLine/\∀p,H1 p=none->Q (.ref p) (upd H1 p (.tup xs))
noncomputable def G8 (t:TA):TE:=λσ H Q=>t σ H λxs H1=>xs.length<=sizeLine/\∀p,H1 p=none->Q (.ref p) (upd H1 p (.lst xs))
theorem ER {x1}(h:PA X es t):PE X (.Tuple es x1 pos) (Hh t):=by intro JW s σ H Q I hq;refine wpAny_Tuple_spliced (bF (h pos JW s σ H _ I hq) λus s1 ⟨xs,H1,I1,r,z,q⟩=>⟨by rw [<-r.length];exact z,?_⟩);have hf:H1 s1.heap.objs.size=none:=I1.hok.fresh (Kr _);refine ⟨.ref s1.heap.objs.size,upd H1 s1.heap.objs.size (.tup xs),I1.laid (t':=s1.toks) (λb u e=>Kl _ e) (Kr _) ?_,rfl,q _ hf⟩;exact ⟨z,us,r,⟨_,Kn _ rfl,rfl,_,rfl⟩,λo q=>by rw [Kn _ rfl] at q;cases q;rfl⟩
theorem EM (h:PA X es t):PE X (.List es pos) (G8 t):=by intro JW s σ H Q I hq;refine wpAny_List_spliced (bF (h pos JW s σ H _ I hq) λus s1 ⟨xs,H1,I1,r,z,q⟩=>⟨by rw [<-r.length];exact z,?_⟩);have hf:H1 s1.heap.objs.size=none:=I1.hok.fresh (Kr _);refine ⟨.ref s1.heap.objs.size,upd H1 s1.heap.objs.size (.lst xs),I1.laid (t':=s1.toks) (λb u e=>Kl _ e) (Kr _) ?_,rfl,q _ hf⟩;exact ⟨z,us,0,r,Kn _ rfl⟩
end
noncomputable abbrev Sp:=List V->Hp->VK->XK->Prop
noncomputable abbrev qh:=List Env->Hp->Kh->XK->Kg->Kh->Prop
structure wB (P:KL) (w:K5) (K:Ke) (mg:Str->Option Kg) (base:L7) (A:Lh) (outer:List Env) (s:Kh) (H:Hp):Prop where
 frames:A.frames=some outer
 mod:Mod K mg base
 bs:∀b o,base.get? b=some o->s.heap.get? b=some o/\H b=none
 bsz:base.objs.size<=s.heap.objs.size
 funs:s.heap.FunFrames base outer
 frf:∀b∈frs outer,H b=none
 hok:fB P w H s.heap
 bare:P0 s.gens
noncomputable def CE (outer:List Env) (P:KL) (w:K5) (H:Hp) (s:Kh) (Q:VK) (u:Kg) (s':Kh):Prop:=
 ∃v H',s'.os=s.os/\P0 s'.gens/\Un (frs outer) [] H H' s.heap s'.heap/\fB P w H' s'.heap/\RelV v u/\Q v H'
noncomputable def CR (CX:qh) (outer:List Env) (P:KL) (w:K5) (H:Hp) (s:Kh) (Q:VK) (E:XK) (r:Q5) (s':Kh):Prop:=
 match r with
 | .ok (.ret u)=>CE outer P w H s Q u s'
 | .ok _=>False
 | .error e=>CX outer H s E e s'
structure gA (P:KL) (w:K5) (K:Ke) (mg:Str->Option Kg) (base:L7) (CX:qh) (k:Nat) (f:KJ) (fd:K7) (ps:List Str) (sp:Sp):Prop where
 len:∀vs H Q E,sp vs H Q E->vs.length=ps.length
 run:∀(A:Lh) (outer:List Env) (s:Kh) (H:Hp) (args:Args) (us:List Kg) (vs:List V) (Q:VK) (E:XK),dg k A->wB P w K mg base A outer s H->R3 s fd args (ps.zip us)->Vals vs us->sp vs H Q E->
  Mb (KS P w) A (.call (.ref f) args) (CR CX outer P w H s Q E) s
section
variable {X:Cx}{JW:List (KJ×Obj)}{σ:St}{H:Hp}{s s':Kh}
theorem Inv.env0 (I:Inv X JW σ H s):wB X.prog X.w X.K X.mg X.base X.A X.stack s H:=
 ⟨I.ok.frames,I.ok.mod,I.bs,Lg I.ok.bsz I.sz,I.stack,I.stkFree,I.hok,I.bare⟩
theorem Inv.after {Q:VK}(I:Inv X JW σ H s) (h:CE X.stack X.prog X.w H s Q u s'):EP X JW σ Q u s':=by obtain ⟨v,H',os,bare,un,hok,r,q⟩:=h;obtain ⟨hh,g,d,t,os'⟩:=s';obtain rfl:os'=s.os:=os;exact ⟨v,H',I.call (h':=hh) (g':=g) (d':=d) (t':=t) (ch:=[]) un hok bare (λb z=>absurd z (by simp)),r,q⟩
end
noncomputable def BH (sp:Sp) (dvs:List V) (E:XK) (t:TA):TE:=λσ H Q=>t σ H λvs H1=>sp (vs++dvs) H1 Q E
noncomputable def Binds (K:Ke) (fd:K7) (ps:List Str) (ds:List Kg):Prop:=
 ∀(s:Kh) (us:List Kg),K.In s.heap->(us++ds).length=ps.length->R3 s fd ⟨us,[]⟩ (ps.zip (us++ds))
theorem Binds.all {K:Ke}{fd:K7}{ps:List Str}(h:∀us:List Kg,us.length=ps.length->Qx fd ⟨us,[]⟩=pure (ps.zip us)):Binds K fd ps []:=λs us _ hl=>by rw [Mc] at hl ⊢;exact .of_eq (h us hl)
noncomputable def Passes (CX:qh) (X:Cx) (E:XK):Prop:=∀(JW:List (KJ×Obj)) (σ:St) (H:Hp) (s:Kh) (e:Kg) (s':Kh),Inv X JW σ H s->CX X.stack H s E e s'->X.xe e s'
section
variable {X:Cx}{CX:qh}{k:Nat}{f C:KJ}{fd:K7}{ps:List Str}{sp:Sp}{dvs:List V}{ds:List Kg}{E:XK}{x m:Str}{p pos apos:Pos}{e o:K8}{es:List K8}{ta:TE}{t:TA}
theorem Fc {H:Hp}{Q:VK}(F:gA X.prog X.w X.K X.mg X.base CX k f fd ps sp) (hr:dg k X.A) (hb:Binds X.K fd ps ds) (hd:Vals dvs ds) (hx:Passes CX X E)
 (I:Inv X JW σ H s) (r:Vals vs us) (h:sp (vs++dvs) H Q E):KH (KS X.prog X.w) X.A (call (.ref f) us) (EP X JW σ Q) X.xe s:=by
 have r2:Vals (vs++dvs) (us++ds):=r.append hd;have hl:(us++ds).length=ps.length:=by rw [<-r2.length];exact F.len _ _ _ _ h
 refine Qy (Nh (F.run X.A X.stack s H ⟨us,[]⟩ (us++ds) (vs++dvs) Q E hr I.env0 (hb s us I.kIn hl) r2 h) λr s' hq=>?_);cases r with
 | error e=>exact hx JW σ H s e s' I hq
 | ok fl=>
  cases fl with
  | ret u=>exact I.after hq
  | next=>exact Nm hq
  | brk=>exact Nm hq
  | cont=>exact Nm hq
theorem CG (F:gA X.prog X.w X.K X.mg X.base CX k f fd ps sp) (hr:dg k X.A) (hg:Gl X x) (hm:X.mg x=some (.ref f)) (hk:Na X.K (.ref f)=true) (hb:Binds X.K fd ps ds) (hd:Vals dvs ds) (hx:Passes CX X E)
  (ha:PA X (e::es) t) (hdb:(x == ("__debug__":Str))=false:=by decide) (he:KC (e::es) X.env=(false,eval e X.env)::KC es X.env:=by rfl) (hpl:(MQ pos (KC es X.env)).any (·.1)=false:=by rfl):
  PE X (.Call (.Name x p) (e::es) [] pos) (BH sp dvs E t):=by intro JW s σ H Q I h;refine NQ (vJ I hg hm ?_ hdb);refine W.callWith_K (h₀:=X.base) I.ok.mod.kin hk (bF (ha pos JW s σ H _ I h) λus s1 ⟨vs,H1,I1,r,q⟩=>⟨I1.kIn,?_⟩) he hpl;exact Fc F hr hb hd hx I1 r q
end
structure c7 (N P:List Str) (sc:M5):Prop where
 kind:sc.kind=.function
 co:sc.isCoroutine=false
 gen:sc.isGenerator=false
 nd:N.Nodup
 pre:N.take P.length=P
 par:∀x∈P,sc.names.lookup x=some .local\/sc.names.lookup x=some .cell
 nofree:∀y∈sc.names,y.2≠.free
theorem qv {kindOf:Str->Option ML}:∀{binds:List (Str×Kg)}{m:Str->Option Kg},(∀v,(x,v)∉binds)->TX kindOf binds m x=m x
 | [],_,_=>rfl
 | (n,v)::r,m,h=>by
  unfold TX;rw [qv λw hw=>h w (Kq _ hw)];split
  ·have:x≠n:=by rintro rfl;exact h v Ku
   simp [this]
  ·rfl
theorem qt {kindOf:Str->Option ML}:∀{binds:List (Str×Kg)}{m:Str->Option Kg},(∀v,(x,v)∉binds)->TY kindOf binds m x=m x
 | [],_,_=>rfl
 | (n,v)::r,m,h=>by
  unfold TY;rw [qt λw hw=>h w (Kq _ hw)];split
  ·rfl
  ·have:x≠n:=by rintro rfl;exact h v Ku
   simp [this]
theorem qu {kindOf:Str->Option ML}{x:Str}{v:Kg}:∀{P:List Str}{vs:List Kg}{i:Nat}{m:Str->Option Kg},P.Nodup->P[i]?=some x->vs[i]?=some v->kindOf x=some .local->
  TX kindOf (P.zip vs) m x=some v
 | [],_,_,_,_,h,_,_=>by simp at h
 | _::_,[],_,_,_,_,h,_=>by simp at h
 | p::P,w::vs,0,m,nd,h1,h2,hk=>by simp at h1 h2;subst h1;subst h2;show TX kindOf ((p,w)::P.zip vs) m p=_;unfold TX;rw [qv λv hv=>(MB.mp nd).1 (P6 hv).1,if_pos hk];simp
 | p::P,w::vs,i + 1,m,nd,h1,h2,hk=>by show TX kindOf ((p,w)::P.zip vs) m x=_;unfold TX;exact qu (i:=i) (MB.mp nd).2 (by simpa using h1) (by simpa using h2) hk
theorem qs {kindOf:Str->Option ML}{x:Str}{v:Kg}:∀{P:List Str}{vs:List Kg}{i:Nat}{m:Str->Option Kg},P.Nodup->P[i]?=some x->vs[i]?=some v->kindOf x≠some .local->
  TY kindOf (P.zip vs) m x=some v
 | [],_,_,_,_,h,_,_=>by simp at h
 | _::_,[],_,_,_,_,h,_=>by simp at h
 | p::P,w::vs,0,m,nd,h1,h2,hk=>by simp at h1 h2;subst h1;subst h2;show TY kindOf ((p,w)::P.zip vs) m p=_;unfold TY;rw [qt λv hv=>(MB.mp nd).1 (P6 hv).1,if_neg hk];simp
 | p::P,w::vs,i + 1,m,nd,h1,h2,hk=>by show TY kindOf ((p,w)::P.zip vs) m x=_;unfold TY;exact qs (i:=i) (MB.mp nd).2 (by simpa using h1) (by simpa using h2) hk
noncomputable def start (N:List Str) (vs:List V):St:=vs.map some++K6 (N.length - vs.length) none
noncomputable def nG (CX:qh) (P:KL) (w:K5) (K:Ke) (mg:Str->Option Kg) (base:L7) (N:List Str) (J_:Str) (JV:M5) (f:KJ) (cd:Kg) (A:Lh) (outer:List Env) (s:Kh) (H:Hp) (E:XK):Cx where
 prog:=P
 w:=w
 K:=K
 mg:=mg
 base:=base
 A:=A.deeper (OG J_ JV s.heap.objs.size f cd)
 N:=N
 s₀:=s
 H₀:=H
 env:=OG J_ JV s.heap.objs.size f cd
 outer:=outer
 stack:=OG J_ JV s.heap.objs.size f cd::outer
 ex:=[]
 calm:=true
 fn:=λ_=>true
 pn:=[]
 xe:=λe s'=>KH (KS P w) (A.deeper (OG J_ JV s.heap.objs.size f cd)) (leaving (OG J_ JV s.heap.objs.size f cd) e) (λ_ s''=>CX outer H s E e s'') (λe' s''=>CX outer H s E e' s'') s'
theorem sS {sc:M5}(h:sc.names.lookup x=some .cell):∃c,(LA n sc.names []).lookup x=some c:=by have q:=PK sc.names n [] (.inl h);exact L8.mp q
theorem yU {CX:qh}{P:KL}{w:K5}{K:Ke}{mg:Str->Option Kg}{base:L7}{N ps:List Str}{J_:Str}{JV:M5}{f:KJ}{cd:Kg}{A:Lh}{outer:List Env}{s s1:Kh}{H:Hp}{E:XK}{us:List Kg}{vs:List V}
  (S:c7 N ps JV) (hd:A.handled=none) (e0:wB P w K mg base A outer s H) (hl:vs.length=ps.length) (r:Vals vs us)
  (x:InCallC s s.heap.objs.size (TX (OG J_ JV s.heap.objs.size f cd).kindOf (ps.zip us) λ_=>none) (LA (s.heap.objs.size + 1) JV.names []) (TY (OG J_ JV s.heap.objs.size f cd).kindOf (ps.zip us) λ_=>none) s1):
  Inv (nG CX P w K mg base N J_ JV f cd A outer s H E) [] (start N vs) H s1:=by
 have hpl:ps.length<=N.length:=by have:=congrArg QS S.pre;rw [Me] at this;omega
 obtain ⟨h1,tk,rfl,hk⟩:=x.done;have noA:∀b:KJ,b∉(nG CX P w K mg base N J_ JV f cd A outer s H E).ex:=λb z=>absurd (show b∈([]:List KJ) from z) (by simp);refine ⟨⟨e0.mod,S.kind,rfl,rfl,Kr _,λy z c h1 h2=>?_,λy hy=>?_,λy c _ h=>?_,λ_=>hd,Around.frames_deeper e0.frames,.inr ⟨rfl,rfl⟩,λb z=>absurd z (noA b),e0.bs,e0.bsz,λb _ _=>noA b,λb z=>absurd z (noA b),e0.funs,e0.frf⟩,
  rfl,e0.bare,Un.kept hk,⟨_,x.toInCall.ns,λi y v h1 h2 h3=>?_⟩,λy c h=>⟨_,x.cell y c h⟩,e0.hok.fresh (Kr _),λy c h=>?_,λp hp=>absurd (show p∈([]:List (KJ×Obj)) from hp) (by simp),e0.hok.kept hk,?_⟩
 ·exact name_of_addr x.apart (M6 h1) (M6 h2)
 ·have hy:JV.names.lookup y=some .cell\/JV.names.lookup y=some .free:=hy;rcases hy with hy | hy
  ·exact sS hy
  ·exact absurd rfl (S.nofree _ (M6 hy))
 ·exact OY (x.above y c (M6 h))
 ·have hi:i < vs.length:=by
   unfold start at h2;by_cases hi:i < vs.length
   ·exact hi
   ·rw [LO (by simpa using hi)] at h2;rw [NS] at h2;split at h2 <;> cases h2
  have ha:vs[i]?=some v:=by
   unfold start at h2;rw [Mh (by simpa using hi),KQ] at h2;cases e:vs[i]? with
   | none=>rw [e] at h2;cases h2
   | some a=>rw [e] at h2;cases h2;rfl
  obtain ⟨u,hu,rv⟩:=r.get ha;have hp:ps[i]?=some y:=by rw [<-S.pre,List.getElem?_take_of_lt (by omega)];exact h1
  have ndP:ps.Nodup:=by rw [<-S.pre];exact S.nd.sublist (Pa _ _)
  refine ⟨u,rv,?_⟩;rcases S.par y (MS hp) with k | k
  ·exact .inl ⟨k,qu ndP hp hu k⟩
  ·obtain ⟨c,e⟩:=sS (n:=s.heap.objs.size + 1) k;refine .inr ⟨.inl k,c,e,?_⟩;have q:=x.cell y c e;rw [qs ndP hp hu (by show JV.names.lookup y≠_;rw [k];decide)] at q;exact q
 ·exact e0.hok.fresh (OY (x.above y c (M6 h)))
 ·unfold start;show _=N.length;rw [Ko,Km,Li];omega
theorem FJ {K:Ke}{mg:Str->Option Kg}{dV kV doc pm cdv ct oc:Kg}
 {N ps:List Str}{sp:Sp}(lk:K.lookup f=some ⟨oc,od,.func (LR name J_ params body JV dV kV doc pm an cdv ct),osl⟩) (hcd:Oe K cdv J_=true) (S:c7 N ps JV)
 (len:∀vs H Q E,sp vs H Q E->vs.length=ps.length)
 (hbody:∀(A:Lh) (outer:List Env) (s:Kh) (H:Hp) (vs:List V) (Q:VK) (E:XK),dg k (A.deeper (OG J_ JV s.heap.objs.size f cdv))->sp vs H Q E->
 ∃t,g9 (nG CX P w K mg base N J_ JV f cdv A outer s H E) body t/\t {nx:=λ_ H'=>Q .non H',rt:=Q} (start N vs) H):
  gA P w K mg base CX (k + 1) f (LR name J_ params body JV dV kV doc pm an cdv ct) ps sp:=by
 refine ⟨len,λA outer s H args us vs Q E hr e0 hb r IC=>?_⟩;have hl:=len _ _ _ _ IC;have KX:K.In s.heap:=e0.mod.kin.keeps λb o e=>(e0.bs b o e).1;have lim:s.heap.NoLimit:=e0.mod.nolimit.keeps λb o e=>(e0.bs b o e).1;have hkind:∀y∈ps.zip us,JV.names.lookup y.1=some .local\/(JV.names.lookup y.1=some .cell/\((LA (s.heap.objs.size + 1) JV.names []).lookup y.1).isSome=true):=λ⟨n,v⟩ hy=>by
  rcases S.par n (P6 hy).1 with q | q
  ·exact .inl q
  ·exact .inr ⟨q,PK _ _ _ (.inl q)⟩
 refine codeAny_call_function hr.depth (KX _ _ lk) rfl S.co S.gen rfl (W.codeRec_of KX hcd) (hb _ _ _ _ ?_);refine wpAny_newFunctionEnv_cells S.kind hkind λenv he s1 x=>?_;subst he;refine ⟨lim.keeps x.toInCall.keep,codeAny_func ?_⟩;obtain ⟨t,ht,hq⟩:=hbody A outer s H vs Q E (hr.deeper _) IC;have I:Inv (nG CX P w K mg base N J_ JV f cdv A outer s H E) [] (start N vs) H s1:=yU S hr.hd e0 hl r x;refine Lq (ht [] s1 (start N vs) H _ I hq) (λfl s' hs=>?_) λe s' hs=>hs;have fin:∀{σ':St}{H':Hp}{v:V}{u:Kg},Inv (nG CX P w K mg base N J_ JV f cdv A outer s H E) [] σ' H' s'->RelV v u->Q v H'->CE outer P w H s Q u s':=
  fun {σ' H' v u} J rv q=>⟨v,H',J.os,J.bare,J.base,J.hok,rv,q⟩
 cases fl with
 | ret u=>
  obtain ⟨v,σ',H',J,rv,q⟩:=hs;exact fin J rv q
 | next=>
  obtain ⟨σ',H',J,q⟩:=hs;exact fin (v:=V.non) (u:=Mv) J rfl q
 | brk=>
  obtain ⟨_,_,_,q⟩:=hs;exact Nm q
 | cont=>
  obtain ⟨_,_,_,q⟩:=hs;exact Nm q
section
variable {X:Cx}{x:Str}{p pos:Pos}{e:K8}{es:List K8}{t:TA}{id T:String}{r:List V->Hp->VK->Prop}
noncomputable def Gz (r:List V->Hp->VK->Prop) (t:TA):TE:=λσ H Q=>t σ H λvs H1=>r vs H1 Q
theorem nN (hc:dD X (.builtin id) r) (hg:Gl X x) (hm:X.mg x=none) (hv:Lm x=some (.builtin id)) (ha:PA X (e::es) t) (hn:x≠"__name__":=by decide) (hdb:(x == ("__debug__":Str))=false:=by decide)
  (he:KC (e::es) X.env=(false,eval e X.env)::KC es X.env:=by rfl) (hpl:(MQ pos (KC es X.env)).any (·.1)=false:=by rfl):PE X (.Call (.Name x p) (e::es) [] pos) (Gz r t):=by intro JW s σ H Q I h;refine NQ (lK I hg hm hv ?_ hn hdb);exact RL (bF (ha pos JW s σ H _ I h) λus s1 ⟨vs,H1,I1,r1,q1⟩=>hc JW s1 σ H1 vs us Q I1 r1 q1) he hpl
theorem qH (hc:dD X (.type T) r) (hg:Gl X x) (hm:X.mg x=none) (hv:Lm x=some (.type T)) (ha:PA X (e::es) t) (hn:x≠"__name__":=by decide) (hdb:(x == ("__debug__":Str))=false:=by decide)
  (he:KC (e::es) X.env=(false,eval e X.env)::KC es X.env:=by rfl) (hpl:(MQ pos (KC es X.env)).any (·.1)=false:=by rfl):PE X (.Call (.Name x p) (e::es) [] pos) (Gz r t):=by intro JW s σ H Q I h;refine NQ (lK I hg hm hv ?_ hn hdb);exact OF (bF (ha pos JW s σ H _ I h) λus s1 ⟨vs,H1,I1,r1,q1⟩=>hc JW s1 σ H1 vs us Q I1 r1 q1) he hpl
end
end L2
namespace HT
open PySem PyProof.Rows
noncomputable def lexLt:List Int->List Int->Bool
 | [],[]=>false
 | [],_::_=>true
 | _::_,[]=>false
 | x::xs,y::ys=>if x=y then lexLt xs ys else decide (x < y)
section
open PySem.SeqAt
open PySem.AutoSeq1 (wpAny_loadPart')
open PySem.MeetsSeq PySem.MeetsSeq2 PySem.MeetsSeq3
end
section
variable {prog:KL}{w:K5}{A:Lh}{E:Kg->Kh->Prop}{s:Kh}
noncomputable def bh (n d:Nat):Option Int->Nat
 | none=>d
 | some v=>if v < 0 then (v + (n:Int)).toNat else min v.toNat n
theorem nP (n d:Nat):bh n d none=d:=rfl
theorem jP (n d k:Nat):bh n d (some (k:Int))=min k n:=by show (if (k:Int) < 0 then ((k:Int) + (n:Int)).toNat else min (k:Int).toNat n)=min k n;rw [if_neg (by omega),Mg]
theorem Fd (n d:Nat) (hd:d<=n) (o:Option Int):bh n d o<=n:=by
 cases o with
 | none=>exact hd
 | some v=>
  show (if v < 0 then (v + (n:Int)).toNat else min v.toNat n)<=n;by_cases hv:v < 0
  ·rw [if_pos hv];omega
  ·rw [if_neg hv];exact Nat.min_le_right _ _
theorem vt (v:Int) (n d:Nat):(if v < 0 then max (v + (n:Int)) 0 else min v (n:Int))=((bh n d (some v):Nat):Int):=by
 show (if v < 0 then max (v + (n:Int)) 0 else min v (n:Int))=(((if v < 0 then (v + (n:Int)).toNat else min v.toNat n):Nat):Int);by_cases hv:v < 0
 ·simp only [if_pos hv];omega
 ·simp only [if_neg hv];omega
theorem wO (lo hi:Option Int) (n:Nat):Mi lo hi 1 (n:Int)=(((bh n 0 lo:Nat):Int),((bh n n hi:Nat):Int)):=by
 have h1:¬((1:Int) < 0):=by omega
 unfold Mi;simp only [h1,if_false];refine Prod.ext ?_ ?_
 ·cases lo with
  | none=>rfl
  | some v=>exact vt v n 0
 ·cases hi with
  | none=>rfl
  | some v=>exact vt v n n
theorem xQ (i j:Nat):Ll (i:Int) (j:Int) 1=j - i:=by
 unfold Ll;have h1:(1:Int) > 0:=by omega
 simp only [h1,if_true,Tn];split <;> omega
theorem pA {Q:Option Int->Kh->Prop}(p:Q6 v o) (h:Q o s):KH (KS prog w) A (RZ v) Q E s:=by
 cases p with
 | none=>exact O3 h
 | int i t=>exact S3 h
theorem i9 {sl:KJ}{vl vu:Kg}{lo hi:Option Int}{n:Nat}{Q:Int×Int×Nat->Kh->Prop}(hs:s.heap.IsSliceOf sl vl vu .none) (pl:Q6 vl lo) (pu:Q6 vu hi)
  (h:Q (((bh n 0 lo:Nat):Int),1,bh n n hi - bh n 0 lo) s):KH (KS prog w) A (MH (.ref sl) (pure (n:Int))) Q E s:=by obtain ⟨os,hos,hcs,hds⟩:=id hs;unfold MH O4;refine Kd (Kd (OH hos hds (x:=vl) rfl (Kd (OH hos hds (x:=vu) rfl (Kd (OH hos hds (x:=.none) rfl (Kf ?_)))))));refine Kd (O3 ?_);show KH _ _ (if ((1:Int) == 0)=true then _ else _) _ _ s;rw [if_neg (by decide)];refine Kd (pA pl (Kd (pA pu (Kd (Kf ?_)))));show KH _ _ (match Mi lo hi 1 (n:Int) with | (lo,hi)=>pure (lo,(1:Int),Ll lo hi 1)) _ _ s;rw [wO lo hi n];show KH _ _ (pure (((bh n 0 lo:Nat):Int),(1:Int),Ll ((bh n 0 lo:Nat):Int) ((bh n n hi:Nat):Int) 1)) _ _ s;rw [xQ];exact Kf h
theorem AL (xs:Array Kg) (i k:Nat):((Ky k).filterMap λ(m:Nat)=>xs[((i:Int) + (m:Int) * 1).toNat]?).toArray=((xs.toList.drop i).take k).toArray:=by
 have e:(λ(m:Nat)=>xs[((i:Int) + (m:Int) * 1).toNat]?)=λm=>xs[i + m]?:=by
  funext m;have:((i:Int) + (m:Int) * 1).toNat=i + m:=by omega
  rw [this]
 rw [e];have:=pick_run xs i k;rw [Q7] at this;have e2:((λx=>xs[x]?) ∘ λx=>i + x)=λm=>xs[i + m]?:=rfl;rw [e2] at this;rw [this]
theorem mR {t sl:KJ}{JX:Array Kg}{vl vu:Kg}{lo hi:Option Int}{Q:Kg->Kh->Prop}(ht:IsTup s.heap t JX) (hs:s.heap.IsSliceOf sl vl vu .none) (pl:Q6 vl lo) (pu:Q6 vu hi)
  (hw:¬(bh JX.size 0 lo=0/\bh JX.size JX.size hi=JX.size))
  (h:Q (.ref s.heap.objs.size) {s with heap:=s.heap.push {cls:=.type "tuple",data:=.seq ((JX.toList.drop (bh JX.size 0 lo)).take (bh JX.size JX.size hi - bh JX.size 0 lo)).toArray}})
  (hsz:JX.size<=sizeLine):KH (KS prog w) A (P7 (.ref t) (.ref sl)) Q E s:=by
 have HZ:sizeOk (.seq ((JX.toList.drop (bh JX.size 0 lo)).take (bh JX.size JX.size hi - bh JX.size 0 lo)).toArray):=by show ((JX.toList.drop (bh JX.size 0 lo)).take (bh JX.size JX.size hi - bh JX.size 0 lo)).toArray.size<=sizeLine;rw [Kv,Me,LX,KN];omega
 have hj:bh JX.size JX.size hi<=JX.size:=Fd _ _ (Kr _) hi;obtain ⟨os,hos,hcs,hds⟩:=id hs;have IT:s.TypeIs (.ref sl) "slice":=⟨os,hos,hcs⟩;unfold P7
 try with_reducible refine Lz ?_
 first | refine Kd (Kf ?_) | skip
 refine Kd (Pb ht.typeIs (by decide) ?_);refine Kd (LM (name:=NJ "__getitem__") ht.typeIs K4
  (Lo K4 ht.typeIs OI ?_ (OZ _ _)))
 show KH _ _ (Nt (.ref t) >>= _) _ _ s;refine Kd (Q8 ht ?_);refine Kd (NK IT ?_);rw [if_pos (by decide)];refine Kd (i9 hs pl pu ?_);have hno:¬((((bh JX.size 0 lo:Nat):Int) == 0 && (1:Int) == 1 && (bh JX.size JX.size hi - bh JX.size 0 lo) == JX.size)=true):=by intro q;rw [KU,KU] at q;have q1:((bh JX.size 0 lo:Nat):Int)=0:=eq_of_beq q.1.1;have q2:bh JX.size JX.size hi - bh JX.size 0 lo=JX.size:=eq_of_beq q.2;exact hw ⟨by omega,by omega⟩
 show KH _ _ (if (((bh JX.size 0 lo:Nat):Int) == 0 && (1:Int) == 1 && (bh JX.size JX.size hi - bh JX.size 0 lo) == JX.size)=true then _ else _) _ _ s;rw [if_neg hno,AL]
 first
  | exact Kd (m:=Lr _) (KZ (Kf ⟨_,rfl,Kf h⟩) HZ)
  | exact Kd (m:=Lr _) (KZ (Kd (Kf (Kf ⟨_,rfl,Kf h⟩))) HZ)
  | exact Kd (Kd (m:=Lr _) (KZ (Kf (Kf ⟨_,rfl,Kf h⟩)) HZ))
  | exact Kd (Kd (m:=Lr _) (KZ (Kf ⟨_,rfl,Kf h⟩) HZ))
end
end HT
namespace L2
open PySem PySem.Spec PyProof.Rows
noncomputable abbrev TO:=St->Hp->(Option Int->Hp->Prop)->Prop
noncomputable def PO (X:Cx) (e:Option K8) (t:TO):Prop:=
 ∀(JW:List (KJ×Obj)) (s:Kh) (σ:St) (H:Hp) (Q:Option Int->Hp->Prop),Inv X JW σ H s->t σ H Q->
  KH (KS X.prog X.w) X.A (evalPart e X.env) (λu s'=>∃o H',Inv X JW σ H' s'/\Q6 u o/\Q o H') X.xe s
noncomputable def Dh:TO:=λ_ H Q=>Q none H
noncomputable def Gh (t:TE):TO:=λσ H Q=>t σ H λx H1=>∃i,x=.int i/\Q (some i) H1
section
variable {X:Cx}{e:K8}{te:TE}{lo hi:Option K8}{tl th:TO}{pos p2:Pos}
theorem CK:PO X none Dh:=by intro JW s σ H Q I h;rw [Q9];exact Kf ⟨none,H,I,.none,h⟩
theorem CL (h:PE X e te):PO X (some e) (Gh te):=by intro JW s σ H Q I hw;rw [S4];refine bF (h JW s σ H _ I hw) λu s1 ⟨x,H1,I1,r1,q1⟩=>?_;obtain ⟨i,rfl,q⟩:=q1;obtain ⟨t,rfl⟩:=r1;exact ⟨some i,H1,I1,.int i t,q⟩
noncomputable def n8 (X:Cx) (r:V->Option Int->Option Int->Hp->VK->Prop):Prop:=
 ∀(JW:List (KJ×Obj)) (s:Kh) (σ:St) (H:Hp) (x:V) (v vl vu:Kg) (lo hi:Option Int) (sl:KJ) (Q:VK),Inv X JW σ H s->RelV x v->s.heap.IsSliceOf sl vl vu .none->Q6 vl lo->Q6 vu hi->r x lo hi H Q->
  ∃T id,typeLookup (.type T) "__getitem__"=pure (some (.builtin id))/\s.TypeIs v T/\KH (KS X.prog X.w) X.A (P7 v (.ref sl)) (EP X JW σ Q) X.xe s
theorem n8.or {r r':V->Option Int->Option Int->Hp->VK->Prop}(h:n8 X r) (h':n8 X r'):n8 X (λx lo hi H Q=>r x lo hi H Q\/r' x lo hi H Q):=by
 intro JW s σ H x v vl vu lo hi sl Q I rx hs pl pu q;rcases q with q | q
 ·exact h JW s σ H x v vl vu lo hi sl Q I rx hs pl pu q
 ·exact h' JW s σ H x v vl vu lo hi sl Q I rx hs pl pu q
noncomputable def Hz (r:V->Option Int->Option Int->Hp->VK->Prop) (te:TE) (tl th:TO):TE:=λσ H Q=>te σ H λx H1=>tl σ H1 λl H2=>th σ H2 λu H3=>r x l u H3 Q
theorem AJ {r:V->Option Int->Option Int->Hp->VK->Prop}(hr:n8 X r) (he:PE X e te) (hl:PO X lo tl) (hu:PO X hi th):PE X (.Subscript e (.Slice lo hi none p2) pos) (Hz r te tl th):=by intro JW s σ H Q I h;refine SE (bF (he JW s σ H _ I h) λv s1 ⟨x,H1,I1,r1,q1⟩=>?_);refine wpAny_Slice (bF (hl JW s1 σ H1 _ I1 q1) λvl s2 ⟨l,H2,I2,pl,q2⟩=>bF (hu JW s2 σ H2 _ I2 q2) λvu s3 ⟨u,H3,I3,pu,q3⟩=>?_);rw [Q9];refine Kf ?_;have I4:Inv X JW σ H3 {s3 with heap:=s3.heap.push {cls:=.type "slice",data:=.fields #[vl,vu,.none]}}:=I3.kept (t':=s3.toks) λb ob q=>Kl _ q;obtain ⟨T,id,hT,ht,hg⟩:=hr JW {s3 with heap:=s3.heap.push {cls:=.type "slice",data:=.fields #[vl,vu,.none]}} σ H3 x v vl vu l u s3.heap.objs.size Q I4 r1 (Q_ ..) pl pu q3;show KH (KS X.prog X.w) X.A (S5 e (.Slice lo hi none p2) v (.ref s3.heap.objs.size)) (EP X JW σ Q) X.xe {s3 with heap:=s3.heap.push {cls:=.type "slice",data:=.fields #[vl,vu,.none]}};exact S6 (ops:=[.ref s3.heap.objs.size,v]) ht hT hg (by with_unfolding_all rfl)
noncomputable def jt (xs:List V) (lo hi:Option Int):List V:=(xs.drop (HT.bh xs.length 0 lo)).take (HT.bh xs.length xs.length hi - HT.bh xs.length 0 lo)
theorem m7 (xs:List V) (lo hi:Option Int):(jt xs lo hi).length<=xs.length:=by unfold jt;rw [Me,LX];omega
noncomputable def GY (K:Ke):V->Option Int->Option Int->Hp->VK->Prop:=λx lo hi H Q=>∃a xs,x=.ref a/\eH K H a xs/\
 ¬(HT.bh xs.length 0 lo=0/\HT.bh xs.length xs.length hi=xs.length)/\∀p,H p=none->Q (.ref p) (upd H p (.tup (jt xs lo hi)))
theorem Ff:n8 X (GY X.K):=by
 intro JW s σ H x v vl vu lo hi sl Q I rx hs pl pu h;obtain ⟨a,xs,rfl,hx,hw,q⟩:=h;cases rx;obtain ⟨JY,r,ht,hz⟩:=I.tuple hx;have hlen:JY.toArray.size=xs.length:=by rw [Kv];exact r.length.symm
 refine ⟨"tuple",_,K4.lookup,ht.typeIs,?_⟩;refine HT.mR ht hs pl pu (by rw [hlen];exact hw) ?_ (by rw [hlen];exact hz);rw [hlen];refine ⟨.ref s.heap.objs.size,_,I.laid (t':=s.toks) (o:=.tup (jt xs lo hi)) (λb ob q=>Kl _ q) (Kr _) ?_,rfl,q _ (I.hok.fresh (Kr _))⟩;exact ⟨Lg (m7 xs lo hi) hz,_,(r.drop (HT.bh xs.length 0 lo)).take (HT.bh xs.length xs.length hi - HT.bh xs.length 0 lo),To _ _,λo q=>by rw [Kn _ rfl] at q;cases q;rfl⟩
end
noncomputable def tH (n:Nat) (i:Int):Option Nat:=if 0<=i then (if i < n then some i.toNat else none) else if -(n:Int)<=i then some (i + n).toNat else none
noncomputable def iR {α:Type}(xs:List α) (i:Int):Option α:=(tH xs.length i).bind λj=>xs[j]?
theorem Cc (h:tH n i=some j):seqIndex? i n=some j/\j < n/\-(n:Int)<=i/\i < n:=by
 unfold tH at h;by_cases h0:0<=i
 ·rw [if_pos h0] at h;by_cases h1:i < n
  ·rw [if_pos h1] at h;have e:i.toNat=j:=Lp h;exact ⟨by rw [seqIndex_of h0 h1,e],by omega,by omega,h1⟩
  ·rw [if_neg h1] at h;cases h
 ·rw [if_neg h0] at h;by_cases h1:-(n:Int)<=i
  ·rw [if_pos h1] at h;have e:(i + n).toNat=j:=Lp h;exact ⟨by rw [seqIndex_neg (by omega) h1,e],by omega,h1,by omega⟩
  ·rw [if_neg h1] at h;cases h
theorem pM {α:Type}{xs:List α}{i:Int}{v:α}(h:iR xs i=some v):∃j,seqIndex? i xs.length=some j/\xs[j]?=some v/\j < xs.length/\-(xs.length:Int)<=i/\i < xs.length:=by
 unfold iR at h;cases e:tH xs.length i with
 | none=>rw [e] at h;cases h
 | some j=>
  rw [e] at h;obtain ⟨h1,h2,h3,h4⟩:=Cc e;exact ⟨j,h1,h,h2,h3,h4⟩
noncomputable def l7 (b:K8):Prop:=∀o i,subscripted b false o i=operate [o,i] (P7 o i)
noncomputable def kX (X:Cx) (r:R2):Prop:=
 ∀(value slice:K8) (JW:List (KJ×Obj)) (s:Kh) (σ:St) (H:Hp) (x y:V) (v u:Kg) (Q:VK),Inv X JW σ H s->RelV x v->RelV y u->r x y H Q->
  subscripted slice false v u=operate [v,u] (P7 v u)->KH (KS X.prog X.w) X.A (S5 value slice v u) (EP X JW σ Q) X.xe s
noncomputable def Gr (X:Cx) (id:String) (r:V->List V->Hp->VK->Prop):Prop:=
 ∀(JW:List (KJ×Obj)) (s:Kh) (σ:St) (H:Hp) (x:V) (xs:List V) (v:Kg) (us:List Kg) (Q:VK),Inv X JW σ H s->RelV x v->Vals xs us->r x xs H Q->
  KH (KS X.prog X.w) X.A (call (.builtin id) (v::us)) (EP X JW σ Q) X.xe s
section
variable {X:Cx}{a b:K8}{ta tb:TE}{pos:Pos}
theorem kX.or {r r':R2}(h:kX X r) (h':kX X r'):kX X (λx y H Q=>r x y H Q\/r' x y H Q):=by
 intro value slice JW s σ H x y v u Q I rx ry q hs;rcases q with q | q
 ·exact h value slice JW s σ H x y v u Q I rx ry q hs
 ·exact h' value slice JW s σ H x y v u Q I rx ry q hs
theorem Bx (hr:kX X r) (ha:PE X a ta) (hb:PE X b tb) (hs:l7 b):PE X (.Subscript a b pos) (zJ r ta tb):=by intro JW s σ H Q I h;exact SE (z_ ha hb I h λv u s2 x y H2 I2 rx ry q=>hr a b JW s2 σ H2 x y v u Q I2 rx ry q (hs _ _))
noncomputable def E4 (K:Ke):R2:=λx y H Q=>∃p xs i v,x=.ref p/\y=.int i/\bV K H p xs/\iR xs i=some v/\Q v H
noncomputable def E6 (K:Ke):R2:=λx y H Q=>∃p xs i v,x=.ref p/\y=.int i/\eH K H p xs/\iR xs i=some v/\Q v H
noncomputable def E5:R2:=λx y H Q=>∃z i c,x=.str z/\y=.int i/\z.length<=sizeLine/\iR z.cps.toList i=some c/\Q (.str ⟨#[c]⟩) H
theorem Cf:kX X (E4 X.K):=by
 intro value slice JW s σ H x y v u Q I rx ry h hs;obtain ⟨p,xs,i,z,rfl,rfl,hq,he,q⟩:=h;cases rx;obtain ⟨t,rfl⟩:=ry;obtain ⟨JY,r,pl,hz⟩:=I.list hq;obtain ⟨j,h1,h2,h3,h4,h5⟩:=pM he;obtain ⟨w,ew,rw'⟩:=r.get h2;have hl:=r.length;have hn:=jJ;have fin:EP X JW σ Q w s:=⟨z,H,I,rw',q⟩;by_cases h0:0<=i
 ·have hj:i.toNat=j:=by rw [seqIndex_of h0 h5] at h1;exact Lp h1
  exact item_listR pl.isList h0 (by omega) (by rw [hj];simpa using ew) fin hs
 ·have hj:(i + (JY.toArray.size:Int)).toNat=j:=by rw [seqIndex_neg (by omega) h4] at h1;rw [Kv,<-hl];exact Lp h1
  exact PL (x:=w) pl.isList.typeIs Rp.lookup
   (wpAny_getItem_list_neg (Q:=λr s'=>r=w/\EP X JW σ Q r s') pl.isList (by omega) (by rw [Kv] <;> omega) (by omega) (by rw [hj];simpa using ew) ⟨rfl,fin⟩) hs
theorem El:kX X (E6 X.K):=by
 intro value slice JW s σ H x y v u Q I rx ry h hs;obtain ⟨p,xs,i,z,rfl,rfl,hq,he,q⟩:=h;cases rx;obtain ⟨t,rfl⟩:=ry;obtain ⟨JY,r,pl,hz⟩:=I.tuple hq;obtain ⟨j,h1,h2,h3,h4,h5⟩:=pM he;obtain ⟨w,ew,rw'⟩:=r.get h2;have hl:=r.length;have hn:=jJ;have fin:EP X JW σ Q w s:=⟨z,H,I,rw',q⟩;exact PL (x:=w) pl.typeIs slot_tuple_getitem.lookup
  (getItem_tuple (j:=j) (Q:=λr s'=>r=w/\EP X JW σ Q r s') pl (by omega) (by omega) (by rw [Kv,<-hl];exact h1) (by simpa using ew) ⟨rfl,fin⟩) hs
theorem h_:kX X E5:=by
 intro value slice JW s σ H x y v u Q I rx ry h hs;obtain ⟨z,i,c,rfl,rfl,hz,he,q⟩:=h;obtain ⟨t,rfl⟩:=rx;obtain ⟨t',rfl⟩:=ry;obtain ⟨j,h1,h2,h3,h4,h5⟩:=pM he;have hl:z.cps.toList.length=z.length:=by simp [Rq]
 rw [hl] at h1 h4 h5;have hn:=jJ;exact S6 (typeIs_str s z t) slot_str_getitem.lookup (getItem_str (c:=c) (by
  have e1:decide (i < -(2 ^ 63:Int))=false:=decide_eq_false (by omega);have e2:decide (i ≥ 2 ^ 63)=false:=decide_eq_false (by omega);rw [e1,e2,Ra]) (by rw [h1];simpa using h2) ⟨.str ⟨#[c]⟩,H,I.tok _,⟨_,rfl⟩,q⟩) hs
noncomputable def Hu (K:Ke):R2:=λx y H Q=>E4 K x y H Q\/E6 K x y H Q\/E5 x y H Q
theorem Ek:kX X (Hu X.K):=Cf.or (El.or h_)
theorem Inv.lst {H:Hp}{s:Kh}{xs:List V}(I:Inv X JW σ H s) (h:H p=some (.lst xs)):
  ∃(JY:List Kg) (n:Nat),Vals xs JY/\s.heap.get? p=some {cls:=.type "list",data:=.seq JY.toArray n}/\xs.length<=sizeLine:=by obtain ⟨z,JY,n,r,e⟩:=I.hok p _ h;exact ⟨JY,n,r,e,z⟩
theorem uz (lo hi:Option Int) (n:Nat):(N6 lo hi none n).1=((HT.bh n 0 lo:Nat):Int)/\(N6 lo hi none n).2.1=((HT.bh n n hi:Nat):Int)/\(N6 lo hi none n).2.2=1:=by
 refine ⟨?_,?_,rfl⟩
 ·cases lo with
  | none=>simp [N6,HT.bh]
  | some i=>
   simp only [N6,HT.bh,RQ,show (1:Int) > 0 by decide,if_true];by_cases h:i < 0
   ·simp only [h,if_true] <;> omega
   ·simp only [h,if_false] <;> omega
 ·cases hi with
  | none=>simp [N6,HT.bh]
  | some i=>
   simp only [N6,HT.bh,RQ,show (1:Int) > 0 by decide,if_true];by_cases h:i < 0
   ·simp only [h,if_true] <;> omega
   ·simp only [h,if_false] <;> omega
theorem rM (JY:List Kg) (lo hi:Option Int):slicePick JY.toArray lo hi none=((JY.drop (HT.bh JY.length 0 lo)).take (HT.bh JY.length JY.length hi - HT.bh JY.length 0 lo)).toArray:=by obtain ⟨h1,h2,h3⟩:=uz lo hi JY.toArray.size;unfold slicePick;rw [h1,h2,h3];simp only [sliceRange_one,pick_run,Kv] <;> rfl
noncomputable def GW (K:Ke):V->Option Int->Option Int->Hp->VK->Prop:=λx lo hi H Q=>∃a xs,x=.ref a/\bV K H a xs/\∀p,H p=none->Q (.ref p) (upd H p (.lst (jt xs lo hi)))
theorem C_:n8 X (GW X.K):=by intro JW s σ H x v vl vu lo hi sl Q I rx hs pl pu h;obtain ⟨a,xs,rfl,hx,q⟩:=h;cases rx;obtain ⟨JY,r,ht,hz⟩:=I.list hx;have hlen:=r.length;refine ⟨"list",_,Rp.lookup,ht.isList.typeIs,?_⟩;refine wpAny_getItem_list_slice ht.isList hs pl pu .none (by simp) ?_ (by rw [Kv] <;> omega);rw [rM,<-hlen];refine ⟨.ref s.heap.objs.size,_,I.laid (t':=s.toks) (o:=.lst (jt xs lo hi)) (λb ob q=>Kl _ q) (Kr _) ?_,rfl,q _ (I.hok.fresh (Kr _))⟩;exact ⟨Lg (m7 xs lo hi) hz,_,0,(r.drop (HT.bh xs.length 0 lo)).take (HT.bh xs.length xs.length hi - HT.bh xs.length 0 lo),Kn _ rfl⟩
noncomputable def oB:V->Bool
 | .non=>true
 | .bl _=>true
 | .int _=>true
 | .str _=>true
 | _=>false
noncomputable def D0:V->V->Bool
 | .non,.non=>true
 | .bl a,.bl b=>a == b
 | .bl a,.int b=>(if a then 1 else 0) == b
 | .int a,.bl b=>a == (if b then 1 else 0)
 | .int a,.int b=>a == b
 | .str a,.str b=>a == b
 | _,_=>false
theorem DZ (ry:RelV y u) (rx:RelV x v) (fy:oB y=true) (fx:oB x=true):Nb A s u v (D0 y x):=by
 cases y with
 | non=>
  cases ry;cases x with
  | non=>cases rx;exact P8 _
  | bl b=>cases rx;exact TM b
  | int b=>obtain ⟨t,rfl⟩:=rx;exact TZ b t
  | str b=>obtain ⟨t,rfl⟩:=rx;exact T3 b t
  | _=>exact absurd (show false=true from fx) Lu
 | bl a=>
  cases ry;cases x with
  | non=>cases rx;exact TN a
  | bl b=>cases rx;exact TQ a b
  | int b=>obtain ⟨t,rfl⟩:=rx;exact T4 a b t
  | str b=>obtain ⟨t,rfl⟩:=rx;exact T5 a b t
  | _=>exact absurd (show false=true from fx) Lu
 | int a=>
  obtain ⟨t',rfl⟩:=ry;cases x with
  | non=>cases rx;exact T6 a t'
  | bl b=>cases rx;exact T7 a t' b
  | int b=>obtain ⟨t,rfl⟩:=rx;exact Uj a t' b t
  | str b=>obtain ⟨t,rfl⟩:=rx;exact QZ a t' b t
  | _=>exact absurd (show false=true from fx) Lu
 | str a=>
  obtain ⟨t',rfl⟩:=ry;cases x with
  | non=>cases rx;exact T8 a t'
  | bl b=>cases rx;exact T9 a t' b
  | int b=>obtain ⟨t,rfl⟩:=rx;exact Q2 a t' b t
  | str b=>obtain ⟨t,rfl⟩:=rx;exact Uk a t' b t
  | _=>exact absurd (show false=true from fx) Lu
 | _=>exact absurd (show false=true from fy) Lu
theorem sM:dD X (.builtin "len") (λxs H Q=>∃p ys,xs=[.ref p]/\(bV X.K H p ys\/eH X.K H p ys)/\Q (.int ys.length) H):=by
 intro JW s σ H xs us Q I r h;obtain ⟨p,ys,rfl,hq,q⟩:=h;obtain ⟨u,rfl,rx⟩:=vals1 r;cases rx;have hn:=jJ;rcases hq with hq | hq
 ·obtain ⟨JY,r',pl,hz⟩:=I.list hq;have hlen:=r'.length;exact Calls.call_len_list pl.isList (by simp only [Kv] <;> omega) ⟨.int ys.length,H,I.tok _,⟨s.toks + 1,by rw [Kv,hlen]⟩,q⟩
 ·obtain ⟨JY,r',pl,hz⟩:=I.tuple hq;have hlen:=r'.length;exact len_tuple pl (by simp only [Kv] <;> omega) ⟨.int ys.length,H,I.tok _,⟨s.toks + 1,by rw [Kv,hlen]⟩,q⟩
theorem sN:dD X (.builtin "len") (λxs H Q=>∃z,xs=[.str z]/\z.length<=sizeLine/\Q (.int z.length) H):=by intro JW s σ H xs us Q I r h;obtain ⟨z,rfl,hz,q⟩:=h;obtain ⟨u,rfl,t,rfl⟩:=vals1 r;have hn:=jJ;exact len_str (by omega) ⟨.int z.length,H,I.tok _,⟨_,rfl⟩,q⟩
theorem dD.or {r r':List V->Hp->VK->Prop}(h:dD X f r) (h':dD X f r'):dD X f (λxs H Q=>r xs H Q\/r' xs H Q):=by
 intro JW s σ H xs us Q I rs q;rcases q with q | q
 ·exact h JW s σ H xs us Q I rs q
 ·exact h' JW s σ H xs us Q I rs q
theorem sO:dD X (.type "list") (λxs H Q=>∃p ys,xs=[.ref p]/\(bV X.K H p ys\/eH X.K H p ys)/\∀l,H l=none->Q (.ref l) (upd H l (.lst ys))):=by
 intro JW s σ H xs us Q I r h;obtain ⟨p,ys,rfl,hq,q⟩:=h;obtain ⟨u,rfl,rx⟩:=vals1 r;cases rx;have fin:∀(JY:List Kg),Vals ys JY->ys.length<=sizeLine->∀(h':L7) (c':Nat),(∀b o',s.heap.get? b=some o'->h'.get? b=some o')->
   h'.get? s.heap.objs.size=some {cls:=.type "list",dict:=none,data:=.seq JY.toArray c',slots:=#[]}->EP X JW σ Q (.ref s.heap.objs.size) {s with heap:=h'}:=λJY r' hz h' c' kp e=>
  ⟨.ref s.heap.objs.size,_,I.laid (t':=s.toks) kp (Kr _) (show cX X.prog X.w _ h' _ (.lst ys) from ⟨hz,JY,c',r',e⟩),rfl,q _ (I.hok.fresh (Kr _))⟩
 rcases hq with hq | hq
 ·obtain ⟨JY,r',pl,hz⟩:=I.list hq;have hlen:=r'.length;obtain ⟨o,ho,hc,n,hd⟩:=pl.isList;exact S7 p (.inl rfl) ho hc hd (λh' c' kp e=>fin JY r' hz h' c' kp e) (by simp only [Kv] <;> omega)
 ·obtain ⟨JY,r',pl,hz⟩:=I.tuple hq;have hlen:=r'.length;obtain ⟨o,ho,hc,n,hd⟩:=pl;exact S7 p (.inr rfl) ho hc hd (λh' c' kp e=>fin JY r' hz h' c' kp e) (by simp only [Kv] <;> omega)
theorem rD:dD X (.type "tuple") (λxs H Q=>∃p ys,xs=[.ref p]/\((bV X.K H p ys/\∀l,H l=none->Q (.ref l) (upd H l (.tup ys)))\/(eH X.K H p ys/\Q (.ref p) H))):=by
 intro JW s σ H xs us Q I r h;obtain ⟨p,ys,rfl,h⟩:=h;obtain ⟨u,rfl,rx⟩:=vals1 r;cases rx;rcases h with ⟨hq,q⟩ | ⟨hq,q⟩
 ·obtain ⟨JY,r',pl,hz⟩:=I.list hq;have hlen:=r'.length;refine call_tuple_list pl.isList (λh' kp=>?_) (by simp only [Kv] <;> omega);have I1:Inv X JW σ H {s with heap:=h'}:=I.kept (t':=s.toks) kp;have I2:Inv X JW σ (upd H h'.objs.size (.tup ys)) {s with heap:=h'.push {cls:=.type "tuple",data:=.seq JY.toArray}}:=
   I1.laid (t':=s.toks) (λb o e=>Kl _ e) (Kr _) (show cX X.prog X.w _ _ _ (.tup ys) from ⟨hz,JY,r',To _ _,λo q=>by rw [Kn _ rfl] at q;cases q;rfl⟩)
  exact ⟨.ref h'.objs.size,_,I2,rfl,q _ (I1.hok.fresh (Kr _))⟩
 ·obtain ⟨JY,r',pl,hz⟩:=I.tuple hq;exact call_tuple_same pl ⟨.ref p,H,I,rfl,q⟩
noncomputable def Fy (K:Ke) (T:String) (x:V) (H:Hp):Prop:=match x with
 | .str _=>T="str"
 | .int _=>T="int"
 | .ref p=>(T="list"/\∃xs,bV K H p xs)\/(T="tuple"/\∃o,K.lookup p=some o/\o.cls=.type "tuple"/\o.dict=none)\/
   (T="dict"/\((∃Ka,H p=some (.dK Ka))\/∃Ka,H p=some (.dT Ka)))\/(T="set"/\∃S n,H p=some (.set S n))
 | _=>False
theorem zQ {H:Hp}{s:Kh}(I:Inv X JW σ H s) (r:RelV x v) (ty:Fy X.K T x H):
  s.TypeIs v T/\∀a,v=.ref a->∃ob,s.heap.get? a=some ob/\ob.dict=none:=by
 cases x with
 | str z=>
  obtain ⟨t,rfl⟩:=r;cases (show T="str" from ty);exact ⟨typeIs_str s z t,λ_ e=>nomatch e⟩
 | int i=>
  obtain ⟨t,rfl⟩:=r;cases (show T="int" from ty);exact ⟨SG s i t,λ_ e=>nomatch e⟩
 | ref p=>
  cases r;rcases ty with ⟨rfl,xs,hq⟩ | ⟨rfl,o,hk,hc,hd⟩ | ⟨rfl,hk⟩ | ⟨rfl,S,n,hk⟩
  ·obtain ⟨JY,_,pl,_⟩:=I.list hq;refine ⟨pl.isList.typeIs,λa e=>?_⟩;cases e;obtain ⟨o,n,e,c,hd,_⟩:=pl;exact ⟨o,e,hd⟩
  ·refine ⟨⟨o,I.kIn p o hk,hc⟩,λa e=>?_⟩;cases e;exact ⟨o,I.kIn _ o hk,hd⟩
  ·have z:∃o,s.heap.get? p=some o/\o.ExactDict:=by
    rcases hk with ⟨Ka,hk⟩ | ⟨Ka,hk⟩
    ·obtain ⟨_,_,_,_,o,_,_,e,ex,_⟩:=I.hok p _ hk;exact ⟨o,e,ex⟩
    ·obtain ⟨_,_,_,_,o,_,_,e,ex,_⟩:=I.hok p _ hk;exact ⟨o,e,ex⟩
   obtain ⟨o,e,ex⟩:=z;refine ⟨⟨o,e,ex.1⟩,λa e2=>?_⟩;cases e2;exact ⟨o,e,ex.2.1⟩
  ·obtain ⟨o,_,_,_,e,ex,_⟩:=I.hok p _ hk;refine ⟨⟨o,e,ex.1⟩,λa e2=>?_⟩;cases e2;exact ⟨o,e,ex.2.1⟩
 | _=>exact Nm ty
noncomputable def G5 (K:Ke) (T:String) (r:V->List V->Hp->VK->Prop) (to:TE):TE:=λσ H Q=>to σ H λx H1=>Fy K T x H1/\r x [] H1 Q
noncomputable def Hw (K:Ke) (T:String) (r:V->List V->Hp->VK->Prop) (to:TE) (t:TA):TE:=λσ H Q=>to σ H λx H1=>Fy K T x H1/\t σ H1 λxs H2=>r x xs H2 Q
variable {o e:K8}{es:List K8}{to:TE}{t:TA}{name:Str}{apos cpos:Pos}{T id:String}{r:V->List V->Hp->VK->Prop}
theorem EL (pa:PlainAttrs T) (slot:Slot T name id) (hty:typeOf (.builtin id)=pure (.type "method_descriptor")) (hm:Gr X id r) (ho:PE X o to)
  (hbase:Ox o name X.env (eval o X.env)=eval o X.env:=by rfl) (hline:(apos.endLine == cpos.line)=true:=by rfl):PE X (.Call (.Attribute o name apos) [] [] cpos) (G5 X.K T r to):=by intro JW s σ H Q I h;refine wpAny_Call_method0_late hbase hline (bF (ho JW s σ H _ I h) λv s1 ⟨x,H1,I1,r1,ty,q1⟩=>?_);obtain ⟨h1,h2⟩:=zQ I1 r1 ty;exact ⟨T,id,pa,slot,hty,h1,h2,PM rfl (PySem.evalArgs_none (hm JW s1 σ H1 x [] v [] Q I1 r1 .nil q1))⟩
theorem Bw (pa:PlainAttrs T) (slot:Slot T name id) (hty:typeOf (.builtin id)=pure (.type "method_descriptor")) (hm:Gr X id r) (ho:PE X o to) (ha:PA X (e::es) t)
  (hbase:Ox o name X.env (eval o X.env)=eval o X.env:=by rfl)
  (hfew:((MQ cpos (KC (e::es) X.env)).all (λx=>!x.1) && (Ul cpos (R4 [] X.env)).all (λx=>x.1.isSome)
   && decide ((e::es).length + ([]:List R5).length + (if ([]:List R5).isEmpty then 0 else 1) < 30))=true:=by rfl)
  (hline:(apos.endLine == cpos.line)=true:=by rfl) (hs:KC (e::es) X.env=(false,eval e X.env)::KC es X.env:=by rfl) (hplain:(MQ cpos (KC es X.env)).any (·.1)=false:=by rfl):
  PE X (.Call (.Attribute o name apos) (e::es) [] cpos) (Hw X.K T r to t):=by intro JW s σ H Q I h;refine wpAny_Call_method_late hbase hfew hline rfl (bF (ho JW s σ H _ I h) λv s1 ⟨x,H1,I1,r1,ty,q1⟩=>?_);obtain ⟨h1,h2⟩:=zQ I1 r1 ty;refine ⟨T,id,pa,slot,hty,h1,h2,?_⟩;have hA:=ha cpos JW s1 σ H1 _ I1 q1;rw [hs] at hA ⊢;refine PM (by show (false || (MQ cpos (KC es X.env)).any (·.1))=false;rw [hplain] <;> rfl) (Calls.evalArgs_plain ?_);exact bF hA λus s2 ⟨vs,H2,I2,r2,q2⟩=>hm JW s2 σ H2 x vs v us Q I2 r1 r2 q2
end
noncomputable def Be (X:Cx) (id:String) (r:V->List V->Hp->VK->Prop):Prop:=
 ∀(JW:List (KJ×Obj)) (s:Kh) (σ:St) (H:Hp) (x:V) (xs:List V) (v:Kg) (us:List Kg) (Q:VK),Inv X JW σ H s->RelV x v->Vals xs us->r x xs H Q->
  KH (KS X.prog X.w) X.A (call (.builtin id) (v::us)) (EP X JW σ Q) X.xe s
theorem Vals.one:∀{x:V}{us:List Kg},Vals [x] us->∃u,us=[u]/\RelV x u
 | _,_,.cons r .nil=>⟨_,rfl,r⟩
theorem Vals.zero:∀{us:List Kg},Vals [] us->us=[]
 | _,.nil=>rfl
theorem Vals.dropLast {xs:List V}{us:List Kg}(h:Vals xs us):Vals xs.dropLast us.dropLast:=by
 induction h with
 | nil=>exact .nil
 | cons r t ih=>
  cases t with
  | nil=>exact .nil
  | cons q t'=>exact .cons r ih
theorem Vals.reverse {xs:List V}{us:List Kg}(h:Vals xs us):Vals xs.reverse us.reverse:=by
 induction h with
 | nil=>exact .nil
 | cons r t ih=>rw [N7,N7];exact Vals.append ih (.cons r .nil)
theorem w_ {α:Type}(l:List α):l.eraseIdx (l.length - 1)=l.dropLast:=by
 induction l with
 | nil=>rfl
 | cons a r ih=>
  cases r with
  | nil=>rfl
  | cons b r=>
   have e:(a::b::r).length - 1=((b::r).length - 1) + 1:=by have h1:(a::b::r).length=r.length + 2:=rfl;have h2:(b::r).length=r.length + 1:=rfl;omega
   rw [e,List.eraseIdx_cons_succ,ih]
   all_goals rfl
section
variable {X:Cx}{JW:List (KJ×Obj)}{σ:St}{H:Hp}{s:Kh}{l b:KJ}{xs ys zs:List V}
theorem Inv.lset {JY its':List Kg}{f:Array Kg->Array Kg}(I:Inv X JW σ H s) (hH:H l=some (.lst xs))
 (e:s.heap.get? l=some {cls:=.type "list",data:=.seq JY.toArray n}) (hf:f JY.toArray=its'.toArray) (hv:Vals ys its') (hz:ys.length<=sizeLine):
  Inv X JW σ (upd H l (.lst ys)) {s with heap:=s.heap.update l (MW f),toks:=t'}:=by have q:=Uv e f;rw [hf] at q;refine I.write (x:=l) (e:=l) (by rw [hH];exact trivial) (.inl rfl) (λb' u hb hu=>(Lf s.heap (MW f) (Mz hb)).trans hu) ⟨_,q⟩ ?_;exact ⟨hz,its',_,hv,q⟩
theorem Inv.lnew {JY:List Kg}(I:Inv X JW σ H s) (hv:Vals ys JY) (hz:ys.length<=sizeLine):
  Inv X JW σ (upd H s.heap.objs.size (.lst ys)) {s with heap:=s.heap.push {cls:=.type "list",data:=.seq JY.toArray},toks:=t'}:=
 I.laid (λ_ _ q=>Kl _ q) (Kr _) ⟨hz,JY,0,hv,Kn _ rfl⟩
theorem Inv.fresh (I:Inv X JW σ H s):H s.heap.objs.size=none:=I.hok.fresh (Kr _)
theorem Inv.lstM (I:Inv X JW σ H s) (hH:H l=some (.lst xs)):xs.length<=sizeLine/\∃(JY:List Kg) (n:Nat),Vals xs JY/\xs.length=JY.length/\s.heap.get? l=some {cls:=.type "list",data:=.seq JY.toArray n}:=by obtain ⟨z,JY,n,r,e⟩:=I.hok l _ hH;exact ⟨z,JY,n,r,r.length,e⟩
theorem ua (h:n<=sizeLine):Mw n=false:=by unfold Mw;exact decide_eq_false (by omega)
end
section
variable {X:Cx}
noncomputable def CW:V->List V->Hp->VK->Prop:=λx vs H Q=>∃l xs y,x=.ref l/\vs=[y]/\H l=some (.lst xs)/\xs.length < sizeLine/\Q .non (upd H l (.lst (xs++[y])))
theorem qG:Be X "list.append" CW:=by intro JW s σ H x vs v us Q I rx rv h;obtain ⟨l,xs,y,rfl,rfl,hH,hz,q⟩:=h;cases rx;obtain ⟨u,rfl,ru⟩:=rv.one;obtain ⟨z,JY,n,r,hl,e⟩:=I.lstM hH;refine Rr F.slot_list_append ⟨_,e,rfl⟩ F.entry_list_append (F.args_list_append_2 _ _) (PySem.list_append l JY.toArray n u (by rw [Kv];omega)) ⟨e,?_⟩;refine ⟨.non,_,I.lset (its':=JY++[u]) hH e (by simp) (r.append (.cons ru .nil)) ?_,rfl,q⟩;rw [Ko,List.length_singleton];omega
noncomputable def CY:V->List V->Hp->VK->Prop:=λx vs H Q=>∃l b xs zs,x=.ref l/\vs=[.ref b]/\H l=some (.lst xs)/\H b=some (.lst zs)/\xs.length + zs.length<=sizeLine/\Q .non (upd H l (.lst (xs++zs)))
theorem Gy:Be X "list.extend" CY:=by
 intro JW s σ H x vs v us Q I rx rv h;obtain ⟨l,b,xs,zs,rfl,rfl,hH,hB,hz,q⟩:=h;cases rx;obtain ⟨u,rfl,ru⟩:=rv.one;cases ru;obtain ⟨z,JY,n,r,hl,e⟩:=I.lstM hH;obtain ⟨z2,its2,n2,r2,hl2,e2⟩:=I.lstM hB;have hsz:JY.toArray.size + its2.toArray.size<=sizeLine:=by rw [Kv,Kv];omega
 have IA:¬(!JY.toArray.isEmpty && Mw (JY.toArray.size + its2.toArray.size))=true:=by rw [ua hsz,Of];exact Lu
 refine Rr Rb ⟨_,e,rfl⟩ QT (QC _ _)
  (AutoSeq1.list_extend_list_list_0 l JY.toArray n b its2.toArray n2 IA (by rw [Kv];omega) (by omega)) ⟨e,e2,?_⟩
 refine ⟨.non,_,I.lset (its':=JY++its2) hH e (by simp) (r.append r2) ?_,rfl,q⟩;rw [Ko];omega
noncomputable def GV:V->List V->Hp->VK->Prop:=λx vs H Q=>∃l xs y,x=.ref l/\vs=[]/\H l=some (.lst xs)/\xs[xs.length - 1]?=some y/\Q y (upd H l (.lst xs.dropLast))
theorem Ex:Be X "list.pop" GV:=by
 intro JW s σ H x vs v us Q I rx rv h;obtain ⟨l,xs,y,rfl,rfl,hH,hy,q⟩:=h;cases rx;have JP:=rv.zero;subst JP;obtain ⟨z,JY,n,r,hl,e⟩:=I.lstM hH;obtain ⟨u,hu,ru⟩:=r.get hy;have hy':JY.toArray[JY.toArray.size - 1]?=some u:=by show JY.toArray[JY.length - 1]?=some u;rw [<-Ni,<-hl];exact hu
 refine Rr F.slot_list_pop ⟨_,e,rfl⟩ F.entry_list_pop (F.args_list_pop_1 _) (MeetsSeq.list_pop_last l JY.toArray n u hy' (by rw [Kv];omega)) ⟨e,?_⟩;refine ⟨y,_,I.lset (its':=JY.dropLast) hH e ?_ r.dropLast ?_,ru,q⟩
 ·show JY.toArray.eraseIdxIfInBounds (JY.toArray.size - 1)=JY.dropLast.toArray;rw [Kv,List.eraseIdxIfInBounds_toArray,w_]
 ·rw [List.length_dropLast];omega
noncomputable def GS:R2:=λx y H Q=>∃l b xs zs,x=.ref l/\y=.ref b/\H l=some (.lst xs)/\H b=some (.lst zs)/\xs.length + zs.length<=sizeLine/\∀p,H p=none->Q (.ref p) (upd H p (.lst (xs++zs)))
theorem ED:dI X (NP .Add) GS:=by
 intro JW s σ H x y v u Q I rx ry h;obtain ⟨l,b,xs,zs,rfl,rfl,hH,hB,hz,q⟩:=h;cases rx;cases ry;obtain ⟨z,JY,n,r,hl,e⟩:=I.lstM hH;obtain ⟨z2,its2,n2,r2,hl2,e2⟩:=I.lstM hB;refine PySem.P.add_list e e2 ?_ (by rw [Kv,Kv];omega);have ea:JY.toArray++its2.toArray=(JY++its2).toArray:=by simp
 rw [ea];exact ⟨.ref _,_,I.lnew (t':=s.toks) (r.append r2) (by rw [Ko];omega),rfl,q _ I.fresh⟩
end
end L2
namespace Att
open PySem PySem.W PySem.Calls PyProof.Rows
theorem oQ:∀(ns:List Int) (vs:List Kg),WellAll P h vs (ns.map Uz)->S8 vs ns:=by
 intro ns
 induction ns with
 | nil=>
  intro vs w;rw [Tp] at w;cases w;exact .nil
 | cons n ns ih=>
  intro vs w;rw [LN] at w;cases w with
  | cons a b=>
   cases a;exact .cons _ _ (ih _ b)
theorem zE {l:OpenLaw}(hn:l.most=some n){h:L7}
 (hpre:l.row.toRowW.claim.pre args=true) (hwl:WellAll P h vals args):
  ∃a vs ns,vals=[Ti a]/\args=[WData.list (ns.map Uz)]/\h.get? a=some {cls:=.type "list",data:=.seq vs.toArray}/\S8 vs ns/\ns.length<=n:=by
 have hsh:WShape.hasAll [] args [.list .int]=true:=(pre_splitW hpre).1;have hc:l.pre.holds [] {args:=args}=true:=(pre_splitW hpre).2;obtain ⟨d,r,rfl,h1,h2⟩:=hasAllW_cons hsh;obtain rfl:=hasAllW_nil h2;obtain ⟨xs,rfl,h3⟩:=hasW_list h1;obtain ⟨ns,rfl⟩:=items_int h3;have hlen:ns.length<=n:=by
  unfold OpenLaw.pre at hc;have h4:(WTm.not (.lt (.lit (.int (n:Int))) (.len (.arg 0)))).holds [] {args:=[.list (ns.map .int)]}=true:=by have h4:=(holds_andW hc).1;rw [hn] at h4;exact h4
  have h5:=condW_of h4 (w_not (w_lt w_lit (w_len_list (w_arg rfl))));rw [Km] at h5;refine Nat.le_of_not_lt λq=>?_;have q':(n:Int) < ((ns.length:Nat):Int):=by omega
  first
   | (rw [decide_eq_true q'] at h5;exact absurd h5 (by decide))
   | (simp at h5;omega)
 cases hwl with
 | cons w1 w2=>
  cases w2;cases w1 with
  | list ho hall=>exact ⟨_,_,ns,rfl,rfl,ho,oQ ns _ hall,hlen⟩
theorem zu (l:OpenLaw) (args:List WData):l.row.toRowW.claim.post args (.bool true) args=true:=
 postW_of (r:=l.row.toRowW) (X:=(true == true))
  (show Ur [] (.bool true) .bool=true by first | rfl | decide | simp [Ur,WShape.arms,WShape.armsAll])
  (show (WTm.eq .res (.lit (.bool true))).value [] {args:=args,res:=some (.bool true),after:=args}=some (.bool (true == true)) from w_eq_bool (w_res rfl) w_lit) rfl
theorem uH {l:OpenLaw}{XP:(Str->Option Kg)->L7->Prop}{YP:K5->L7->Prop}{d:DefRec}
 (hn:l.most=some n) (hdf:d.params.defaults=[])
 (call:∀(w:K5) (s₀ s₁:Kh) (mg mb:Str->Option Kg) (fa:KJ) (o:Obj) (pm cd doc:Kg) (a:KJ) (vs:List Kg) (ns:List Int),
 Ground q loose [] XP w s₀ mg mb s₁.heap->YP w s₁.heap->
 s₁.heap.get? fa=some o->o.data=.func (docDef d.name d.params d.body d.scope pm cd doc)->s₁.heap.CodeRec cd d.name->mg d.name=some (.ref fa)->
 s₁.heap.get? a=some {cls:=.type "list",data:=.seq vs.toArray}->S8 vs ns->ns.length<=n->s₁.gens=#[]->
 Mb (KS l.prog w) Rt (.call (.ref fa) ⟨[.ref a],[]⟩) (λr s'=>r=.ok (.ret (.bool true))/\OldK s₁.heap s'.heap/\s'.os=s₁.os/\P0 s'.gens) s₁):
  WalkO q loose XP YP l.row.toRowW d [] (λf vs=>SH f vs):=by intro w s₀ s₁ mg mb G Y fa o pm cd doc dV kV ho hd hcd hD hmg hg args vals as hpre hlay hrd hwl hlo;obtain rfl:dV=.none:=Dflts.none hD hdf;obtain rfl:kV=.none:=Dflts.noKw hD;obtain ⟨a,vs,ns,rfl,rfl,hobj,hints,hlen⟩:=zE hn hpre hwl;refine enter_call (Nh (call w s₀ s₁ mg mb fa o pm cd doc a vs ns G Y ho (fd_plain hd) hcd hmg hobj hints hlen hg) λr s' hq=>?_);obtain ⟨rfl,h2,h3,h4⟩:=hq;exact ⟨.inl ⟨.bool true,.bool true,[],rfl,λ_=>rfl,.bool true,zu l _,λ_=>⟨N8,λ_ hm=>(nomatch hm)⟩⟩,h2,h3,h4⟩
end Att
namespace L2
open PySem PySem.Spec PyProof.Rows
theorem qX:∀{vs:List Kg}{ns:List Int},S8 vs ns->Vals (ns.map V.int) vs
 | _,_,.nil=>.nil
 | _,_,.cons n t h=>.cons ⟨t,rfl⟩ (qX h)
noncomputable def wJ (H:Hp):Prop:=∀b,H b=none\/∃o xs,H b=some (.frz o (.lst xs))
theorem AA {K:Ke}{mg mb:Str->Option Kg}{sp:Sp}{s₁:Kh}{vs:List Kg}{ns:List Int}
 (KX:K.In s₁.heap) (hns:s₁.heap.Ns KW mg) (hb:s₁.heap.Ns Sz mb) (JD:∀x:Str,x≠"__name__"->mb x=Lm x) (hlim:s₁.heap.NoLimit) (hg:s₁.gens=#[])
 (ha:s₁.heap.get? a=some {cls:=.type "list",data:=.seq vs.toArray}) (hi:S8 vs ns) (hl:ns.length<=sizeLine) (hr:dg k Rt)
 (F:∀base:L7,K.In base->base.Ns KW mg->gA P w K mg base CX k fa fd [x] sp) (hbind:∀(s:Kh) (u:Kg),R3 s fd ⟨[u],[]⟩ [(x,u)])
 (IC:∀H:Hp,wJ H->bV K H a (ns.map V.int)->sp [.ref a] H (λv _=>v=.bl true) λ_ _ _=>False)
 (IX:∀H e s',CX [] H s₁ (λ_ _ _=>False) e s'->False):
  Mb (KS P w) Rt (.call (.ref fa) ⟨[.ref a],[]⟩) (λr s'=>r=.ok (.ret (.bool true))/\OldK s₁.heap s'.heap/\s'.os=s₁.os/\P0 s'.gens) s₁:=by
 have rv:=qX hi;have lenV:=hi.length;have core:∀H:Hp,wJ H->bV K H a (ns.map V.int)->fB P w H s₁.heap->(∀b,H b≠none->b=a)->(H a≠none->K.lookup a=none)->
   Mb (KS P w) Rt (.call (.ref fa) ⟨[.ref a],[]⟩) (λr s'=>r=.ok (.ret (.bool true))/\OldK s₁.heap s'.heap/\s'.os=s₁.os/\P0 s'.gens) s₁:=by
  intro H hO hS hok hA hK;have base_of:∀{b:KJ}{o:Obj},s₁.heap.get? b=some o->H b=none->(j6 s₁.heap H).get? b=some o:=λe n=>Aq e n;have noA:∀{b:KJ}{o:Obj}{es:Array P9}{ep:Nat},s₁.heap.get? b=some o->o.data=.dict es ep->H b=none:=fun {b o es ep} e d=>by
   cases q:H b with
   | none=>rfl
   | some u=>
    have e':b=a:=hA b (by rw [q];simp);subst e';rw [ha] at e;cases e;have d':Data.seq vs.toArray _=Data.dict es ep:=d;cases d'
  have nsK:∀{b:KJ}{m:Str->Option Kg},s₁.heap.Ns b m->(j6 s₁.heap H).Ns b m:=fun {b m} ⟨o,es,ep,e,d,r⟩=>⟨o,es,ep,base_of e (noA e d),d,r⟩;have Jm:K.In (j6 s₁.heap H):=λb o e=>base_of (KX b o e) (by
   cases q:H b with
   | none=>rfl
   | some u=>
    have e':b=a:=hA b (by rw [q];simp);subst e';rw [hK (by rw [q];simp)] at e;cases e)
  have hM:Mod K mg (j6 s₁.heap H):=⟨Jm,nsK hns,⟨mb,nsK hb,JD⟩,let ⟨mc,h1,h2⟩:=hlim;⟨mc,nsK h1,h2⟩⟩;have e0:wB P w K mg (j6 s₁.heap H) Rt [] s₁ H:=⟨rfl,hM,λb o e=>Ct e,Tq (yR _ _),trivial,λb hb=>absurd (show b∈([]:List KJ) from hb) (by simp),hok,.of_eq hg⟩;refine Nh ((F _ Jm (nsK hns)).run Rt [] s₁ H ⟨[.ref a],[]⟩ [.ref a] [.ref a] _ _ hr e0 (hbind s₁ (.ref a)) (.cons rfl .nil) (IC H hO hS)) λr s' h=>?_;cases r with
  | error e=>exact (IX H e s' h).elim
  | ok fl=>
   cases fl with
   | next=>exact Nm h
   | brk=>exact Nm h
   | cont=>exact Nm h
   | ret u=>
    obtain ⟨v,H',os,bare,un,Ji,r',q⟩:=h;have q':v=.bl true:=q;subst q';obtain rfl:u=OB true:=r';refine ⟨rfl,OldK.of_keep λb o e=>?_,os,bare⟩;cases q:H b with
    | none=>exact un.keep b o e q (by intro z;exact absurd (show b∈([]:List KJ) from z) (by simp)) (by simp)
    | some u=>
     rcases hO b with z | ⟨ob,xs,z⟩
     ·rw [q] at z;cases z
     ·have z2:=un.frzs b ob _ z;obtain ⟨e1,_⟩:=hok b _ z;obtain ⟨e2,_⟩:=Ji b _ z2;rw [e] at e1;cases e1;exact e2
 cases hk:K.lookup a with
 | some o=>
  have e:=KX a o hk;rw [ha] at e;cases e;refine core (λ_=>none) (λ_=>.inl rfl) (.inr ⟨_,vs.toArray,_,hk,rfl,rfl,rfl,by rw [Kv,lenV];exact hl,by simpa using rv⟩) (λb u z=>by have z':(none:Option HO)=some u:=z;cases z') (λb z=>absurd rfl z) λz=>absurd rfl z
 | none=>
  refine core (λb=>if b=a then some (.frz {cls:=.type "list",data:=.seq vs.toArray} (.lst (ns.map V.int))) else none) (λb=>?_) (.inl (.inr ⟨{cls:=.type "list",data:=.seq vs.toArray},if_pos rfl⟩)) (λb u z=>?_) (λb z=>?_) λ_=>hk
  ·by_cases hb:b=a
   ·exact .inr ⟨_,_,if_pos hb⟩
   ·exact .inl (if_neg hb)
  ·by_cases hb:b=a
   ·have z':=(if_pos hb).symm.trans z;cases z';subst hb;exact ⟨ha,by rw [Km];exact hl,vs,_,rv,ha⟩
   ·have z':=(if_neg hb).symm.trans z;cases z'
  ·by_cases hb:b=a
   ·exact hb
   ·exact absurd (if_neg hb) z
noncomputable abbrev HJ {K:Ke}{h:L7}(_:K.In h):Ke:=K
theorem Dq {l:P_}{XP:(Str->Option Kg)->L7->Prop}{YP:K5->L7->Prop}{d:DefRec}{K:Um->Ke}{CX:K5->qh}{sp:K5->Sp}
 (hn:l.most=some n) (hn2:n<=sizeLine) (hdf:d.params.defaults=[]) (hr:dg k Rt)
 (hY:∀(w:K5) (h:L7),YP w h->(K w.params).In h)
 (F:∀(w:K5) (mg:Str->Option Kg) (fa:KJ) (h:L7),(K w.params).In h->h.Ns KW mg->mg d.name=some (.ref fa)->
 ∃fd:K7,(∀(s:Kh) (u:Kg),R3 s fd ⟨[u],[]⟩ [(x,u)])/\
 ∀base:L7,(K w.params).In base->base.Ns KW mg->gA l.prog w (K w.params) mg base (CX w) k fa fd [x] (sp w))
 (IC:∀(w:K5) (H:Hp) (a:KJ) (ns:List Int),ns.length<=n->wJ H->bV (K w.params) H a (ns.map V.int)->sp w [.ref a] H (λv _=>v=.bl true) λ_ _ _=>False)
 (IX:∀(w:K5) (H:Hp) (s:Kh) (e:Kg) (s':Kh),CX w [] H s (λ_ _ _=>False) e s'->False):
  S9 q loose XP YP l.row.toRowW d [] (λf vs=>SH f vs):=by refine Att.uH hn hdf λw s₀ s₁ mg mb fa o pm cd doc a vs ns G Y ho hd hcd hmg hobj hints hlen hg=>?_;have KX:=hY w _ Y;obtain ⟨fd,hb,hF⟩:=F w mg fa _ KX G.T.g hmg;exact AA KX G.T.g G.T.b G.T.builtins G.T.nolimit hg hobj hints (Lg hlen hn2) hr hF hb (λH hO hS=>IC w H a ns hlen hO hS) λH e s'=>IX w H s₁ e s'
noncomputable def dO (s:Nc):Arguments:=match s with
 | .FunctionDef _ a _ _ _ _ _ _ _ _=>a
 | _=>{posonlyargs:=[],args:=[],vararg:=none,kwonlyargs:=[],kw_defaults:=[],kwarg:=none,defaults:=[]}
noncomputable def bQ (s:Nc):List Nc:=match s with
 | .FunctionDef _ _ b _ _ _ _ _ _ _=>b
 | _=>[]
noncomputable def aT (s:Nc):M5:=match s with
 | .FunctionDef _ _ _ _ _ _ sc _ _ _=>sc
 | _=>{kind:=.function,names:=[],isGenerator:=false,isCoroutine:=false}
noncomputable abbrev jx:qh:=λ_ _ _ _ _ _=>False
noncomputable abbrev E0:XK:=λ_ _ _=>False
theorem FY:Passes jx X E0:=λ_ _ _ _ _ _ _ h=>h.elim
structure gP (K:Ke) (x J_:Str) (st:Nc) (f:KJ) (fd:K7):Prop where
 ex:∃(oc:Kg) (od:Option KJ) (kV doc pm:Kg) (an:Option KJ) (cdv ct:Kg) (osl:Array (Option Kg)),
  fd=LR x J_ (dO st) (bQ st) (aT st) .none kV doc pm an cdv ct/\K.lookup f=some ⟨oc,od,.func fd,osl⟩/\Oe K cdv J_=true
 kp:Na K (.ref f)=true
section
variable {P:KL}{w:K5}{K:Ke}{mg:Str->Option Kg}{base:L7}
theorem gP.ok {st:Nc}{N ps:List Str}{sp:Sp}(F:gP K x J_ st f fd) (S:c7 N ps (aT st)) (len:∀vs H Q E,sp vs H Q E->vs.length=ps.length)
 (hbody:∀(cdv:Kg) (A:Lh) (outer:List Env) (s:Kh) (H:Hp) (vs:List V) (Q:VK) (E:XK),dg k (A.deeper (OG J_ (aT st) s.heap.objs.size f cdv))->sp vs H Q E->
 ∃t,g9 (nG jx P w K mg base N J_ (aT st) f cdv A outer s H E).nox (bQ st) t/\t {nx:=λ_ H'=>Q .non H',rt:=Q} (start N vs) H):gA P w K mg base jx (k + 1) f fd ps sp:=by obtain ⟨oc,od,kV,doc,pm,an,cdv,ct,osl,rfl,lk,hcd⟩:=F.ex;refine FJ lk hcd S len λA outer s H vs Q E hr IC=>?_;obtain ⟨t,h,q⟩:=hbody cdv A outer s H vs Q E hr IC;exact ⟨t,h.nox,q⟩
theorem gP.binds {st:Nc}{ps:List Str}(F:gP K x J_ st f fd)
 (h:∀(kV doc pm:Kg) (an:Option KJ) (cdv ct:Kg) (us:List Kg),us.length=ps.length->Qx (LR x J_ (dO st) (bQ st) (aT st) .none kV doc pm an cdv ct) ⟨us,[]⟩=pure (ps.zip us)):Binds K fd ps []:=by obtain ⟨oc,od,kV,doc,pm,an,cdv,ct,osl,rfl,lk,hcd⟩:=F.ex;exact .all (h kV doc pm an cdv ct)
theorem yQ {st:Nc}{kV doc pm cdv ct:Kg}(l:K.lookup f=some ⟨oc,od,.func (LR x J_ (dO st) (bQ st) (aT st) .none kV doc pm an cdv ct),osl⟩)
 (c:Oe K cdv J_=true) (k:Na K (.ref f)=true):gP K x J_ st f (LR x J_ (dO st) (bQ st) (aT st) .none kV doc pm an cdv ct):=⟨⟨oc,od,kV,doc,pm,an,cdv,ct,osl,rfl,l,c⟩,k⟩
end
theorem Ei {A B:Prop}(h:B):if false=true then A else B:=by rw [if_neg Lu];exact h
theorem Ej {A B:Prop}(h:A):if true=true then A else B:=by rw [if_pos rfl];exact h
noncomputable def aP (H H':Hp):Prop:=∀b o,H b=some o->H' b=some o
theorem aP.refl (H:Hp):aP H H:=λ_ _ h=>h
theorem aP.trans {H H1 H2:Hp}(a:aP H H1) (b:aP H1 H2):aP H H2:=λc o h=>b c o (a c o h)
theorem aP.free {H H':Hp}(e:aP H H') (h:H' l=T_):H l=T_:=by
 cases q:H l with
 | none=>rfl
 | some o=>
  rw [e l o q] at h;cases h
theorem aP.seq {K:Ke}{H H':Hp}{a:KJ}{xs:List V}(e:aP H H') (h:bV K H a xs):bV K H' a xs:=by
 rcases h with (h | ⟨o,h⟩) | h
 ·exact .inl (.inl (e _ _ h))
 ·exact .inl (.inr ⟨o,e _ _ h⟩)
 ·exact .inr h
end L2
set_option maxHeartbeats 4000000
namespace K12
open PySem
noncomputable def top (i:Nat):Nc:=LD.main.body.getD i (.Pass ⟨0,0,0,0⟩)
end K12
namespace K12
open PySem PySem.Spec PyProof.Rows L2
noncomputable abbrev E (P:Um) (k:Str) (t:Nat) (v:Kg):P9:=⟨Lv P k,.str k t,v⟩
noncomputable abbrev cG (P:Um) (k:Str) (t r:Nat):P9:=E P k t (.ref r)
noncomputable def Gw (n:Str) (t l k a:Nat) (v w:Kg) (r u:Nat):Obj:=⟨.type "code",none,.fields #[.str n t,.str n (t + 1),.str "/claim/cut.py" (t + 2),.int l 0,.int k 0,.int 0 0,.int 0 0,.int 3 0,.ref a,.bool true,.int 181 0,.ref (a + 1),.none,v,w,.ref r,.int u 0,.int l 0,.str "/claim/cut.py" (u + 1)],#[]⟩
noncomputable def iw (n:Str) (t l k a u:Nat):Obj:=Gw n t l k a (.ref (a + 2)) (.ref (a + 3)) (a + 4) u
noncomputable def jF (n:Str) (t l k a u:Nat):Obj:=Gw n t l k a .none .none (a + 2) u
noncomputable def er (n:Str) (k:Nat) (m:Kg) (c:Nat):Obj:=⟨.type "function",none,.func (LR n n (dO (top k)) (bQ (top k)) (aT (top k)) .none .none .none m none (.ref c) .none),#[]⟩
noncomputable def iX:Kg:=.str "pickalike.sayings" 187
noncomputable def fE:Kg:=.str "law_pickalike_k12_depths_and_letters" 310
noncomputable def KF (P:Um):Ke:=
(nat_lit 2,⟨.none,none,(.dict #[] 0),#[]⟩)::
(nat_lit 3,⟨(.type "dict"),none,(.dict #[E P "__name__" 165 (.str "law_pickalike_k12_depths_and_letters" 310),E P "__doc__" 166 .none,E P "__package__" 167 .none,E P "__loader__" 168 (.builtin "__main__.__loader__#opaque"),E P "__spec__" 169 .none,cG P "__annotations__" 170 6,cG P "__builtins__" 171 4,E P "__file__" 173 (.str "/claim/cut.py" 172),E P "__cached__" 174 .none,cG P "LETTER_PLACES" 215 15,cG P "INNER_PLACES" 228 25,cG P "BINDERS" 232 26,cG P "letters_at" 238 31,cG P "within" 246 38,cG P "parts_of" 256 45,cG P "depth_behind" 262 50,cG P "depth_of" 269 57,cG P "letters_of" 275 62,cG P "free_from" 281 67,cG P "free_of" 287 72,cG P "is_plain" 293 77,cG P "is_spoken" 303 84,cG P "speaks" 309 89,cG P "_law_cell" 319 96,cG P "_law_names" 325 101,cG P "_law_tongue" 335 108,cG P "_law_letters" 341 113,cG P "_law_leaf" 352 120,cG P "_law_wrapped" 365 127,cG P "_law_joined" 371 132,cG P "_law_grown" 386 139,cG P "_law_within" 393 146,cG P "_law_binds" 400 153,cG P "_law_all" 409 160,cG P "_law_deep" 418 167,cG P "_law_own" 425 174,cG P "_law_free" 431 179,cG P "_law_listed" 437 184,cG P "_law_truth" 445 191,cG P "_law_other_tongue" 453 198,cG P "law" 459 203] 41),#[]⟩)::
(nat_lit 15,⟨(.type "dict"),none,(.dict #[cG P "mark" 189 16,cG P "arrow" 191 17,cG P "same" 194 18,cG P "not" 197 19,cG P "and" 198 20,cG P "or" 199 21,cG P "some" 200 22,cG P "every" 202 23,cG P "least" 204 24] 9),#[]⟩)::
(nat_lit 16,⟨(.type "tuple"),none,(.seq #[(.int 2 190)] 0),#[]⟩)::
(nat_lit 17,⟨(.type "tuple"),none,(.seq #[(.int 2 192),(.int 3 193)] 0),#[]⟩)::
(nat_lit 18,⟨(.type "tuple"),none,(.seq #[(.int 1 195),(.int 2 196)] 0),#[]⟩)::
(nat_lit 19,⟨(.type "tuple"),none,(.seq #[] 0),#[]⟩)::
(nat_lit 20,⟨(.type "tuple"),none,(.seq #[] 0),#[]⟩)::
(nat_lit 21,⟨(.type "tuple"),none,(.seq #[] 0),#[]⟩)::
(nat_lit 22,⟨(.type "tuple"),none,(.seq #[(.int 1 201)] 0),#[]⟩)::
(nat_lit 23,⟨(.type "tuple"),none,(.seq #[(.int 1 203)] 0),#[]⟩)::
(nat_lit 24,⟨(.type "tuple"),none,(.seq #[(.int 2 205)] 0),#[]⟩)::
(nat_lit 25,⟨(.type "dict"),none,(.dict #[E P "not" 216 (.int 1 217),E P "some" 218 (.int 2 219),E P "every" 220 (.int 2 221),E P "least" 222 (.int 3 223)] 4),#[]⟩)::
(nat_lit 26,⟨(.type "tuple"),none,(.seq #[(.str "some" 229),(.str "every" 230),(.str "least" 231)] 0),#[]⟩)::
(nat_lit 30,jF "letters_at" 233 5 1 27 236)::
(nat_lit 31,er "letters_at" 4 iX 30)::
(nat_lit 37,iw "within" 239 9 1 32 244)::
(nat_lit 38,er "within" 5 iX 37)::
(nat_lit 44,iw "parts_of" 247 16 1 39 254)::
(nat_lit 45,er "parts_of" 6 iX 44)::
(nat_lit 49,jF "depth_behind" 257 24 2 46 260)::
(nat_lit 50,er "depth_behind" 7 iX 49)::
(nat_lit 56,iw "depth_of" 263 31 1 51 267)::
(nat_lit 57,er "depth_of" 8 iX 56)::
(nat_lit 61,jF "letters_of" 270 33 1 58 273)::
(nat_lit 62,er "letters_of" 9 iX 61)::
(nat_lit 66,jF "free_from" 276 35 2 63 279)::
(nat_lit 67,er "free_from" 10 iX 66)::
(nat_lit 71,jF "free_of" 282 40 1 68 285)::
(nat_lit 72,er "free_of" 11 iX 71)::
(nat_lit 76,jF "is_plain" 288 42 1 73 291)::
(nat_lit 77,er "is_plain" 12 iX 76)::
(nat_lit 83,iw "is_spoken" 294 44 2 78 301)::
(nat_lit 84,er "is_spoken" 13 iX 83)::
(nat_lit 88,jF "speaks" 304 51 2 85 307)::
(nat_lit 89,er "speaks" 14 iX 88)::
(nat_lit 95,iw "_law_cell" 312 54 2 90 317)::
(nat_lit 96,er "_law_cell" 16 fE 95)::
(nat_lit 100,jF "_law_names" 320 58 2 97 323)::
(nat_lit 101,er "_law_names" 17 fE 100)::
(nat_lit 107,iw "_law_tongue" 326 75 1 102 333)::
(nat_lit 108,er "_law_tongue" 18 fE 107)::
(nat_lit 112,jF "_law_letters" 336 80 1 109 339)::
(nat_lit 113,er "_law_letters" 19 fE 112)::
(nat_lit 119,iw "_law_leaf" 342 82 3 114 350)::
(nat_lit 120,er "_law_leaf" 20 fE 119)::
(nat_lit 126,iw "_law_wrapped" 353 90 3 121 363)::
(nat_lit 127,er "_law_wrapped" 21 fE 126)::
(nat_lit 131,jF "_law_joined" 366 98 2 128 369)::
(nat_lit 132,er "_law_joined" 22 fE 131)::
(nat_lit 138,iw "_law_grown" 372 105 3 133 384)::
(nat_lit 139,er "_law_grown" 23 fE 138)::
(nat_lit 145,iw "_law_within" 387 121 1 140 391)::
(nat_lit 146,er "_law_within" 24 fE 145)::
(nat_lit 152,iw "_law_binds" 394 127 1 147 398)::
(nat_lit 153,er "_law_binds" 25 fE 152)::
(nat_lit 159,iw "_law_all" 401 129 1 154 407)::
(nat_lit 160,er "_law_all" 26 fE 159)::
(nat_lit 166,iw "_law_deep" 410 136 1 161 416)::
(nat_lit 167,er "_law_deep" 27 fE 166)::
(nat_lit 173,iw "_law_own" 419 141 1 168 423)::
(nat_lit 174,er "_law_own" 28 fE 173)::
(nat_lit 178,jF "_law_free" 426 147 2 175 429)::
(nat_lit 179,er "_law_free" 29 fE 178)::
(nat_lit 183,jF "_law_listed" 432 154 2 180 435)::
(nat_lit 184,er "_law_listed" 30 fE 183)::
(nat_lit 190,iw "_law_truth" 438 157 2 185 443)::
(nat_lit 191,er "_law_truth" 31 fE 190)::
(nat_lit 197,iw "_law_other_tongue" 446 159 2 192 451)::
(nat_lit 198,er "_law_other_tongue" 32 fE 197)::
(nat_lit 202,jF "law" 454 167 1 199 457)::
(nat_lit 203,er "law" 33 fE 202)::[]
noncomputable def VW:KL:={LD with main:={LD.main with body:=[top 1,top 2,top 3,top 4,top 5,top 6,top 7,top 8,top 9,top 10,top 11,top 12,top 13,top 14,top 16,top 17,top 18,top 19,top 20,top 21,top 22,top 23,top 24,top 25,top 26,top 27,top 28,top 29,top 30,top 31,top 32,top 33]}}
noncomputable def HK:W.Hook:=W.kHook KF [2,3,15,16,17,18,19,20,21,22,23,24,25,26,30,31,37,38,44,45,49,50,56,57,61,62,66,67,71,72,76,77,83,84,88,89,95,96,100,101,107,108,112,113,119,120,126,127,131,132,138,139,145,146,152,153,159,160,166,167,173,174,178,179,183,184,190,191,197,198,202,203] (λ_=>by kernel_rfl)
noncomputable def XT:Kh->Bool:=λs=>W.xlAt VW [] s && W.recOk (TR Ld.row.toRowW) s
theorem look:SI Ld=true:=by decide +kernel
theorem left:W.LeftO Ld.row.prog VW ["LETTER_PLACES","INNER_PLACES"] XT (Uw HK) (Ux HK) 2326:=Tg "special-get-raises" λw=>by kernel_rfl
end K12
namespace DX
open PySem PySem.Spec
open Sem (wp)
end DX
namespace DX
open PySem PySem.Spec
end DX
namespace DX
open PySem PySem.Spec PyProof.Rows L2
noncomputable def FF (a C:KJ) (dx:Option KJ):L7->Prop:=λh=>∃oe vs,h.get? a=some oe/\oe.cls=.ref C/\oe.dict=dx/\oe.data=.fields vs
noncomputable abbrev XO (a C:KJ) (dx:Option KJ):HO:=.ext (FF a C dx)
end DX
namespace DX
open PySem PySem.Spec PyProof.Rows
open Sem (wp)
section
variable {prog:KL}{w:K5}{A:Lh}{E:Kg->Kh->Prop}{s:Kh}{K:Ke}{x C:KJ}{ox:Obj}{od:Option Obj}{name:Str}
theorem Ab {M:SW}{Q:Unit->Kh->Prop}(X:K.In s.heap) (I:Nv s.heap x ox C od) (hm:Nn K C (.type "BaseException")=some true) (hq:Q () s):KH M A (Oq "BaseException.__getattribute__" ⟨[.ref x,nameV],[]⟩) Q E s:=by
 have hk:builtinKind "BaseException.__getattribute__"=some .slot:=by decide +kernel
 have IC:splitId "BaseException.__getattribute__"=some ("BaseException","__getattribute__"):=by decide +kernel
 have ha:=F.args_bexc_ga (.ref x) nameV;have L1:=I.type (M:=M);have L2:=W.looks_mroIn (M:=M) X hm;simp only [Oq,hk,IC];have L:W.Looks M s.heap (isInstance (.ref x) (.type "BaseException")) true:=L1.andThen L2;refine Kd (L.here ?_);obtain ⟨h,g,d,t,os⟩:=s
 repeat (any_goals (first | assumption | wp_step))
theorem entry_class {Q:Fin->Kh->Prop}(X:K.In s.heap) (I:Nv s.heap x ox C od) (hf:OJ K C od "__class__"=some (.bind (.builtin "getset_descriptor.__get__") (.builtin "object.__class__"))) (hm:Nn K C (.type "object")=some true) (h:Q (.done (.ret (.ref C))) s):
  KH (KS prog w) A (Ph.«object.__getattribute__» ⟨[.ref x,.str "__class__" tk],[]⟩) Q E s:=by obtain ⟨hh,g,d,t,os⟩:=s;have L0:=I.type (M:=KS prog w);have L1:=W.looks_find (M:=KS prog w) X I hf;refine Kd (Kf (Kd (Kf (Kd (L0.at (Kd (L1.at ?_)))))));show KH _ _ (holding [_] (call _ [_,.ref x,.ref C]) >>= ret) _ _ _;exact Kd (Lz (Qy (W.class_get (ox:=ox) (od:=od) X I hm (Kf h))))
theorem Eb {tk:Tok}{fill expr:Bool}{Q:Kg->Kh->Prop}(X:K.In s.heap) (I:Nv s.heap x ox C od) (hga:L_ K (.ref C) "__getattribute__"=some (some (.builtin "BaseException.__getattribute__"))) (hgt:L_ K (.ref C) "__getattr__"=some none)
  (h:Mb (KS prog w) A (.call (.builtin "BaseException.__getattribute__") ⟨[.ref x,.str name tk],[]⟩) (λr s'=>match r with | .ok (.ret v)=>KH (KS prog w) A (handedOut v) Q E s' | _=>False) s):KH (KS prog w) A (getAttrBy (.ref x) (.str name tk) fill expr) Q E s:=by
 obtain ⟨hh,g,d,t,os⟩:=s;have L0:=I.type (M:=KS prog w);have L1:=QE (M:=KS prog w) X hga;have L2:=QE (M:=KS prog w) X hgt;have JQ:(Rc "BaseException.__getattribute__" == Rc "object.__getattribute__")=false:=by decide +kernel
 unfold getAttrBy;refine Lz (Kd (L0.at (Kd (L1.at ?_))));dsimp only;rw [JQ,Of,if_neg (by decide)];unfold getAttrByItsOwn;refine Kd (L2.at ?_);have h0:(expr && onTheHeap (Rc "BaseException.__getattribute__"))=false:=by cases expr <;> rfl
 refine Kd (NT (Lz ?_));unfold callGetattribute;rw [h0,if_neg (by decide)];unfold boundAndCalled;rw [OL.ga.bind (.ref x)];refine Kd (Kf (Qy (Nh h λr s' q=>?_)))
 match r,q with
 | .ok (.ret v),q=>exact q
theorem get_class {Q:Option Kg->Kh->Prop}(X:K.In s.heap) (I:Nv s.heap x ox C od) (hga:L_ K (.ref C) "__getattribute__"=some (some (.builtin "BaseException.__getattribute__"))) (hgt:L_ K (.ref C) "__getattr__"=some none)
  (hm:Nn K C (.type "BaseException")=some true) (hf:OJ K C od "__class__"=some (.bind (.builtin "getset_descriptor.__get__") (.builtin "object.__class__"))) (ho:Nn K C (.type "object")=some true) (h:Q (some (.ref C)) {s with toks:=s.toks + 1}):
  KH (KS prog w) A (getAttr? (.ref x) "__class__") Q E s:=by obtain ⟨hp,g,d,t,os⟩:=s;unfold getAttr? getAttrBy?;refine Kd (wpAny_mkText (Kd (NT (Eb (s:=⟨hp,g,d,t + 1,os⟩) X I hga hgt ?_))));refine Ov OL.ga.plain F.entry_bexc_ga (Ab (s:=⟨hp,g,d,t + 1,os⟩) X I hm (entry_class (s:=⟨hp,g,d,t + 1,os⟩) X I hf ho ?_));exact Kf (Kf h)
end
end DX
namespace DX
open PySem PySem.Spec PyProof.Rows L2
noncomputable abbrev pF:List Kg:=[.type "ValueError",.type "Exception",.type "BaseException",.type "object"]
noncomputable def quiet:List Str:=["__init__","__setattr__","name","letter","many","told","point","row"]
noncomputable def Fi (es:Array P9):Bool:=es.toList.all λe=>match e.key with | .str _ _=>true | _=>false
theorem FU {K:Ke}(l:K.lookup N=some ⟨c,d,.dict es ep,sl⟩) (hk:Fi es=true){h:L7}(X:K.In h):h.Ns N (nsFind es):=by
 refine ⟨_,es,ep,X _ _ l,rfl,λe he=>?_,λ_=>rfl⟩;have:=LG.mp hk e (by simpa using he);cases q:e.key with
 | str n t=>exact ⟨n,t,rfl⟩
 | _=>rw [q] at this;cases this
structure GX (K:Ke) (P:KJ):Prop where
 gt:Pc K (.builtin "object.__class__") "__get__"=some (some (.builtin "getset_descriptor.__get__"))
 tk:Qa K (.builtin "object.__class__")=some true
 lk:∃nm q N bs sn sub ab col dd k0 k1 k2 k3 k5,K.lookup P=some (QU nm q P N bs pF true sn sub ab col dd k0 k1 k2 k3 k5 "ValueError.__new__")/\∀h,K.In h->∃m,h.Ns N m/\∀n∈quiet,m n=none
structure XE (K:Ke) (P C:KJ):Prop where
 lk:∃nm q N bs sn sub ab col dd k0 k1 k2 k3 k5,K.lookup C=some (QU nm q C N bs (.ref P::pF) true sn sub ab col dd k0 k1 k2 k3 k5 "ValueError.__new__")
 ga:L_ K (.ref C) "__getattribute__"=some (some (.builtin "BaseException.__getattribute__"))
 gt:L_ K (.ref C) "__getattr__"=some none
 cl:L_ K (.ref C) "__class__"=some (some (.builtin "object.__class__"))
section
variable {K:Ke}{P C:KJ}
theorem yE (X:XE K P C):∃cd,NU K C=some cd/\cd.mro=.ref C::.ref P::pF/\cd.hasDict=true/\W.typeIn K (.ref C)=some (.type "type"):=by
 obtain ⟨nm,q,N,bs,sn,sub,ab,col,dd,k0,k1,k2,k3,k5,l⟩:=X.lk;have h1:NU K C=some {name:=nm,bases:=bs,mro:=.ref C::.ref P::pF,ns:=N,qualname:=q,hasDict:=true,slotNames:=sn,subclasses:=sub,abstract:=ab,collection:=col,hasDel:=false}:=by unfold NU;rw [l]
 refine ⟨_,h1,rfl,rfl,?_⟩;show (K.lookup C).map (·.cls)=_;rw [l];rfl
theorem tX (X:XE K P C) (b:Kg):Nn K C b=some ((Ti C::.ref P::pF).contains b):=by obtain ⟨cd,h1,h2,_⟩:=yE X;unfold Nn;rw [h1,Pw,h2];rfl
end
theorem Es {K:Ke}{P C:KJ}(X:XE K P C){T:String}(h1:R6 T=true) (h2:pF.contains (.type T)=false):QM K (.ref C) (.type T)=some false:=by unfold QM W.kitCls;rw [if_neg (by simp)];simp only [h1,if_true];show Nn K C _=_;rw [tX X,Rf,Rf,h2];rfl
theorem B6 {K:Ke}{C:KJ}{od:Option Obj}{name:Str}{a g:Kg}(hc:(NU K C).isSome=true) (ha:L_ K (.ref C) name=some (some a)) (hg:Pc K a "__get__"=some (some g)) (ht:Qa K a=some true):OJ K C od name=some (.bind g a):=by obtain ⟨cd,hc⟩:=L8.mp hc;unfold OJ;rw [hc,Pw,ha,Pw];simp [hg,ht]
theorem Ay {K:Ke}{e P C:KJ}(G:GX K P) (E:XE K P C):W.KitX K (.ref e) (.ref C) (λh=>∃ox od,Nv h e ox C od):=by
 obtain ⟨cd,hc,hm,hd,ht⟩:=yE E;refine ⟨λM h _ ⟨ox,od,I⟩=>I.type,λM h X _=>?_,λh tp dd JY n sl X htp=>?_,λX ⟨ox,od,I⟩ k=>?_⟩
 ·unfold NU at hc;split at hc
  ·rename_i ho;intro A' Q' E' s' k q;unfold isType loadHead;exact Kd (wpAny_loadPart (k _ _ (X _ _ ho)) (Kf q))
  ·cases hc
 ·refine Ru.mpr λq=>?_;obtain rfl:C=tp:=UD (beq_iff_eq.mp q);unfold NU at hc;split at hc
  ·rename_i ho;have z:=(X _ _ ho).symm.trans htp;cases z
  ·cases hc
 ·exact get_class X I E.ga E.gt (by rw [tX E];simp) (B6 (by rw [hc];rfl) E.cl G.gt G.tk) (by rw [tX E];simp) k
end DX
namespace DL
open PySem PySem.Spec PyProof.Rows L2
inductive D where
 | non | bl (b:Bool) | int (i:Int) | str (x:Str) | tup (xs:List D) | lst (xs:List D) | emp
 | exn (cls:Str) (ns:List Str) (ds:List D)
  | dct (ks vs:List D)
mutual
noncomputable def isKey:D->Bool
 | .int _=>true
 | .tup xs=>areKeys xs
 | _=>false
noncomputable def areKeys:List D->Bool
 | []=>true
 | x::xs=>isKey x && areKeys xs
end
mutual
noncomputable def FO:D->Int
 | .int i=>hashInt i
 | .tup xs=>reduceHash (Sm (oN xs))
 | _=>0
noncomputable def oN:List D->List Int
 | []=>[]
 | x::xs=>FO x::oN xs
end
mutual
noncomputable def dep:D->Nat
 | .tup xs=>deps xs + 1
 | .lst xs=>deps xs + 1
 | .emp=>5000
 | .exn _ _ _=>5000
 | .dct _ _=>5000
 | _=>0
noncomputable def deps:List D->Nat
 | []=>0
 | x::xs=>max (dep x) (deps xs)
end
structure DB (ks:List D):Prop where
 key:areKeys ks=true
 nd:ks.Nodup
 dp:deps ks<=8
 tp:∀k∈ks,∃xs,k=.tup xs
noncomputable def DA (p:Int×V×V) (e:P9):Prop:=e.hash=p.1/\RelV p.2.1 e.key/\RelV p.2.2 e.val
noncomputable abbrev Bo (a:KJ) (ep:Nat) (Ka:List (Int×V×V)):HO:=.ext λh=>∃o es,h.get? a=some o/\o.ExactDict/\o.data=.dict es ep/\Q3 DA Ka es.toList
noncomputable def XF (J:Hp) (dx:Option KJ) (ns:List Str) (vs:List V):Prop:=(dx=none/\ns=[]/\vs=[])\/∃d,dx=some d/\ns.length=vs.length/\J d=some (.xd (ns.zip vs))
theorem XF.mono {J J':Hp}(e:aP J J') (h:XF J dx ns vs):XF J' dx ns vs:=by
 rcases h with h | ⟨d,h1,h2,h3⟩
 ·exact .inl h
 ·exact .inr ⟨d,h1,h2,e _ _ h3⟩
mutual
inductive Rep (K:Ke) (J:Hp):D->V->Prop
 | non:Rep K J .non .non
 | bl (b:Bool):Rep K J (.bl b) (.bl b)
 | int (i:Int):Rep K J (.int i) (.int i)
 | str (x:Str):Rep K J (.str x) (.str x)
 | emp {a:KJ}:J a=some (.dK [])->Rep K J .emp (.ref a)
 | tup {a:KJ}{vs:List V}{ds:List D}:eH K J a vs->aN K J ds vs->Rep K J (.tup ds) (.ref a)
 | lst {a:KJ}{vs:List V}{ds:List D}:bV K J a vs->aN K J ds vs->Rep K J (.lst ds) (.ref a)
 | exn {a C:KJ}{dx:Option KJ}{cls:Str}{ns:List Str}{vs:List V}{ds:List D}:J a=some (DX.XO a C dx)->K9 K KW cls=some (some (.ref C))->XF J dx ns vs->aN K J ds vs->(∃P,DX.GX K P/\DX.XE K P C)->Rep K J (.exn cls ns ds) (.ref a)
 | dct {a:KJ}{ep:Nat}{ks vs:List D}{us ws:List V}:J a=some (Bo a ep ((oN ks).zip (us.zip ws)))->aN K J ks us->aN K J vs ws->DB ks->(a == MT)=false/\ks.length=vs.length->Rep K J (.dct ks vs) (.ref a)
inductive aN (K:Ke) (J:Hp):List D->List V->Prop
 | nil:aN K J [] []
 | cons {d:D}{v:V}{ds:List D}{vs:List V}:Rep K J d v->aN K J ds vs->aN K J (d::ds) (v::vs)
end
theorem fK {K:Ke}{H H':Hp}{a:KJ}{xs:List V}(e:aP H H') (h:eH K H a xs):eH K H' a xs:=by
 rcases h with (h | ⟨o,h⟩) | h
 ·exact .inl (.inl (e _ _ h))
 ·exact .inl (.inr ⟨o,e _ _ h⟩)
 ·exact .inr h
mutual
theorem Rep.mono {K:Ke}{J J':Hp}(e:aP J J'):∀{d:D}{v:V},Rep K J d v->Rep K J' d v
 | _,_,.non=>.non
 | _,_,.bl b=>.bl b
 | _,_,.int i=>.int i
 | _,_,.str x=>.str x
 | _,_,.emp h=>.emp (e _ _ h)
 | _,_,.tup h hs=>.tup (fK e h) (aN.mono e hs)
 | _,_,.lst h hs=>.lst (e.seq h) (aN.mono e hs)
 | _,_,.exn h1 h2 h3 hs hx=>.exn (e _ _ h1) h2 (h3.mono e) (aN.mono e hs) hx
 | _,_,.dct h h1 h2 h3 h4=>.dct (e _ _ h) (aN.mono e h1) (aN.mono e h2) h3 h4
theorem aN.mono {K:Ke}{J J':Hp}(e:aP J J'):∀{ds:List D}{vs:List V},aN K J ds vs->aN K J' ds vs
 | _,_,.nil=>.nil
 | _,_,.cons h hs=>.cons (Rep.mono e h) (aN.mono e hs)
end
section
variable {K:Ke}{J:Hp}
theorem aN.length:∀{ds:List D}{vs:List V},aN K J ds vs->ds.length=vs.length
 | _,_,.nil=>rfl
 | _,_,.cons _ hs=>congrArg (· + 1) (aN.length hs)
theorem aN.get:∀{ds:List D}{vs:List V}{i:Nat}{d:D},aN K J ds vs->ds[i]?=some d->∃v,vs[i]?=some v/\Rep K J d v
 | _,_,_,_,.nil,e=>by simp at e
 | _,_,0,_,.cons r _,e=>by simp at e;subst e;exact ⟨_,rfl,r⟩
 | _,_,i + 1,d,.cons _ t,e=>by obtain ⟨v,h1,h2⟩:=aN.get (i:=i) (d:=d) t (by simpa using e);exact ⟨v,by simpa using h1,h2⟩
theorem aN.append:∀{ds es:List D}{vs us:List V},aN K J ds vs->aN K J es us->aN K J (ds++es) (vs++us)
 | _,_,_,_,.nil,s=>s
 | _,_,_,_,.cons r t,s=>.cons r (aN.append t s)
theorem aN.take:∀{ds:List D}{vs:List V}(n:Nat),aN K J ds vs->aN K J (ds.take n) (vs.take n)
 | _,_,0,_=>.nil
 | _,_,_ + 1,.nil=>.nil
 | _,_,n + 1,.cons r t=>.cons r (aN.take n t)
theorem aN.drop:∀{ds:List D}{vs:List V}(n:Nat),aN K J ds vs->aN K J (ds.drop n) (vs.drop n)
 | _,_,0,r=>r
 | _,_,_ + 1,.nil=>.nil
 | _,_,n + 1,.cons _ t=>aN.drop n t
end
noncomputable def fX (K:Ke) (J H:Hp) (a:KJ) (ks vs:List D):Prop:=∃us ws ep,H a=some (Bo a ep ((oN ks).zip (us.zip ws)))/\aN K J ks us/\aN K J vs ws/\DB ks/\(a == MT)=false/\ks.length=vs.length
theorem fX.mono {K:Ke}{J J' H H':Hp}{a:KJ}{ks vs:List D}(e:aP J J') (e':aP H H'):fX K J H a ks vs->fX K J' H' a ks vs
 | ⟨us,ws,ep,h1,h2,h3,h4⟩=>⟨us,ws,ep,e' _ _ h1,h2.mono e,h3.mono e,h4⟩
theorem fX.ne {K:Ke}{J H:Hp}{a:KJ}{ks vs:List D}:fX K J H a ks vs->H a≠none
 | ⟨us,ws,ep,h1,_⟩=>by rw [h1];intro z;cases z
theorem fX.rep {K:Ke}{J H:Hp}{a:KJ}{ks vs:List D}(e:aP J H):fX K J H a ks vs->Rep K H (.dct ks vs) (.ref a)
 | ⟨us,ws,ep,h1,h2,h3,h4,h5⟩=>.dct h1 (h2.mono e) (h3.mono e) h4 h5
noncomputable def NR (K:Ke) (J:Hp) (P:KJ->Prop):List D->List V->Prop
 | [],vs=>vs=[]
 | x::xs,vs=>∃ds b ws us,x=.lst ds/\vs=.ref b::us/\J b=some (.lst ws)/\aN K J ds ws/\P b/\V.ref b∉us/\NR K J P xs us
theorem NR.mono {K:Ke}{J J':Hp}{P P':KJ->Prop}(e:aP J J') (k:∀b,P b->P' b):∀{xs:List D}{vs:List V},NR K J P xs vs->NR K J' P' xs vs
 | [],_,h=>h
 | _::_,_,⟨ds,b,ws,us,h1,h2,h3,h4,h5,h6,h7⟩=>⟨ds,b,ws,us,h1,h2,e _ _ h3,h4.mono e,k b h5,h6,h7.mono e k⟩
theorem NR.reps {K:Ke}{J:Hp}{P:KJ->Prop}:∀{xs:List D}{vs:List V},NR K J P xs vs->aN K J xs vs
 | [],_,h=>by cases h;exact .nil
 | _::_,_,⟨ds,b,ws,us,h1,h2,h3,h4,h5,h6,h7⟩=>by subst h1;subst h2;exact .cons (.lst (.inl (.inl h3)) h4) h7.reps
theorem NR.mem {K:Ke}{J:Hp}{P:KJ->Prop}:∀{xs:List D}{vs:List V}{u:V},NR K J P xs vs->u∈vs->∃b ws,u=.ref b/\J b=some (.lst ws)/\P b
 | [],_,_,h,m=>by cases h;cases m
 | _::_,_,_,⟨ds,b,ws,us,h1,h2,h3,h4,h5,h6,h7⟩,m=>by
  subst h2;rcases KA.mp m with e | e
  ·exact ⟨b,ws,e,h3,h5⟩
  ·exact h7.mem e
structure Exc where
 cls:Str
 ns:List Str
 ds:List D
inductive M (α:Type) where
 | bad | ok (a:α) | exc (x:Exc)
noncomputable def M.bind {α β:Type}:M α->(α->M β)->M β
 | .bad,_=>.bad
 | .ok a,f=>f a
 | .exc x,_=>.exc x
instance:Monad M where
 pure:=M.ok
 bind:=M.bind
@[simp] theorem aG {α β:Type}(a:α) (f:α->M β):(M.ok a >>= f)=f a:=rfl
noncomputable def cA {α:Type}(m:M α) (Q:α->Prop) (T:Exc->Prop):Prop:=match m with
 | .bad=>False
 | .ok a=>Q a
 | .exc x=>T x
theorem aD {α β:Type}{m:M α}{f:α->M β}{Q:β->Prop}{T:Exc->Prop}(h:cA (m >>= f) Q T):cA m (λa=>cA (f a) Q T) T:=by
 cases m with
 | bad=>exact h
 | ok a=>exact h
 | exc x=>exact h
theorem az {α:Type}{m:M α}{Q Q':α->Prop}{T:Exc->Prop}(h:cA m Q T) (k:∀a,Q a->Q' a):cA m Q' T:=by
 cases m with
 | bad=>exact h
 | ok a=>exact k a h
 | exc x=>exact h
inductive Md where
 | fresh | own | bor
inductive R where
 | d (x:D) | l (m:Md) (xs:List D)
  | mo (ks vs:List D) | mb (ks vs:List D) | mf (ks vs:List D)
  | ln (xs:List D)
inductive S where
 | d (x:D) | own (xs:List D) | bor (xs:List D) | dk (ks vs:List D) | db (ks vs:List D)
  | fn (x:Str)
  | ow2 (xs:List D)
  | tn (xs:List D)
noncomputable abbrev Ev:=List (Option S)
inductive Mn where
 | inl (xs:List D) | inr (p:List D×List D) | nst (xs:List D)
noncomputable def mS:Mn->S
 | .inl xs=>.own xs
 | .inr p=>.dk p.1 p.2
 | .nst xs=>.ow2 xs
structure C where
 K:Ke
 H0:Hp
 J0:Hp
 T:Exc->Prop
structure HI (c:C) (J H:Hp):Prop where
 sub:aP J H
 ent:aP c.H0 H
 entJ:aP c.J0 J
 frz:∀a,c.H0 a≠none->c.J0 a=none->J a=none
structure Ext (J H J' H':Hp):Prop where
 h:aP H H'
 j:aP J J'
 sub:aP J' H'
 frz:∀a,H a≠none->J a=none->J' a=none
theorem aP.ne {H H':Hp}(e:aP H H') (h:H a≠none):H' a≠none:=by
 cases q:H a with
 | none=>exact absurd q h
 | some o=>rw [e a o q];intro z;cases z
theorem Ext.refl {J H:Hp}(h:aP J H):Ext J H J H:=⟨aP.refl H,aP.refl J,h,λ_ _ q=>q⟩
theorem Ext.trans {J H J1 H1 J2 H2:Hp}(a:Ext J H J1 H1) (b:Ext J1 H1 J2 H2):Ext J H J2 H2:=
 ⟨a.h.trans b.h,a.j.trans b.j,b.sub,λp h q=>b.frz p (aP.ne a.h h) (a.frz p h q)⟩
theorem HI.ext {J H J' H':Hp}(h:HI c J H) (e:Ext J H J' H'):HI c J' H':=
 ⟨e.sub,h.ent.trans e.h,h.entJ.trans e.j,λa h0 j0=>e.frz a (aP.ne h.ent h0) (h.frz a h0 j0)⟩
theorem b_ {H:Hp}(h:H p=none) (o:HO):aP H (upd H p o):=λb u q=>by rw [a_ (ez q h)];exact q
theorem Ext.new {J H:Hp}(h:aP J H) (e:H p=none) (o:HO):Ext J H J (upd H p o):=
 ⟨b_ e o,aP.refl J,λb u q=>b_ e o b u (h b u q),λ_ _ q=>q⟩
theorem Ext.newJ {J H:Hp}(h:aP J H) (e:H p=none) (o:HO):Ext J H (upd J p o) (upd H p o):=
 ⟨b_ e o,b_ (h.free e) o,λb u q=>by
  by_cases hb:b=p
  ·subst hb;rw [cj] at q ⊢;exact q
  ·rw [a_ hb] at q ⊢;exact h b u q,λa ha q=>by
  have:a≠p:=λz=>ha (z▸e);rw [a_ this];exact q⟩
noncomputable def nC (c:C) (J H:Hp):S->V->Prop
 | .d x,v=>Rep c.K J x v
 | .own xs,v=>∃a vs,v=.ref a/\H a=some (.lst vs)/\J a=none/\c.H0 a=none/\aN c.K J xs vs
 | .bor xs,v=>∃a vs,v=.ref a/\bV c.K c.H0 a vs/\aN c.K J xs vs
 | .dk ks vs,v=>∃a,v=.ref a/\fX c.K J H a ks vs/\J a=none/\c.H0 a=none
 | .db ks vs,v=>∃a,v=.ref a/\fX c.K J c.H0 a ks vs
 | .fn x,v=>∃f,v=.ref f/\K9 c.K KW x=some (some (.ref f))
 | .ow2 xs,v=>∃a vs,v=.ref a/\H a=some (.lst vs)/\J a=none/\c.H0 a=none/\NR c.K J (λb=>c.H0 b=none/\c.J0 b=none) xs vs
 | .tn xs,v=>∃a vs,v=.ref a/\eH c.K J a vs/\NR c.K J (λb=>c.H0 b=none/\c.J0 b=none) xs vs
theorem nC.ext {c:C}{J H J' H':Hp}(e:Ext J H J' H'):∀{x:S}{v:V},nC c J H x v->nC c J' H' x v
 | .d x,v,h=>Rep.mono e.j h
 | .own xs,v,⟨a,vs,h1,h2,h3,h4,h5⟩=>⟨a,vs,h1,e.h _ _ h2,e.frz a (by rw [h2];intro z;cases z) h3,h4,aN.mono e.j h5⟩
 | .bor xs,v,⟨a,vs,h1,h2,h3⟩=>⟨a,vs,h1,h2,aN.mono e.j h3⟩
 | .dk _ _,v,⟨a,h1,h2,h3,h4⟩=>⟨a,h1,h2.mono e.j e.h,e.frz a h2.ne h3,h4⟩
 | .db _ _,v,⟨a,h1,h2⟩=>⟨a,h1,h2.mono e.j (aP.refl _)⟩
 | .fn _,v,h=>h
 | .ow2 _,v,⟨a,vs,h1,h2,h3,h4,h5⟩=>⟨a,vs,h1,e.h _ _ h2,e.frz a (by rw [h2];intro z;cases z) h3,h4,h5.mono e.j λ_ h=>h⟩
 | .tn _,v,⟨a,vs,h1,h2,h3⟩=>⟨a,vs,h1,fK e.j h2,h3.mono e.j λ_ h=>h⟩
noncomputable def ji (H:Hp) (σ:L2.St) (i:Nat):List V:=match σ[i]? with
 | some (some (.ref p))=>(match H p with
  | some (.lst vs)=>vs
  | _=>[])
 | _=>[]
theorem iY {H:Hp}(h:σ[i]?=some (some (.ref p))) (h2:H p=some (.lst vs)):ji H σ i=vs:=by
 unfold ji;rw [h];show (match H p with
  | some (.lst vs)=>vs
  | _=>[])=vs
 rw [h2]
noncomputable def su (H:Hp) (σ:L2.St) (env:Ev):Prop:=∀(i j:Nat) (xs ys:List D),i≠j->env[i]?=some (some (.ow2 xs))->env[j]?=some (some (.ow2 ys))->∀u∈ji H σ i,u∉ji H σ j
theorem mH {H:Hp}{σ:L2.St}(h:k≠i):ji H (σ.set i v) k=ji H σ k:=by unfold ji;rw [K_ (Mz h)]
theorem su.by {H H':Hp}(h:su H σ env) (f:Nat->Nat) (hf:∀i j xs ys,i≠j->env'[i]?=some (some (.ow2 xs))->env'[j]?=some (some (.ow2 ys))->f i≠f j) (k:∀i xs,env'[i]?=some (some (.ow2 xs))->(∃xs',env[f i]?=some (some (.ow2 xs')))/\ji H' σ' i=ji H σ (f i)):su H' σ' env':=by intro i j xs ys hij h1 h2 u hu;obtain ⟨⟨xs',k1⟩,k2⟩:=k i xs h1;obtain ⟨⟨ys',k3⟩,k4⟩:=k j ys h2;rw [k4];rw [k2] at hu;exact h (f i) (f j) xs' ys' (hf i j xs ys hij h1 h2) k1 k3 u hu
theorem su.keep {H H':Hp}(h:su H σ env) (k:∀i xs,env'[i]?=some (some (.ow2 xs))->(∃xs',env[i]?=some (some (.ow2 xs')))/\ji H' σ' i=ji H σ i):su H' σ' env':=h.by id (λ_ _ _ _ h _ _=>h) k
structure SR (c:C) (J H:Hp) (σ:L2.St) (env:Ev):Prop where
 hp:HI c J H
 len:env.length=σ.length
 at_:∀(i:Nat) (x:S),env[i]?=some (some x)->∃v,σ[i]?=some (some v)/\nC c J H x v
 sep:∀(i j:Nat) (xs ys:Mn) (v:V),i≠j->env[i]?=some (some (mS xs))->env[j]?=some (some (mS ys))->σ[i]?=some (some v)->σ[j]?≠some (some v)
 sp2:su H σ env
theorem SR.nst {c:C}{J H:Hp}(h:SR c J H σ env) (q:env[i]?=some (some (.ow2 xs))):∃p vs,σ[i]?=some (some (.ref p))/\H p=some (.lst vs)/\J p=none/\c.H0 p=none/\NR c.K J (λb=>c.H0 b=none/\c.J0 b=none) xs vs/\ji H σ i=vs:=by obtain ⟨_,h1,p,vs,rfl,h2,h3⟩:=h.at_ i _ q;exact ⟨p,vs,h1,h2,h3.1,h3.2.1,h3.2.2,iY h1 h2⟩
theorem SR.ext {J H J' H':Hp}(h:SR c J H σ env) (e:Ext J H J' H'):SR c J' H' σ env:=
 ⟨h.hp.ext e,h.len,λi x q=>let ⟨v,q1,q2⟩:=h.at_ i x q;⟨v,q1,q2.ext e⟩,h.sep,h.sp2.keep λi xs q=>⟨⟨xs,q⟩,let ⟨_,_,h1,h2,_,_,_,h3⟩:=h.nst q;h3▸iY h1 (e.h _ _ h2)⟩⟩
theorem SR.mine {c:C}{J H:Hp}{σ:L2.St}{env:Ev}(sr:SR c J H σ env){i:Nat}:∀{x:Mn},env[i]?=some (some (mS x))->∃p,σ[i]?=some (some (.ref p))/\H p≠none/\J p=none/\c.H0 p=none
 | .inl xs,h=>let ⟨_,k1,p,vs,e,k2,k3,k4,_⟩:=sr.at_ i (.own xs) h;⟨p,e▸k1,by rw [k2];exact λz=>(by cases z),k3,k4⟩
 | .inr q,h=>let ⟨_,k1,p,e,k2,k3,k4⟩:=sr.at_ i (.dk q.1 q.2) h;⟨p,e▸k1,k2.ne,k3,k4⟩
 | .nst xs,h=>let ⟨p,vs,k1,k2,k3,k4,_⟩:=sr.nst h;⟨p,k1,by rw [k2];exact λz=>(by cases z),k3,k4⟩
noncomputable def RR (c:C) (He J H:Hp):R->V->Prop
 | .d x,v=>Rep c.K J x v
 | .l .fresh xs,v=>∃a vs,v=.ref a/\H a=some (.lst vs)/\J a=none/\He a=none/\aN c.K J xs vs
 | .l .own xs,v=>∃a vs,v=.ref a/\H a=some (.lst vs)/\J a=none/\c.H0 a=none/\aN c.K J xs vs
 | .l .bor xs,v=>∃a vs,v=.ref a/\bV c.K c.H0 a vs/\aN c.K J xs vs
 | .mo ks vs,v=>∃a,v=.ref a/\fX c.K J H a ks vs/\J a=none/\c.H0 a=none
 | .mb ks vs,v=>∃a,v=.ref a/\fX c.K J c.H0 a ks vs
 | .mf ks vs,v=>∃a,v=.ref a/\fX c.K J H a ks vs/\J a=none/\He a=none
 | .ln xs,v=>∃a vs,v=.ref a/\H a=some (.lst vs)/\J a=none/\He a=none/\NR c.K J (λb=>He b=none) xs vs
theorem RR.ext {c:C}{He J H J' H':Hp}(e:Ext J H J' H'):∀{x:R}{v:V},RR c He J H x v->RR c He J' H' x v
 | .d x,v,h=>Rep.mono e.j h
 | .l .fresh xs,v,⟨a,vs,h1,h2,h3,h4,h5⟩=>⟨a,vs,h1,e.h _ _ h2,e.frz a (by rw [h2];intro z;cases z) h3,h4,aN.mono e.j h5⟩
 | .l .own xs,v,⟨a,vs,h1,h2,h3,h4,h5⟩=>⟨a,vs,h1,e.h _ _ h2,e.frz a (by rw [h2];intro z;cases z) h3,h4,aN.mono e.j h5⟩
 | .l .bor xs,v,⟨a,vs,h1,h2,h3⟩=>⟨a,vs,h1,h2,aN.mono e.j h3⟩
 | .mo _ _,v,⟨a,h1,h2,h3,h4⟩=>⟨a,h1,h2.mono e.j e.h,e.frz a h2.ne h3,h4⟩
 | .mb _ _,v,⟨a,h1,h2⟩=>⟨a,h1,h2.mono e.j (aP.refl _)⟩
 | .mf _ _,v,⟨a,h1,h2,h3,h4⟩=>⟨a,h1,h2.mono e.j e.h,e.frz a h2.ne h3,h4⟩
 | .ln _,v,⟨a,vs,h1,h2,h3,h4,h5⟩=>⟨a,vs,h1,e.h _ _ h2,e.frz a (by rw [h2];intro z;cases z) h3,h4,h5.mono e.j λ_ h=>h⟩
theorem RR.from {c:C}{He He' J H:Hp}(e:aP He He'):∀{x:R}{v:V},RR c He' J H x v->RR c He J H x v
 | .d x,v,h=>h
 | .l .fresh xs,v,⟨a,vs,h1,h2,h3,h4,h5⟩=>⟨a,vs,h1,h2,h3,e.free h4,h5⟩
 | .l .own xs,v,h=>h
 | .l .bor xs,v,h=>h
 | .mo _ _,v,h=>h
 | .mb _ _,v,h=>h
 | .mf _ _,v,⟨a,h1,h2,h3,h4⟩=>⟨a,h1,h2,h3,e.free h4⟩
 | .ln _,v,⟨a,vs,h1,h2,h3,h4,h5⟩=>⟨a,vs,h1,h2,h3,e.free h4,h5.mono (aP.refl _) λ_ h=>e.free h⟩
noncomputable def gj:R->M (List D)
 | .d (.lst xs)=>.ok xs
 | .l _ xs=>.ok xs
 | _=>.bad
noncomputable def toD:R->M D
 | .d x=>.ok x
 | .l .fresh xs=>.ok (.lst xs)
 | .mf ks vs=>.ok (.dct ks vs)
 | .ln xs=>.ok (.lst xs)
 | _=>.bad
theorem RR.list {c:C}{He J H:Hp}(hp:HI c J H):∀{r:R}{v:V}{xs:List D},RR c He J H r v->gj r=.ok xs->∃a vs,v=.ref a/\bV c.K H a vs/\aN c.K J xs vs
 | .d (.lst ys),v,xs,h,e=>by
  cases e;cases h with
  | lst h hs=>exact ⟨_,_,rfl,hp.sub.seq h,hs⟩
 | .l .fresh ys,v,xs,⟨a,vs,h1,h2,h3,h4,h5⟩,e=>by cases e;exact ⟨a,vs,h1,bV.of h2,h5⟩
 | .l .own ys,v,xs,⟨a,vs,h1,h2,h3,h4,h5⟩,e=>by cases e;exact ⟨a,vs,h1,bV.of h2,h5⟩
 | .l .bor ys,v,xs,⟨a,vs,h1,h2,h3⟩,e=>by cases e;exact ⟨a,vs,h1,hp.ent.seq h2,h3⟩
 | .d .non,_,_,_,e=>nomatch e
 | .d (.bl _),_,_,_,e=>nomatch e
 | .d (.int _),_,_,_,e=>nomatch e
 | .d (.str _),_,_,_,e=>nomatch e
 | .d (.tup _),_,_,_,e=>nomatch e
 | .d .emp,_,_,_,e=>nomatch e
 | .d (.dct _ _),_,_,_,e=>nomatch e
 | .mo _ _,_,_,_,e=>nomatch e
 | .mb _ _,_,_,_,e=>nomatch e
 | .mf _ _,_,_,_,e=>nomatch e
 | .ln _,_,_,_,e=>nomatch e
theorem pT {Je He J H:Hp}(x:Ext Je He J H) (h2:H a=some o) (h3:J a=none) (h4:He a=none):Ext Je He (upd J a o) H:=by
 refine ⟨x.h,x.j.trans (b_ h3 _),λb u q=>?_,λb hb q=>?_⟩
 ·by_cases hb:b=a
  ·subst hb;rw [cj] at q;cases q;exact h2
  ·rw [a_ hb] at q;exact x.sub b u q
 ·have:b≠a:=λz=>hb (z▸h4);rw [a_ this];exact x.frz b hb q
theorem freeze {c:C}{Je He J H:Hp}(x:Ext Je He J H):∀{r:R}{v:V}{d:D},RR c He J H r v->toD r=.ok d->∃J',Ext Je He J' H/\aP J J'/\Rep c.K J' d v
 | .d y,v,d,h,e=>by cases e;exact ⟨J,x,aP.refl J,h⟩
 | .l .fresh ys,v,d,⟨a,vs,h1,h2,h3,h4,h5⟩,e=>by cases e;subst h1;exact ⟨_,pT x h2 h3 h4,b_ h3 _,.lst (.inl (.inl cj)) (aN.mono (b_ h3 _) h5)⟩
 | .mf ks vs,v,d,⟨a,h1,⟨us,ws,ep,h2,m1,m2,m3⟩,h3,h4⟩,e=>by cases e;subst h1;exact ⟨_,pT x h2 h3 h4,b_ h3 _,.dct cj (m1.mono (b_ h3 _)) (m2.mono (b_ h3 _)) m3.1 m3.2⟩
 | .ln ys,v,d,⟨a,vs,h1,h2,h3,h4,h5⟩,e=>by cases e;subst h1;exact ⟨_,pT x h2 h3 h4,b_ h3 _,.lst (.inl (.inl cj)) (h5.reps.mono (b_ h3 _))⟩
 | .l .own _,_,_,_,e=>nomatch e
 | .l .bor _,_,_,_,e=>nomatch e
 | .mo _ _,_,_,_,e=>nomatch e
 | .mb _ _,_,_,_,e=>nomatch e
noncomputable abbrev G (α:Type):=Ev->M α
noncomputable def tD (c:C) (g:G R):TE:=λσ H Q=>∃J env,SR c J H σ env/\cA (g env) (λr=>∀v J' H',Ext J H J' H'->RR c H J' H' r v->Q v H') c.T
noncomputable def PD (X:Cx) (c:C) (e:K8) (g:G R):Prop:=PE X e (tD c g)
noncomputable def tB (c:C) (g:G Bool):TT:=λσ H Q=>∃J env,SR c J H σ env/\cA (g env) (λb=>∀J' H',Ext J H J' H'->Q b H') c.T
noncomputable def PB (X:Cx) (c:C) (e:K8) (g:G Bool):Prop:=PT X e (tB c g)
noncomputable def iN (c:C) (He J H:Hp):List R->List V->Prop
 | [],vs=>vs=[]
 | r::rs,vs=>∃v us,vs=v::us/\RR c He J H r v/\iN c He J H rs us
noncomputable def tA (c:C) (g:G (List R)):TA:=λσ H Q=>∃J env,SR c J H σ env/\cA (g env) (λrs=>∀vs J' H',Ext J H J' H'->iN c H J' H' rs vs->Q vs H') c.T
noncomputable def Bg (X:Cx) (c:C) (es:List K8) (g:G (List R)):Prop:=PA X es (tA c g)
noncomputable def Hv (c:C) (g:G (List D)):TA:=λσ H Q=>∃J env,SR c J H σ env/\cA (g env) (λds=>∀vs J' H',Ext J H J' H'->aN c.K J' ds vs->Q vs H') c.T
noncomputable def Hl (X:Cx) (c:C) (es:List K8) (g:G (List D)):Prop:=PA X es (Hv c g)
inductive O where
 | nx (e:Ev) | rt (r:R) | bk (e:Ev) | ct (e:Ev)
noncomputable def RF (c:C) (J H:Hp):R->V->Prop
 | .d x,v=>Rep c.K J x v
 | .l _ xs,v=>∃a vs,v=.ref a/\H a=some (.lst vs)/\J a=none/\c.H0 a=none/\aN c.K J xs vs
 | .mf ks vs,v=>∃a,v=.ref a/\fX c.K J H a ks vs/\J a=none/\c.H0 a=none
 | .ln xs,v=>∃a vs,v=.ref a/\H a=some (.lst vs)/\J a=none/\c.H0 a=none/\NR c.K J (λb=>c.H0 b=none) xs vs
 | _,_=>False
noncomputable def oP (c:C) (J:Hp) (E:Ends):O->Prop
 | .nx e=>∀σ' J' H',aP J J'->SR c J' H' σ' e->E.nx σ' H'
 | .rt r=>∀v J' H',aP J J'->HI c J' H'->RF c J' H' r v->E.rt v H'
 | .bk e=>∀σ' J' H',aP J J'->SR c J' H' σ' e->E.bk σ' H'
 | .ct e=>∀σ' J' H',aP J J'->SR c J' H' σ' e->E.ct σ' H'
noncomputable def tS (c:C) (g:G O):TS:=λE σ H=>∃J env,SR c J H σ env/\cA (g env) (oP c J E) c.T
noncomputable def Gs (X:Cx) (c:C) (st:Nc) (g:G O):Prop:=PS X st (tS c g)
noncomputable def DC (X:Cx) (c:C) (st:List Nc) (g:G O):Prop:=g9 X st (tS c g)
theorem oP.mono {c:C}{J J1:Hp}{E:Ends}(e:aP J J1):∀{o:O},oP c J E o->oP c J1 E o
 | .nx _,h=>λσ' J' H' q r=>h σ' J' H' (e.trans q) r
 | .rt _,h=>λσ' J' H' q r=>h σ' J' H' (e.trans q) r
 | .bk _,h=>λσ' J' H' q r=>h σ' J' H' (e.trans q) r
 | .ct _,h=>λσ' J' H' q r=>h σ' J' H' (e.trans q) r
noncomputable def tW (c:C) (g:G O):TS:=λE σ H=>∃J env,SR c J H σ env/\cA (g env) (oP c c.J0 E) c.T
theorem Gj {g:G O}{E:Ends}{H:Hp}(h:tW c g E σ H):tS c g E σ H:=by obtain ⟨J,env,sr,w⟩:=h;exact ⟨J,env,sr,az w λo q=>q.mono sr.hp.entJ⟩
theorem eO {t t':TE}(h:PE X e t) (k:∀σ H Q,t' σ H Q->t σ H Q):PE X e t':=λJW s σ H Q I q=>h JW s σ H Q I (k σ H Q q)
theorem oY (h:PT X e t) (k:∀σ H Q,t' σ H Q->t σ H Q):PT X e t':=λJW s σ H Q I q=>h JW s σ H Q I (k σ H Q q)
theorem rV (h:PA X es t) (k:∀σ H Q,t' σ H Q->t σ H Q):PA X es t':=λpos JW s σ H Q I q=>h pos JW s σ H Q I (k σ H Q q)
theorem iC {st:Nc}{t t':TS}(h:PS X st t) (k:∀D σ H,t' D σ H->t D σ H):PS X st t':=λJW s σ H D I q=>h JW s σ H D I (k D σ H q)
theorem uh {st:List Nc}{t t':TS}(h:g9 X st t) (k:∀D σ H,t' D σ H->t D σ H):g9 X st t':=λJW s σ H D I q=>h JW s σ H D I (k D σ H q)
section
variable {X:Cx}{c:C}{e a b:K8}{ga gb:G R}{pos:Pos}
noncomputable def S.rd:S->M R
 | .d x=>.ok (.d x)
 | .own xs=>.ok (.l .own xs)
 | .bor xs=>.ok (.l .bor xs)
 | .dk ks vs=>.ok (.mo ks vs)
 | .db ks vs=>.ok (.mb ks vs)
 | .fn _=>.bad
 | .ow2 xs=>.ok (.l .own xs)
 | .tn xs=>.ok (.d (.tup xs))
noncomputable def af (i:Nat):G R:=λenv=>match env[i]? with
 | some (some x)=>x.rd
 | _=>.bad
theorem CC (h:PE X (.Name x pos) (Fl i)):PD X c (.Name x pos) (af i):=eO h λσ H Q ⟨J,env,sr,w⟩=>by
 unfold af at w;cases q:env[i]? with
 | none=>rw [q] at w;exact w.elim
 | some o=>
  cases o with
  | none=>rw [q] at w;exact w.elim
  | some x=>
   rw [q] at w;obtain ⟨v,h1,h2⟩:=sr.at_ i x q;refine ⟨v,h1,?_⟩;cases x with
   | fn _=>exact w.elim
   | ow2 _=>obtain ⟨a,vs,k1,k2,k3,k4,k5⟩:=h2;exact w v J H (Ext.refl sr.hp.sub) ⟨a,vs,k1,k2,k3,k4,k5.reps⟩
   | tn _=>obtain ⟨a,vs,rfl,k1,k2⟩:=h2;exact w (.ref a) J H (Ext.refl sr.hp.sub) (.tup k1 k2.reps)
   | _=>exact w v J H (Ext.refl sr.hp.sub) h2
noncomputable def gC (d:D):G R:=λ_=>.ok (.d d)
theorem rW (hr:∀J,Rep c.K J d v) (h:PE X e (tC v)):PD X c e (gC d):=eO h λσ H Q ⟨J,env,sr,w⟩=>w v J H (Ext.refl sr.hp.sub) (hr J)
noncomputable def BD (c:C) (r:R2) (f:R->R->M R):Prop:=∀(He He' J H:Hp) (x y:R) (u v:V) (Q:VK),HI c J H->RR c He J H x u->RR c He' J H y v->
 cA (f x y) (λz=>∀w J' H',Ext J H J' H'->RR c H J' H' z w->Q w H') c.T->r u v H Q
noncomputable def g2 (f:R->R->M R) (ga gb:G R):G R:=λenv=>ga env >>= λx=>gb env >>= λy=>f x y
theorem two {P:R->R->M R}{σ:L2.St}{H:Hp}{k:V->V->Hp->Prop}{Q:VK}{J:Hp}{env:Ev}(sr:SR c J H σ env)
  (w:cA (g2 P ga gb env) (λr=>∀v J' H',Ext J H J' H'->RR c H J' H' r v->Q v H') c.T)
  (hk:∀x y u v J2 H2,SR c J2 H2 σ env->Ext J H J2 H2->RR c H J2 H2 x u->RR c H J2 H2 y v->cA (P x y) (λz=>∀w J' H',Ext J2 H2 J' H'->RR c H2 J' H' z w->Q w H') c.T->k u v H2):
  tD c ga σ H λu H1=>tD c gb σ H1 λv H2=>k u v H2:=by refine ⟨J,env,sr,az (aD w) λx wx u J1 H1 e1 r1=>?_⟩;have sr1:=sr.ext e1;refine ⟨J1,env,sr1,az (aD wx) λy wy v J2 H2 e2 r2=>?_⟩;exact hk x y u v J2 H2 (sr1.ext e2) (e1.trans e2) (r1.ext e2) (RR.from e1.h r2) (az wy λz q w J' H' e3 r3=>q w J' H' ((e1.trans e2).trans e3) (RR.from (e1.h.trans e2.h) r3))
theorem AI {t:TE}{f:R->R->M R}(ht:PE X e t) (heq:t=zJ r (tD c ga) (tD c gb)) (hf:BD c r f):PD X c e (g2 f ga gb):=by subst heq;exact eO ht λσ H Q ⟨J,env,sr,w⟩=>two (k:=λu v H2=>r u v H2 Q) sr w λx y u v J2 H2 sr2 e2 r1 r2 q=>hf H H J2 H2 x y u v Q sr2.hp r1 r2 q
theorem ki {f:R->R->M R}(ho:dI X (NP op) r) (hf:BD c r f) (ha:PD X c a ga) (hb:PD X c b gb):PD X c (.BinOp a op b pos) (g2 f ga gb):=AI (F4 ho ha hb) rfl hf
theorem uf {f:R->R->M R}(ho:dI X (MU op) r) (hf:BD c r f) (ha:PD X c a ga) (hb:PD X c b gb) (hm:LK op b=false:=by first | exact t_ _ | rfl):PD X c (.Compare a [op] [b] pos) (g2 f ga gb):=AI (CH ho ha hb hm) rfl hf
theorem FZ {f:R->R->M R}(ho:kX X r) (hf:BD c r f) (ha:PD X c a ga) (hb:PD X c b gb) (hs:l7 b:=by exact λ_ _=>rfl):PD X c (.Subscript a b pos) (g2 f ga gb):=AI (Bx ho ha hb hs) rfl hf
theorem BD.or {r r':R2}{f f':R->R->M R}(p:R->R->Bool) (h:BD c r f) (h':BD c r' f'):BD c (λx y H Q=>r x y H Q\/r' x y H Q) (λx y=>if p x y then f x y else f' x y):=by
 intro He He' J H x y u v Q hp rx ry w;simp only at w;cases q:p x y with
 | true=>rw [q] at w;exact .inl (h He He' J H x y u v Q hp rx ry w)
 | false=>rw [q] at w;exact .inr (h' He He' J H x y u v Q hp rx ry w)
noncomputable def fI (C:Int->Int->Bool) (f:Int->Int->D):R->R->M R
 | .d (.int i),.d (.int j)=>if C i j then .ok (.d (f i j)) else .bad
 | _,_=>.bad
noncomputable def cJ (f:Int->Int->D):R->R->M R
 | .d (.int i),.d (.int j)=>.ok (.d (f i j))
 | _,_=>.bad
theorem wR {P:Int->Int->Prop}{Cb:Int->Int->Bool}{g:Int->Int->V}{f:Int->Int->D}(hC:∀i j,Cb i j=true->P i j) (hr:∀i j J,Rep c.K J (f i j) (g i j)):BD c (rI P g) (fI Cb f):=by
 intro He He' J H x y u v Q hp rx ry w;unfold fI at w;split at w
 ·cases rx;cases ry;rename_i i j;cases q:Cb i j with
  | true=>rw [q] at w;exact ⟨i,j,rfl,rfl,hC i j q,w _ J H (Ext.refl hp.sub) (hr i j J)⟩
  | false=>rw [q] at w;exact w.elim
 ·exact w.elim
theorem je {g:Int->Int->V}{f:Int->Int->D}(hr:∀i j J,Rep c.K J (f i j) (g i j)):BD c (qM g) (cJ f):=by
 intro He He' J H x y u v Q hp rx ry w;unfold cJ at w;split at w
 ·cases rx;cases ry;rename_i i j;exact ⟨i,j,rfl,rfl,w _ J H (Ext.refl hp.sub) (hr i j J)⟩
 ·exact w.elim
noncomputable def below (n:Nat) (j:Int):Bool:=Nat.blt j.natAbs n
theorem dJ:below n j=true↔-(n:Int) < j/\j < n:=by unfold below;rw [Nat.blt_eq];omega
noncomputable def xB (_ j:Int):Bool:=decide (0 < j) && below 1073741824 j
noncomputable def Em (_ j:Int):Bool:=decide (0 < j)
noncomputable def nL (i j:Int):Bool:=below 18446744073709551616 i || below 18446744073709551616 j
theorem Ci (h:nL i j=true):(-(2 ^ 64) < i/\i < 2 ^ 64)\/(-(2 ^ 64) < j/\j < 2 ^ 64):=by unfold nL at h;rw [MX] at h;exact h.imp dJ.mp dJ.mp
theorem Cg (h:xB i j=true):0 < j/\j < 1073741824:=by unfold xB at h;rw [KU] at h;exact ⟨of_decide_eq_true h.1,(dJ.mp h.2).2⟩
noncomputable def Aw (i j:Int):Bool:=decide (0<=j) && below 1000001 j && below 18446744073709551616 i
theorem Cj {i j:Int}(h:Aw i j=true):0<=j/\j<=1000000/\i.natAbs < 2 ^ 64:=by unfold Aw at h;rw [KU,KU] at h;have h2:=dJ.mp h.1.2;have h3:=dJ.mp h.2;exact ⟨of_decide_eq_true h.1.1,by omega,by omega⟩
noncomputable abbrev D3:R->R->M R:=cJ λi j=>.int (i + j)
noncomputable abbrev lB:R->R->M R:=cJ λi j=>.int (i - j)
noncomputable abbrev D6:R->R->M R:=fI nL λi j=>.int (i * j)
noncomputable abbrev cW:R->R->M R:=fI xB λi j=>.int (i / j)
noncomputable abbrev bw:R->R->M R:=fI Em λi j=>.int (i % j)
noncomputable abbrev xm:R->R->M R:=fI Aw λi j=>.int (i ^ j.toNat)
noncomputable def xg:R->R->M R
 | .d (.str i),.d (.str j)=>if i.length + j.length<=sizeLine then .ok (.d (.str (i++j))) else .bad
 | _,_=>.bad
theorem CZ {K:Ke}{J:Hp}{ds:List D}{vs:List V}{i:Int}{d:D}(h:aN K J ds vs) (e:iR ds i=some d):∃v,iR vs i=some v/\Rep K J d v:=by
 unfold iR at e ⊢;rw [h.length] at e;cases q:tH vs.length i with
 | none=>rw [q] at e;cases e
 | some j=>rw [q] at e;exact h.get e
theorem iK {f:List D->M R}{Q:R->Prop}{T:Exc->Prop}(w:cA (gj x >>= f) Q T):∃xs,gj x=.ok xs/\cA (f xs) Q T:=by
 cases q:gj x with
 | bad=>rw [q] at w;exact w.elim
 | ok xs=>rw [q] at w;exact ⟨xs,rfl,w⟩
 | exc z=>unfold gj at q;split at q <;> cases q
noncomputable def tF:R->Bool
 | .l .fresh _=>true
 | .l .own _=>true
 | _=>false
noncomputable def xh (x y:R):M R:=if tF x && tF y then gj x >>= λxs=>gj y >>= λys=>if xs.length + ys.length<=sizeLine then .ok (.l .fresh (xs++ys)) else .bad else .bad
theorem RR.made {He J H:Hp}:∀{r:R}{v:V},tF r=true->RR c He J H r v->∃a vs xs,gj r=.ok xs/\v=.ref a/\H a=some (.lst vs)/\aN c.K J xs vs
 | .l .fresh xs,v,_,⟨a,vs,h1,h2,h3,h4,h5⟩=>⟨a,vs,xs,rfl,h1,h2,h5⟩
 | .l .own xs,v,_,⟨a,vs,h1,h2,h3,h4,h5⟩=>⟨a,vs,xs,rfl,h1,h2,h5⟩
 | .l .bor _,_,e,_=>nomatch e
 | .mo _ _,_,e,_=>nomatch e
 | .mb _ _,_,e,_=>nomatch e
 | .mf _ _,_,e,_=>nomatch e
 | .ln _,_,e,_=>nomatch e
 | .d _,_,e,_=>nomatch e
theorem i8 {J H:Hp}(hp:HI c J H) (e:H p=none) (h:aN c.K J xs vs):RR c H J (upd H p (.lst vs)) (.l .fresh xs) (.ref p):=
 ⟨p,vs,rfl,cj,hp.sub.free e,e,h⟩
noncomputable def CD (c:C) (r:List V->Hp->VK->Prop) (f:List R->M R):Prop:=∀(He J H:Hp) (xs:List R) (vs:List V) (Q:VK),HI c J H->iN c He J H xs vs->
 cA (f xs) (λz=>∀w J' H',Ext J H J' H'->RR c H J' H' z w->Q w H') c.T->r vs H Q
noncomputable def gN (f:List R->M R) (gs:G (List R)):G R:=λenv=>gs env >>= f
theorem EJ {t:TE}{ta:TA}{r:List V->Hp->VK->Prop}{f:List R->M R}{gs:G (List R)}(ht:PE X e t) (heq:t=λσ H Q=>tA c gs σ H λvs H1=>r vs H1 Q) (hf:CD c r f):PD X c e (gN f gs):=by subst heq;refine eO ht λσ H Q ⟨J,env,sr,w⟩=>⟨J,env,sr,az (aD w) λrs w vs J1 H1 e1 r1=>?_⟩;exact hf H J1 H1 rs vs Q (sr.hp.ext e1) r1 (az w λz q v J' H' e2 r2=>q v J' H' (e1.trans e2) (RR.from e1.h r2))
noncomputable def ay:G (List R):=λ_=>.ok []
noncomputable def ai (g:G R) (gs:G (List R)):G (List R):=λenv=>g env >>= λx=>gs env >>= λxs=>.ok (x::xs)
theorem iN.from {He He' J H:Hp}(e:aP He He'):∀{xs:List R}{vs:List V},iN c He' J H xs vs->iN c He J H xs vs
 | [],_,h=>h
 | _::_,_,⟨v,us,h1,h2,h3⟩=>⟨v,us,h1,RR.from e h2,iN.from e h3⟩
theorem kh {id:String}{x:Str}{p:Pos}{es:List K8}{r:List V->Hp->VK->Prop}{f:List R->M R}{gs:G (List R)}(hc:dD X (.builtin id) r) (hf:CD c r f) (hv:Lm x=some (.builtin id)) (hm:X.mg x=none) (ha:Bg X c (e::es) gs)
  (hg:Gl X x:=by rfl) (hn:x≠"__name__":=by decide) (hdb:(x == ("__debug__":Str))=false:=by decide)
  (he:KC (e::es) X.env=(false,eval e X.env)::KC es X.env:=by rfl) (hpl:(MQ pos (KC es X.env)).any (·.1)=false:=by rfl):PD X c (.Call (.Name x p) (e::es) [] pos) (gN f gs):=
 EJ (ta:=A6) (nN hc hg hm hv ha hn hdb he hpl) rfl hf
theorem lN {r:List V->Hp->VK->Prop}{f:List R->M R}{gs:G (List R)}(hc:dD X (.type T) r) (hf:CD c r f) (hv:Lm x=some (.type T)) (hm:X.mg x=none) (ha:Bg X c (e::es) gs)
 (hg:Gl X x:=by rfl) (hn:x≠"__name__":=by decide) (hdb:(x == ("__debug__":Str))=false:=by decide)
 (he:KC (e::es) X.env=(false,eval e X.env)::KC es X.env:=by rfl) (hpl:(MQ pos (KC es X.env)).any (·.1)=false:=by rfl):PD X c (.Call (.Name x p) (e::es) [] pos) (gN f gs):=
 EJ (ta:=A6) (qH hc hg hm hv ha hn hdb he hpl) rfl hf
end
section
variable {X:Cx}{c:C}{e a b:K8}{es:List K8}{ga gb g:G R}{pos:Pos}
noncomputable def aO:G (List D):=λ_=>.ok []
noncomputable def ao (g:G R) (gs:G (List D)):G (List D):=λenv=>g env >>= λx=>toD x >>= λd=>gs env >>= λds=>.ok (d::ds)
theorem mQ {α:Type}{f:D->M α}{Q:α->Prop}{T:Exc->Prop}(w:cA (toD x >>= f) Q T):∃d,toD x=.ok d/\cA (f d) Q T:=by
 cases q:toD x with
 | bad=>rw [q] at w;exact w.elim
 | ok xs=>rw [q] at w;exact ⟨xs,rfl,w⟩
 | exc z=>unfold toD at q;split at q <;> cases q
noncomputable def cF (gs:G (List D)):G R:=λenv=>gs env >>= λds=>if ds.length<=sizeLine then .ok (.d (.tup ds)) else .bad
noncomputable def dB (gs:G (List D)):G R:=λenv=>gs env >>= λds=>if ds.length<=sizeLine then .ok (.l .fresh ds) else .bad
theorem lU {J H:Hp}(hp:HI c J H) (e:H p=none) (h:aN c.K J xs vs):Rep c.K (upd J p (.tup vs)) (.tup xs) (.ref p):=
 .tup (.inl (.inl cj)) (h.mono (b_ (hp.sub.free e) _))
noncomputable def gQ:R->M (List D)
 | .d (.tup xs)=>.ok xs
 | .d (.lst xs)=>.ok xs
 | .l _ xs=>.ok xs
 | _=>.bad
theorem jB {He J H:Hp}(hp:HI c J H):∀{r:R}{v:V}{xs:List D},RR c He J H r v->gQ r=.ok xs->∃a vs,v=.ref a/\(bV c.K H a vs\/eH c.K H a vs)/\aN c.K J xs vs
 | .d (.tup ys),v,xs,h,e=>by
  cases e;cases h with
  | tup h hs=>exact ⟨_,_,rfl,.inr (fK hp.sub h),hs⟩
 | .d (.lst ys),v,xs,h,e=>let ⟨a,vs,h1,h2,h3⟩:=RR.list hp h e;⟨a,vs,h1,.inl h2,h3⟩
 | .l m ys,v,xs,h,e=>let ⟨a,vs,h1,h2,h3⟩:=RR.list hp h e;⟨a,vs,h1,.inl h2,h3⟩
 | .d .non,_,_,_,e=>nomatch e
 | .d (.bl _),_,_,_,e=>nomatch e
 | .d (.int _),_,_,_,e=>nomatch e
 | .d (.str _),_,_,_,e=>nomatch e
 | .d .emp,_,_,_,e=>nomatch e
 | .d (.dct _ _),_,_,_,e=>nomatch e
theorem iL {α:Type}{f:List D->M α}{Q:α->Prop}{T:Exc->Prop}(w:cA (gQ x >>= f) Q T):∃xs,gQ x=.ok xs/\cA (f xs) Q T:=by
 cases q:gQ x with
 | bad=>rw [q] at w;exact w.elim
 | ok xs=>rw [q] at w;exact ⟨xs,rfl,w⟩
 | exc z=>unfold gQ at q;split at q <;> cases q
noncomputable def dG:List R->M R
 | [.d (.str z)]=>if z.length<=sizeLine then .ok (.d (.int z.length)) else .bad
 | [r]=>gQ r >>= λxs=>.ok (.d (.int xs.length))
 | _=>.bad
theorem iN.one {He J H:Hp}(h:iN c He J H [r] vs):∃v,vs=[v]/\RR c He J H r v:=by obtain ⟨v,us,rfl,h1,h2⟩:=h;cases h2;exact ⟨v,rfl,h1⟩
theorem iN.two {He J H:Hp}{r r':R}{vs:List V}(h:iN c He J H [r,r'] vs):∃v v',vs=[v,v']/\RR c He J H r v/\RR c He J H r' v':=by obtain ⟨v,us,rfl,h1,v2,us2,rfl,h2,h3⟩:=h;cases h3;exact ⟨v,v2,rfl,h1,h2⟩
noncomputable def jE:List R->M R
 | [r]=>gQ r >>= λxs=>.ok (.d (.tup xs))
 | _=>.bad
theorem uI:Lm "tuple"=some (.type "tuple"):=by decide +kernel
theorem wX:Lm "list"=some (.type "list"):=by decide +kernel
noncomputable def mz:List R->M R
 | [r]=>gQ r >>= λxs=>.ok (.l .fresh xs)
 | _=>.bad
noncomputable def aS (g:G R):G Bool:=λenv=>g env >>= λr=>match r with
 | .d (.bl k)=>.ok k
 | _=>.bad
theorem jL {f:R->R->M R}(ho:dI X (MU op) r) (hf:BD c r f) (ha:PD X c a ga) (hb:PD X c b gb) (hm:LK op b=false:=by first | exact t_ _ | rfl):PB X c (.Compare a [op] [b] pos) (aS (g2 f ga gb)):=
 oY (vV ho ha hb hm) λσ H Q ⟨J,env,sr,w⟩=>by
  have w2:=aD w;refine two (k:=λu v H2=>r u v H2 λz H3=>∃k,z=.bl k/\Q k H3) (Q:=λz H3=>∃k,z=.bl k/\Q k H3) sr (az w2 λr0 wr v J1 H1 e1 r1=>?_)
   λx y u v J2 H2 sr2 e2 r1 r2 q=>hf H H J2 H2 x y u v _ sr2.hp r1 r2 q
  split at wr
  ·cases r1;exact ⟨_,rfl,wr J1 H1 e1⟩
  ·exact wr.elim
noncomputable def bY (g h:G Bool):G Bool:=λenv=>g env >>= λk=>if k=true then h env else .ok false
noncomputable def bZ (g h:G Bool):G Bool:=λenv=>g env >>= λk=>if k=true then .ok true else h env
noncomputable def bH (g:G Bool):G Bool:=λenv=>g env >>= λk=>.ok (!k)
noncomputable def Ho (X:Cx) (c:C) (e:K8) (g:G Bool):Prop:=PW X e (tB c g)
variable {t u:G Bool}{rest:List K8}
theorem BC {X:Cx}{e:K8}{t t':TT}(h:PW X e t) (k:∀σ H Q,t' σ H Q->t σ H Q):PW X e t':=λwh JW s σ H Q I q=>h wh JW s σ H Q I (k σ H Q q)
noncomputable def bD (g h:G R):G R:=λenv=>g env >>= λr=>match r with
 | .d (.bl true)=>h env
 | .d (.bl false)=>.ok (.d (.bl false))
 | _=>.bad
noncomputable def lF (g h:G R):G R:=λenv=>g env >>= λr=>match r with
 | .d (.bl false)=>h env
 | .d (.bl true)=>.ok (.d (.bl true))
 | _=>.bad
noncomputable def cH (g:G R):G R:=λenv=>g env >>= λr=>match r with
 | .d (.bl k)=>.ok (.d (.bl (!k)))
 | _=>.bad
end
section
variable {X:Cx}{c:C}{e a b tg:K8}{es:List K8}{ga gb g:G R}{pos:Pos}{st:Nc}{rest:List Nc}{t u:G O}{tb:G Bool}
noncomputable def bB:G O:=λenv=>.ok (.nx env)
noncomputable def aB (t u:G O):G O:=λenv=>t env >>= λo=>match o with
 | .nx e=>u e
 | o=>.ok o
noncomputable def rF:R->M R
 | .d x=>.ok (.d x)
 | .l .fresh xs=>.ok (.l .fresh xs)
 | .l .own xs=>.ok (.l .fresh xs)
 | .l .bor _=>.bad
 | .mo ks vs=>.ok (.mf ks vs)
 | .mf ks vs=>.ok (.mf ks vs)
 | .mb _ _=>.bad
 | .ln xs=>.ok (.ln xs)
noncomputable def aL (g:G R):G O:=λenv=>g env >>= λr=>rF r >>= λr=>.ok (.rt r)
theorem RR.rf {J H J1 H1:Hp}(hp:HI c J H):∀{r r':R}{v:V},RR c H J1 H1 r v->rF r=.ok r'->RF c J1 H1 r' v
 | .d x,r',v,h,e=>by cases e;exact h
 | .l .fresh xs,r',v,⟨a,vs,h1,h2,h3,h4,h5⟩,e=>by cases e;exact ⟨a,vs,h1,h2,h3,hp.ent.free h4,h5⟩
 | .l .own xs,r',v,⟨a,vs,h1,h2,h3,h4,h5⟩,e=>by cases e;exact ⟨a,vs,h1,h2,h3,h4,h5⟩
 | .l .bor _,_,_,_,e=>nomatch e
 | .mo _ _,_,v,⟨a,h1,h2,h3,h4⟩,e=>by cases e;exact ⟨a,h1,h2,h3,h4⟩
 | .mb _ _,_,_,_,e=>nomatch e
 | .mf _ _,_,v,⟨a,h1,h2,h3,h4⟩,e=>by cases e;exact ⟨a,h1,h2,h3,hp.ent.free h4⟩
 | .ln _,_,v,⟨a,vs,h1,h2,h3,h4,h5⟩,e=>by cases e;exact ⟨a,vs,h1,h2,h3,hp.ent.free h4,h5.mono (aP.refl _) λ_ h=>hp.ent.free h⟩
noncomputable def aX (b:G Bool) (t u:G O):G O:=λenv=>b env >>= λk=>if k=true then t env else u env
noncomputable def toS:R->M S
 | .d x=>.ok (.d x)
 | .l .fresh xs=>.ok (.own xs)
 | .l .bor xs=>.ok (.bor xs)
 | .l .own _=>.bad
 | .mb ks vs=>.ok (.db ks vs)
 | .mf ks vs=>.ok (.dk ks vs)
 | .mo _ _=>.bad
 | .ln xs=>.ok (.ow2 xs)
theorem cZ {α:Type}{l:List (Option α)}{i j:Nat}{x y:α}(h:(l.set i (some x))[j]?=some (some y)):(j=i/\i < l.length/\y=x)\/(j≠i/\l[j]?=some (some y)):=by
 by_cases e:j=i
 ·subst e;have hj:j < l.length:=by have:=(KY.mp h).1;simpa using this
  rw [LC hj] at h;cases h;exact .inl ⟨rfl,hj,rfl⟩
 ·rw [K_ (Mz e)] at h;exact .inr ⟨e,h⟩
theorem SR.setD {J H:Hp}{σ:L2.St}{env:Ev}(sr:SR c J H σ env){i:Nat}{x:S}{v:V}(h:nC c J H x v) (hx:∀xs,x≠mS xs):SR c J H (σ.set i (some v)) (env.set i (some x)):=by
 refine ⟨sr.hp,by simpa using sr.len,λj y q=>?_,λj k xs ys w hjk q1 q2 q3 q4=>?_,sr.sp2.keep λk xs q=>?_⟩
 ·rcases cZ q with ⟨rfl,hl,rfl⟩ | ⟨hj,q⟩
  ·exact ⟨v,by rw [LC (by rw [<-sr.len];exact hl)],h⟩
  ·obtain ⟨w,h1,h2⟩:=sr.at_ j y q;exact ⟨w,by rw [K_ (Mz hj)];exact h1,h2⟩
 ·rcases cZ q1 with ⟨rfl,hl,e⟩ | ⟨hj,q1⟩
  ·exact hx xs e.symm
  ·rcases cZ q2 with ⟨rfl,hl,e⟩ | ⟨hk,q2⟩
   ·exact hx ys e.symm
   ·rw [K_ (Mz hj)] at q3;rw [K_ (Mz hk)] at q4;exact sr.sep j k xs ys w hjk q1 q2 q3 q4
 ·rcases cZ q with ⟨_,_,e⟩ | ⟨hk,q⟩
  ·exact (hx (.nst xs) e.symm).elim
  ·exact ⟨⟨xs,q⟩,mH hk⟩
theorem SR.setM {J He:Hp}{σ:L2.St}{env:Ev}(sr:SR c J He σ env){J1 H1:Hp}(e1:Ext J He J1 H1){i:Nat}{y:Mn}{p:KJ}(h3:He p=none) (h:nC c J1 H1 (mS y) (.ref p)) (hn:∀xs,y=.nst xs->∀vs,H1 p=some (.lst vs)->∀u∈vs,∃b,u=.ref b/\He b=none:=by exact λ_ z=>nomatch z):SR c J1 H1 (σ.set i (some (.ref p))) (env.set i (some (mS y))):=by
 have sr1:=sr.ext e1;have old:∀(j:Nat) (ys:Mn),env[j]?=some (some (mS ys))->σ[j]?≠some (some (.ref p)):=λj ys qj z=>by obtain ⟨a,k1,k2,_⟩:=sr.mine qj;rw [z] at k1;cases k1;exact k2 h3
 have new:∀(j:Nat) (xs ys:List D),i < env.length->j≠i->mS y=.ow2 xs->env[j]?=some (some (.ow2 ys))->∀u∈ji H1 (σ.set i (some (.ref p))) i,u∉ji H1 (σ.set i (some (.ref p))) j:=λj xs ys hl hj e q u hu hv=>by
  have hy:y=.nst xs:=by cases y <;> cases e;rfl
  subst hy;obtain ⟨_,vs,rfl',k2,_⟩:=h;cases rfl';rw [iY (LC (by rw [<-sr.len];exact hl)) k2] at hu;obtain ⟨b,rfl,hb⟩:=hn xs rfl vs k2 u hu;obtain ⟨p',ws,m1,m2,_,_,m3,m4⟩:=sr.nst q;rw [mH hj,iY m1 (e1.h _ _ m2)] at hv;obtain ⟨b',_,e',m5,_⟩:=m3.mem hv;cases e';rw [sr.hp.sub _ _ m5] at hb;cases hb
 refine ⟨sr1.hp,by simpa using sr.len,λj y q=>?_,λj k ys zs w hjk q1 q2 q3 q4=>?_,λj k ys zs hjk q1 q2 u hu=>?_⟩
 ·rcases cZ q with ⟨rfl,hl,rfl⟩ | ⟨hj,q⟩
  ·exact ⟨.ref p,by rw [LC (by rw [<-sr.len];exact hl)],h⟩
  ·obtain ⟨w,k1,k2⟩:=sr1.at_ j y q;exact ⟨w,by rw [K_ (Mz hj)];exact k1,k2⟩
 ·rcases cZ q1 with ⟨rfl,hl,e⟩ | ⟨hj,q1'⟩
  ·rcases cZ q2 with ⟨rfl,_,_⟩ | ⟨hk,q2⟩
   ·exact hjk rfl
   ·rw [LC (by rw [<-sr.len];exact hl)] at q3;cases q3;rw [K_ (Mz hk)] at q4;exact old k zs q2 q4
  ·rw [K_ (Mz hj)] at q3;rcases cZ q2 with ⟨rfl,hl,e⟩ | ⟨hk,q2⟩
   ·rw [LC (by rw [<-sr.len];exact hl)] at q4;cases q4;exact old j ys q1' q3
   ·rw [K_ (Mz hk)] at q4;exact sr.sep j k ys zs w hjk q1' q2 q3 q4
 ·rcases cZ q1 with ⟨rfl,hl,e⟩ | ⟨hj,q1'⟩
  ·rcases cZ q2 with ⟨rfl,_,_⟩ | ⟨hk,q2⟩
   ·exact (hjk rfl).elim
   ·exact new k ys zs hl hk e.symm q2 u hu
  ·rcases cZ q2 with ⟨rfl,hl,e⟩ | ⟨hk,q2⟩
   ·exact λhv=>new j zs ys hl hj e.symm q1' u hv hu
   ·rw [mH hj] at hu;rw [mH hk];exact sr1.sp2 j k ys zs hjk q1' q2 u hu
theorem SR.set {J He:Hp}{σ:L2.St}{env:Ev}(sr:SR c J He σ env){J1 H1:Hp}(e1:Ext J He J1 H1) (h:RR c He J1 H1 r v) (q:toS r=.ok x):SR c J1 H1 (σ.set i (some v)) (env.set i (some x)):=by
 have sr1:=sr.ext e1;cases r with
 | d y=>cases q;exact sr1.setD h (λx z=>by cases x <;> cases z)
 | mb _ _=>cases q;exact sr1.setD h (λx z=>by cases x <;> cases z)
 | mf ks vs=>cases q;obtain ⟨p,rfl,h1,h2,h3⟩:=h;exact sr.setM (y:=.inr (ks,vs)) e1 h3 ⟨p,rfl,h1,h2,sr.hp.ent.free h3⟩
 | mo _ _=>cases q
 | ln xs=>
  cases q;obtain ⟨p,vs,rfl,h1,h2,h3,h4⟩:=h;refine sr.setM (y:=.nst xs) e1 h3 ⟨p,vs,rfl,h1,h2,sr.hp.ent.free h3,h4.mono (aP.refl _) λb hb=>⟨sr.hp.ent.free hb,sr.hp.entJ.free (sr.hp.sub.free hb)⟩⟩ λ_ _ ws q u hu=>?_;rw [h1] at q;cases q;obtain ⟨b,_,e,_,hb⟩:=h4.mem hu;exact ⟨b,e,hb⟩
 | l m xs=>
  cases m with
  | own=>cases q
  | bor=>cases q;exact sr1.setD h (λx z=>by cases x <;> cases z)
  | fresh=>
   cases q;obtain ⟨p,vs,rfl,h1,h2,h3,h4⟩:=h;exact sr.setM (y:=.inl xs) e1 h3 ⟨p,vs,rfl,h1,h2,sr.hp.ent.free h3,h4⟩
theorem wm {α:Type}{f:S->M α}{Q:α->Prop}{T:Exc->Prop}(w:cA (toS x >>= f) Q T):∃d,toS x=.ok d/\cA (f d) Q T:=by
 cases q:toS x with
 | bad=>rw [q] at w;exact w.elim
 | ok xs=>rw [q] at w;exact ⟨xs,rfl,w⟩
 | exc z=>unfold toS at q;split at q <;> cases q
noncomputable def aU (i:Nat) (g:G R):G O:=λenv=>g env >>= λr=>toS r >>= λx=>.ok (.nx (env.set i (some x)))
noncomputable abbrev GT:=D->Ev->M Ev
noncomputable def KO (env:Ev) (σ:L2.St) (e:Ev) (σ':L2.St):Prop:=∀(j:Nat) (xs:Mn),e[j]?=some (some (mS xs))->env[j]?=some (some (mS xs))/\σ'[j]?=σ[j]?
theorem KO.refl:KO env σ env σ:=λ_ _ h=>⟨h,rfl⟩
theorem KO.trans (a:KO env σ e1 s1) (b:KO e1 s1 e2 s2):KO env σ e2 s2:=λj xs h=>by obtain ⟨h1,h2⟩:=b j xs h;obtain ⟨h3,h4⟩:=a j xs h1;exact ⟨h3,h2.trans h4⟩
noncomputable def tT (c:C) (g:GT):TG:=λv σ H Q=>∃J env d,SR c J H σ env/\Rep c.K J d v/\cA (g d env) (λe=>∀σ',SR c J H σ' e->KO env σ e σ'->Q σ' H) c.T
noncomputable def yf (X:Cx) (c:C) (tg:K8) (g:GT):Prop:=PG X tg (tT c g)
noncomputable abbrev nW:=List D->Ev->M Ev
noncomputable def HA (c:C) (g:nW):qq:=λvs σ H Q=>∃J env ds,SR c J H σ env/\aN c.K J ds vs/\cA (g ds env) (λe=>∀σ',SR c J H σ' e->KO env σ e σ'->Q σ' H) c.T
noncomputable def GF (X:Cx) (c:C) (tgs:List K8) (g:nW):Prop:=se X tgs (HA c g)
theorem BA {t t':TG}(h:PG X e t) (k:∀v σ H Q,t' v σ H Q->t v σ H Q):PG X e t':=λJW s σ H v u Q I r q=>h JW s σ H v u Q I r (k v σ H Q q)
theorem zl {X:Cx}{e:List K8}{t t':qq}(h:se X e t) (k:∀v σ H Q,t' v σ H Q->t v σ H Q):se X e t':=λJW s σ H vs us Q I r q=>h JW s σ H vs us Q I r (k vs σ H Q q)
noncomputable def aJ (i:Nat):GT:=λd env=>.ok (env.set i (some (.d d)))
noncomputable def xY:nW:=λds env=>match ds with
 | []=>.ok env
 | _=>.bad
noncomputable def jR (t:GT) (u:nW):nW:=λds env=>match ds with
 | d::r=>t d env >>= λe=>u r e
 | []=>.bad
noncomputable def rX (n:Nat) (u:nW):GT:=λd env=>match d with
 | .tup ds=>if ds.length=n then u ds env else .bad
 | _=>.bad
noncomputable def pU (t:GT) (g:G R):G O:=λenv=>g env >>= λr=>toD r >>= λd=>t d env >>= λe=>.ok (.nx e)
theorem Cz {t:GT}(h:PD X c e g) (ht:yf X c tg t)
  (hq:PS X (.Assign [tg] e pos) (A5 (tD c g) (tT c t))):Gs X c (.Assign [tg] e pos) (pU t g):=iC hq λE σ H ⟨J,env,sr,w⟩=>by refine ⟨J,env,sr,az (aD w) λr wr v J1 H1 e1 r1=>?_⟩;obtain ⟨d,q,wr⟩:=mQ wr;obtain ⟨J1',e1',s1,rd⟩:=freeze e1 r1 q;refine ⟨J1',env,d,sr.ext e1',rd,az (aD wr) λe2 w2 σ' sr' _=>?_⟩;exact w2 σ' J1' H1 e1'.j sr'
noncomputable def Walk (c:C) (It:It) (ds:List D) (J1:Hp) (U:Hp->Hp->Prop):Prop:=∀(i:Nat) (J H:Hp),HI c J H->U J H->
 (ds.length<=i->It.stop i H)/\∀d,ds[i]?=some d->It.go i H/\∀x H2,It.yld i H x H2->∃J2,Ext J H J2 H2/\Rep c.K J2 d x
noncomputable def tI (c:C) (g:G (List D)):TI:=λσ H Q=>∃J env,SR c J H σ env/\cA (g env) (λds=>∀It J1 H1,Ext J H J1 H1->Walk c It ds J1 (λJ' _=>aP J1 J')->Q It H1) c.T
noncomputable def Gv (X:Cx) (c:C) (tg J6:K8) (g:G (List D)):Prop:=PI X tg J6 (tI c g)
theorem oW {X:Cx}{tg it:K8}{t t':TI}(h:PI X tg it t) (k:∀σ H Q,t' σ H Q->t σ H Q):PI X tg it t':=λJW s σ H Q I q=>h JW s σ H Q I (k σ H Q q)
noncomputable def fJ (t:GT) (u:G O):List D->Ev->M O
 | [],env=>.ok (.nx env)
 | d::ds,env=>t d env >>= λe=>u e >>= λo=>match o with
  | .nx e=>fJ t u ds e
  | .ct e=>fJ t u ds e
  | .bk e=>.ok (.nx e)
  | .rt r=>.ok (.rt r)
noncomputable def gV (g:G (List D)) (t:GT) (u:G O):G O:=λenv=>g env >>= λds=>fJ t u ds env
noncomputable def HH (g:G R):G (List D):=λenv=>g env >>= λr=>match r with
 | .d (.tup xs)=>.ok xs
 | _=>.bad
theorem l6 {J1:Hp}{a:KJ}{vs:List V}{ds:List D}(h:bV c.K J1 a vs\/bV c.K c.H0 a vs) (hs:aN c.K J1 ds vs):Walk c (Ba c.K a) ds J1 (λJ' _=>aP J1 J'):=by intro i J H hp u;have h':bV c.K H a vs:=h.elim (λh=>hp.sub.seq (u.seq h)) λh=>hp.ent.seq h;refine ⟨λhl=>⟨vs,h',by rw [<-hs.length];exact hl⟩,λd hd=>?_⟩;obtain ⟨v,h1,h2⟩:=hs.get hd;refine ⟨⟨vs,v,h',h1⟩,λx H2 ⟨e,hy⟩=>?_⟩;subst e;have:=hy vs h';rw [h1] at this;cases this;exact ⟨J,Ext.refl hp.sub,h2.mono u⟩
noncomputable def eZ (lo:Int) (n:Nat):List D:=(Ky n).map λ(k:Nat)=>.int (lo + (k:Int))
theorem yb {J1:Hp}{lo:Int}{n:Nat}{Ut:Hp->Hp->Prop}:Walk c (Bb lo n) (eZ lo n) J1 Ut:=by
 intro i J H hp u;refine ⟨λhl=>(show n<=i by simpa [eZ] using hl),λd hd=>?_⟩;have hi:i < n:=by have:=(KY.mp hd).1;simpa [eZ] using this
 have hd':d=.int (lo + i):=by unfold eZ at hd;rw [KQ,OM hi] at hd;exact (Lp hd).symm
 subst hd';exact ⟨hi,λx H2 ⟨e,hx⟩=>by subst e hx;exact ⟨J,Ext.refl hp.sub,.int _⟩⟩
noncomputable def fk (gs:G (List R)):G (List D):=λenv=>gs env >>= λrs=>match rs with
 | [.d (.int j)]=>if below 4611686018427387904 j then .ok (eZ 0 j.toNat) else .bad
 | _=>.bad
noncomputable def Hx (c:C) (g:G (List D)):TI:=λσ H Q=>∃J env,SR c J H σ env/\cA (g env) (λds=>∀It J1 H1,Ext J H J1 H1->Walk c It ds J1 (λJ' H'=>aP J1 J'/\aP H1 H')->Q It H1) c.T
noncomputable def Gu (X:Cx) (c:C) (tg J6:K8) (g:G (List D)):Prop:=PI X tg J6 (Hx c g)
end
section
variable {X:Cx}{c:C}{e a b tg:K8}{es:List K8}{ga gb g:G R}{pos:Pos}
theorem SR.updM {J H:Hp}{σ:L2.St}{env:Ev}(sr:SR c J H σ env){i:Nat}{x y:Mn}{p:KJ}{o:HO}(hi:env[i]?=some (some (mS x))) (hs:σ[i]?=some (some (.ref p))) (hJ:J p=none) (h0:c.H0 p=none)
  (h:nC c J (L2.upd H p o) (mS y) (.ref p)) (hy:∀xs,y≠.nst xs:=by exact λ_ z=>nomatch z):SR c J (L2.upd H p o) σ (env.set i (some (mS y))):=by
 refine ⟨⟨λb o q=>?_,λb o q=>?_,sr.hp.entJ,sr.hp.frz⟩,by simpa using sr.len,λj y q=>?_,λj k ys zs w hjk q1 q2 q3 q4=>?_,sr.sp2.keep λk xs q=>?_⟩
 ·have:b≠p:=λz=>by rw [z,hJ] at q;cases q
  rw [a_ this];exact sr.hp.sub b o q
 ·have:b≠p:=λz=>by rw [z,h0] at q;cases q
  rw [a_ this];exact sr.hp.ent b o q
 ·rcases cZ q with ⟨rfl,hl,rfl⟩ | ⟨hj,q⟩
  ·exact ⟨.ref p,hs,h⟩
  ·obtain ⟨w,k1,k2⟩:=sr.at_ j y q;refine ⟨w,k1,?_⟩;have hne:∀(z:Mn) p',y=mS z->w=.ref p'->p'≠p:=λz p' e ew ep=>sr.sep i j x z (.ref p) (Mz hj) hi (e▸q) hs (ep▸ew▸k1);cases y with
   | d x=>exact k2
   | bor zs=>exact k2
   | db _ _=>exact k2
   | fn _=>exact k2
   | tn _=>exact k2
   | dk ks zs=>
    obtain ⟨p',rfl,⟨us,ws,ep,m1,mr⟩,m2⟩:=k2;exact ⟨p',rfl,⟨us,ws,ep,by rw [a_ (hne (.inr (ks,zs)) p' rfl rfl)];exact m1,mr⟩,m2⟩
   | own zs=>
    obtain ⟨p',us,rfl,m1,m2,m3,m4⟩:=k2;exact ⟨p',us,rfl,by rw [a_ (hne (.inl zs) p' rfl rfl)];exact m1,m2,m3,m4⟩
   | ow2 zs=>
    obtain ⟨p',us,rfl,m1,m2,m3,m4⟩:=k2;exact ⟨p',us,rfl,by rw [a_ (hne (.nst zs) p' rfl rfl)];exact m1,m2,m3,m4⟩
 ·have f:∀(k:Nat) (ys:Mn),(env.set i (some (mS y)))[k]?=some (some (mS ys))->∃ys',env[k]?=some (some (mS ys')):=λk ys q=>by
   rcases cZ q with ⟨rfl,_,_⟩ | ⟨_,q⟩
   ·exact ⟨x,hi⟩
   ·exact ⟨ys,q⟩
  obtain ⟨ys',r1⟩:=f j ys q1;obtain ⟨zs',r2⟩:=f k zs q2;exact sr.sep j k ys' zs' w hjk r1 r2 q3 q4
 ·rcases cZ q with ⟨rfl,_,e⟩ | ⟨hk,q⟩
  ·exact (hy xs (by cases y <;> cases e;rfl)).elim
  ·obtain ⟨p',vs,m1,m2,_,_,_,m3⟩:=sr.nst q;have hne:p'≠p:=λe=>sr.sep i k x (.nst xs) (.ref p) (Mz hk) hi q hs (e▸m1);exact ⟨⟨xs,q⟩,(iY m1 (by rw [a_ hne];exact m2)).trans m3.symm⟩
theorem SR.upd {J H:Hp}{env:Ev}(sr:SR c J H σ env) (hi:env[i]?=some (some (.own xs))) (hs:σ[i]?=some (some (.ref p))) (hH:H p=some (.lst vs)) (hJ:J p=none) (h0:c.H0 p=none)
 (h:aN c.K J xs' vs'):SR c J (L2.upd H p (.lst vs')) σ (env.set i (some (.own xs'))):=sr.updM (x:=.inl xs) (y:=.inl xs') hi hs hJ h0 ⟨p,vs',rfl,cj,hJ,h0,h⟩
noncomputable def gG (i:Nat) (g:G R):G O:=λenv=>match env[i]? with
 | some (some (.own xs))=>g env >>= λr=>toD r >>= λd=>if xs.length < sizeLine then .ok (.nx (env.set i (some (.own (xs++[d]))))) else .bad
 | _=>.bad
noncomputable def cU:R->S
 | .d x=>.d x
 | .l _ xs=>.bor xs
 | .mo ks vs=>.db ks vs
 | .mb ks vs=>.db ks vs
 | .mf ks vs=>.db ks vs
 | .ln xs=>.bor xs
noncomputable def jo (K:Ke) (J H:Hp):List S->List V->Prop
 | [],vs=>vs=[]
 | s::ss,vs=>∃v us,vs=v::us/\(match s with
  | .d x=>Rep K J x v
  | .bor xs=>∃a ws,v=.ref a/\bV K H a ws/\aN K J xs ws
  | .db ks ws=>∃a,v=.ref a/\fX K J H a ks ws
  | .fn x=>∃f,v=.ref f/\K9 K KW x=some (some (.ref f))
  | _=>False)/\jo K J H ss us
theorem jo.length {K:Ke}{J H:Hp}:∀{ss:List S}{vs:List V},jo K J H ss vs->vs.length=ss.length
 | [],_,h=>by cases h;rfl
 | _::_,_,⟨_,_,h,_,h2⟩=>by subst h;exact congrArg (· + 1) h2.length
theorem jo.get {K:Ke}{J H:Hp}:∀{ss:List S}{vs:List V}{i:Nat}{s:S},jo K J H ss vs->ss[i]?=some s->∃v,vs[i]?=some v/\(match s with
  | .d x=>Rep K J x v
  | .bor xs=>∃a ws,v=.ref a/\bV K H a ws/\aN K J xs ws
  | .db ks ws=>∃a,v=.ref a/\fX K J H a ks ws
  | .fn x=>∃f,v=.ref f/\K9 K KW x=some (some (.ref f))
  | _=>False)
 | [],_,_,_,_,e=>by simp at e
 | _::_,_,0,_,⟨v,us,h,h1,h2⟩,e=>by simp at e;subst e;subst h;exact ⟨v,rfl,h1⟩
 | _::_,_,i + 1,s,⟨v,us,h,h1,h2⟩,e=>by subst h;obtain ⟨v,k1,k2⟩:=jo.get (i:=i) (s:=s) h2 (by simpa using e);exact ⟨v,by simpa using k1,k2⟩
noncomputable def FR (K:Ke) (H J' H':Hp):R->V->Prop
 | .d x,v=>Rep K J' x v
 | .l _ xs,v=>∃a vs,v=.ref a/\H' a=some (.lst vs)/\J' a=none/\H a=none/\aN K J' xs vs
 | .mf ks vs,v=>∃a,v=.ref a/\fX K J' H' a ks vs/\J' a=none/\H a=none
 | .ln xs,v=>∃a vs,v=.ref a/\H' a=some (.lst vs)/\J' a=none/\H a=none/\NR K J' (λb=>H b=none) xs vs
 | _,_=>False
noncomputable def kU (K:Ke) (n:Nat) (F:List S->M R):Sp:=λvs H Q _=>∃J as,aP J H/\as.length=n/\jo K J H as vs/\cA (F as) (λr=>∀v J' H',Ext J H J' H'->FR K H J' H' r v->Q v H') (λ_=>False)
noncomputable def fin:M O->M R
 | .ok (.rt r)=>.ok r
 | .ok (.nx _)=>.ok (.d .non)
 | .exc x=>.exc x
 | _=>.bad
noncomputable def aF (N:List Str) (as:List S):Ev:=as.map some++K6 (N.length - as.length) none
theorem qV {N:List Str}{as:List S}{i:Nat}{x:S}(h:(aF N as)[i]?=some (some x)):as[i]?=some x:=by
 unfold aF at h;by_cases hi:i < as.length
 ·rw [Mh (by simpa using hi),KQ] at h;cases q:as[i]? with
  | none=>rw [q] at h;cases h
  | some y=>rw [q] at h;cases h;rfl
 ·rw [LO (by simpa using hi),NS] at h;split at h <;> cases h
theorem A4 {N:List Str}{vs:List V}{i:Nat}{v:V}(h:vs[i]?=some v):(L2.start N vs)[i]?=some (some v):=by unfold L2.start;have hi:i < vs.length:=(KY.mp h).1;rw [Mh (by simpa using hi),KQ,h];rfl
theorem A3 {K:Ke}{J H:Hp}{T:Exc->Prop}{N:List Str}{as:List S}{vs:List V}(hs:aP J H) (h:jo K J H as vs):SR ⟨K,H,J,T⟩ J H (L2.start N vs) (aF N as):=by
 have own:∀(i:Nat) (xs:Mn),(aF N as)[i]?≠some (some (mS xs)):=λi xs q=>by obtain ⟨v,_,k⟩:=h.get (qV q);cases xs <;> exact k
 refine ⟨⟨hs,aP.refl H,aP.refl J,λ_ _ q=>q⟩,?_,λi x q=>?_,λi j xs ys v _ q=>absurd q (own i xs),λi j xs ys _ q=>absurd q (own i (.nst xs))⟩
 ·unfold aF L2.start;rw [Ko,Ko,Km,Km,Li,Li,h.length]
 ·obtain ⟨v,k1,k2⟩:=h.get (qV q);refine ⟨v,A4 k1,?_⟩;cases x with
  | d y=>exact k2
  | own y=>exact k2.elim
  | bor y=>exact k2
  | dk _ _=>exact k2.elim
  | db _ _=>exact k2
  | fn _=>exact k2
  | ow2 _=>exact k2.elim
  | tn _=>exact k2.elim
noncomputable abbrev sV (P:KL) (w:K5) (K:Ke) (mg:Str->Option Kg) (base:L7) (N:List Str) (J_:Str) (sc:M5) (f:KJ) (cd:Kg) (A:Lh) (outer:List Env) (s:Kh) (H:Hp) (E:XK):Cx:=(nG jx P w K mg base N J_ sc f cd A outer s H E).nox
theorem D8 {P:KL}{w:K5}{K:Ke}{mg:Str->Option Kg}{base:L7}{x J_:Str}{st:Nc}{f:KJ}{fd:K7}{N ps:List Str}{k:Nat}{Fm:List S->M R}(F:gP K x J_ st f fd) (Sc:c7 N ps (aT st)){gB:G O}
  (hb:∀(cdv:Kg) (A:Lh) (outer:List Env) (s:Kh) (H:Hp) (E:XK) (J:Hp) (T:Exc->Prop),dg k (A.deeper (OG J_ (aT st) s.heap.objs.size f cdv))->
   g9 (sV P w K mg base N J_ (aT st) f cdv A outer s H E) (bQ st) (tW ⟨K,H,J,T⟩ gB))
  (hF:∀as r,as.length=ps.length->Fm as=.ok r->fin (gB (aF N as))=.ok r):gA P w K mg base jx (k + 1) f fd ps (kU K ps.length Fm):=by
 refine F.ok Sc (λvs H Q E h=>?_) (λcdv A outer s H vs Q E hr h=>?_)
 ·obtain ⟨J,as,h1,h2,h3,h4⟩:=h;rw [h3.length,h2]
 ·obtain ⟨J,as,h1,h2,h3,h4⟩:=h;refine ⟨_,hb cdv A outer s H E J (λ_=>False) hr,J,aF N as,A3 h1 h3,?_⟩;cases q:Fm as with
  | bad=>rw [q] at h4;exact h4.elim
  | exc x=>rw [q] at h4;exact h4.elim
  | ok r=>
   rw [q] at h4;have z:=hF as r h2 q;have ext:∀{J' H':Hp},HI ⟨K,H,J,λ_=>False⟩ J' H'->Ext J H J' H':=λhp=>⟨hp.ent,hp.entJ,hp.sub,hp.frz⟩;cases qg:gB (aF N as) with
   | bad=>rw [qg] at z;cases z
   | exc x=>rw [qg] at z;cases z
   | ok o=>
    rw [qg] at z;cases o with
    | bk _=>cases z
    | ct _=>cases z
    | nx env=>cases z;exact λσ' J' H' _ sr=>h4 .non J' H' (ext sr.hp) .non
    | rt r'=>
     cases z;exact λv J' H' _ hp rf=>h4 v J' H' (ext hp) (by
      cases r with
      | d x=>exact rf
      | l m xs=>exact rf
      | mo _ _=>exact rf
      | mf _ _=>exact rf
      | ln _=>exact rf
      | mb _ _=>exact rf)
theorem yN {P:KL}{w:K5}{K:Ke}{mg:Str->Option Kg}{base:L7}{x J_:Str}{st:Nc}{f:KJ}{fd:K7}{N ps:List Str}{k:Nat}{Fm:List S->M R}(F:gP K x J_ st f fd) (Sc:c7 N ps (aT st)){gB:G O}
  (hb:∀(cdv:Kg) (A:Lh) (outer:List Env) (s:Kh) (H:Hp) (E:XK) (J:Hp) (T:Exc->Prop),dg k (A.deeper (OG J_ (aT st) s.heap.objs.size f cdv))->
   DC (sV P w K mg base N J_ (aT st) f cdv A outer s H E) ⟨K,H,J,T⟩ (bQ st) gB)
  (hF:∀as r,as.length=ps.length->Fm as=.ok r->fin (gB (aF N as))=.ok r):gA P w K mg base jx (k + 1) f fd ps (kU K ps.length Fm):=D8 F Sc (λcdv A outer s H E J T hr=>uh (hb cdv A outer s H E J T hr) λ_ _ _ q=>Gj q) hF
noncomputable def dM:R->R
 | .d x=>.d x
 | .l _ xs=>.l .fresh xs
 | .mo ks vs=>.mo ks vs
 | .mb ks vs=>.mb ks vs
 | .mf ks vs=>.mf ks vs
 | .ln xs=>.ln xs
noncomputable def aC (n:Nat) (F:List S->M R):List R->M R:=λrs=>if rs.length=n then (match F (rs.map cU) with
 | .ok r=>.ok (dM r)
 | _=>.bad) else .bad
theorem iN.args {He J H:Hp}(hp:HI c J H):∀{rs:List R}{vs:List V},iN c He J H rs vs->jo c.K J H (rs.map cU) vs
 | [],_,h=>h
 | r::rs,_,⟨v,us,h,h1,h2⟩=>by
  refine ⟨v,us,h,?_,iN.args hp h2⟩;cases r with
  | d x=>exact h1
  | l m xs=>exact RR.list hp h1 rfl
  | mo _ _=>obtain ⟨a,h1,h2,_⟩:=h1;exact ⟨a,h1,h2⟩
  | mb _ _=>obtain ⟨a,h1,h2⟩:=h1;exact ⟨a,h1,h2.mono (aP.refl _) hp.ent⟩
  | mf _ _=>obtain ⟨a,h1,h2,_⟩:=h1;exact ⟨a,h1,h2⟩
  | ln _=>obtain ⟨a,vs,h1,h2,_,_,h5⟩:=h1;exact ⟨a,vs,h1,.inl (.inl h2),h5.reps⟩
theorem Gb {F:List S->M R}{J H J1 H1:Hp}{Q:VK}{as:List S}{T:Exc->Prop}(hT:c.K=X.K) (e1:Ext J H J1 H1) (ar:jo c.K J1 H1 as vs) (hl:as.length=n)
 (wr:cA (match F as with
 | .ok r=>.ok (dM r)
 | _=>.bad) (λr=>∀v J' H',Ext J H J' H'->RR c H J' H' r v->Q v H') T):kU X.K n F (vs++[]) H1 Q E0:=by
 rw [hT] at ar;refine ⟨J1,as,e1.sub,hl,by rw [Mc];exact ar,?_⟩;cases q:F as with
 | bad=>rw [q] at wr;exact wr
 | exc x=>rw [q] at wr;exact wr
 | ok r=>
  rw [q] at wr;intro v J' H' e2 fr;refine wr v J' H' (e1.trans e2) ?_;cases r with
  | d y=>exact (show Rep c.K J' y v from hT▸fr)
  | mo _ _=>exact fr.elim
  | mb _ _=>exact fr.elim
  | mf _ _=>obtain ⟨a,h1,h2,h3,h4⟩:=fr;exact ⟨a,h1,hT▸h2,h3,e1.h.free h4⟩
  | ln _=>obtain ⟨a,us,h1,h2,h3,h4,h5⟩:=fr;exact ⟨a,us,h1,h2,h3,e1.h.free h4,hT▸h5.mono (aP.refl _) λ_ h=>e1.h.free h⟩
  | l m ys=>
   obtain ⟨a,us,h1,h2,h3,h4,h5⟩:=fr;exact ⟨a,us,h1,h2,h3,e1.h.free h4,hT▸h5⟩
theorem Aa {n:Nat}{F:List S->M R}{gs:G (List R)}(hT:c.K=X.K):∀σ H Q,tD c (gN (aC n F) gs) σ H Q->BH (kU X.K n F) [] E0 (tA c gs) σ H Q:=λσ H Q ⟨J,env,sr,w⟩=>by
 refine ⟨J,env,sr,az (aD w) λrs wr vs J1 H1 e1 r1=>?_⟩;unfold aC at wr;split at wr
 ·rename_i hl;exact Gb hT e1 (r1.args (sr.hp.ext e1)) (by simpa using hl) wr
 ·exact wr.elim
theorem CA {F:List S->M R}{gs:G (List R)}(G:gA X.prog X.w X.K X.mg X.base jx k f fd ps (kU X.K n F)) (hr:dg k X.A) (hm:X.mg x=some (.ref f)) (hk:Na X.K (.ref f)=true)
 (hb:Binds X.K fd ps []) (ha:Bg X c (e::es) gs) (hT:c.K=X.K:=by rfl) (hg:Gl X x:=by rfl) (hdb:(x == ("__debug__":Str))=false:=by decide) (he:KC (e::es) X.env=(false,eval e X.env)::KC es X.env:=by rfl)
 (hpl:(MQ pos (KC es X.env)).any (·.1)=false:=by rfl):PD X c (.Call (.Name x p) (e::es) [] pos) (gN (aC n F) gs):=
 eO (CG (E:=E0) G hr hg hm hk hb .nil FY ha hdb he hpl) (Aa hT)
end
noncomputable def ef (cells:List (Str×KJ)):List (Str×ML)->List (Str×KJ)->Option (List (Str×KJ))
 | [],cs=>some cs
 | (n,k)::r,cs=>if k == .free then (match cells.lookup n with
  | some a=>ef cells r ((n,a)::cs)
  | none=>none) else ef cells r cs
theorem jr {env:Env}:∀(names:List (Str×ML)) (cs cl:List (Str×KJ)),ef env.cells names cs=some cl->
  (forIn names cs λ(x:Str×ML) (r:List (Str×KJ))=>(if (x.2 == .free)=true then do let a <-cellOf env x.1;pure (MC ((x.1,a)::r)) else pure (MC r):Sem (ForInStep (List (Str×KJ)))))=(pure cl:Sem (List (Str×KJ)))
 | [],cs,cl,h=>by cases h;rfl
 | (n,k)::r,cs,cl,h=>by
  unfold ef at h;rw [List.forIn_cons];cases hk:(k == LY) with
  | true=>
   rw [hk,if_pos rfl] at h;cases hc:env.cells.lookup n with
   | none=>rw [hc] at h;cases h
   | some a=>
    rw [hc] at h;have e:cellOf env n=pure a:=by unfold cellOf;rw [hc]
    simp only [hk,if_true,e];exact jr r ((n,a)::cs) cl h
  | false=>
   rw [hk,if_neg (by decide)] at h;simp only [hk];exact jr r cs cl h
theorem rJ {JV:M5}{env:Env}(h:ef env.cells JV.names []=some cl):closureFor JV env=pure cl:=by have q:=jr (env:=env) JV.names [] cl h;unfold closureFor;show ((forIn JV.names [] λ(x:Str×ML) (r:List (Str×KJ))=>(if (x.2 == .free)=true then do let a <-cellOf env x.1;pure (MC ((x.1,a)::r)) else pure (MC r):Sem (ForInStep (List (Str×KJ))))) >>= λz=>pure z)=pure cl;rw [q];rfl
theorem gw {cells:List (Str×KJ)}:∀(names:List (Str×ML)) (cs cl:List (Str×KJ)),ef cells names cs=some cl->(∀x c,cs.lookup x=some c->cells.lookup x=some c)->
  (∀x c,cl.lookup x=some c->cells.lookup x=some c)/\(∀x,((cs.lookup x).isSome=true\/(x,LY)∈names)->(cl.lookup x).isSome=true)
 | [],cs,cl,h,k=>by cases h;exact ⟨k,λx hx=>hx.elim id λz=>by cases z⟩
 | (n,kd)::r,cs,cl,h,k=>by
  unfold ef at h;cases hk:(kd == LY) with
  | true=>
   rw [hk,if_pos rfl] at h;cases hc:cells.lookup n with
   | none=>rw [hc] at h;cases h
   | some a=>
    rw [hc] at h;obtain ⟨h1,h2⟩:=gw r ((n,a)::cs) cl h (λx c q=>by
     rw [LZ] at q;cases e:x == n with
     | true=>
      rw [e] at q;cases q;have:x=n:=by simpa using e
      rw [this];exact hc
     | false=>rw [e] at q;exact k x c q)
    refine ⟨h1,λx hx=>h2 x ?_⟩;by_cases e:x=n
    ·left;subst e;rw [LZ];simp
    ·have e':(x == n)=false:=by simpa using e
     rcases hx with hx | hx
     ·left;rw [LZ,e'];exact hx
     ·right;rcases KA.mp hx with z | z
      ·cases z;exact absurd rfl e
      ·exact z
  | false=>
   rw [hk,if_neg (by decide)] at h;obtain ⟨h1,h2⟩:=gw r cs cl h k;refine ⟨h1,λx hx=>h2 x ?_⟩;rcases hx with hx | hx
   ·exact .inl hx
   ·rcases KA.mp hx with z | z
    ·cases z;simp at hk
    ·exact .inr z
section
variable {X:Cx}
noncomputable def cN (X:Cx) (own:List Str) (cap:List Nat):List Str:=own++cap.map λ(j:Nat)=>(X.N[j]?).getD ("":Str)
noncomputable def DU (X:Cx) (own:List Str) (cap:List Nat) (JV:M5) (cl:List (Str×KJ)) (C:KJ) (s:Kh) (H:Hp) (fp:List KJ):Cx where
 prog:=X.prog
 w:=X.w
 K:=X.K
 mg:=X.mg
 base:=X.base
 A:=X.A
 N:=cN X own cap
 s₀:=s
 H₀:=H
 env:=compEnvC JV cl C X.env
 outer:=X.stack
 stack:=X.stack
 ex:=fp
 fn:=λ_=>false
 calm:=X.calm
 pn:=[]
 xe:=λ_ _=>False
noncomputable def mj (X:Cx) (cap:List Nat):Bool:=cap.all λj=>match X.N[j]? with
 | some x=>(match X.env.scope.names.lookup x with
  | some .cell=>true
  | some .free=>true
  | _=>false)
 | none=>false
theorem uu {JV:M5}(hc:∀y∈JV.names,y.2≠.cell):∀{x:Str},((relabel JV env).names.lookup x=some .cell\/(relabel JV env).names.lookup x=some .free)->(x,LY)∈JV.names:=by
 unfold relabel;have main:∀(names:List (Str×ML)),(∀y∈names,y.2≠.cell)->∀x,((names.map λ(n,k)=>if (k == LY && env.scope.kind == .function && env.kindOf n == some .cell) then (n,NV) else (n,k)).lookup x=some .cell\/
   (names.map λ(n,k)=>if (k == LY && env.scope.kind == .function && env.kindOf n == some .cell) then (n,NV) else (n,k)).lookup x=some .free)->(x,LY)∈names:=by
  intro names
  induction names with
  | nil=>intro _ x h;simp at h
  | cons p r ih=>
   obtain ⟨n,k⟩:=p;intro hc x h;rw [LN] at h;simp only at h;by_cases hx:x=n
   ·subst hx;have hk:k≠.cell:=hc (x,k) Ku;have:k=.free:=by
     by_cases q:(k == LY && env.scope.kind == .function && env.kindOf x == some .cell)=true
     ·rw [KU,KU] at q;simpa using q.1.1
     ·rw [if_neg q,LZ] at h;simp at h;rcases h with h | h
      ·exact absurd h hk
      ·exact h
    subst this;exact Ku
   ·have hx':(x == n)=false:=by simpa using hx
    refine Kq _ (ih (λy hy=>hc y (Kq _ hy)) x ?_);have red:∀(q:Str×ML) (l:List (Str×ML)),q.1=n->Ua x (q::l)=Ua x l:=λq l hq=>by obtain ⟨q1,q2⟩:=q;simp only at hq;subst hq;rw [LZ,hx']
    have hq:(if (k == LY && env.scope.kind == .function && env.kindOf n == some .cell) then (n,NV) else (n,k)).1=n:=by split <;> rfl
    rw [red _ _ hq] at h;exact h
 intro x h;exact main JV.names hc x h
end
section
variable {X:Cx}{c:C}
noncomputable def wK (X:Cx) (c:C) (ifs:List K8) (g:G Bool):Prop:=
 ∀(JW:List (KJ×Obj)) (s:Kh) (σ:L2.St) (H:Hp) (Q:Bool->Hp->Prop),Inv X JW σ H s->tB c g σ H Q->
  KH (KS X.prog X.w) X.A (forIn ifs true λc r=>if r=true then do let ok <-QL c X.env (eval c X.env);pure (MC ok) else pure (MC r)) (TP X JW σ Q) X.xe s
noncomputable def cV:G Bool:=λ_=>.ok true
noncomputable def dW (gt:GT) (gts:G Bool) (ge:G R):List D->Ev->M (List D)
 | [],_=>.ok []
 | d::ds,env=>gt d env >>= λe=>gts e >>= λk=>if k=true then ge e >>= λr=>toD r >>= λy=>dW gt gts ge ds e >>= λys=>.ok (y::ys) else dW gt gts ge ds e
noncomputable def cE (n:Nat) (cap:List Nat) (env:Ev):Ev:=K6 n none++cap.map λ(j:Nat)=>(env[j]?).getD none
noncomputable def bU (n:Nat) (cap:List Nat) (gi:G (List D)) (gt:GT) (gts:G Bool) (ge:G R):G R:=λenv=>gi env >>= λds=>if ds.length<=sizeLine then dW gt gts ge ds (cE n cap env) >>= λys=>.ok (.l .fresh ys) else .bad
theorem gq {α:Type}{n:Nat}{cap:List Nat}{env:List (Option α)}{i:Nat}{x:α}(h:(K6 n none++cap.map λ(j:Nat)=>(env[j]?).getD none)[i]?=some (some x)):∃j,n<=i/\cap[i - n]?=some j/\env[j]?=some (some x):=by
 by_cases hi:i < n
 ·rw [Mh (by simpa using hi),NS] at h;split at h <;> cases h
 ·rw [LO (by simpa using hi),Li,KQ] at h;cases q:cap[i - n]? with
  | none=>rw [q] at h;cases h
  | some j=>
   rw [q] at h;refine ⟨j,by omega,rfl,?_⟩;have h':(env[j]?).getD none=some x:=Lp h;cases z:env[j]? with
   | none=>rw [z] at h';cases h'
   | some o=>rw [z] at h';exact congrArg some h'
theorem Bj {α:Type}{n:Nat}{cap:List Nat}{env:List (Option α)}{i j:Nat}{x:α}(h1:n<=i) (h2:cap[i - n]?=some j) (h3:env[j]?=some (some x)):(K6 n none++cap.map λ(j:Nat)=>(env[j]?).getD none)[i]?=some (some x):=by rw [LO (by simpa using h1),Li,KQ,h2];simp [h3]
theorem SR.cap {J H:Hp}{σ:L2.St}{env:Ev}(sr:SR c J H σ env) (n:Nat) (cap:List Nat) (hnd:cap.Nodup):SR c J H (K6 n none++cap.map λ(j:Nat)=>(σ[j]?).getD none) (cE n cap env):=by
 refine ⟨sr.hp,by simp [cE],λi x q=>?_,λi j xs ys v hij q1 q2 q3 q4=>?_,sr.sp2.by (λi=>(cap[i - n]?).getD 0) (λi j xs ys hij q1 q2 z=>?_) λi xs q=>?_⟩
 ·obtain ⟨j,h1,h2,h3⟩:=gq q;obtain ⟨v,k1,k2⟩:=sr.at_ j x h3;exact ⟨v,Bj h1 h2 k1,k2⟩
 ·obtain ⟨a,h1,h2,h3⟩:=gq q1;obtain ⟨b,h4,h5,h6⟩:=gq q2;obtain ⟨a',h7,h8,h9⟩:=gq q3;obtain ⟨b',JR,h11,h12⟩:=gq q4;rw [h2] at h8;cases h8;rw [h5] at h11;cases h11;have hab:a≠b:=λz=>by subst z;have e1:=(KY.mp h2);have e2:=(KY.mp h5);have:=(Pu hnd).mp (e1.2.trans e2.2.symm);omega
  exact sr.sep a b xs ys v hab h3 h6 h9 h12
 ·obtain ⟨a,h1,h2,h3⟩:=gq q1;obtain ⟨b,h4,h5,h6⟩:=gq q2;have e1:=(KY.mp h2);have e2:=(KY.mp h5);rw [h2,h5] at z;have:=(Pu hnd).mp (e1.2.trans ((show a=b from z).trans e2.2.symm));omega
 ·obtain ⟨a,h1,h2,h3⟩:=gq q;obtain ⟨p,vs,m1,m2,_,_,_,m3⟩:=sr.nst h3;rw [h2];exact ⟨⟨xs,h3⟩,(iY (Bj h1 h2 m1) m2).trans m3.symm⟩
theorem SR.other {J H:Hp}(sr:SR c J H σ env) (hJ:J p=none) (h0:c.H0 p=none) (hn:∀(j:Nat) (xs:Mn),env[j]?=some (some (mS xs))->σ[j]?≠some (some (.ref p))):SR c J (L2.upd H p o) σ env:=by
 refine ⟨⟨λb u q=>?_,λb u q=>?_,sr.hp.entJ,sr.hp.frz⟩,sr.len,λj y q=>?_,sr.sep,sr.sp2.keep λk xs q=>let ⟨p',vs,m1,m2,_,_,_,m3⟩:=sr.nst q;⟨⟨xs,q⟩,(iY m1 (by rw [a_ (show p'≠p from λe=>hn k (.nst xs) q (by rw [<-e];exact m1))];exact m2)).trans m3.symm⟩⟩
 ·have:b≠p:=λz=>by rw [z,hJ] at q;cases q
  rw [a_ this];exact sr.hp.sub b u q
 ·have:b≠p:=λz=>by rw [z,h0] at q;cases q
  rw [a_ this];exact sr.hp.ent b u q
 ·obtain ⟨w,k1,k2⟩:=sr.at_ j y q;refine ⟨w,k1,?_⟩;cases y with
  | d x=>exact k2
  | bor zs=>exact k2
  | db _ _=>exact k2
  | fn _=>exact k2
  | tn _=>exact k2
  | dk ks zs=>
   obtain ⟨p',rfl,⟨us,ws,ep,m1,mr⟩,m2⟩:=k2;have hne:p'≠p:=λz=>hn j (.inr (ks,zs)) q (z▸k1);exact ⟨p',rfl,⟨us,ws,ep,by rw [a_ hne];exact m1,mr⟩,m2⟩
  | own zs=>
   obtain ⟨p',us,rfl,m1,m2,m3,m4⟩:=k2;have hne:p'≠p:=λz=>hn j (.inl zs) q (z▸k1);exact ⟨p',us,rfl,by rw [a_ hne];exact m1,m2,m3,m4⟩
  | ow2 zs=>
   obtain ⟨p',us,rfl,m1,m2,m3,m4⟩:=k2;have hne:p'≠p:=λz=>hn j (.nst zs) q (z▸k1);exact ⟨p',us,rfl,by rw [a_ hne];exact m1,m2,m3,m4⟩
theorem Ext.other {J H J' H':Hp}(e:Ext J H J' H') (h:H p=none) (hJ:J' p=none):Ext J H J' (L2.upd H' p o):=
 ⟨λb u q=>by rw [a_ (ez q h)];exact e.h b u q,e.j,λb u q=>by
  have:b≠p:=λz=>by rw [z,hJ] at q;cases q
  rw [a_ this];exact e.sub b u q,e.frz⟩
theorem uW {H:Hp}(x:fB P w H h) (hn:H a=none) (sb:Mp a h h'):fB P w H h':=λb u e=>by
 refine (x b u e).stay (λd v hd q=>(sb.2 d ?_).trans q) (λ_ q=>q) λ_ _ q=>q;rintro rfl;rcases hd with rfl | hd
 ·rw [hn] at e;cases e
 ·rw [hn] at hd;cases hd
theorem Hi {JW:List (KJ×Obj)}{σ:L2.St}{H:Hp}{s:Kh}{own:List Str}{cap:List Nat}{JV:M5}{cl:List (Str×KJ)}{fp:List KJ}{h1:L7}{m:Str->Option Kg}{tk:Nat}(I:Inv X JW σ H s) (ok:(DU X own cap JV cl s.heap.objs.size s H fp).Ok)
  (hcl:ef X.env.cells JV.names []=some cl) (hcell:∀y∈JV.names,y.2≠.cell) (hcap:mj X cap=true) (Iq:∀j∈cap,∀x,X.N[j]?=some x->(relabel JV X.env).names.lookup x≠some .local)
  (hns:h1.Ns s.heap.objs.size m) (old:∀b o,s.heap.get? b=some o->h1.get? b=some o):
  Inv (DU X own cap JV cl s.heap.objs.size s H fp) [] (K6 own.length none++cap.map λ(j:Nat)=>(σ[j]?).getD none) H {s with heap:=h1,toks:=tk}:=by
 obtain ⟨m1,m2⟩:=gw JV.names [] cl hcl (λx c h=>by simp at h);refine ⟨ok,rfl,I.bare,Un.kept old,⟨m,hns,λi x v q1 q2 q3=>?_⟩,λx d h=>?_,I.hok.fresh (Kr _),λx d h=>I.freeC x d (m1 x d h),λp hp=>absurd (show p∈([]:List (KJ×Obj)) from hp) (by simp),I.hok.kept old,?_⟩
 ·obtain ⟨j,h2,h3,h4⟩:=gq q2;have q1':(own++cap.map λ(j:Nat)=>(X.N[j]?).getD ("":Str))[i]?=some x:=q1;rw [LO (by exact h2),KQ,h3] at q1';have hj:j∈cap:=MS h3;have hc:(match X.N[j]? with
   | some x=>(match X.env.scope.names.lookup x with
    | some .cell=>true
    | some .free=>true
    | _=>false)
   | none=>false)=true:=by unfold mj at hcap;exact LG.mp hcap j hj
  cases hx:X.N[j]? with
  | none=>rw [hx] at hc;cases hc
  | some y=>
   rw [R7,hx] at q1';rw [hx] at hc;have e:y=x:=by simpa using q1'
   subst e;have kd:X.env.kindOf y=some .cell\/X.env.kindOf y=some .free:=by
    unfold Us;simp only at hc;split at hc
    ·rename_i z;exact .inl z
    ·rename_i z;exact .inr z
    ·cases hc
   obtain ⟨mX,nX,lX⟩:=I.loc;obtain ⟨u,ru,lu⟩:=lX j y v hx h4 (kd.elim (λz=>.inr (.inl z)) λz=>.inr (.inr z));refine ⟨u,ru,.inr ?_⟩;have kd':(relabel JV X.env).names.lookup y=some .cell\/(relabel JV X.env).names.lookup y=some .free:=by
    rcases q3 with z | z | z
    ·exact absurd z (Iq j hj y hx)
    ·exact .inl z
    ·exact .inr z
   refine ⟨kd',?_⟩;obtain ⟨d,hd⟩:=L8.mp (m2 y (.inr (uu hcell kd')));refine ⟨d,hd,?_⟩;rcases lu with ⟨z,_⟩ | ⟨_,d',hd',z⟩
   ·rcases kd with k | k <;> (rw [k] at z;cases z)
   ·have:=m1 y d hd;rw [hd'] at this;cases this;obtain ⟨o,ho,hod⟩:=z;exact ⟨o,old _ _ ho,hod⟩
 ·obtain ⟨v,o,ho,hod⟩:=I.cell x d (m1 x d h);exact ⟨v,o,old _ _ ho,hod⟩
 ·show _=(own++cap.map λ(j:Nat)=>(X.N[j]?).getD ("":Str)).length;simp
noncomputable def yC (X:Cx) (cap:List Nat) (JV:M5):Bool:=cap.all λj=>match X.N[j]? with
 | some x=>!((relabel JV X.env).names.lookup x == some .local)
 | none=>true
noncomputable def tZ:List Nat->Bool
 | []=>true
 | x::r=>!(r.contains x) && tZ r
theorem vP:∀{l:List Nat},tZ l=true->l.Nodup
 | [],_=>Og
 | x::r,h=>by unfold tZ at h;rw [KU] at h;refine MB.mpr ⟨λz=>?_,vP h.2⟩;have:=h.1;simp [z] at this
theorem DP {X:Cx}{H:Hp}{s:Kh}(I:L2.Inv X JW σ H s) (h:s.heap.objs.size<=T):(T∈X.ex\/X.s₀.heap.objs.size<=T)/\T≠X.env.locals/\(∀x c,X.env.cells.lookup x=some c->c≠T)/\∀p∈X.pn++JW,p.1≠T:=by have ne:∀b,b < s.heap.objs.size->b≠T:=λb hb z=>absurd (KP (z▸hb) h) (My _);refine ⟨.inr (Lg I.sz h),(ne _ I.lt).symm,λx c hc=>?_,λp hp=>ne _ (Kz (I.pin p hp).1)⟩;obtain ⟨v,o,hv,_⟩:=I.cell x c hc;exact ne _ (Kz hv)
theorem zk {X:Cx}{H:Hp}{s:Kh}{C:KJ}{o0:Obj}(I:L2.Inv X JW σ H s) (ap:(C∈X.ex\/X.s₀.heap.objs.size<=C)/\C≠X.env.locals/\(∀x c,X.env.cells.lookup x=some c->c≠C)/\∀p∈X.pn++JW,p.1≠C) (hf:H C=none) (sb:Mp C s.heap h'):L2.Inv X JW σ H {s with heap:=h'}:=by
 refine I.call' (ch:=[C]) rfl ⟨λb o hb hn _ hx=>?_,λb o hb hn _ hx=>⟨o.slots,?_⟩,λ_ _ _ n _=>n,λb o hb hx=>⟨o,?_⟩,λ_ _ q=>q,λ_ _ _ q=>q,λ_ ps q=>⟨#[],by rw [q];simp⟩⟩ (λa o ha=>?_) I.bare (λb hb=>by rw [Kw.mp hb];exact ap)
 ·exact (sb.2 b λz=>hx (by simp [z])).trans hb
 ·exact (sb.2 b λz=>hx (by simp [z])).trans hb
 ·exact (sb.2 b λz=>hx (by simp [z])).trans hb
 ·refine (I.hok a o ha).stay (λb u hb q=>(sb.2 b λz=>?_).trans q) (λ_ q=>q) λ_ _ q=>q;rcases hb with rfl | hb
  ·rw [z,hf] at ha;cases ha
  ·rw [z,hf] at hb;cases hb
end
mutual
noncomputable def dh:D->D->Bool
 | .non,.non=>true
 | .bl p,.bl q=>p == q
 | .bl p,.int q=>(if p then 1 else 0) == q
 | .int p,.bl q=>p == (if q then 1 else 0)
 | .int p,.int q=>p == q
 | .str p,.str q=>p == q
 | .tup p,.tup q=>gE p q
 | .lst p,.lst q=>gE p q
 | .emp,.emp=>true
 | .exn _ _ _,.exn _ _ _=>true
 | .dct _ _,.dct _ _=>true
 | _,_=>false
noncomputable def gE:List D->List D->Bool
 | [],[]=>true
 | x::xs,y::ys=>dh x y && gE xs ys
 | _,_=>false
end
mutual
theorem jX:∀d:D,dh d d=true
 | .non=>by simp [dh]
 | .bl _=>by simp [dh]
 | .int _=>by simp [dh]
 | .str _=>by simp [dh]
 | .tup xs=>by simp only [dh];exact lA xs
 | .lst xs=>by simp only [dh];exact lA xs
 | .emp=>by simp [dh]
 | .exn _ _ _=>by simp [dh]
 | .dct _ _=>by simp [dh]
theorem lA:∀ds:List D,gE ds ds=true
 | []=>by simp [gE]
 | x::xs=>by simp only [gE,jX x,lA xs,Bool.and_self]
end
theorem jY:∀{xs ys:List D},xs.length≠ys.length->gE xs ys=false
 | [],[],h=>absurd rfl h
 | [],_::_,_=>by simp [gE]
 | _::_,[],_=>by simp [gE]
 | x::xs,y::ys,h=>by simp only [gE,jY (xs:=xs) (ys:=ys) (λz=>h (congrArg (· + 1) z)),Of]
noncomputable def kg (xs ys:List D) (j:Nat):Bool:=match xs[j]?,ys[j]? with
 | some x,some y=>dh x y
 | _,_=>false
theorem jZ:∀{xs ys:List D},xs.length=ys.length->(Ky xs.length).all (kg xs ys)=gE xs ys
 | [],[],_=>by simp [gE]
 | x::xs,y::ys,h=>by have ih:=jZ (xs:=xs) (ys:=ys) (by simpa using h);rw [L3,PN,NW,RM];simp only [gE];rw [<-ih];rfl
theorem sZ (xs ys:List D):((Ky (min xs.length ys.length)).all (kg xs ys) && xs.length == ys.length)=gE xs ys:=by
 by_cases h:xs.length=ys.length
 ·rw [<-h,Nat.min_self,jZ h];simp
 ·rw [jY h,beq_eq_false_iff_ne.mpr h,Of]
section
structure HF (K:Ke) (J:Hp) (s:Kh):Prop where
 t:∀a xs,eH K J a xs->∃JY:List Kg,Vals xs JY/\s.heap.IsTuple a JY.toArray
 l:∀a xs,bV K J a xs->∃JY:List Kg,Vals xs JY/\s.heap.IsList a JY.toArray
 e:∀a,J a=some (.dK [])->∃o,s.heap.get? a=some o/\o.cls=.type "dict"
 d:∀a ep Ka,J a=some (Bo a ep Ka)->∃o es,s.heap.get? a=some o/\o.ExactDict/\o.data=.dict es ep/\Q3 DA Ka es.toList
variable {K:Ke}{J:Hp}{s:Kh}
theorem HF.of {X:Cx}{c:C}{H:Hp}(I:Inv X JW σ H s) (hs:aP J H):HF X.K J s:=
 ⟨λa xs h=>let ⟨JY,r,p,_⟩:=I.tuple (fK hs h);⟨JY,r,p⟩,λa xs h=>let ⟨JY,r,p,_⟩:=I.list (hs.seq h);⟨JY,r,p.isList⟩,λa h=>by
  obtain ⟨_,_,vs,_,p⟩:=(show cX X.prog X.w H s.heap a (.dK []) from I.hok a _ (hs _ _ h));obtain ⟨o,es,ep,h1,h2,_⟩:=p;exact ⟨o,h1,h2.1⟩,λa ep Ka h=>(show cX X.prog X.w H s.heap a (Bo a ep Ka) from I.hok a _ (hs _ _ h)).1⟩
theorem yV {xs ys:List Kg}(h:s.heap.IsTuple a xs.toArray) (h':s.heap.IsTuple a ys.toArray):xs=ys:=by
 obtain ⟨o,ho,_,n,hd⟩:=h;obtain ⟨o',ho',_,n',hd'⟩:=h';rw [ho] at ho';cases ho';rw [hd] at hd';injection hd' with h1 _
 simpa using congrArg P5 h1
theorem xy {xs ys:List Kg}(h:s.heap.IsList a xs.toArray) (h':s.heap.IsList a ys.toArray):xs=ys:=by
 obtain ⟨o,ho,_,n,hd⟩:=h;obtain ⟨o',ho',_,n',hd'⟩:=h';rw [ho] at ho';cases ho';rw [hd] at hd';injection hd' with h1 _
 simpa using congrArg P5 h1
mutual
theorem Rep.inj (F:HF K J s):∀{d e:D}{v:V},Rep K J d v->Rep K J e v->dep d<=1000->dep e<=1000->d=e
 | _,_,_,.emp _,_,h,_=>by unfold dep at h;omega
 | _,_,_,.exn _ _ _ _ _,_,h,_=>by unfold dep at h;omega
 | _,_,_,.dct _ _ _ _ _,_,h,_=>by unfold dep at h;omega
 | _,_,_,.non,.non,_,_=>rfl
 | _,_,_,.bl _,.bl _,_,_=>rfl
 | _,_,_,.int _,.int _,_,_=>rfl
 | _,_,_,.str _,.str _,_,_=>rfl
 | _,_,_,.tup _ _,.emp _,_,h=>by unfold dep at h;omega
 | _,_,_,.lst _ _,.emp _,_,h=>by unfold dep at h;omega
 | _,_,_,.tup _ _,.exn _ _ _ _ _,_,h=>by unfold dep at h;omega
 | _,_,_,.tup _ _,.dct _ _ _ _ _,_,h=>by unfold dep at h;omega
 | _,_,_,.lst _ _,.exn _ _ _ _ _,_,h=>by unfold dep at h;omega
 | _,_,_,.lst _ _,.dct _ _ _ _ _,_,h=>by unfold dep at h;omega
 | _,_,_,.tup h hs,.tup h' hs',k,k'=>by obtain ⟨JY,r,p⟩:=F.t _ _ h;obtain ⟨its',r',p'⟩:=F.t _ _ h';have:=yV p p';subst this;have:=r.inj r';subst this;rw [aN.inj F hs hs' (by unfold dep at k;omega) (by unfold dep at k';omega)]
 | _,_,_,.lst h hs,.lst h' hs',k,k'=>by obtain ⟨JY,r,p⟩:=F.l _ _ h;obtain ⟨its',r',p'⟩:=F.l _ _ h';have:=xy p p';subst this;have:=r.inj r';subst this;rw [aN.inj F hs hs' (by unfold dep at k;omega) (by unfold dep at k';omega)]
 | _,_,_,.tup h _,.lst h' _,_,_=>by obtain ⟨JY,r,p⟩:=F.t _ _ h;obtain ⟨its',r',p'⟩:=F.l _ _ h';exact absurd rfl (PR p' p)
 | _,_,_,.lst h _,.tup h' _,_,_=>by obtain ⟨JY,r,p⟩:=F.l _ _ h;obtain ⟨its',r',p'⟩:=F.t _ _ h';exact absurd rfl (PR p p')
theorem aN.inj (F:HF K J s):∀{ds es:List D}{vs:List V},aN K J ds vs->aN K J es vs->deps ds<=1000->deps es<=1000->ds=es
 | _,_,_,.nil,.nil,_,_=>rfl
 | _,_,_,.cons h hs,.cons h' hs',k,k'=>by rw [Rep.inj F h h' (by unfold deps at k;omega) (by unfold deps at k';omega),aN.inj F hs hs' (by unfold deps at k;omega) (by unfold deps at k';omega)]
end
theorem gO {A:Lh}(h:s.heap.IsTuple a JY) (r:RelV v u) (f:oB v=true) (hu:A.units < OW):Nb A s (.ref a) u false/\Nb A s u (.ref a) false:=by
 cases v with
 | non=>cases r;exact ⟨.tuple_none h hu,.none_tuple h hu⟩
 | bl b=>cases r;exact ⟨.tuple_bool b h hu,.bool_tuple b h hu⟩
 | int i=>obtain ⟨t,rfl⟩:=r;exact ⟨.tuple_int i t h hu,.int_tuple i t h hu⟩
 | str x=>obtain ⟨t,rfl⟩:=r;exact ⟨.tuple_str x t h hu,.str_tuple x t h hu⟩
 | _=>exact absurd (show false=true from f) Lu
theorem ia {A:Lh}(h:s.heap.IsList a JY) (r:RelV v u) (f:oB v=true) (hu:A.units < OW):Nb A s (.ref a) u false/\Nb A s u (.ref a) false:=by
 cases v with
 | non=>cases r;exact ⟨.list_none h hu,.none_list h hu⟩
 | bl b=>cases r;exact ⟨.list_bool b h hu,.bool_list b h hu⟩
 | int i=>obtain ⟨t,rfl⟩:=r;exact ⟨.list_int i t h hu,.int_list i t h hu⟩
 | str x=>obtain ⟨t,rfl⟩:=r;exact ⟨.list_str x t h hu,.str_list x t h hu⟩
 | _=>exact absurd (show false=true from f) Lu
noncomputable def lJ:D->Bool
 | .tup _=>false
 | .lst _=>false
 | .emp=>false
 | .exn _ _ _=>false
 | .dct _ _=>false
 | _=>true
theorem Rep.flat (h:Rep K J d v) (f:lJ d=true):oB v=true:=by cases h <;> first | rfl | cases f
theorem Ai (h:Rep K J d v) (h':Rep K J e w) (f:lJ d=true) (f':lJ e=true):D0 v w=dh d e:=by cases h <;> cases h' <;> first | rfl | cases f | cases f' | simp [D0,dh]
theorem in1_units (A:Lh):A.in1.units=A.units + 1:=rfl
theorem oA (F:HF K J s) (A:Lh) (hd:Rep K J d v) (he:Rep K J e w) (rv:RelV v u) (rw':RelV w u') (f:lJ d=true) (hu:A.units < OW) (hu':dep e<=1000):Nb A s u u' (dh d e):=by
 cases q:lJ e with
 | true=>rw [<-Ai hd he f q];exact DZ rv rw' (hd.flat f) (he.flat q)
 | false=>
  cases he with
  | tup h' hs'=>
   cases rw';obtain ⟨its',r',p'⟩:=F.t _ _ h';have:=(gO p' rv (hd.flat f) hu).2;cases hd <;> first | exact this | cases f
  | lst h' hs'=>
   cases rw';obtain ⟨its',r',p'⟩:=F.l _ _ h';have:=(ia p' rv (hd.flat f) hu).2;cases hd <;> first | exact this | cases f
  | emp _=>unfold dep at hu';omega
  | exn _ _ _ _ _=>unfold dep at hu';omega
  | dct _ _ _ _ _=>unfold dep at hu';omega
  | _=>cases q
mutual
theorem yK (F:HF K J s):∀{d e:D}{v w:V}{u u':Kg}(A:Lh),Rep K J d v->Rep K J e w->RelV v u->RelV w u'->A.units + dep d < OW->dep d<=1000->dep e<=1000->Nb A s u u' (dh d e)
 | .tup ds,e,_,w,u,u',A,.tup h hs,he,rv,rw',hu,hd1,hu'=>by
  cases rv;obtain ⟨JY,r,p⟩:=F.t _ _ h;have HP:A.units < OW:=by unfold dep at hu;omega
  cases he with
  | tup h' hs'=>
   cases rw';obtain ⟨its',r',p'⟩:=F.t _ _ h';rename_i a vs b ws es;by_cases q:a=b
   ·subst q;have:=Rep.inj F (.tup h hs) (.tup h' hs') hd1 hu';rw [<-this,jX];exact P8 _
   ·have l1:JY.length=ds.length:=by rw [<-r.length,hs.length]
    have l2:its'.length=es.length:=by rw [<-r'.length,hs'.length]
    simp only [dh];rw [<-sZ,<-l1,<-l2];refine Rg q ?_;have:=Rv (e:=kg ds es) p p' HP λj j1 j2=>by
     have k1:j < ds.length:=by rw [<-l1];simpa using j1
     have k2:j < es.length:=by rw [<-l2];simpa using j2
     have:=jD F A.in1 hs hs' r r' (by rw [in1_units];unfold dep at hu;omega) (by unfold dep at hd1;omega) (by unfold dep at hu';omega) j k1 k2;have m1:j < JY.length:=by simpa using j1
     have m2:j < its'.length:=by simpa using j2
     simpa [m1,m2] using this
    simpa using this
  | lst h' hs'=>
   cases rw';obtain ⟨its',r',p'⟩:=F.l _ _ h';exact Tr p p' HP
  | non=>exact (gO p rw' rfl HP).1
  | bl _=>exact (gO p rw' rfl HP).1
  | int _=>exact (gO p rw' rfl HP).1
  | str _=>exact (gO p rw' rfl HP).1
  | emp _=>unfold dep at hu';omega
  | exn _ _ _ _ _=>unfold dep at hu';omega
  | dct _ _ _ _ _=>unfold dep at hu';omega
 | .lst ds,e,_,w,u,u',A,.lst h hs,he,rv,rw',hu,hd1,hu'=>by
  cases rv;obtain ⟨JY,r,p⟩:=F.l _ _ h;have HP:A.units < OW:=by unfold dep at hu;omega
  cases he with
  | lst h' hs'=>
   cases rw';obtain ⟨its',r',p'⟩:=F.l _ _ h';rename_i a vs b ws es;by_cases q:a=b
   ·subst q;have:=Rep.inj F (.lst h hs) (.lst h' hs') hd1 hu';rw [<-this,jX];exact P8 _
   ·have l1:JY.length=ds.length:=by rw [<-r.length,hs.length]
    have l2:its'.length=es.length:=by rw [<-r'.length,hs'.length]
    simp only [dh];refine Rg q ?_;by_cases z:ds.length=es.length
    ·rw [<-jZ z,<-l1];have:=RS (e:=kg ds es) p p' (by simp;omega) HP λj j1 j2=>by
      have k1:j < ds.length:=by rw [<-l1];simpa using j1
      have k2:j < es.length:=by rw [<-l2];simpa using j2
      have:=jD F A.in1 hs hs' r r' (by rw [in1_units];unfold dep at hu;omega) (by unfold dep at hd1;omega) (by unfold dep at hu';omega) j k1 k2;have m1:j < JY.length:=by simpa using j1
      have m2:j < its'.length:=by simpa using j2
      simpa [m1,m2] using this
     simpa using this
    ·rw [jY z];exact SJ p p' (by simp;omega) HP
  | tup h' hs'=>
   cases rw';obtain ⟨its',r',p'⟩:=F.t _ _ h';exact Tt p p' HP
  | non=>exact (ia p rw' rfl HP).1
  | bl _=>exact (ia p rw' rfl HP).1
  | int _=>exact (ia p rw' rfl HP).1
  | str _=>exact (ia p rw' rfl HP).1
  | emp _=>unfold dep at hu';omega
  | exn _ _ _ _ _=>unfold dep at hu';omega
  | dct _ _ _ _ _=>unfold dep at hu';omega
 | .non,e,v,w,u,u',A,hd,he,rv,rw',hu,_,hu'=>oA F A hd he rv rw' rfl (by omega) hu'
 | .bl _,e,v,w,u,u',A,hd,he,rv,rw',hu,_,hu'=>oA F A hd he rv rw' rfl (by omega) hu'
 | .int _,e,v,w,u,u',A,hd,he,rv,rw',hu,_,hu'=>oA F A hd he rv rw' rfl (by omega) hu'
 | .emp,e,v,w,u,u',A,hd,he,rv,rw',hu,hd1,hu'=>by unfold dep at hd1;omega
 | .exn _ _ _,e,v,w,u,u',A,hd,he,rv,rw',hu,hd1,hu'=>by unfold dep at hd1;omega
 | .dct _ _,e,v,w,u,u',A,hd,he,rv,rw',hu,hd1,hu'=>by unfold dep at hd1;omega
 | .str _,e,v,w,u,u',A,hd,he,rv,rw',hu,_,hu'=>oA F A hd he rv rw' rfl (by omega) hu'
theorem jD (F:HF K J s):∀{ds es:List D}{vs ws:List V}{us us':List Kg}(A:Lh),aN K J ds vs->aN K J es ws->Vals vs us->Vals ws us'->A.units + deps ds < OW->deps ds<=1000->deps es<=1000->
  ∀(j:Nat) (h1:j < ds.length) (h2:j < es.length),Nb A s (us.getD j .none) (us'.getD j .none) (kg ds es j)
 | _,_,_,_,_,_,A,.cons h hs,.cons h' hs',.cons r rs,.cons r' rs',hu,k1,k2,0,_,_=>yK F A h h' r r' (by unfold deps at hu;omega) (by unfold deps at k1;omega) (by unfold deps at k2;omega)
 | _,_,_,_,_,_,A,.cons h hs,.cons h' hs',.cons r rs,.cons r' rs',hu,k1,k2,j + 1,h1,h2=>jD F A hs hs' rs rs' (by unfold deps at hu;omega) (by unfold deps at k1;omega) (by unfold deps at k2;omega) j (by simpa using h1) (by simpa using h2)
end
end
section
variable {K:Ke}{J:Hp}{s:Kh}
theorem zz (F:HF K J s) (A:Lh) (hd:Rep K J d v) (he:Rep K J e w) (rv:RelV v u) (rw':RelV w u') (hu:A.units + dep d < OW) (hd1:dep d<=1000) (hu':dep e<=1000):SeqAt.RcAt A s u u' (dh d e)/\SeqAt.RcNeAt A s u u' (!dh d e):=by
 have HP:A.units < OW:=by omega
 cases hd with
 | non=>
  cases rv;cases he with
  | non=>cases rw';exact ⟨.none_none,.none_none⟩
  | bl b=>cases rw';exact ⟨.none_bool b,.none_bool b⟩
  | int i=>obtain ⟨t,rfl⟩:=rw';exact ⟨.none_int i t,.none_int i t⟩
  | str x=>obtain ⟨t,rfl⟩:=rw';exact ⟨.none_str x t,.none_str x t⟩
  | tup h hs=>cases rw';obtain ⟨JY,r,p⟩:=F.t _ _ h;exact ⟨.none_tuple p HP,.none_tuple p HP⟩
  | lst h hs=>cases rw';obtain ⟨JY,r,p⟩:=F.l _ _ h;exact ⟨.none_list p HP,.none_list p HP⟩
  | emp _=>unfold dep at hu';omega
  | exn _ _ _ _ _=>unfold dep at hu';omega
  | dct _ _ _ _ _=>unfold dep at hu';omega
 | bl a=>
  cases rv;cases he with
  | non=>cases rw';exact ⟨.bool_none a,.bool_none a⟩
  | bl b=>cases rw';exact ⟨.bool_bool a b,.bool_bool a b⟩
  | int i=>obtain ⟨t,rfl⟩:=rw';exact ⟨.bool_int a i t,.bool_int a i t⟩
  | str x=>obtain ⟨t,rfl⟩:=rw';exact ⟨.bool_str a x t,.bool_str a x t⟩
  | tup h hs=>cases rw';obtain ⟨JY,r,p⟩:=F.t _ _ h;exact ⟨.bool_tuple a p HP,.bool_tuple a p HP⟩
  | lst h hs=>cases rw';obtain ⟨JY,r,p⟩:=F.l _ _ h;exact ⟨.bool_list a p HP,.bool_list a p HP⟩
  | emp _=>unfold dep at hu';omega
  | exn _ _ _ _ _=>unfold dep at hu';omega
  | dct _ _ _ _ _=>unfold dep at hu';omega
 | int a=>
  obtain ⟨t0,rfl⟩:=rv;cases he with
  | non=>cases rw';exact ⟨.int_none a t0,.int_none a t0⟩
  | bl b=>cases rw';exact ⟨.int_bool a t0 b,.int_bool a t0 b⟩
  | int i=>obtain ⟨t,rfl⟩:=rw';exact ⟨.int_int a t0 i t,.int_int a t0 i t⟩
  | str x=>obtain ⟨t,rfl⟩:=rw';exact ⟨.int_str a t0 x t,.int_str a t0 x t⟩
  | tup h hs=>cases rw';obtain ⟨JY,r,p⟩:=F.t _ _ h;exact ⟨.int_tuple a t0 p HP,.int_tuple a t0 p HP⟩
  | lst h hs=>cases rw';obtain ⟨JY,r,p⟩:=F.l _ _ h;exact ⟨.int_list a t0 p HP,.int_list a t0 p HP⟩
  | emp _=>unfold dep at hu';omega
  | exn _ _ _ _ _=>unfold dep at hu';omega
  | dct _ _ _ _ _=>unfold dep at hu';omega
 | str a=>
  obtain ⟨t0,rfl⟩:=rv;cases he with
  | non=>cases rw';exact ⟨.str_none a t0,.str_none a t0⟩
  | bl b=>cases rw';exact ⟨.str_bool a t0 b,.str_bool a t0 b⟩
  | int i=>obtain ⟨t,rfl⟩:=rw';exact ⟨.str_int a t0 i t,.str_int a t0 i t⟩
  | str x=>obtain ⟨t,rfl⟩:=rw';exact ⟨.str_str a t0 x t,.str_str a t0 x t⟩
  | tup h hs=>cases rw';obtain ⟨JY,r,p⟩:=F.t _ _ h;exact ⟨.str_tuple a t0 p HP,.str_tuple a t0 p HP⟩
  | lst h hs=>cases rw';obtain ⟨JY,r,p⟩:=F.l _ _ h;exact ⟨.str_list a t0 p HP,.str_list a t0 p HP⟩
  | emp _=>unfold dep at hu';omega
  | exn _ _ _ _ _=>unfold dep at hu';omega
  | dct _ _ _ _ _=>unfold dep at hu';omega
 | tup h hs=>
  cases rv;obtain ⟨JY,r,p⟩:=F.t _ _ h;cases he with
  | non=>cases rw';exact ⟨.tuple_none p HP,.tuple_none p HP⟩
  | bl b=>cases rw';exact ⟨.tuple_bool b p HP,.tuple_bool b p HP⟩
  | int i=>obtain ⟨t,rfl⟩:=rw';exact ⟨.tuple_int i t p HP,.tuple_int i t p HP⟩
  | str x=>obtain ⟨t,rfl⟩:=rw';exact ⟨.tuple_str x t p HP,.tuple_str x t p HP⟩
  | lst h' hs'=>cases rw';obtain ⟨its',r',p'⟩:=F.l _ _ h';exact ⟨.tuple_list p p' HP,.tuple_list p p' HP⟩
  | emp _=>unfold dep at hu';omega
  | exn _ _ _ _ _=>unfold dep at hu';omega
  | dct _ _ _ _ _=>unfold dep at hu';omega
  | tup h' hs'=>
   cases rw';obtain ⟨its',r',p'⟩:=F.t _ _ h';rename_i a vs ds b ws es;have l1:JY.length=ds.length:=by rw [<-r.length,hs.length]
   have l2:its'.length=es.length:=by rw [<-r'.length,hs'.length]
   have it:∀(j:Nat) (j1:j < JY.toArray.size) (j2:j < its'.toArray.size),Nb A.in1 s JY.toArray[j] its'.toArray[j] (kg ds es j):=λj j1 j2=>by
    have k1:j < ds.length:=by rw [<-l1];simpa using j1
    have k2:j < es.length:=by rw [<-l2];simpa using j2
    have:=jD F A.in1 hs hs' r r' (by rw [in1_units];unfold dep at hu;omega) (by unfold dep at hd1;omega) (by unfold dep at hu';omega) j k1 k2;have m1:j < JY.length:=by simpa using j1
    have m2:j < its'.length:=by simpa using j2
    simpa [m1,m2] using this
   simp only [dh];rw [<-sZ,<-l1,<-l2];have q1:=Rv p p' HP it;have q2:=Ub p p' HP it;exact ⟨by simpa using q1,by simpa using q2⟩
 | emp _=>unfold dep at hd1;omega
 | exn _ _ _ _ _=>unfold dep at hd1;omega
 | dct _ _ _ _ _=>unfold dep at hd1;omega
 | lst h hs=>
  cases rv;obtain ⟨JY,r,p⟩:=F.l _ _ h;cases he with
  | non=>cases rw';exact ⟨.list_none p HP,.list_none p HP⟩
  | bl b=>cases rw';exact ⟨.list_bool b p HP,.list_bool b p HP⟩
  | int i=>obtain ⟨t,rfl⟩:=rw';exact ⟨.list_int i t p HP,.list_int i t p HP⟩
  | str x=>obtain ⟨t,rfl⟩:=rw';exact ⟨.list_str x t p HP,.list_str x t p HP⟩
  | tup h' hs'=>cases rw';obtain ⟨its',r',p'⟩:=F.t _ _ h';exact ⟨.list_tuple p p' HP,.list_tuple p p' HP⟩
  | emp _=>unfold dep at hu';omega
  | exn _ _ _ _ _=>unfold dep at hu';omega
  | dct _ _ _ _ _=>unfold dep at hu';omega
  | lst h' hs'=>
   cases rw';obtain ⟨its',r',p'⟩:=F.l _ _ h';rename_i a vs ds b ws es;have l1:JY.length=ds.length:=by rw [<-r.length,hs.length]
   have l2:its'.length=es.length:=by rw [<-r'.length,hs'.length]
   have it:∀(j:Nat) (j1:j < JY.toArray.size) (j2:j < its'.toArray.size),Nb A.in1 s JY.toArray[j] its'.toArray[j] (kg ds es j):=λj j1 j2=>by
    have k1:j < ds.length:=by rw [<-l1];simpa using j1
    have k2:j < es.length:=by rw [<-l2];simpa using j2
    have:=jD F A.in1 hs hs' r r' (by rw [in1_units];unfold dep at hu;omega) (by unfold dep at hd1;omega) (by unfold dep at hu';omega) j k1 k2;have m1:j < JY.length:=by simpa using j1
    have m2:j < its'.length:=by simpa using j2
    simpa [m1,m2] using this
   simp only [dh];by_cases z:ds.length=es.length
   ·rw [<-jZ z,<-l1];have q1:=RS p p' (by simp;omega) HP it;have q2:=Uo p p' (by simp;omega) HP it;exact ⟨by simpa using q1,by simpa using q2⟩
   ·rw [jY z];exact ⟨.lists_lengths p p' (by simp;omega) HP,.lists_lengths p p' (by simp;omega) HP⟩
end
section
variable {X:Cx}{c:C}{e a b tg:K8}{es:List K8}{ga gb g:G R}{pos:Pos}
theorem RR.rep {He J H:Hp}(hp:HI c J H):∀{r:R}{v:V}{d:D},RR c He J H r v->(∀xs,r=.l .fresh xs\/r=.l .own xs\/r=.l .bor xs->d=.lst xs)->(∀x,r=.d x->d=x)->(∀ks vs,r≠.mo ks vs/\r≠.mb ks vs/\r≠.mf ks vs/\r≠.ln ks)->Rep c.K H d v
 | .mo _ _,_,_,_,_,_,n=>((n _ _).1 rfl).elim
 | .mb _ _,_,_,_,_,_,n=>((n _ _).2.1 rfl).elim
 | .mf _ _,_,_,_,_,_,n=>((n _ _).2.2.1 rfl).elim
 | .ln _,_,_,_,_,_,n=>((n _ []).2.2.2 rfl).elim
 | .d x,v,d,h,_,k,_=>by rw [k x rfl];exact Rep.mono hp.sub h
 | .l m xs,v,d,h,k,_,_=>by have e:d=.lst xs:=k xs (by cases m;exact .inl rfl;exact .inr (.inl rfl);exact .inr (.inr rfl));obtain ⟨a,vs,rfl,h1,h2⟩:=RR.list hp h rfl;rw [e];exact .lst h1 (h2.mono hp.sub)
noncomputable def R.dat:R->D
 | .d x=>x
 | .l _ xs=>.lst xs
 | .mo ks vs=>.dct ks vs
 | .mb ks vs=>.dct ks vs
 | .mf ks vs=>.dct ks vs
 | .ln xs=>.lst xs
theorem RR.dat {He J H:Hp}(hp:HI c J H){r:R}(h:RR c He J H r v):Rep c.K H r.dat v:=by
 by_cases hm:∃ks vs,r=.mo ks vs
 ·obtain ⟨ks,vs,rfl⟩:=hm;obtain ⟨a,rfl,h,_⟩:=h;exact h.rep hp.sub
 by_cases hb:∃ks vs,r=.mb ks vs
 ·obtain ⟨ks,vs,rfl⟩:=hb;obtain ⟨a,rfl,h⟩:=h;exact (h.mono (aP.refl _) hp.ent).rep hp.sub
 by_cases hf:∃ks vs,r=.mf ks vs
 ·obtain ⟨ks,vs,rfl⟩:=hf;obtain ⟨a,rfl,h,_⟩:=h;exact h.rep hp.sub
 by_cases hl:∃xs,r=.ln xs
 ·obtain ⟨xs,rfl⟩:=hl;obtain ⟨a,vs,rfl,h,_,_,h5⟩:=h;exact .lst (.inl (.inl h)) (h5.reps.mono hp.sub)
 refine h.rep hp (λxs q=>?_) (λx q=>by rw [q];rfl) λks vs=>⟨λz=>hm ⟨_,_,z⟩,λz=>hb ⟨_,_,z⟩,λz=>hf ⟨_,_,z⟩,λz=>hl ⟨_,z⟩⟩;rcases q with q | q | q <;> (rw [q];rfl)
noncomputable def AW (K:Ke) (neg:Bool):R2:=λx y H Q=>∃d e,Rep K H d x/\Rep K H e y/\dep d<=60/\dep e<=60/\Q (.bl (if neg then !dh d e else dh d e)) H
theorem jG {H:Hp}(I:Inv X JW σ H s):HF X.K H s:=HF.of (c:=⟨X.K,H,H,λ_=>True⟩) I (aP.refl H)
theorem ze (hu:X.A.units + 64 < OW):dI X (MU .Eq) (AW X.K false):=by intro JW s σ H x y v u Q I rx ry h;obtain ⟨d,e,h1,h2,h3,h4,q⟩:=h;exact (zz (jG I) X.A h1 h2 rx ry (by omega) (by omega) (by omega)).1 X.prog X.w X.xe _ ⟨.bl _,H,I,rfl,q⟩
theorem zh (hu:X.A.units + 64 < OW):dI X (MU .NotEq) (AW X.K true):=by intro JW s σ H x y v u Q I rx ry h;obtain ⟨d,e,h1,h2,h3,h4,q⟩:=h;exact (zz (jG I) X.A h1 h2 rx ry (by omega) (by omega) (by omega)).2 X.prog X.w X.xe _ ⟨.bl _,H,I,rfl,q⟩
noncomputable def bx (neg:Bool) (x y:R):M R:=if dep x.dat<=60/\dep y.dat<=60 then .ok (.d (.bl (if neg then !dh x.dat y.dat else dh x.dat y.dat))) else .bad
theorem rP (neg:Bool) (hK:X.K=c.K):BD c (AW X.K neg) (bx neg):=by
 intro He He' J H x y u v Q hp rx ry w;unfold bx at w;split at w
 ·rename_i hd;exact ⟨x.dat,y.dat,by rw [hK];exact rx.dat hp,by rw [hK];exact ry.dat hp,hd.1,hd.2,w _ J H (Ext.refl hp.sub) (.bl _)⟩
 ·exact w.elim
noncomputable def inD (d:D) (xs:List D):Bool:=xs.any λx=>dh x d
noncomputable def AX (K:Ke) (neg:Bool):R2:=λx y H Q=>∃d p vs ds,Rep K H d x/\dep d<=60/\y=.ref p/\(bV K H p vs\/eH K H p vs)/\aN K H ds vs/\deps ds<=60/\Q (.bl (if neg then !inD d ds else inD d ds)) H
theorem qN {K:Ke}{H:Hp}{y:Kg}:∀{ds:List D}{vs:List V}{us:List Kg},aN K H ds vs->Vals vs us->deps ds<=60->y∈us->∃d' v',Rep K H d' v'/\RelV v' y/\dep d'<=60
 | _,_,_,.nil,.nil,_,hy=>nomatch hy
 | _,_,_,.cons r hs,.cons q rs,hd,hy=>by
  unfold deps at hd;rcases KA.mp hy with rfl | hy
  ·exact ⟨_,_,r,q,by omega⟩
  ·exact qN hs rs (by omega) hy
open Classical in
noncomputable def wQ (K:Ke) (H:Hp) (d:D) (y:Kg):Bool:=decide (∃d' v',Rep K H d' v'/\RelV v' y/\dep d'<=1000/\dh d' d=true)
theorem vq {K:Ke}{H:Hp}{s:Kh}(F:HF K H s){d d':D}{v':V}{y:Kg}(r':Rep K H d' v') (q':RelV v' y) (hd:dep d'<=1000):wQ K H d y=dh d' d:=by
 classical
 unfold wQ;cases z:dh d' d with
 | true=>exact decide_eq_true ⟨d',v',r',q',hd,z⟩
 | false=>
  refine decide_eq_false ?_;rintro ⟨d2,v2,r2,q2,hd2,z2⟩;have:v2=v':=q2.inj q';subst this;rw [Rep.inj F r2 r' hd2 hd] at z2;rw [z] at z2;cases z2
theorem sE {K:Ke}{H:Hp}{s:Kh}(F:HF K H s){d:D}:∀{ds:List D}{vs:List V}{us:List Kg},aN K H ds vs->Vals vs us->deps ds<=1000->us.any (wQ K H d)=inD d ds
 | _,_,_,.nil,.nil,_=>rfl
 | _,_,_,.cons r hs,.cons q rs,hd=>by unfold deps at hd;unfold inD;rw [Rh,Rh,sE F hs rs (by omega),vq F r q (by omega)];rfl
theorem n_ {A:Lh}{s:Kh}{K:Ke}{H:Hp}(F:HF K H s){d:D}{x:V}{u:Kg}(h:Rep K H d x) (rx:RelV x u) (II:dep d<=60) (hA:A.units + 60 < OW){ds:List D}{vs:List V}{us:List Kg}(hs:aN K H ds vs) (rs:Vals vs us) (hd:deps ds<=60):
  ∃e:Kg->Bool,(∀y∈us,Nb A s y u (e y))/\us.any e=inD d ds:=by refine ⟨wQ K H d,λy hy=>?_,sE F hs rs (by omega)⟩;obtain ⟨d',v',r',q',hd'⟩:=qN hs rs hd hy;rw [vq F r' q' (by omega)];exact yK F A r' h q' rx (by omega) (by omega) (by omega)
theorem zf (hu:X.A.units + 64 < OW):dI X (MU .In) (AX X.K false):=by
 intro JW s σ H x y v u Q I rx ry h;obtain ⟨d,p,vs,ds,h1,II,rfl,h2,h3,h4,q⟩:=h;cases ry;have F:=jG I;rcases h2 with h2 | h2
 ·obtain ⟨JY,r,pl⟩:=F.l _ _ h2;obtain ⟨e,he,hany⟩:=n_ (A:=X.A.in1) F h1 rx II (by rw [in1_units];omega) h3 r h4;exact SeqAt.in_listAt e pl (λz hz=>he z (by simpa using hz)) ⟨.bl _,H,I,rfl,by rw [show JY.toArray.any e=JY.any e by simp,hany];exact q⟩
 ·obtain ⟨JY,r,pl⟩:=F.t _ _ h2;obtain ⟨e,he,hany⟩:=n_ (A:=X.A.in1) F h1 rx II (by rw [in1_units];omega) h3 r h4;exact SeqAt.in_tupleAt e pl (λz hz=>he z (by simpa using hz)) ⟨.bl _,H,I,rfl,by rw [show JY.toArray.any e=JY.any e by simp,hany];exact q⟩
theorem zj (hu:X.A.units + 64 < OW):dI X (MU .NotIn) (AX X.K true):=by
 intro JW s σ H x y v u Q I rx ry h;obtain ⟨d,p,vs,ds,h1,II,rfl,h2,h3,h4,q⟩:=h;cases ry;have F:=jG I;rcases h2 with h2 | h2
 ·obtain ⟨JY,r,pl⟩:=F.l _ _ h2;obtain ⟨e,he,hany⟩:=n_ (A:=X.A.in1) F h1 rx II (by rw [in1_units];omega) h3 r h4;exact SeqAt.notIn_listAt e pl (λz hz=>he z (by simpa using hz)) ⟨.bl _,H,I,rfl,by rw [show JY.toArray.any e=JY.any e by simp,hany];exact q⟩
 ·obtain ⟨JY,r,pl⟩:=F.t _ _ h2;obtain ⟨e,he,hany⟩:=n_ (A:=X.A.in1) F h1 rx II (by rw [in1_units];omega) h3 r h4;exact SeqAt.notIn_tupleAt e pl (λz hz=>he z (by simpa using hz)) ⟨.bl _,H,I,rfl,by rw [show JY.toArray.any e=JY.any e by simp,hany];exact q⟩
noncomputable def fO (neg:Bool) (x y:R):M R:=gQ y >>= λys=>if deps ys<=60/\dep x.dat<=60 then .ok (.d (.bl (if neg then !inD x.dat ys else inD x.dat ys))) else .bad
theorem wU (neg:Bool) (hK:X.K=c.K):BD c (AX X.K neg) (fO neg):=by
 intro He He' J H x y u v Q hp rx ry w;obtain ⟨ys,q,w⟩:=iL w;obtain ⟨p,vs,rfl,h1,h2⟩:=jB hp ry q;split at w
 ·rename_i hd;exact ⟨x.dat,p,vs,ys,by rw [hK];exact rx.dat hp,hd.2,rfl,by rw [hK];exact h1,by rw [hK];exact h2.mono hp.sub,hd.1,w _ J H (Ext.refl hp.sub) (.bl _)⟩
 ·exact w.elim
noncomputable abbrev GO:=G (Option Int)
noncomputable def tO (c:C) (g:GO):TO:=λσ H Q=>∃J env,SR c J H σ env/\cA (g env) (λo=>∀J' H',Ext J H J' H'->Q o H') c.T
noncomputable def DF (X:Cx) (c:C) (e:Option K8) (g:GO):Prop:=PO X e (tO c g)
theorem BB {X:Cx}{e:Option K8}{t t':TO}(h:PO X e t) (k:∀σ H Q,t' σ H Q->t σ H Q):PO X e t':=λJW s σ H Q I q=>h JW s σ H Q I (k σ H Q q)
noncomputable def m8:GO:=λ_=>.ok none
noncomputable def gm (g:G R):GO:=λenv=>g env >>= λr=>match r with
 | .d (.int i)=>.ok (some i)
 | _=>.bad
noncomputable def cutD (xs:List D) (lo hi:Option Int):List D:=(xs.drop (HT.bh xs.length 0 lo)).take (HT.bh xs.length xs.length hi - HT.bh xs.length 0 lo)
theorem aN.cut {K:Ke}{J:Hp}{xs:List D}{vs:List V}(h:aN K J xs vs) (lo hi:Option Int):aN K J (cutD xs lo hi) (jt vs lo hi):=by unfold cutD jt;rw [h.length];exact (h.drop _).take _
noncomputable def iV (f:R->Option Int->Option Int->M R) (g:G R) (lo hi:GO):G R:=λenv=>g env >>= λx=>lo env >>= λl=>hi env >>= λu=>f x l u
theorem F0 {r:V->Option Int->Option Int->Hp->VK->Prop}{f:R->Option Int->Option Int->M R}{lo hi:Option K8}{gl gh:GO}{p2:Pos}(hr:n8 X r) (hf:∀(He J H:Hp) (x:R) (v:V) (l u:Option Int) (Q:VK),HI c J H->RR c He J H x v->
   cA (f x l u) (λz=>∀w J' H',Ext J H J' H'->RR c H J' H' z w->Q w H') c.T->r v l u H Q) (h:PD X c e g) (hl:DF X c lo gl) (hh:DF X c hi gh):PD X c (.Subscript e (.Slice lo hi none p2) pos) (iV f g gl gh):=
 eO (AJ hr h hl hh) λσ H Q ⟨J,env,sr,w⟩=>by refine ⟨J,env,sr,az (aD w) λx wx v J1 H1 e1 r1=>?_⟩;refine ⟨J1,env,sr.ext e1,az (aD wx) λl wl J2 H2 e2=>?_⟩;refine ⟨J2,env,(sr.ext e1).ext e2,az (aD wl) λu wu J3 H3 e3=>?_⟩;have ee:=(e1.trans e2).trans e3;exact hf H J3 H3 x v l u Q (sr.hp.ext ee) ((r1.ext e2).ext e3) (az wu λz q w J' H' e4 r4=>q w J' H' (ee.trans e4) (RR.from ee.h r4))
noncomputable def GN (x:R) (l u:Option Int):M R:=gj x >>= λxs=>.ok (.l .fresh (cutD xs l u))
theorem xV {ss:List Str}:∀{us:List Kg},Vals (ss.map V.str) us->O5 us ss:=by
 induction ss with
 | nil=>intro us h;cases h;exact .nil
 | cons x r ih=>
  intro us h;cases h with
  | cons q rs=>
   obtain ⟨t,rfl⟩:=q;exact .cons x t (ih rs)
theorem l5:∀{us:List Kg}{ss:List Str},O5 us ss->Vals (ss.map V.str) us
 | _,_,.nil=>.nil
 | _,_,.cons y t h=>.cons ⟨t,rfl⟩ (l5 h)
noncomputable def gH (x y:Str):Bool:=decide (x.cps.toList<=y.cps.toList)
noncomputable def dX (ss:List Str):List Str:=ss.mergeSort gH
theorem qF (x y z:Str) (h1:gH x y=true) (h2:gH y z=true):gH x z=true:=by unfold gH at *;exact decide_eq_true (List.le_trans (of_decide_eq_true h1) (of_decide_eq_true h2))
theorem y9 (x y:Str):(gH x y || gH y x)=true:=by
 unfold gH;rw [MX];rcases List.le_total x.cps.toList y.cps.toList with h | h
 ·exact .inl (decide_eq_true h)
 ·exact .inr (decide_eq_true h)
theorem tQ (h1:gH x y=true) (h2:gH y x=true):x=y:=by unfold gH at *;have:=List.le_antisymm (of_decide_eq_true h1) (of_decide_eq_true h2);obtain ⟨⟨cx⟩⟩:=x;obtain ⟨⟨cy⟩⟩:=y;simp only at this;rw [this]
theorem i_ (ss:List Str):(dX ss).Pairwise λx y=>gH x y=true:=List.pairwise_mergeSort qF y9 ss
theorem fq (ss:List Str):(dX ss).Perm ss:=List.mergeSort_perm ss gH
theorem o9:∀(x:Str) (r:List Str),risingS x r=true->(x::r).Pairwise λx y=>gH x y=true
 | x,[],_=>by simp
 | x,y::r,h=>by
  unfold risingS at h;rw [KU] at h;have hy:=o9 y r h.2;have hxy:gH x y=true:=by
   have h1:=h.1;rw [ltCps_eq] at h1;unfold gH;refine decide_eq_true ?_;have:¬y.cps.toList < x.cps.toList:=by simpa using h1
   exact this
  refine O0.mpr ⟨λz hz=>?_,hy⟩;rcases KA.mp hz with rfl | hz
  ·exact hxy
  ·exact qF x y z hxy ((O0.mp hy).1 z hz)
theorem pB {ss ss':List Str}(hp:ss'.Perm ss) (hs:sortedS ss'=true):ss'=dX ss:=by
 have pw:ss'.Pairwise λx y=>gH x y=true:=by
  cases ss' with
  | nil=>exact N8
  | cons x r=>exact o9 x r hs
 exact (hp.trans (fq ss).symm).eq_of_pairwise (λx y _ _ h1 h2=>tQ h1 h2) pw (i_ ss)
theorem sP:dD X (.builtin "sorted") (λxs H Q=>∃p ss,xs=[.ref p]/\bV X.K H p (ss.map V.str)/\ss.length < 64/\∀ss',ss'.Perm ss->sortedS ss'=true->∀l,H l=none->Q (.ref l) (upd H l (.lst (ss'.map V.str)))):=by
 intro JW s σ H xs us Q I r h;obtain ⟨p,ss,rfl,hq,hl,q⟩:=h;obtain ⟨u,rfl,rx⟩:=vals1 r;cases rx;obtain ⟨JY,r',pl,hz⟩:=I.list hq;have hlen:=r'.length;refine sorted_strs pl.isList (xV r') (by rw [<-hlen,Km];exact hl) λout ss' a1 a2 a3=>?_;obtain ⟨n,hn⟩:=sortedAll_at s.heap JY out;have kp:∀b o,s.heap.get? b=some o->(sortedAll s.heap JY out).get? b=some o:=λb o e=>sortedAll_old e;have fr:H (s.heap.objs.size + 1)=none:=I.hok.fresh (MP _);have ll:(ss'.map V.str).length=(ss.map V.str).length:=by rw [Km,Km,a2.length_eq]
 refine ⟨.ref (s.heap.objs.size + 1),_,I.laid (t':=s.toks) kp (MP _) (show cX X.prog X.w _ _ _ (.lst (ss'.map V.str)) from ⟨by rw [ll];exact hz,out.toList,n,l5 a1,by simpa [Up] using hn⟩),rfl,q ss' a2 a3 _ fr⟩
noncomputable def strsOf:List D->Option (List Str)
 | []=>some []
 | .str x::r=>(strsOf r).map (x::·)
 | _::_=>none
theorem kH {K:Ke}{J:Hp}:∀{ds:List D}{vs:List V}{ss:List Str},strsOf ds=some ss->aN K J ds vs->vs=ss.map V.str
 | [],_,_,h,.nil=>by cases h;rfl
 | .str x::r,_,ss,h,.cons q rs=>by
  unfold strsOf at h;cases z:strsOf r with
  | none=>rw [z] at h;cases h
  | some ss'=>
   rw [z] at h;cases h;cases q;rw [kH z rs];rfl
theorem lT {K:Ke}{J:Hp}:∀(ss:List Str),aN K J (ss.map D.str) (ss.map V.str)
 | []=>.nil
 | x::r=>.cons (.str x) (lT r)
noncomputable def iE:List R->M R
 | [r]=>gj r >>= λxs=>match strsOf xs with
  | some ss=>if ss.length < 64 then .ok (.l .fresh ((dX ss).map .str)) else .bad
  | none=>.bad
 | _=>.bad
theorem lg:Lm "sorted"=some (.builtin "sorted"):=by decide +kernel
theorem foldl_size (c:Array Nat):∀(k:Nat) (acc:Array Nat),((K6 k c).foldl (·++·) acc).size=acc.size + k * c.size
 | 0,acc=>by simp
 | k + 1,acc=>by rw [L5,Nj,foldl_size c k,Rw,Nat.succ_mul];omega
noncomputable def eG (x:Str) (n:Nat):Str:=⟨(K6 n x.cps).foldl (·++·) #[]⟩
theorem uU (x:Str) (n:Nat):(eG x n).length=n * x.length:=by unfold eG Rq;simp only;rw [foldl_size];simp
theorem Cw:dI X (NP .Mult) (λx y H Q=>∃z n,x=.str z/\y=.int n/\0<=n/\n<=1000/\z.length<=1000/\Q (.str (eG z n.toNat)) H):=by
 intro JW s σ H x y v u Q I rx ry h;obtain ⟨z,n,rfl,rfl,h0,h1,h2,q⟩:=h;obtain ⟨t,rfl⟩:=rx;obtain ⟨t',rfl⟩:=ry;have hz:QV (z.length * n.toNat)=false:=by have:z.length * n.toNat<=1000 * 1000:=Sn h2 (by omega);unfold QV;exact decide_eq_false (by have:=Ly;omega)
 refine PySem.P.mul_str (by
  rw [decide_eq_false (by omega:¬n < -(2 ^ 63:Int)),decide_eq_false (by omega:¬n ≥ 2 ^ 63)];rfl) (λhn _=>?_) (λ_ _=>hz) ?_
 ·have:(2 ^ 63 - 1:Int) / 1000<=(2 ^ 63 - 1) / n:=by refine (Int.le_ediv_iff_mul_le (by omega)).mpr ?_;have:(2 ^ 63 - 1:Int) / 1000 * n<=(2 ^ 63 - 1:Int) / 1000 * 1000:=Int.mul_le_mul_of_nonneg_left h1 (by decide);exact Int.le_trans this (by decide)
  have e:(2 ^ 63 - 1:Int) / 1000=9223372036854775:=by decide
  omega
 ·split
  ·rename_i hn;have e:n=0:=by omega
   subst e;exact ⟨by decide,.str _,H,I.tok _,⟨_,rfl⟩,q⟩
  ·split
   ·rename_i hn hc;have e:eG z n.toNat=z:=by
     unfold eG;rw [MX] at hc;rcases hc with hc | hc
     ·have e:n=1:=by simpa using hc
      subst e;simp
     ·have e:z.length=0:=by simpa using hc
      have e2:z.cps=#[]:=by unfold Rq at e;exact Array.eq_empty_of_size_eq_zero e
      obtain ⟨cz⟩:=z;simp only at e2;subst e2;congr 1;generalize n.toNat=k
      induction k with
      | zero=>rfl
      | succ k ih=>rw [L5,Nj];exact ih
    rw [e] at q;exact ⟨.str z,H,I,⟨_,rfl⟩,q⟩
   ·exact ⟨by
     have:=uU z n.toNat
     unfold eG at this;rw [this,Nat.mul_comm];have:z.length * n.toNat<=1000 * 1000:=Sn h2 (by omega);rw [Ly];omega,.str _,H,I.tok _,⟨_,rfl⟩,q⟩
noncomputable def xj:R->R->M R
 | .d (.str z),.d (.int n)=>if 0<=n/\n<=1000/\z.length<=1000 then .ok (.d (.str (eG z n.toNat))) else .bad
 | _,_=>.bad
noncomputable def c9:D->String
 | .non=>"NoneType"
 | .bl _=>"bool"
 | .int _=>"int"
 | .str _=>"str"
 | .tup _=>"tuple"
 | .lst _=>"list"
 | .emp=>"dict"
 | .exn _ _ _=>"exc"
 | .dct _ _=>"dict"
noncomputable def cS (t T:String):Bool:=t == T || (t == "bool" && T == "int")
noncomputable def Br:R->Bool
 | .d (.int _)=>true
 | _=>false
noncomputable def Gx:R->Bool
 | .d (.str _)=>true
 | _=>false
noncomputable def bu (x y:R):M R:=if Br x then D3 x y else if Gx x then xg x y else xh x y
noncomputable def di (x y:R):M R:=if Br x then D6 x y else xj x y
noncomputable def aK (x y:R):M R:=match x,y with
 | .d (.str z),.d (.int i)=>if z.length<=sizeLine then (match iR z.cps.toList i with
  | some k=>.ok (.d (.str ⟨#[k]⟩))
  | none=>.bad) else .bad
 | x,.d (.int i)=>gQ x >>= λxs=>(match iR xs i with
  | some d=>.ok (.d d)
  | none=>.bad)
 | _,_=>.bad
noncomputable def bq (P:KL) (w:K5) (K:Ke) (mg:Str->Option Kg) (base:L7) (k n:Nat) (x:Str) (Fm:List S->M R):Prop:=
 ∃f fd ps,gA P w K mg base jx k f fd ps (kU K n Fm)/\mg x=some (.ref f)/\Na K (.ref f)=true/\Binds K fd ps []
theorem DS {P:KL}{w:K5}{K:Ke}{mg:Str->Option Kg}{base:L7}{x J_:Str}{st:Nc}{f:KJ}{fd:K7}{N ps:List Str}{k:Nat}{Fm:List S->M R}(F:gP K x J_ st f fd) (hm:mg x=some (.ref f)) (Sc:c7 N ps (aT st))
  (hbi:∀(kV doc pm:Kg) (an:Option KJ) (cdv ct:Kg) (us:List Kg),us.length=ps.length->Qx (LR x J_ (dO st) (bQ st) (aT st) .none kV doc pm an cdv ct) ⟨us,[]⟩=pure (ps.zip us)){gB:G O}
  (hb:∀(cdv:Kg) (A:Lh) (outer:List Env) (s:Kh) (H:Hp) (E:XK) (J:Hp) (T:Exc->Prop),dg k (A.deeper (OG J_ (aT st) s.heap.objs.size f cdv))->
   DC (sV P w K mg base N J_ (aT st) f cdv A outer s H E) ⟨K,H,J,T⟩ (bQ st) gB)
  (hF:∀as r,as.length=ps.length->Fm as=.ok r->fin (gB (aF N as))=.ok r):bq P w K mg base (k + 1) ps.length x Fm:=
 ⟨f,fd,ps,yN F Sc hb hF,hm,F.kp,F.binds hbi⟩
noncomputable def AH:List Str->Bool
 | []=>true
 | x::r=>!(r.contains x) && AH r
theorem d9:∀{l:List Str},AH l=true->l.Nodup
 | [],_=>Og
 | x::r,h=>by unfold AH at h;rw [KU] at h;refine MB.mpr ⟨λz=>?_,d9 h.2⟩;have:=h.1;simp [z] at this
theorem Aj {H:Hp}{s:Kh}{a C:KJ}{dx:Option KJ}(I:L2.Inv X JW σ H s) (h:H a=some (DX.XO a C dx)) (xf:XF H dx ns vs):∃ox od,Nv s.heap a ox C od/\od.isSome=dx.isSome/\(∀d,dx=some d->∃o,od=some o/\s.heap.get? d=some o):=by
 obtain ⟨⟨oe,fs,h1,h2,h3,h4⟩,_⟩:=I.hok a _ h;have hn:So oe=true:=by unfold So;rw [h4]
 rcases xf with ⟨rfl,_⟩ | ⟨d,rfl,_,hd⟩
 ·exact ⟨oe,none,⟨h1,h2,hn,by rw [h3];exact Qz⟩,rfl,λd z=>by cases z⟩
 ·obtain ⟨m,⟨o,es,ep,k1,_⟩,_⟩:=I.hok d _ hd;exact ⟨oe,some o,⟨h1,h2,hn,by rw [h3];exact k1⟩,rfl,λd' z=>by cases z;exact ⟨o,rfl,k1⟩⟩
noncomputable def vc (T:String):Prop:=(∀(K:Ke) (t:String),t∈["NoneType","bool","int","str","tuple","list","dict"]->QM K (.type t) (.type T)=some (cS t T))/\R6 T=true/\DX.pF.contains (.type T)=false/\cS "exc" T=false
theorem Ck:vc "int":=⟨λK t h=>by
 simp only [KA,LH,or_false] at h;rcases h with rfl | rfl | rfl | rfl | rfl | rfl | rfl <;> rfl,by decide +kernel,by decide,by decide⟩
theorem tN:vc "bool":=⟨λK t h=>by
 simp only [KA,LH,or_false] at h;rcases h with rfl | rfl | rfl | rfl | rfl | rfl | rfl <;> rfl,by decide +kernel,by decide,by decide⟩
theorem Cm:vc "str":=⟨λK t h=>by
 simp only [KA,LH,or_false] at h;rcases h with rfl | rfl | rfl | rfl | rfl | rfl | rfl <;> rfl,by decide +kernel,by decide,by decide⟩
theorem Ax:vc "list":=⟨λK t h=>by
 simp only [KA,LH,or_false] at h;rcases h with rfl | rfl | rfl | rfl | rfl | rfl | rfl <;> rfl,by decide +kernel,by decide,by decide⟩
theorem uN {T:String}(kit:vc T):
  dD X (.builtin "isinstance") (λxs H Q=>∃d x,xs=[x,.ty T]/\Rep X.K H d x/\Q (.bl (cS (c9 d) T)) H):=by
 intro JW s σ H xs us Q I r h;obtain ⟨d,x,rfl,hd,q⟩:=h;obtain ⟨u,w',rfl,rx,ry⟩:=vals2 r;cases ry;have fin:∀tk,EP X JW σ Q (.bool (cS (c9 d) T)) {s with toks:=tk}:=λtk=>⟨.bl _,H,I.tok tk,rfl,q⟩;have F:=jG I;cases hd with
 | non=>cases rx;exact Mr W.kitx_none I.kIn Qz (kit.1 X.K _ (by simp [c9])) (λz=>nomatch z) fin
 | bl y=>cases rx;exact Mr W.kitx_bool I.kIn Qz (kit.1 X.K _ (by simp [c9])) (λz=>nomatch z) fin
 | int i=>obtain ⟨t,rfl⟩:=rx;exact Mr W.kitx_int I.kIn Qz (kit.1 X.K _ (by simp [c9])) (λz=>nomatch z) fin
 | str y=>obtain ⟨t,rfl⟩:=rx;exact Mr W.kitx_str I.kIn Qz (kit.1 X.K _ (by simp [c9])) (λz=>nomatch z) fin
 | tup h hs=>
  cases rx;obtain ⟨JY,r,o,h1,h2,_⟩:=F.t _ _ h;exact Mr W.kitx_tuple I.kIn ⟨o,h1,h2⟩ (kit.1 X.K _ (by simp [c9])) (λz=>nomatch z) fin
 | lst h hs=>
  cases rx;obtain ⟨JY,r,o,h1,h2,_⟩:=F.l _ _ h;exact Mr W.kitx_list I.kIn ⟨o,h1,h2⟩ (kit.1 X.K _ (by simp [c9])) (λz=>nomatch z) fin
 | emp h=>
  cases rx;obtain ⟨o,h1,h2⟩:=F.e _ h;exact Mr Ry I.kIn ⟨o,h1,h2⟩ (kit.1 X.K _ (by simp [c9])) (λz=>nomatch z) fin
 | dct h _ _ _ _=>
  cases rx;obtain ⟨o,es,h1,h2,_⟩:=F.d _ _ _ h;exact Mr Ry I.kIn ⟨o,h1,h2.1⟩ (kit.1 X.K _ (by simp [c9])) (λz=>nomatch z) fin
 | exn h1 h2 h3 hs hx=>
  cases rx;obtain ⟨P,G,E⟩:=hx;obtain ⟨ox,od,J,_⟩:=Aj I h1 h3;simp only [c9,kit.2.2.2] at fin;exact Mr (DX.Ay G E) I.kIn ⟨ox,od,J⟩ (DX.Es E kit.2.1 kit.2.2.1) (λz=>nomatch z) fin
noncomputable def cO (T:String) (g:G R):G R:=λenv=>g env >>= λr=>.ok (.d (.bl (cS (c9 r.dat) T)))
noncomputable def jf:List D->Option (List Bool)
 | []=>some []
 | .bl k::r=>(jf r).map (k::·)
 | _::_=>none
theorem qw {K:Ke}{J:Hp}:∀{ds:List D}{vs:List V}{ks:List Bool},jf ds=some ks->aN K J ds vs->vs=ks.map V.bl
 | [],_,_,h,.nil=>by cases h;rfl
 | .bl x::r,_,ks,h,.cons q rs=>by
  unfold jf at h;cases z:jf r with
  | none=>rw [z] at h;cases h
  | some ks'=>
   rw [z] at h;cases h;cases q;rw [qw z rs];rfl
theorem uE:∀{ks:List Bool}{us:List Kg},Vals (ks.map V.bl) us->us=ks.map OB
 | [],_,.nil=>rfl
 | k::ks,_,.cons r rs=>by cases r;rw [uE rs];rfl
theorem all_range (ks:List Bool):(Ky ks.length).all (λi=>ks.getD i true)=ks.all id:=by
 induction ks with
 | nil=>rfl
 | cons k r ih=>
  rw [L3,PN,NW,RM,NW];simp only [List.getD_cons_zero];rw [<-ih];rfl
theorem yt (hc:X.calm=true):dD X (.builtin "all") (λxs H Q=>∃(p:KJ) (ks:List Bool),xs=[.ref p]/\bV X.K H p (ks.map V.bl)/\Q (.bl (ks.all id)) H):=by
 intro JW s σ H xs us Q I r h;obtain ⟨p,ks,rfl,hq,q⟩:=h;obtain ⟨u,rfl,rx⟩:=vals1 r;cases rx;obtain ⟨JY,r',pl,hz⟩:=I.list hq;have hi:=uE r';subst hi;have JM:p≠s.heap.objs.size:=by obtain ⟨o,h1,_⟩:=pl.isList;exact KI (Kz h1)
 refine call_all_walk (N9 pl.isList ⟨s.heap.objs.size,_,_,_,_,_,(λi=>ks.getD i true),rfl,SK (A:=X.A.in1) (show X.A.in1.handled=none from I.ok.hd hc) s.heap.objs.size p JM (ks.map OB).toArray,⟨⟨_,Kn _ rfl,rfl,rfl⟩,Uy pl.isList _⟩,?_,λh' tk k=>?_⟩)
 ·intro i v s' Q' E' hP hQ;have e:∃k,ks[i]?=some k/\v=.bool k:=by
   have hP':(ks.map OB)[i]?=some v:=by simpa using hP
   rw [KQ] at hP';cases z:ks[i]? with
   | none=>rw [z] at hP';cases hP'
   | some k=>rw [z] at hP';cases hP';exact ⟨k,rfl,rfl⟩
  obtain ⟨k,e1,rfl⟩:=e;simp only at hQ;rw [K2,e1] at hQ;exact Mf hQ
 ·have sz:(ks.map OB).toArray.size=ks.length:=by simp
  rw [sz,all_range];refine ⟨.bl (ks.all id),H,?_,rfl,q⟩;refine I.kept λb o e=>k b o (λz=>?_) (Kl _ e);have:b=s.heap.objs.size:=by simpa using z
  exact absurd (this▸Kz e) (My _)
noncomputable def gU:List R->M R
 | [r]=>gj r >>= λxs=>match jf xs with
  | some ks=>.ok (.d (.bl (ks.all id)))
  | none=>.bad
 | _=>.bad
theorem yl:Lm "all"=some (.builtin "all"):=by decide +kernel
noncomputable def GL (neg:Bool):R->R->M R
 | .d (.str i),.d (.str j)=>.ok (.d (.bl (if neg then !(!(NX j i 0 j.length 1).isEmpty) else !(NX j i 0 j.length 1).isEmpty)))
 | _,_=>.bad
noncomputable def HL (p q:Int->Int->Bool) (ga gb gc:G R):G R:=λenv=>ga env >>= λx=>gb env >>= λy=>match x,y with
 | .d (.int i),.d (.int j)=>if p i j then (gc env >>= λz=>match z with
  | .d (.int k)=>.ok (.d (.bl (q j k)))
  | _=>.bad) else .ok (.d (.bl false))
 | _,_=>.bad
noncomputable def Al:List R->M R
 | [.d (.int i),.d (.int j)]=>.ok (.d (.int (if j > i then j else i)))
 | _=>.bad
theorem CB (hm:X.mg x=some u) (r:RelV v u) (hr:∀J,Rep c.K J d v) (hg:Gl X x:=by rfl) (hd:(x == ("__debug__":Str))=false:=by decide):PD X c (.Name x pos) (gC d):=rW hr (p9 hg hm r hd)
theorem DQ {H:Hp}{s:Kh}(I:Inv X JW σ H s):MT < s.heap.objs.size:=by have h:KW < s.heap.objs.size:=(I.mod.glob.keeps I.bk).lt;exact LS (by decide) h
noncomputable def HG:R->R->M R
 | .d (.tup xs),.d (.tup ys)=>if xs.length + ys.length<=sizeLine then .ok (.d (.tup (xs++ys))) else .bad
 | _,_=>.bad
noncomputable def Hq:R->Bool
 | .d (.tup _)=>true
 | _=>false
noncomputable def intsOf:List D->Option (List Int)
 | []=>some []
 | .int i::r=>(intsOf r).map (i::·)
 | _::_=>none
theorem oO {K:Ke}{J:Hp}:∀{ds:List D}{vs:List V}{ns:List Int},intsOf ds=some ns->aN K J ds vs->vs=ns.map V.int
 | [],_,_,h,.nil=>by cases h;rfl
 | .int x::r,_,ks,h,.cons q rs=>by
  unfold intsOf at h;cases z:intsOf r with
  | none=>rw [z] at h;cases h
  | some ks'=>
   rw [z] at h;cases h;cases q;rw [oO z rs];rfl
noncomputable def D5:R->R->M R
 | .d (.int i),.d (.int j)=>.ok (.d (.bl (decide (i < j))))
 | .d (.str i),.d (.str j)=>.ok (.d (.bl (decide (i.cps.toList < j.cps.toList))))
 | .d (.tup xs),.d (.tup ys)=>match intsOf xs,intsOf ys with
  | some ns,some ms=>.ok (.d (.bl (HT.lexLt ns ms)))
  | _,_=>.bad
 | _,_=>.bad
end
noncomputable def Bc (x:Str):It:=⟨λi _=>i < x.cps.size,λi H y H'=>H'=H/\∃k,x.cps[i]?=some k/\y=.str ⟨#[k]⟩,λi _=>x.cps.size<=i⟩
theorem uD {P:KL}{w:K5}{K:Ke}{tg:K8}{ty:String}{x:Str}{t:Tok}(it:KJ) (hty:["enumerate","zip","dict_itemiterator","dict_reverseitemiterator","odict_iterator","itertools.zip_longest","itertools.pairwise"].contains ty=false)
  (W:∀A:Lh,A.handled=none->Walks P w A it [it] [it] x.cps.size (SignAt x) (λi h=>h.IsStrIter it ty x t i))
  (Ws:∀(A:Lh) (i:Nat) (s:Kh) (Q:Kg->Kh->Prop) (E:Kg->Kh->Prop),s.heap.IsStrIter it ty x t i->Q (.ref it) s->KH (KS P w) A (OE (.ref it)) Q E s)
  (We:∀(A:Lh) (i:Nat) (s:Kh) (Q:Option Kg->Kh->Prop) (E:Kg->Kh->Prop),A.handled=none->s.heap.IsStrIter it ty x t i->x.cps[i]?=none->(∀h',(∀b o,b≠it->s.heap.get? b=some o->h'.get? b=some o)->Q none {s with heap:=h'})->KH (KS P w) A (NI (.ref it)) Q E s):Turn P w K tg (Bc x) [it] it (λi h=>h.IsStrIter it ty x t i) where
 mem:=by simp
 obj:=λi h st b hb=>by
  have e:b=it:=by simpa using hb
  subst e;obtain ⟨o,e,c,d⟩:=st;exact ⟨o,e,λv z=>by rw [d] at z;cases z⟩
 keep:=λi h h' st k=>by obtain ⟨o,e,r⟩:=st;exact ⟨o,k it (by simp) o e,r⟩
 item:=by intro X hP hw hK hc i JW s σ H E I hf st hg;subst hP hw hK;obtain ⟨f0,f1,f2,f3,f4,f5⟩:=hf it (by simp);refine (W X.A (I.ok.hd hc)).item i s _ _ hg st λv h' tk hv st' kk=>?_;obtain ⟨k,u,hk,rfl⟩:=hv;have I1:Inv X JW σ H {s with heap:=h',toks:=tk}:=I.turned (λb o hb e=>kk b o (by simpa using hb) e) f0 f1 f3 f4 f5;obtain ⟨o,e,c,d⟩:=id st';exact ⟨_,rfl,rS (s:={s with heap:=h',toks:=tk}) e c d hty ⟨.str ⟨#[k]⟩,H,I1,⟨u,rfl⟩,⟨rfl,k,hk,rfl⟩,st',λb hb=>(hf b hb).1⟩⟩
 done:=by
  intro X hP hw hK hc i JW s σ H E I hf st hg;subst hP hw hK;obtain ⟨f0,f1,f2,f3,f4,f5⟩:=hf it (by simp);have hx:x.cps[i]?=none:=by have:x.cps.size<=i:=hg;simp;omega
  exact We X.A i s _ E (I.ok.hd hc) st hx λh' eb=>⟨rfl,I.turned (t':=s.toks) (λb o hb e=>eb b o hb e) f0 f1 f3 f4 f5⟩
 self:=Ws
section
variable {X:Cx}{c:C}{e a b tg:K8}{es:List K8}{ga gb g:G R}{pos:Pos}
noncomputable def signs (x:Str):List D:=x.cps.toList.map λk=>.str ⟨#[k]⟩
noncomputable def Ao (g:G R):G (List D):=λenv=>g env >>= λr=>match r with
 | .d (.str x)=>.ok (signs x)
 | _=>.bad
noncomputable def GQ (tl:TE):TI:=λσ H R=>tl σ H λx H1=>∃z,x=.str z/\R (Bc z) H1
theorem ET {l:K8}{tl:TE}(hl:PE X l tl):PI X tg l (GQ tl):=by
 intro JW s σ H R I h;refine bF (hl JW s σ H _ I h) λv s1 ⟨x,H1,I1,r1,q1⟩=>?_;obtain ⟨z,rfl,q⟩:=q1;obtain ⟨t,rfl⟩:=r1;have fin:∀(ty:String) (o:Obj) (T:Turn X.prog X.w X.K tg (Bc z) [s1.heap.objs.size] s1.heap.objs.size (λi h=>h.IsStrIter s1.heap.objs.size ty z t i)),(s1.heap.push o).IsStrIter s1.heap.objs.size ty z t 0->
   DE X JW σ tg R (.ref s1.heap.objs.size) {s1 with heap:=s1.heap.push o}:=λty o T hst=>
  ⟨s1.heap.objs.size,[s1.heap.objs.size],_,_,H1,rfl,I1.kept (t':=s1.toks) λb o e=>Kl _ e,T,hst,λb hb=>by
   have e:b=s1.heap.objs.size:=by simpa using hb
   subst e;exact I1.fpOk (Kr _) (I1.hok.fresh (Kr _)),q⟩
 cases ha:z.cps.all (· < 128)
 ·exact wpAny_pyIter_wide ha (fin "str_iterator" _ (uD _ (by decide) (λA hA=>Walks.strWide hA _ z t) (λA i s Q E st hQ=>wpAny_pyIter_striter_wide st hQ) (λA i s Q E hA st hx hQ=>wpAny_pyNext_wide_end hA st hx hQ)) ⟨_,Kn _ rfl,rfl,rfl⟩)
 ·exact wpAny_pyIter_ascii ha (fin "str_ascii_iterator" _ (uD _ (by decide) (λA hA=>Walks.strAscii hA _ z t) (λA i s Q E st hQ=>wpAny_pyIter_striter_ascii st hQ) (λA i s Q E hA st hx hQ=>wpAny_pyNext_ascii_end hA st hx hQ)) ⟨_,Kn _ rfl,rfl,rfl⟩)
theorem A9 {J1:Hp}{x:Str}{Ut:Hp->Hp->Prop}:Walk c (Bc x) (signs x) J1 Ut:=by
 intro i J H hp u;have hl:(signs x).length=x.cps.size:=by simp [signs]
 refine ⟨λh=>(show x.cps.size<=i by rw [<-hl];exact h),λd hd=>?_⟩;have hi:i < x.cps.size:=by rw [<-hl];exact (KY.mp hd).1
 refine ⟨hi,λy H2 ⟨e1,k,hk,e2⟩=>?_⟩;subst e1 e2;refine ⟨J,Ext.refl hp.sub,?_⟩;unfold signs at hd;rw [KQ] at hd;have hk':x.cps.toList[i]?=some k:=by simpa using hk
 rw [hk'] at hd;cases hd;exact .str _
theorem u0 {prog:KL}{w:K5}{A:Lh}{E:Kg->Kh->Prop}{s:Kh}{t sl:KJ}{JX:Array Kg}{vl vu:Kg}{lo hi:Option Int}{Q:Kg->Kh->Prop}(ht:IsTup s.heap t JX) (hs:s.heap.IsSliceOf sl vl vu .none) (pl:Q6 vl lo) (pu:Q6 vu hi)
  (hw:HT.bh JX.size 0 lo=0/\HT.bh JX.size JX.size hi=JX.size) (h:Q (.ref t) s):KH (KS prog w) A (P7 (.ref t) (.ref sl)) Q E s:=by
 obtain ⟨os,hos,hcs,hds⟩:=id hs;have IT:s.TypeIs (.ref sl) "slice":=⟨os,hos,hcs⟩;unfold P7
 try with_reducible refine Lz ?_
 first | refine Kd (Kf ?_) | skip
 refine Kd (Pb ht.typeIs (by decide) ?_);refine Kd (LM (name:=NJ "__getitem__") ht.typeIs K4
  (Lo K4 ht.typeIs OI ?_ (OZ _ _)))
 show KH _ _ (Nt (.ref t) >>= _) _ _ s;refine Kd (Q8 ht ?_);refine Kd (NK IT ?_);rw [if_pos (by decide)];refine Kd (HT.i9 hs pl pu ?_);have hyes:(((HT.bh JX.size 0 lo:Nat):Int) == 0 && (1:Int) == 1 && (HT.bh JX.size JX.size hi - HT.bh JX.size 0 lo) == JX.size)=true:=by rw [hw.1,hw.2];simp
 show KH _ _ (if (((HT.bh JX.size 0 lo:Nat):Int) == 0 && (1:Int) == 1 && (HT.bh JX.size JX.size hi - HT.bh JX.size 0 lo) == JX.size)=true then _ else _) _ _ s;rw [if_pos hyes];unfold Si;refine Kd (Kd (NK ht.typeIs (Kf ?_)));rw [if_pos (by decide)];exact Kd (N_ (Kf ⟨_,rfl,Kf h⟩))
theorem zG:n8 X (λx lo hi H Q=>∃a xs,x=.ref a/\eH X.K H a xs/\((HT.bh xs.length 0 lo=0/\HT.bh xs.length xs.length hi=xs.length)->Q (.ref a) H)/\∀p,H p=none->Q (.ref p) (upd H p (.tup (jt xs lo hi)))):=by
 intro JW s σ H x v vl vu lo hi sl Q I rx hs pl pu h;obtain ⟨a,xs,rfl,hx,q0,q1⟩:=h;by_cases hw:HT.bh xs.length 0 lo=0/\HT.bh xs.length xs.length hi=xs.length
 ·cases rx;obtain ⟨JY,r,ht,hz⟩:=I.tuple hx;have hlen:JY.toArray.size=xs.length:=by rw [Kv];exact r.length.symm
  exact ⟨"tuple",_,K4.lookup,ht.typeIs,u0 ht hs pl pu (by rw [hlen];exact hw) ⟨.ref a,H,I,rfl,q0 hw⟩⟩
 ·exact Ff JW s σ H (.ref a) v vl vu lo hi sl Q I rx hs pl pu ⟨a,xs,rfl,hx,hw,q1⟩
theorem w5 {xs:List D}{lo hi:Option Int}(h:HT.bh xs.length 0 lo=0/\HT.bh xs.length xs.length hi=xs.length):cutD xs lo hi=xs:=by unfold cutD;rw [h.1,h.2];simp
noncomputable def Am:R->Option Int->Option Int->M R
 | .d (.tup xs),l,u=>.ok (.d (.tup (cutD xs l u)))
 | _,_,_=>.bad
theorem G3 (hK:X.K=c.K) (He J H:Hp) (x:R) (v:V) (l u:Option Int) (Q:VK) (hp:HI c J H) (rx:RR c He J H x v) (w:cA (Am x l u) (λz=>∀w J' H',Ext J H J' H'->RR c H J' H' z w->Q w H') c.T):
  ∃a xs,v=.ref a/\eH X.K H a xs/\((HT.bh xs.length 0 l=0/\HT.bh xs.length xs.length u=xs.length)->Q (.ref a) H)/\∀p,H p=none->Q (.ref p) (upd H p (.tup (jt xs l u))):=by
 unfold Am at w;split at w
 ·rename_i ds;cases rx with
  | tup h1 s1=>
   refine ⟨_,_,rfl,by rw [hK];exact fK hp.sub h1,λhw=>?_,λp hp'=>w _ _ _ (Ext.newJ hp.sub hp' _) (lU hp hp' (s1.cut _ _))⟩;rw [<-s1.length] at hw;rw [w5 hw] at w;exact w _ J H (Ext.refl hp.sub) (.tup h1 s1)
 ·exact w.elim
noncomputable def fY (x:R) (l u:Option Int):M R:=if Hq x then Am x l u else GN x l u
theorem uV {prog:KL}{w:K5}{A:Lh}{E:Kg->Kh->Prop}{s:Kh}{sl:KJ}{t:Tok}{n:Nat}{Q:Int×Int×Nat->Kh->Prop}(hs:s.heap.IsSliceOf sl .none .none (.int (-1) t))
  (h:Q ((n:Int) - 1,-1,n) s):KH (KS prog w) A (MH (.ref sl) (pure (n:Int))) Q E s:=by
 obtain ⟨os,hos,hcs,hds⟩:=id hs;unfold MH O4;refine Kd (Kd (OH hos hds (x:=.none) rfl (Kd (OH hos hds (x:=.none) rfl (Kd (OH hos hds (x:=.int (-1) t) rfl (Kf ?_)))))));refine Kd (S3 ?_);show KH _ _ (if ((-1:Int) == 0)=true then _ else _) _ _ s;rw [if_neg (by decide)];refine Kd (O3 (Kd (O3 (Kd (Kf ?_)))));have e1:Mi none none (-1) (n:Int)=((n:Int) - 1,-1):=rfl;have e2:Ll ((n:Int) - 1) (-1) (-1)=n:=by
  unfold Ll;rw [if_neg (by decide)];split
  ·simp only [Int.neg_neg,Tn];omega
  ·omega
 show KH _ _ (match Mi none none (-1) (n:Int) with | (lo,hi)=>pure (lo,(-1:Int),Ll lo hi (-1))) _ _ s;rw [e1];show KH _ _ (pure ((n:Int) - 1,(-1:Int),Ll ((n:Int) - 1) (-1) (-1))) _ _ s;rw [e2];exact Kf h
theorem yM {α β:Type}{f:α->Option β}{g:α->β}:∀(l:List α),(∀m∈l,f m=some (g m))->l.filterMap f=l.map g
 | [],_=>rfl
 | x::r,h=>by rw [NF,h x Ku,LN];simp only;rw [yM r λm hm=>h m (Kq _ hm)]
theorem AM (xs:Array Kg):((Ky xs.size).filterMap λ(m:Nat)=>xs[(((xs.size:Int) - 1) + (m:Int) * (-1)).toNat]?)=xs.toList.reverse:=by
 have e:((Ky xs.size).filterMap λ(m:Nat)=>xs[(((xs.size:Int) - 1) + (m:Int) * (-1)).toNat]?)=(Ky xs.size).map λm=>(xs.toList.reverse).getD m .none:=by
  refine yM _ λm hm=>?_;have hm':m < xs.size:=KR.mp hm;have e1:(((xs.size:Int) - 1) + (m:Int) * (-1)).toNat=xs.size - 1 - m:=by omega
  rw [e1];simp [K2,hm',Qc,show xs.size - 1 - m < xs.size by omega]
 rw [e];refine NC (by simp) λi h1 h2=>?_;simp [K2];have:i < xs.size:=by simpa using h1
 simp [Qc,this,show xs.size - 1 - i < xs.size by omega]
theorem zN {prog:KL}{w:K5}{A:Lh}{E:Kg->Kh->Prop}{s:Kh}{t sl:KJ}{JX:Array Kg}{k:Tok}{Q:Kg->Kh->Prop}(ht:IsTup s.heap t JX) (hs:s.heap.IsSliceOf sl .none .none (.int (-1) k))
  (h:Q (.ref s.heap.objs.size) {s with heap:=s.heap.push {cls:=.type "tuple",data:=.seq JX.toList.reverse.toArray}}) (hsz:JX.size<=sizeLine):KH (KS prog w) A (P7 (.ref t) (.ref sl)) Q E s:=by
 obtain ⟨os,hos,hcs,hds⟩:=id hs;have IT:s.TypeIs (.ref sl) "slice":=⟨os,hos,hcs⟩;have HZ:sizeOk (.seq JX.toList.reverse.toArray):=by show JX.toList.reverse.toArray.size<=sizeLine;simpa using hsz
 unfold P7
 try with_reducible refine Lz ?_
 first | refine Kd (Kf ?_) | skip
 refine Kd (Pb ht.typeIs (by decide) ?_);refine Kd (LM (name:=NJ "__getitem__") ht.typeIs K4
  (Lo K4 ht.typeIs OI ?_ (OZ _ _)))
 show KH _ _ (Nt (.ref t) >>= _) _ _ s;refine Kd (Q8 ht ?_);refine Kd (NK IT ?_);rw [if_pos (by decide)];refine Kd (uV hs ?_);have hno:¬((((JX.size:Int) - 1) == 0 && (-1:Int) == 1 && JX.size == JX.size)=true):=by intro q;rw [KU,KU] at q;exact absurd (eq_of_beq q.1.2) (by decide)
 show KH _ _ (if (((JX.size:Int) - 1) == 0 && (-1:Int) == 1 && JX.size == JX.size)=true then _ else _) _ _ s;rw [if_neg hno,AM]
 first
  | exact Kd (m:=Lr _) (KZ (Kf ⟨_,rfl,Kf h⟩) HZ)
  | exact Kd (m:=Lr _) (KZ (Kd (Kf (Kf ⟨_,rfl,Kf h⟩))) HZ)
  | exact Kd (Kd (m:=Lr _) (KZ (Kf (Kf ⟨_,rfl,Kf h⟩)) HZ))
  | exact Kd (Kd (m:=Lr _) (KZ (Kf ⟨_,rfl,Kf h⟩) HZ))
theorem aN.rev {K:Ke}{J:Hp}:∀{ds:List D}{vs:List V},aN K J ds vs->aN K J ds.reverse vs.reverse
 | _,_,.nil=>.nil
 | _,_,.cons h hs=>by rw [N7,N7];exact (aN.rev hs).append (.cons h .nil)
noncomputable def D_ (g:G R):G R:=λenv=>g env >>= λr=>match r with
 | .d (.tup xs)=>.ok (.d (.tup xs.reverse))
 | _=>.bad
noncomputable def A_ (K:Ke) (mg:Str->Option Kg) (x:Str) (d:D):Prop:=∃u v,mg x=some u/\RelV v u/\∀J,Rep K J d v
theorem F2 {j:Nat}{p q:Pos}:PE X (.UnaryOp .USub (.Constant (.int 1) j p) q) (tC (.int (-1))):=eO (By zR ug) λσ H Q h=>⟨1,rfl,h⟩
theorem yo:Lm "int"=some (.type "int"):=by decide +kernel
theorem oh:Lm "bool"=some (.type "bool"):=by decide +kernel
theorem yq:Lm "str"=some (.type "str"):=by decide +kernel
theorem wY:Lm "list"=some (.type "list"):=by decide +kernel
end
section
variable {X:Cx}{c:C}{e a b tg:K8}{es:List K8}{ga gb g:G R}{pos:Pos}{st:Nc}{t u:G O}{tb:G Bool}
noncomputable def iU (g:G R):G R:=λenv=>g env >>= λr=>match r with
 | .d (.int i)=>.ok (.d (.int (-i)))
 | _=>.bad
noncomputable def A7:R->M Bool
 | .d .non=>.ok false
 | .d (.bl b)=>.ok b
 | .d (.int i)=>.ok (i != 0)
 | .d (.str y)=>if y.length<=sizeLine then .ok ((y.length:Int) != 0) else .bad
 | .d (.tup xs)=>.ok (!xs.isEmpty)
 | .d (.lst xs)=>.ok (!xs.isEmpty)
 | .d .emp=>.ok false
 | .d (.exn _ _ _)=>.bad
 | .d (.dct _ _)=>.bad
 | .l _ xs=>.ok (!xs.isEmpty)
 | _=>.bad
theorem Eh {K:Ke}{J:Hp}{ds:List D}{vs:List V}(h:aN K J ds vs):ds.isEmpty=vs.isEmpty:=by cases h <;> rfl
theorem Di {He J H:Hp}(hp:HI c J H){Q:Bool->Prop}{T:Exc->Prop}:∀{r:R}{v:V},RR c He J H r v->cA (A7 r) Q T->∃k,zY c.K v H k/\Q k
 | .d .non,_,h,w=>by cases h;exact ⟨_,rfl,w⟩
 | .d (.bl b),_,h,w=>by cases h;exact ⟨_,rfl,w⟩
 | .d (.int i),_,h,w=>by cases h;exact ⟨_,rfl,w⟩
 | .d (.str y),_,h,w=>by
  cases h;unfold A7 at w;simp only at w;split at w
  ·rename_i hz;exact ⟨_,⟨hz,rfl⟩,w⟩
  ·exact w.elim
 | .d (.tup xs),_,h,w=>by
  cases h with
  | tup h1 h2=>exact ⟨_,.inr (.inl ⟨_,fK hp.sub h1,rfl⟩),by rw [<-Eh h2];exact w⟩
 | .d (.lst xs),_,h,w=>by
  cases h with
  | lst h1 h2=>exact ⟨_,.inl ⟨_,hp.sub.seq h1,rfl⟩,by rw [<-Eh h2];exact w⟩
 | .d .emp,_,h,w=>by
  cases h with
  | emp h1=>exact ⟨_,.inr (.inr ⟨_,hp.sub _ _ h1,rfl⟩),w⟩
 | .d (.exn _ _ _),_,_,w=>w.elim
 | .d (.dct _ _),_,_,w=>w.elim
 | .mo _ _,_,_,w=>w.elim
 | .mb _ _,_,_,w=>w.elim
 | .mf _ _,_,_,w=>w.elim
 | .ln _,_,_,w=>w.elim
 | .l m xs,_,h,w=>by obtain ⟨a,vs,rfl,h1,h2⟩:=RR.list hp h rfl;exact ⟨_,.inl ⟨_,h1,rfl⟩,by rw [<-Eh h2];exact w⟩
noncomputable def Ea (g:G R):G Bool:=λenv=>g env >>= A7
noncomputable def ja (tb:G Bool) (u:G O):Nat->Ev->M O
 | 0,_=>.bad
 | n + 1,env=>tb env >>= λk=>if k=true then u env >>= λo=>(match o with
  | .nx e=>ja tb u n e
  | .ct e=>ja tb u n e
  | .bk e=>.ok (.nx e)
  | .rt r=>.ok (.rt r)) else .ok (.nx env)
noncomputable def oH (n:Nat) (tb:G Bool) (u:G O):G O:=λenv=>ja tb u n env
theorem aN.dropLast {K:Ke}{J:Hp}{ds:List D}{vs:List V}(h:aN K J ds vs):aN K J ds.dropLast vs.dropLast:=by rw [Qd,Qd,h.length];exact h.take _
noncomputable def tu (i j:Nat):G O:=λenv=>match env[j]? with
 | some (some (.own xs))=>(match xs[xs.length - 1]? with
  | some d=>.ok (.nx ((env.set j (some (.own xs.dropLast))).set i (some (.d d))))
  | none=>.bad)
 | _=>.bad
end
open PySem.AutoSeq1 in
theorem yL (T:String) (hT:T="tuple"\/T="list") (l b:KJ) (xs ys:Array Kg) (n m:Nat) (dd:Option KJ) (sl:Array (Option Kg)) (z0:¬(!xs.isEmpty && Mw (xs.size + ys.size))=true) (z1:xs.size<=sizeLine) (z2:xs.size + ys.size<=sizeLine + 1):
  Meets (Ph.«list.extend» ⟨[.ref l,.ref b],[]⟩) λ_ R s=>s.heap.get? l=some {cls:=.type "list",dict:=none,data:=.seq xs n,slots:=#[]}/\
   s.heap.get? b=some {cls:=.type T,dict:=dd,data:=.seq ys m,slots:=sl}/\R (.ok (.ret Mv)) {s with heap:=s.heap.update l (MW λx=>x++ys),toks:=s.toks}:=
 .of_wp λprog w A R s h=>by
  obtain ⟨hp,gs,dr,tk,os⟩:=s;obtain ⟨h1,h2,h3⟩:=h;have t1:=AutoSeq1.idx_int;have t2:=AutoSeq1.sub_tuple_tuple;have t3:=AutoSeq1.sub_list_list;have t4:=AutoSeq1.sub_tuple_list;have t5:=AutoSeq1.sub_list_tuple;have z3:(xs++ys).size<=sizeLine + 1:=by rw [Rw];exact z2
  rcases hT with rfl | rfl
  ·wp_walk using (Ms h1 rfl (hz:=z1) (_hz':=z3)),ON h1,ON h2
   exact ⟨_,rfl,h3⟩
  ·wp_walk using (Ms h1 rfl (hz:=z1) (_hz':=z3)),ON h1,ON h2
   exact ⟨_,rfl,h3⟩
section
variable {X:Cx}{c:C}{e a b tg:K8}{es:List K8}{ga gb g:G R}{pos:Pos}
noncomputable def GU (K:Ke):V->List V->Hp->VK->Prop:=λx vs H Q=>∃l b xs zs,x=.ref l/\vs=[.ref b]/\H l=some (.lst xs)/\(bV K H b zs\/eH K H b zs)/\xs.length + zs.length<=sizeLine/\Q .non (upd H l (.lst (xs++zs)))
theorem Ew:Be X "list.extend" (GU X.K):=by
 intro JW s σ H x vs v us Q I rx rv h;obtain ⟨l,b,xs,zs,rfl,rfl,hH,hB,hz,q⟩:=h;cases rx;obtain ⟨u,rfl,ru⟩:=rv.one;cases ru;obtain ⟨z,JY,n,r,hl,e⟩:=I.lstM hH;have obj:∃T its2,(T="tuple"\/T="list")/\Vals zs its2/\∃dd m sl,s.heap.get? b=some {cls:=.type T,dict:=dd,data:=.seq its2.toArray m,slots:=sl}:=by
  rcases hB with hB | hB
  ·obtain ⟨its2,r2,pl,_⟩:=I.list hB;obtain ⟨⟨cls,dd,data,sl⟩,ho,hc,m,hd⟩:=pl.isList;simp only at hc hd;subst hc hd;exact ⟨"list",its2,.inr rfl,r2,dd,m,sl,ho⟩
  ·obtain ⟨its2,r2,pl,_⟩:=I.tuple hB;obtain ⟨⟨cls,dd,data,sl⟩,ho,hc,m,hd⟩:=pl;simp only at hc hd;subst hc hd;exact ⟨"tuple",its2,.inl rfl,r2,dd,m,sl,ho⟩
 obtain ⟨T,its2,hT,r2,dd,m,sl,e2⟩:=obj;have hl2:=r2.length;have hsz:JY.toArray.size + its2.toArray.size<=sizeLine:=by rw [Kv,Kv];omega
 have IA:¬(!JY.toArray.isEmpty && Mw (JY.toArray.size + its2.toArray.size))=true:=by rw [ua hsz,Of];exact Lu
 refine Rr Rb ⟨_,e,rfl⟩ QT (QC _ _) (yL T hT l b JY.toArray its2.toArray n m dd sl IA (by rw [Kv];omega) (by omega)) ⟨e,e2,?_⟩;refine ⟨.non,_,I.lset (its':=JY++its2) hH e (by simp) (r.append r2) ?_,rfl,q⟩;rw [Ko];omega
noncomputable def s_ (i:Nat) (g:G R):G O:=λenv=>match env[i]? with
 | some (some (.own xs))=>g env >>= λr=>gQ r >>= λys=>if xs.length + ys.length<=sizeLine then .ok (.nx (env.set i (some (.own (xs++ys))))) else .bad
 | _=>.bad
noncomputable def ud:V->Option (Option Bool)
 | .non=>some none
 | .bl k=>some (some k)
 | _=>none
theorem A0 (rx:RelV x v) (ry:RelV y u) (h:ud y=some o):isSame v u=pure (ud x == some o):=by
 cases y with
 | non=>
  cases h;cases ry;cases x with
  | non=>cases rx;rfl
  | bl k=>cases rx;rfl
  | int i=>obtain ⟨t,rfl⟩:=rx;rfl
  | str z=>obtain ⟨t,rfl⟩:=rx;rfl
  | byt z=>obtain ⟨t,rfl⟩:=rx;rfl
  | flt z=>obtain ⟨t,rfl⟩:=rx;rfl
  | ref p=>cases rx;rfl
  | ty n=>cases rx;rfl
 | bl k'=>
  cases h;cases ry;cases x with
  | non=>cases rx;rfl
  | bl k=>cases rx;cases k <;> cases k' <;> rfl
  | int i=>obtain ⟨t,rfl⟩:=rx;rfl
  | str z=>obtain ⟨t,rfl⟩:=rx;rfl
  | byt z=>obtain ⟨t,rfl⟩:=rx;rfl
  | flt z=>obtain ⟨t,rfl⟩:=rx;rfl
  | ref p=>cases rx;rfl
  | ty n=>cases rx;rfl
 | _=>cases h
theorem zg:dI X (MU .IsNot) (λx y H Q=>∃o,ud y=some o/\Q (.bl (!(ud x == some o))) H):=by intro JW s σ H x y v u Q I rx ry h;obtain ⟨o,ho,q⟩:=h;show KH _ _ (do return OB (!(<-isSame v u))) _ _ s;rw [A0 rx ry ho];exact Kd (Kf (Kf ⟨.bl _,H,I,rfl,q⟩))
noncomputable def xK:R->Option (Option Bool)
 | .d .non=>some none
 | .d (.bl k)=>some (some k)
 | _=>none
noncomputable def D4 (neg:Bool) (x y:R):M R:=match xK y with
 | some o=>.ok (.d (.bl (if neg then !(xK x == some o) else xK x == some o)))
 | none=>.bad
theorem vQ {He J H:Hp}:∀{r:R}{v:V},RR c He J H r v->ud v=xK r
 | .d .non,_,h=>by cases h;rfl
 | .d (.bl _),_,h=>by cases h;rfl
 | .d (.int _),_,h=>by cases h;rfl
 | .d (.str _),_,h=>by cases h;rfl
 | .d (.tup _),_,h=>by cases h;rfl
 | .d (.lst _),_,h=>by cases h;rfl
 | .d .emp,_,h=>by cases h;rfl
 | .d (.exn _ _ _),_,h=>by cases h;rfl
 | .d (.dct _ _),_,h=>by cases h;rfl
 | .l .fresh _,_,h=>by obtain ⟨_,_,rfl,_⟩:=h;rfl
 | .l .own _,_,h=>by obtain ⟨_,_,rfl,_⟩:=h;rfl
 | .l .bor _,_,h=>by obtain ⟨_,_,rfl,_⟩:=h;rfl
 | .mo _ _,_,h=>by obtain ⟨_,rfl,_⟩:=h;rfl
 | .mb _ _,_,h=>by obtain ⟨_,rfl,_⟩:=h;rfl
 | .mf _ _,_,h=>by obtain ⟨_,rfl,_⟩:=h;rfl
 | .ln _,_,h=>by obtain ⟨_,_,rfl,_⟩:=h;rfl
end
inductive iM (K:Ke):List (Str×D)->List (Str×Kg)->Prop
 | nil:iM K [] []
 | cons {k:Str}{d:D}{v:V}{u:Kg}{r:List (Str×D)}{rs:List (Str×Kg)}:RelV v u->(∀J,Rep K J d v)->iM K r rs->iM K ((k,d)::r) ((k,u)::rs)
noncomputable def gZ (Ka:List (Str×D)) (k:Str):Option D:=(Ka.find? λp=>p.1=k).map (·.2)
theorem iM.get {K:Ke}{Ka:List (Str×D)}{us:List (Str×Kg)}(h:iM K Ka us) (k:Str):(∀d,gZ Ka k=some d->∃u v,Qe us k=some u/\RelV v u/\∀J,Rep K J d v)/\(Qe us k).isSome=(gZ Ka k).isSome:=by
 induction h with
 | nil=>exact ⟨(λd z=>nomatch z),rfl⟩
 | @cons k' d' v u r rs h1 h2 h3 ih=>
  by_cases e:k'=k
  ·have e1:gZ ((k',d')::r) k=some d':=by simp [gZ,OO,e]
   have e2:Qe ((k',u)::rs) k=some u:=by simp [Qe,OO,e]
   rw [e1,e2];exact ⟨λd z=>by cases z;exact ⟨u,v,rfl,h1,h2⟩,rfl⟩
  ·have e1:gZ ((k',d')::r) k=gZ r k:=by simp [gZ,OO,e]
   have e2:Qe ((k',u)::rs) k=Qe rs k:=by simp [Qe,OO,e]
   rw [e1,e2];exact ih
noncomputable def nV (K:Ke) (w:K5) (mg:Str->Option Kg) (x:Str) (Ka:List (Str×D)):Prop:=
 ∃(a:KJ) (us:List (Str×Kg)),mg x=some (.ref a)/\(a == MT)=false/\(∀(P:KL) (h:L7),K.In h->h.DictOf (Pj P w) a us)/\iM K Ka us
section
variable {X:Cx}{c:C}{e a b tg i:K8}{es:List K8}{ga gb g:G R}{pos:Pos}
theorem Av:kX X (λx y H Q=>∃a us k u v,x=.ref a/\y=.str k/\(∀(P:KL) (h:L7),X.K.In h->h.DictOf (Pj P X.w) a us)/\Qe us k=some u/\RelV v u/\Q v H):=by intro value slice JW s σ H x y v u Q I rx ry h hs;obtain ⟨a,us,k,u',v',rfl,rfl,hd,hv,r,q⟩:=h;cases rx;obtain ⟨t,rfl⟩:=ry;have dd:=hd X.prog s.heap I.kIn;exact S6 dd.typeIs PySem.F.slot_dict_getitem.lookup (wpAny_getItem_of (by show MK k (.str k t)=true;simp [MK]) dd.mapOf hv ⟨v',H,I.tok _,r,q⟩) hs
theorem EE:dI X (MU .In) (λx y H Q=>∃a us k,x=.str k/\y=.ref a/\(a == MT)=false/\(∀(P:KL) (h:L7),X.K.In h->h.DictOf (Pj P X.w) a us)/\Q (.bl (Qe us k).isSome) H):=by intro JW s σ H x y v u Q I rx ry h;obtain ⟨a,us,k,rfl,rfl,hn,hd,q⟩:=h;obtain ⟨t,rfl⟩:=rx;cases ry;have dd:=hd X.prog s.heap I.kIn;exact wpAny_in_of (by show MK k (.str k t)=true;simp [MK]) hn dd.mapOf ⟨.bl _,H,I.tok _,rfl,q⟩
noncomputable def xq (Ka:List (Str×D)) (g:G R):G R:=λenv=>g env >>= λr=>match r with
 | .d (.str k)=>(match gZ Ka k with
  | some d=>.ok (.d d)
  | none=>.bad)
 | _=>.bad
noncomputable def D9 (neg:Bool) (Ka:List (Str×D)) (g:G R):G R:=λenv=>g env >>= λr=>match r with
 | .d (.str k)=>.ok (.d (.bl (if neg then !(gZ Ka k).isSome else (gZ Ka k).isSome)))
 | _=>.bad
end
noncomputable def Ah (w:K5) (p:Str×Tok×Kg):P9:=⟨Lv w.params p.1,.str p.1 p.2.1,p.2.2⟩
theorem ue {P:KL}{w:K5}:∀(es:List (Str×Tok×Kg)),PySem.Pairs (Pj P w) (es.map (Ah w)) (es.map λp=>(p.1,p.2.2))
 | []=>.nil
 | p::r=>.cons (by show MK p.1 (.str p.1 p.2.1)=true;simp [MK]) rfl (ue r)
theorem sR {K:Ke}{w:K5}{mg:Str->Option Kg}{h0:L7}{x:Str}{f:KJ}{ep:Nat}{Ka:List (Str×D)}(es:List (Str×Tok×Kg)) (X:K.In h0) (G:h0.Ns KW mg)
  (g:K9 K KW x=some (some (.ref f))) (l:K.lookup f=some {cls:=.type "dict",data:=.dict (es.map (Ah w)).toArray ep}) (nd:(es.map (·.1)).Nodup) (hs:(f == MT)=false) (hp:iM K Ka (es.map λp=>(p.1,p.2.2))):nV K w mg x Ka:=by
 refine ⟨f,es.map λp=>(p.1,p.2.2),M7 X G g,hs,λP h hK=>?_,hp⟩;refine ⟨_,_,_,hK f _ l,⟨rfl,rfl,rfl⟩,rfl,λe he=>?_,ue es,?_⟩
 ·have he':e∈es.map (Ah w):=by simpa using he
  obtain ⟨p,_,rfl⟩:=K0.mp he';exact ⟨p.1,by show MK p.1 (.str p.1 p.2.1)=true;simp [MK],rfl⟩
 ·rw [M4];exact nd
noncomputable def pY (m:Int) (ns:List Int):Int:=ns.foldl (λm b=>if b > m then b else m) m
section
variable {prog:KL}{w:K5}{A:Lh}{R:Q5->Kh->Prop}{I:KJ}{fp wr:List KJ}{St:Nat->L7->Prop}{us:Array Kg}{ns:List Int}{S:KJ}{dv:Kg}
theorem oU:(toString "max"++toString ".loop":String)="max.loop":=by decide
theorem Ed {a b:Int}{t u:Tok}{s:Kh}{Q:Kg->Kh->Prop}{E:Kg->Kh->Prop}(h:Q (.bool (decide (a > b))) s):KH (KS prog w) A (richCompare .Gt (.int a t) (.int b u)) Q E s:=
 richCompare_gives (op:=.Gt) (SG s a t) (SG s b u) F.slot_int_gt F.entry_int_gt (F.args_int_gt_2 _ _) (gives_int_gt _ _ t u) (λz=>nomatch z) h
theorem Cr (W:Walks prog w A.in1 I fp wr us.size (λi v=>us[i]?=some v) St) (hSf:S∉fp) (hu:∀(i:Nat) (v:Kg),us[i]?=some v->∃t,v=.int (ns.getD i 0) t) (hl:us.size=ns.length):
  ∀(k j:Nat) (s:Kh) (m:Int) (t:Tok) (c:Nat),ns.length - (j + 1)=k->j + 1<=ns.length->St (j + 1) s.heap->s.heap.get? S=some {cls:=.type "list",dict:=none,data:=.seq #[.int m t,.int m t] c,slots:=#[]}->
  (∀(t':Tok) (h':L7) (tk:Nat),(∀b o,b∉wr->b≠S->s.heap.get? b=some o->h'.get? b=some o)->R (.ok (.ret (.int (pY m (ns.drop (j + 1))) t'))) {s with heap:=h',toks:=tk})->
  Mb (KS prog w) A (.builtin "max.loop" ⟨[.ref I,.none,.ref S],[("default",dv)]⟩) R s:=by
 have IJ:S∉wr:=λz=>hSf (W.sub _ z);intro k
 induction k with
 | zero=>
  intro j s m t c hk hj hst hS hR;have hin:j + 1=us.size:=by omega
  (refine LU Px ?_);rw [Ln MJ _]
  (show KH _ A.in1 (Tu (.ref S) >>= _) _ _ s);refine Kd (Oh hS rfl ?_)
  (show KH _ A.in1 (tryCatch (NI (.ref I)) _ >>= _) _ _ s);refine Kd (Oi (W.done s _ _ (hin▸hst) λh1 tk k1=>?_))
  have Iz:=k1 S _ IJ hS
  (show KH _ A.in1 (Qg S (λ_=>#[]) >>= _) _ _ _);refine Kd (Ms Iz rfl (Kd (QW (Kf ?_))))
  have z:=hR t (h1.update S (MW λ_=>#[])) tk λb o hb ID e=>(Lf _ _ (Mz ID)).trans (k1 b o hb e);rw [N5 (by omega)] at z;exact z
 | succ k ih=>
  intro j s m t c hk hj hst hS hR;have hlt:j + 1 < us.size:=by omega
  (refine LU Px ?_);rw [Ln MJ _]
  (show KH _ A.in1 (Tu (.ref S) >>= _) _ _ s);refine Kd (Oh hS rfl ?_)
  (show KH _ A.in1 (tryCatch (NI (.ref I)) _ >>= _) _ _ s);refine Kd (Oi (W.item (j + 1) s _ _ hlt hst λv h1 tk hP IF k1=>?_))
  have Iz:=k1 S _ IJ hS;obtain ⟨t1,rfl⟩:=hu _ _ hP;have hd:ns.drop (j + 1)=ns.getD (j + 1) 0::ns.drop (j + 1 + 1):=by rw [Mj (by omega:j + 1 < ns.length),K2,KG (by omega:j + 1 < ns.length)];rfl
  rw [hd] at hR;generalize ns.getD (j + 1) 0=y at hR hP ⊢
  (show KH _ A.in1 (tryCatch (holding [OC y t1,OC y t1] (richCompare .Gt (OC y t1) (OC m t) >>= _)) _ >>= _) _ _ _);refine Kd (Oi (Lz (Kd (Ed ?_))))
  (refine Kd (Lz (Mf ?_)));refine Kd (QW (Kf ?_))
  by_cases hb:y > m
  ·rw [decide_eq_true hb];simp only [if_true]
   (refine Kd (Ms Iz rfl (Kd (QW ?_))));rw [oU]
   refine Kf ⟨Mk MJ _,ih (j + 1) _ y t1 _ (by omega) (by omega) (W.frame _ _ _ IF λb I0 o e=>?_) (LF _ Iz rfl) λt2 h2 tk2 k2=>?_⟩
   ·exact (Lf _ _ (λz:S=b=>hSf (z▸I0))).trans e
   ·have q:=hR t2 h2 tk2 λb o IG ID e=>k2 b o IG ID ((Lf _ _ (Mz ID)).trans (k1 b o IG e));have e:pY m (y::ns.drop (j + 1 + 1))=pY y (ns.drop (j + 1 + 1)):=by show Uu _ (if y > m then y else m) _=_;rw [if_pos hb];rfl
    rw [e] at q;exact q
  ·rw [decide_eq_false hb]
   (simp only [Lw,if_false]);(refine Kd (QW ?_));rw [oU]
   refine Kf ⟨Mk MJ _,ih (j + 1) _ m t c (by omega) (by omega) IF Iz λt2 h2 tk2 k2=>?_⟩;have q:=hR t2 h2 tk2 λb o IG ID e=>k2 b o IG ID (k1 b o IG e);have e:pY m (y::ns.drop (j + 1 + 1))=pY m (ns.drop (j + 1 + 1)):=by show Uu _ (if y > m then y else m) _=_;rw [if_neg hb];rfl
   rw [e] at q;exact q
noncomputable def gX (d:Int):List Int->Int
 | []=>d
 | n::r=>pY n r
theorem xF (W:Walks prog w A.in1 I fp wr us.size (λi v=>us[i]?=some v) St) (hSf:S∉fp) (hu:∀(i:Nat) (v:Kg),us[i]?=some v->∃t,v=.int (ns.getD i 0) t) (hl:us.size=ns.length){d:Int}{td:Tok}{s:Kh}{c:Nat}(hst:St 0 s.heap)
  (hS:s.heap.get? S=some {cls:=.type "list",dict:=none,data:=.seq #[] c,slots:=#[]})
  (hR:∀(t':Tok) (h':L7) (tk:Nat),(∀b o,b∉wr->b≠S->s.heap.get? b=some o->h'.get? b=some o)->R (.ok (.ret (.int (gX d ns) t'))) {s with heap:=h',toks:=tk}):
  Mb (KS prog w) A (.builtin "max.loop" ⟨[.ref I,.none,.ref S],[("default",.int d td)]⟩) R s:=by
 have IJ:S∉wr:=λz=>hSf (W.sub _ z)
 (refine LU Px ?_);rw [Ln MJ _]
 (show KH _ A.in1 (Tu (.ref S) >>= _) _ _ s);refine Kd (Oh hS rfl ?_)
 (show KH _ A.in1 (tryCatch (NI (.ref I)) _ >>= _) _ _ s)
 cases ns with
 | nil=>
  have h0:(0:Nat)=us.size:=hl.symm;refine Kd (Oi (W.done s _ _ (h0▸hst) λh1 tk k1=>?_));refine Kd (N_ (Kf ?_));exact hR td h1 tk λb o hb _ e=>k1 b o hb e
 | cons y r=>
  have hn:0 < us.size:=by rw [hl];exact Qh _
  refine Kd (Oi (W.item 0 s _ _ hn hst λv h1 tk hP IF k1=>?_));have Iz:=k1 S _ IJ hS;obtain ⟨t1,rfl⟩:=hu _ _ hP
  (show KH _ A.in1 (Qg S (λ_=>#[OC ((y::r).getD 0 0) t1,OC ((y::r).getD 0 0) t1]) >>= _) _ _ _);refine Kd (Ms Iz rfl ?_)
  rw [oU];refine Kf ⟨Mk MJ _,Cr W hSf hu hl _ 0 _ y t1 _ rfl (Qh _) (W.frame _ _ _ IF λb I0 o e=>?_) (LF _ Iz rfl) λt2 h2 tk2 k2=>?_⟩
  ·exact (Lf _ _ (λz:S=b=>hSf (z▸I0))).trans e
  ·exact hR t2 h2 tk2 λb o IG ID e=>k2 b o IG ID ((Lf _ _ (Mz ID)).trans (k1 b o IG e))
end
section
variable {prog:KL}{w:K5}{A:Lh}{E:Kg->Kh->Prop}{s:Kh}{l:KJ}{us:Array Kg}{ns:List Int}
theorem yj (a d:Kg):SM "max" ⟨[a],[("default",d)]⟩:=by
 unfold SM
 kernel_rfl
theorem yw {d:Int}{td:Tok}{Q:Kg->Kh->Prop}(hh:A.handled=none) (hl:s.heap.IsList l us) (hu:∀(i:Nat) (v:Kg),us[i]?=some v->∃t,v=.int (ns.getD i 0) t) (hn:us.size=ns.length)
  (h:∀(t':Tok) (h':L7) (tk:Nat),(∀b o,s.heap.get? b=some o->h'.get? b=some o)->Q (.int (gX d ns) t') {s with heap:=h',toks:=tk}):KH (KS prog w) A (call (.builtin "max") [.ref l] [("default",.int d td)]) Q E s:=by
 have ha:=yj (.ref l) (.int d td);refine Qy (Ov F.plain_max F.entry_max ?_);have core:KH (KS prog w) A.in1 (Ph.«max» ⟨[.ref l],[("default",.int d td)]⟩) (λfin s'=>match fin with
   | .done f=>(match (Except.ok f:Q5) with | .ok (.ret v)=>Q v s' | .ok _=>False | .error e=>E e s')
   | .again c'=>c'.quiet=true/\Mb (KS prog w) A c' (λr s'=>match r with | .ok (.ret v)=>Q v s' | .ok _=>False | .error e=>E e s') s') E s:=by
  show KH _ A.in1 (OP "max" ["key","default"] 0 ⟨[],[("default",.int d td)]⟩ >>= _) _ _ s;refine Kd (NG (show OP "max" ["key","default"] 0 ⟨[],[("default",.int d td)]⟩=pure [none,some (.int d td)] by rfl) ?_);refine Kd (Kf ?_);have hlt:l < s.heap.objs.size:=by obtain ⟨_,e,_⟩:=hl;exact Kz e
  refine Kd (N9 hl ?_);refine Kd (KZ ?_);rw [oU];generalize hs2:s.heap.push {cls:=.type "list_iterator",data:=.fields #[.ref l,.int 0 0]}=H2;have hI:H2.IsListIter s.heap.objs.size l 0:=by rw [<-hs2];exact ⟨_,Kn _ rfl,rfl,rfl⟩
  have hL:H2.IsList l us:=by rw [<-hs2];exact hl.push _
  have sz:H2.objs.size=s.heap.objs.size + 1:=by rw [<-hs2,Ma]
  have W:=SK (prog:=prog) (w:=w) (A:=A.in1) (show A.in1.handled=none from hh) s.heap.objs.size l (KI hlt) us;have hSf:H2.objs.size∉[s.heap.objs.size,l]:=λz=>by
   rcases KA.mp z with z | z
   ·exact absurd (sz.symm.trans z) (Nat.succ_ne_self _)
   ·rw [Kw] at z;exact absurd z.symm (KI (by rw [sz];exact MY hlt))
  refine Kf ⟨Mk MJ _,xF W hSf hu hn (W.frame _ _ _ ⟨hI,hL⟩ λb _ o e=>Kl _ e) (Kn _ rfl) λt' h' tk k=>?_⟩;refine h t' h' tk λb o e=>?_;have e2:H2.get? b=some o:=by rw [<-hs2];exact Kl _ e
  have lt:=Kz e;exact k b o (λz=>absurd (Kw.mp z) (KI lt)) (KI (by rw [sz];exact MY lt)) (Kl _ e2)
 simp only [Oq,F.kind_max];cases Jl:Manifest.signature? "max" with
 | none=>exact Kf core
 | some sig=>
  simp only [SM,Jl] at ha;have h2:Sq "max" sig ⟨[.ref l],[("default",.int d td)]⟩=pure ():=ha;show KH _ A.in1 (Sq "max" sig ⟨[.ref l],[("default",.int d td)]⟩) _ _ s;rw [h2];exact Kf core
end
section
variable {X:Cx}{c:C}{e a b tg i:K8}{es:List K8}{ga gb g:G R}{pos:Pos}
noncomputable def mG (d:Int) (g:G R):G R:=λenv=>g env >>= λr=>gj r >>= λxs=>match intsOf xs with
 | some ns=>.ok (.d (.int (gX d ns)))
 | none=>.bad
theorem Dn {ns:List Int}{JY:List Kg}(r:Vals (ns.map V.int) JY) (i:Nat) (v:Kg) (h:JY.toArray[i]?=some v):∃t,v=.int (ns.getD i 0) t:=by
 have h':JY[i]?=some v:=by simpa using h
 have hl:=r.length;rw [Km] at hl;have hi:i < ns.length:=by rw [hl];exact (KY.mp h').1
 obtain ⟨u,hu,ru⟩:=r.get (show (ns.map V.int)[i]?=some (.int ns[i]) by rw [KQ,KG hi];rfl);rw [h'] at hu;cases hu;obtain ⟨t,rfl⟩:=ru;exact ⟨t,by rw [K2,KG hi];rfl⟩
end
theorem mh {P:KL}{w:K5}{K:Ke}{mg:Str->Option Kg}{base:L7}{x J_:Str}{st:Nc}{f:KJ}{fd:K7}{ps:List Str}{k:Nat}{Fm:List S->M R}(F:gP K x J_ st f fd) (hm:mg x=some (.ref f))
  (hbi:∀(kV doc pm:Kg) (an:Option KJ) (cdv ct:Kg) (us:List Kg),us.length=ps.length->Qx (LR x J_ (dO st) (bQ st) (aT st) .none kV doc pm an cdv ct) ⟨us,[]⟩=pure (ps.zip us))
  (hF:∀as,Fm as=.bad):bq P w K mg base k ps.length x Fm:=
 ⟨f,fd,ps,⟨λvs H Q E ⟨J,as,_,_,_,h⟩=>(by rw [hF as] at h;exact h.elim),λA outer s H args us vs Q E _ _ _ _ ⟨J,as,_,_,_,h⟩=>(by rw [hF as] at h;exact h.elim)⟩,hm,F.kp,F.binds hbi⟩
section
variable {X:Cx}{c:C}{e a b d tg:K8}{es:List K8}{ga gb g:G R}{pos:Pos}
noncomputable def GP (K:Ke) (tl:TE):TI:=λσ H R=>tl σ H λx H1=>∃a,x=.ref a/\(((∃xs,bV K H1 a xs)/\R (Ba K a) H1)\/((∃xs,eH K H1 a xs)/\R (Bd K a) H1))
theorem zm {tl:TE}(hl:PE X e tl):PI X tg e (GP X.K tl):=λJW s σ H R I h=>bF (hl JW s σ H _ I h) λv s1 ⟨x,H1,I1,r1,a,ex,q1⟩=>by
 subst ex;cases r1;have fp:∀b∈[s1.heap.objs.size],ie X JW H1 b:=λb hb=>by rw [Kw] at hb;subst hb;exact I1.fpOk (Kr _) (I1.hok.fresh (Kr _))
 rcases q1 with ⟨⟨xs,hq⟩,q⟩ | ⟨⟨xs,hq⟩,q⟩
 ·obtain ⟨JY,rv,p,hz⟩:=I1.list hq;exact N9 p.isList ⟨s1.heap.objs.size,[s1.heap.objs.size],_,_,H1,rfl,I1.kept (t':=s1.toks) (λb o e=>Kl _ e),zO a _,⟨_,Kn _ rfl,rfl,rfl⟩,fp,q⟩
 ·obtain ⟨JY,rv,p,hz⟩:=I1.tuple hq;exact Ri (show s1.heap.IsTuple a JY.toArray from p) ⟨s1.heap.objs.size,[s1.heap.objs.size],_,_,H1,rfl,I1.kept (t':=s1.toks) (λb o e=>Kl _ e),ya a _,⟨_,Kn _ rfl,rfl,rfl⟩,fp,q⟩
theorem qY {J1:Hp}{a:KJ}{vs:List V}{ds:List D}{U:Hp->Hp->Prop}(hU:∀J H,U J H->aP J1 J) (h:eH c.K J1 a vs) (hs:aN c.K J1 ds vs):Walk c (Bd c.K a) ds J1 U:=by intro i J H hp u;have h':=fK hp.sub (fK (hU J H u) h);refine ⟨λhl=>⟨vs,h',by rw [<-hs.length];exact hl⟩,λd hd=>?_⟩;obtain ⟨v,k1,k2⟩:=hs.get hd;refine ⟨⟨vs,v,h',k1⟩,λx H2 ⟨e,hy⟩=>?_⟩;subst e;have:=hy vs h';rw [k1] at this;cases this;exact ⟨J,Ext.refl hp.sub,k2.mono (hU J _ u)⟩
noncomputable def lD (g:G R):G (List D):=λenv=>g env >>= λr=>match r with
 | .d (.tup xs)=>.ok xs
 | .d (.lst xs)=>.ok xs
 | .l .fresh xs=>.ok xs
 | .l .bor xs=>.ok xs
 | _=>.bad
noncomputable def fj (g:G R):G (List D):=λenv=>g env >>= gQ
end
section
variable {X:Cx}{c:C}{st:Nc}{g:G O}
theorem SR.frz {J H:Hp}{σ:L2.St}{env:Ev}(sr:SR c J H σ env){i:Nat}{x:Mn}{a:KJ}{o:HO}{d:D}(hi:env[i]?=some (some (mS x))) (h1:σ[i]?=some (some (.ref a))) (h2:H a=some o) (h3:J a=none) (h4:c.H0 a=none) (h5:Rep c.K (L2.upd J a o) d (.ref a)):∃J',aP J J'/\SR c J' H σ (env.set i (some (.d d))):=by
 have s1:aP J (L2.upd J a o):=b_ h3 _;refine ⟨L2.upd J a o,s1,⟨⟨λb o q=>?_,sr.hp.ent,sr.hp.entJ.trans s1,λb k1 k2=>?_⟩,by simpa using sr.len,λj y q=>?_,λj k ys zs w hjk q1 q2 q3 q4=>?_,sr.sp2.keep λk xs q=>?_⟩⟩
 ·by_cases hb:b=a
  ·subst hb;rw [cj] at q;cases q;exact h2
  ·rw [a_ hb] at q;exact sr.hp.sub b o q
 ·have:b≠a:=λz=>k1 (z▸h4);rw [a_ this];exact sr.hp.frz b k1 k2
 ·rcases cZ q with ⟨rfl,hl,rfl⟩ | ⟨hj,q⟩
  ·exact ⟨.ref a,h1,h5⟩
  ·obtain ⟨w,k1,k2⟩:=sr.at_ j y q;refine ⟨w,k1,?_⟩;have hne:∀(z:Mn) p',y=mS z->w=.ref p'->p'≠a:=λz p' e ew ep=>sr.sep i j x z (.ref a) (Mz hj) hi (e▸q) h1 (ep▸ew▸k1);cases y with
   | d x=>exact Rep.mono s1 k2
   | bor zs=>obtain ⟨p,us,m1,m2,m3⟩:=k2;exact ⟨p,us,m1,m2,m3.mono s1⟩
   | db _ _=>obtain ⟨p,m1,m2⟩:=k2;exact ⟨p,m1,m2.mono s1 (aP.refl _)⟩
   | fn _=>exact k2
   | tn zs=>obtain ⟨p,us,rfl,m1,m2⟩:=k2;exact ⟨p,us,rfl,fK s1 m1,m2.mono s1 λ_ h=>h⟩
   | dk ks zs=>
    obtain ⟨p,rfl,m1,m2,m3⟩:=k2;exact ⟨p,rfl,m1.mono s1 (aP.refl _),by rw [a_ (hne (.inr (ks,zs)) p rfl rfl)];exact m2,m3⟩
   | own zs=>
    obtain ⟨p,us,rfl,m1,m2,m3,m4⟩:=k2;exact ⟨p,us,rfl,m1,by rw [a_ (hne (.inl zs) p rfl rfl)];exact m2,m3,m4.mono s1⟩
   | ow2 zs=>
    obtain ⟨p,us,rfl,m1,m2,m3,m4⟩:=k2;exact ⟨p,us,rfl,m1,by rw [a_ (hne (.nst zs) p rfl rfl)];exact m2,m3,m4.mono s1 λ_ h=>h⟩
 ·have f:∀(k:Nat) (ys:Mn),(env.set i (some (.d d)))[k]?=some (some (mS ys))->env[k]?=some (some (mS ys)):=λk ys q=>by
   rcases cZ q with ⟨rfl,_,z⟩ | ⟨_,q⟩
   ·cases ys <;> cases z
   ·exact q
  exact sr.sep j k ys zs w hjk (f j ys q1) (f k zs q2) q3 q4
 ·rcases cZ q with ⟨_,_,e⟩ | ⟨hk,q⟩
  ·cases e
  ·exact ⟨⟨xs,q⟩,rfl⟩
noncomputable def pV (i:Nat) (g:G O):G O:=λenv=>match env[i]? with
 | some (some (.own xs))=>g (env.set i (some (.d (.lst xs))))
 | some (some (.dk ks vs))=>g (env.set i (some (.d (.dct ks vs))))
 | _=>g env
end
structure QD (X:Cx) (c:C) (x0:K8) (x1:G R):Prop where
 h:PD X c x0 x1
structure QB (X:Cx) (c:C) (x0:K8) (x1:G Bool):Prop where
 h:PB X c x0 x1
structure jA (X:Cx) (c:C) (x0:List K8) (x1:G (List R)):Prop where
 h:Bg X c x0 x1
structure yg (X:Cx) (c:C) (x0:List K8) (x1:G (List D)):Prop where
 h:Hl X c x0 x1
structure jd (X:Cx) (c:C) (x0:Nc) (x1:G O):Prop where
 h:Gs X c x0 x1
structure kK (X:Cx) (c:C) (x0:List Nc) (x1:G O):Prop where
 h:DC X c x0 x1
structure sf (X:Cx) (c:C) (x0:K8) (x1:G Bool):Prop where
 h:Ho X c x0 x1
structure k9 (X:Cx) (c:C) (x0:K8) (x1:GT):Prop where
 h:yf X c x0 x1
structure wL (X:Cx) (c:C) (x0:List K8) (x1:nW):Prop where
 h:GF X c x0 x1
structure sq (X:Cx) (c:C) (x0:K8) (x1:K8) (x2:G (List D)):Prop where
 h:Gv X c x0 x1 x2
structure vf (X:Cx) (c:C) (x0:K8) (x1:K8) (x2:G (List D)):Prop where
 h:Gu X c x0 x1 x2
structure k8 (X:Cx) (c:C) (x0:List K8) (x1:G Bool):Prop where
 h:wK X c x0 x1
structure Bh (X:Cx) (c:C) (x0:Option K8) (x1:GO):Prop where
 h:DF X c x0 x1
section
variable {X:Cx}{c:C}{e a b:K8}{ga gb:G R}{pos:Pos}
theorem aa (i:Nat) (hN:X.N[i]?=some x:=by rfl) (hv:vg X.env.scope x:=by first | exact Qi rfl | exact OQ (Qi rfl) | exact OQ (OQ rfl)) (hd:(x == ("__debug__":Str))=false:=by decide)
 (hcd:(x == ("__classdict__":Str))=false:=by decide):QD X c (.Name x pos) (af i):=⟨CC (oV hN hv hd hcd)⟩
theorem ah:QD X c (.Constant (.int i) j pos) (gC (.int i)):=⟨rW (λ_=>.int i) ug⟩
theorem jN:QD X c (.Constant (.bool i) j pos) (gC (.bl i)):=⟨rW (λ_=>.bl i) F1⟩
theorem aW:QD X c (.Constant (.str x) j pos) (gC (.str x)):=⟨rW (λ_=>.str x) EO⟩
theorem vY (ha:QD X c a ga) (hb:QD X c b gb):QD X c (.BinOp a .Sub b pos) (g2 lB ga gb):=have ha:=ha.h;have hb:=hb.h;⟨ki EI (je λ_ _ _=>.int _) ha hb⟩
theorem bW (ha:QD X c a ga) (hb:QD X c b gb):QD X c (.BinOp a .FloorDiv b pos) (g2 cW ga gb):=have ha:=ha.h;have hb:=hb.h;⟨ki Cv (wR (λi j h=>Cg h) λ_ _ _=>.int _) ha hb⟩
theorem aZ (ha:QD X c a ga) (hb:QD X c b gb):QD X c (.BinOp a .Mod b pos) (g2 bw ga gb):=have ha:=ha.h;have hb:=hb.h;⟨ki EF (wR (λi j h=>by unfold Em at h;exact of_decide_eq_true h) λ_ _ _=>.int _) ha hb⟩
theorem vX (ha:QD X c a ga) (hb:QD X c b gb):QD X c (.BinOp a .Pow b pos) (g2 xm ga gb):=have ha:=ha.h;have hb:=hb.h;⟨ki EH (wR (λi j h=>Cj h) λ_ _ _=>.int _) ha hb⟩
theorem aq:jA X c [] ay:=⟨rV iZ λσ H Q ⟨J,env,sr,w⟩=>w [] J H (Ext.refl sr.hp.sub) rfl⟩
theorem aj {es:List K8}{g:G R}{gs:G (List R)}(h:QD X c e g) (hs:jA X c es gs) (hst:KC (e::es) X.env=(false,eval e X.env)::KC es X.env:=by rfl):jA X c (e::es) (ai g gs):=have h:=h.h;have hs:=hs.h;⟨
 rV (gy h hs hst) λσ H Q ⟨J,env,sr,w⟩=>by
  refine ⟨J,env,sr,az (aD w) λx wx u J1 H1 e1 r1=>?_⟩;refine ⟨J1,env,sr.ext e1,az (aD wx) λxs wy us J2 H2 e2 r2=>?_⟩;exact wy (u::us) J2 H2 (e1.trans e2) ⟨u,us,rfl,r1.ext e2,iN.from e1.h r2⟩⟩
end
section
variable {X:Cx}{c:C}{e a b:K8}{es:List K8}{ga gb g:G R}{pos:Pos}
theorem aQ:yg X c [] aO:=⟨rV iZ λσ H Q ⟨J,env,sr,w⟩=>w [] J H (Ext.refl sr.hp.sub) .nil⟩
theorem av {gs:G (List D)}(h:QD X c e g) (hs:yg X c es gs) (hst:KC (e::es) X.env=(false,eval e X.env)::KC es X.env:=by rfl):yg X c (e::es) (ao g gs):=have h:=h.h;have hs:=hs.h;⟨
 rV (gy h hs hst) λσ H Q ⟨J,env,sr,w⟩=>by
  refine ⟨J,env,sr,az (aD w) λx wx u J1 H1 e1 r1=>?_⟩;obtain ⟨d,q,wx⟩:=mQ wx;obtain ⟨J1',e1',s1,rd⟩:=freeze e1 r1 q;refine ⟨J1',env,sr.ext e1',az (aD wx) λxs wy us J2 H2 e2 r2=>?_⟩;exact wy (u::us) J2 H2 (e1'.trans e2) (.cons (rd.mono e2.j) r2)⟩
theorem bG {k}{gs:G (List D)}(h:yg X c es gs):QD X c (.Tuple es k pos) (cF gs):=have h:=h.h;⟨eO (ER h) λσ H Q ⟨J,env,sr,w⟩=>by
 refine ⟨J,env,sr,az (aD w) λds wd vs J1 H1 e1 r1=>?_⟩;split at wd
 ·rename_i hz;rw [r1.length] at hz;exact ⟨hz,λp hp=>wd _ _ _ (e1.trans (Ext.newJ e1.sub hp _)) (lU (sr.hp.ext e1) hp r1)⟩
 ·exact wd.elim⟩
theorem bX {gs:G (List D)}(h:yg X c es gs):QD X c (.List es pos) (dB gs):=have h:=h.h;⟨eO (EM h) λσ H Q ⟨J,env,sr,w⟩=>by
 refine ⟨J,env,sr,az (aD w) λds wd vs J1 H1 e1 r1=>?_⟩;split at wd
 ·rename_i hz;rw [r1.length] at hz;exact ⟨hz,λp hp=>wd _ _ _ (e1.trans (Ext.new e1.sub hp _)) (RR.from e1.h (i8 (sr.hp.ext e1) hp r1))⟩
 ·exact wd.elim⟩
theorem gz {p:Pos}{gs:G (List R)}(ha:jA X c (e::es) gs) (hm:X.mg "len"=none) (hK:X.K=c.K:=by rfl) (hg:Gl X "len":=by rfl)
  (he:KC (e::es) X.env=(false,eval e X.env)::KC es X.env:=by rfl) (hpl:(MQ pos (KC es X.env)).any (·.1)=false:=by rfl):QD X c (.Call (.Name "len" p) (e::es) [] pos) (gN dG gs):=have ha:=ha.h;⟨
 kh (sN.or sM) (by
  intro He J H xs vs Q hp rs w;unfold dG at w;split at w
  ·obtain ⟨v,rfl,r⟩:=rs.one;cases r;split at w
   ·rename_i hz;exact .inl ⟨_,rfl,hz,w _ J H (Ext.refl hp.sub) (.int _)⟩
   ·exact w.elim
  ·obtain ⟨v,rfl,r⟩:=rs.one;obtain ⟨xs,q,w⟩:=iL w;obtain ⟨p,vs,rfl,hq,hs⟩:=jB hp r q;have w':=w (.int vs.length) J H (Ext.refl hp.sub) (by rw [hs.length];exact .int _);exact .inr ⟨p,vs,rfl,by rw [hK];exact hq,w'⟩
  ·exact w.elim) PySem.boot_len hm ha hg (by decide) (by decide) he hpl⟩
theorem lR {gs:G (List R)}(ha:jA X c (e::es) gs) (hm:X.mg "tuple"=none) (hK:X.K=c.K:=by rfl) (hg:Gl X "tuple":=by rfl)
 (he:KC (e::es) X.env=(false,eval e X.env)::KC es X.env:=by rfl) (hpl:(MQ pos (KC es X.env)).any (·.1)=false:=by rfl):QD X c (.Call (.Name "tuple" p) (e::es) [] pos) (gN jE gs):=have ha:=ha.h;⟨
 lN rD (by
  intro He J H xs vs Q hp rs w;unfold jE at w;split at w
  ·obtain ⟨v,rfl,r⟩:=rs.one;rename_i r0;obtain ⟨xs,q,w⟩:=iL w;cases r0 with
   | d y=>
    cases y with
    | tup ys=>
     cases q;cases r with
     | tup h hs=>exact ⟨_,_,rfl,.inr ⟨by rw [hK];exact fK hp.sub h,w _ J H (Ext.refl hp.sub) (.tup h hs)⟩⟩
    | lst ys=>
     cases q;obtain ⟨p,vs,rfl,hq,hs⟩:=RR.list hp r rfl;exact ⟨p,vs,rfl,.inl ⟨by rw [hK];exact hq,λl hl=>w _ _ _ (Ext.newJ hp.sub hl _) (lU hp hl hs)⟩⟩
    | _=>cases q
   | mo _ _=>cases q
   | mb _ _=>cases q
   | mf _ _=>cases q
   | ln _=>cases q
   | l m ys=>
    cases q;obtain ⟨p,vs,rfl,hq,hs⟩:=RR.list hp r rfl;exact ⟨p,vs,rfl,.inl ⟨by rw [hK];exact hq,λl hl=>w _ _ _ (Ext.newJ hp.sub hl _) (lU hp hl hs)⟩⟩
  ·exact w.elim) uI hm ha hg (by decide) (by decide) he hpl⟩
theorem ku {p:Pos}{gs:G (List R)}(ha:jA X c (e::es) gs) (hm:X.mg "list"=none) (hK:X.K=c.K:=by rfl) (hg:Gl X "list":=by rfl)
  (he:KC (e::es) X.env=(false,eval e X.env)::KC es X.env:=by rfl) (hpl:(MQ pos (KC es X.env)).any (·.1)=false:=by rfl):QD X c (.Call (.Name "list" p) (e::es) [] pos) (gN mz gs):=have ha:=ha.h;⟨
 lN sO (by
  intro He J H xs vs Q hp rs w;unfold mz at w;split at w
  ·obtain ⟨v,rfl,r⟩:=rs.one;obtain ⟨xs,q,w⟩:=iL w;obtain ⟨p,vs,rfl,hq,hs⟩:=jB hp r q;exact ⟨p,vs,rfl,by rw [hK];exact hq,λl hl=>w _ _ _ (Ext.new hp.sub hl _) (i8 hp hl hs)⟩
  ·exact w.elim) wX hm ha hg (by decide) (by decide) he hpl⟩
theorem fT (h:QD X c e g) (he:∀whole,QL e X.env whole=(do let v <-whole;Ng e.pos;holding [v] (truthy v)):=by intro _;rfl):QB X c e (aS g):=have h:=h.h;⟨oY (EY h he) λσ H Q ⟨J,env,sr,w⟩=>by
 refine ⟨J,env,sr,az (aD w) λr wr v J1 H1 e1 r1=>?_⟩;split at wr
 ·cases r1;exact ⟨_,rfl,wr J1 H1 e1⟩
 ·exact wr.elim⟩
theorem iH {f:R->R->M R}(ho:dI X (MU op) r) (hf:BD c r f) (ha:QD X c a ga) (hb:QD X c b gb) (hm:LK op b=false:=by first | exact t_ _ | rfl):QB X c (.Compare a [op] [b] pos) (aS (g2 f ga gb)):=⟨jL ho hf ha.h hb.h hm⟩
variable {t u:G Bool}{rest:List K8}
theorem dP (h:sf X c e t):QB X c e t:=have h:=h.h;⟨PW.pt h⟩
theorem kq (h:QB X c a t):sf X c (.BoolOp .And [a] pos) t:=have h:=h.h;⟨CO h⟩
theorem fS (h:QB X c a t):sf X c (.BoolOp .Or [a] pos) t:=have h:=h.h;⟨E1 h⟩
theorem mJ (h:QB X c a t) (h':sf X c (.BoolOp .And (b::rest) pos) u):sf X c (.BoolOp .And (a::b::rest) pos) (bY t u):=have h:=h.h;have h':=h'.h;⟨BC (EZ h h') λσ H Q ⟨J,env,sr,w⟩=>by
 refine ⟨J,env,sr,az (aD w) λk wk J1 H1 e1=>?_⟩;cases k with
 | true=>
  rw [if_pos rfl] at wk ⊢;exact ⟨J1,env,sr.ext e1,az wk λk q J2 H2 e2=>q J2 H2 (e1.trans e2)⟩
 | false=>
  rw [if_neg (by decide)] at wk ⊢;exact wk J1 H1 e1⟩
theorem fC (h:QB X c a t) (h':sf X c (.BoolOp .Or (b::rest) pos) u):sf X c (.BoolOp .Or (a::b::rest) pos) (bZ t u):=have h:=h.h;have h':=h'.h;⟨BC (F8 h h') λσ H Q ⟨J,env,sr,w⟩=>by
 refine ⟨J,env,sr,az (aD w) λk wk J1 H1 e1=>?_⟩;cases k with
 | true=>
  rw [if_pos rfl] at wk ⊢;exact wk J1 H1 e1
 | false=>
  rw [if_neg (by decide)] at wk ⊢;exact ⟨J1,env,sr.ext e1,az wk λk q J2 H2 e2=>q J2 H2 (e1.trans e2)⟩⟩
theorem iI (h:QB X c a t):QB X c (.UnaryOp .Not a pos) (bH t):=have h:=h.h;⟨oY (EX h) λσ H Q ⟨J,env,sr,w⟩=>⟨J,env,sr,az (aD w) λk wk J1 H1 e1=>wk J1 H1 e1⟩⟩
theorem gY {op}(h:QD X c a ga):QD X c (.BoolOp op [a] pos) ga:=have h:=h.h;⟨EN h⟩
theorem mK (h:QD X c a ga) (h':QD X c (.BoolOp .And (b::rest) pos) gb):QD X c (.BoolOp .And (a::b::rest) pos) (bD ga gb):=have h:=h.h;have h':=h'.h;⟨eO (EK h h') λσ H Q ⟨J,env,sr,w⟩=>by
 refine ⟨J,env,sr,az (aD w) λr wr v J1 H1 e1 r1=>?_⟩;split at wr
 ·cases r1;exact ⟨true,rfl,Ej ⟨J1,env,sr.ext e1,az wr λz q v J2 H2 e2 r2=>q v J2 H2 (e1.trans e2) (RR.from e1.h r2)⟩⟩
 ·cases r1;exact ⟨false,rfl,Ei (wr _ J1 H1 e1 (.bl _))⟩
 ·exact wr.elim⟩
theorem o7 (h:QD X c a ga) (h':QD X c (.BoolOp .Or (b::rest) pos) gb):QD X c (.BoolOp .Or (a::b::rest) pos) (lF ga gb):=have h:=h.h;have h':=h'.h;⟨eO (F5 h h') λσ H Q ⟨J,env,sr,w⟩=>by
 refine ⟨J,env,sr,az (aD w) λr wr v J1 H1 e1 r1=>?_⟩;split at wr
 ·cases r1;exact ⟨false,rfl,Ei ⟨J1,env,sr.ext e1,az wr λz q v J2 H2 e2 r2=>q v J2 H2 (e1.trans e2) (RR.from e1.h r2)⟩⟩
 ·cases r1;exact ⟨true,rfl,Ej (wr _ J1 H1 e1 (.bl _))⟩
 ·exact wr.elim⟩
end
section
variable {X:Cx}{c:C}{e a b tg:K8}{es:List K8}{ga gb g:G R}{pos:Pos}{st:Nc}{rest:List Nc}{t u:G O}{tb:G Bool}
theorem bf:kK X c [] bB:=⟨uh CM λE σ H ⟨J,env,sr,w⟩=>w σ J H (aP.refl J) sr⟩
theorem ak (h:jd X c st t) (h':kK X c rest u):kK X c (st::rest) (aB t u):=have h:=h.h;have h':=h'.h;⟨uh (AQ h h') λE σ H ⟨J,env,sr,w⟩=>by
 refine ⟨J,env,sr,az (aD w) λo wo=>?_⟩;cases o with
 | nx e=>exact λσ' J' H' s' sr'=>⟨J',e,sr',az wo λo q=>q.mono s'⟩
 | rt r=>exact wo
 | bk e=>exact wo
 | ct e=>exact wo⟩
theorem aA (h:jd X c st t):kK X c [st] t:=have h:=h.h;⟨CN h⟩
theorem aE (h:QD X c e g):jd X c (.Return (some e) pos) (aL g):=have h:=h.h;⟨iC (EW h) λE σ H ⟨J,env,sr,w⟩=>by
 refine ⟨J,env,sr,az (aD w) λr wr v J1 H1 e1 r1=>?_⟩;cases q:rF r with
 | bad=>rw [q] at wr;exact wr.elim
 | exc x=>cases r with
  | d _=>cases q
  | l m _=>cases m <;> cases q
  | mo _ _=>cases q
  | mb _ _=>cases q
  | mf _ _=>cases q
  | ln _=>cases q
 | ok r'=>rw [q] at wr;exact wr v J1 H1 e1.j (sr.hp.ext e1) (RR.rf sr.hp r1 q)⟩
theorem bg {x:K8}{as bs:List Nc}(hx:QB X c x tb) (h:kK X c as t) (h':kK X c bs u):jd X c (.If x as bs pos) (aX tb t u):=have hx:=hx.h;have h:=h.h;have h':=h'.h;⟨iC (F6 hx h h') λE σ H ⟨J,env,sr,w⟩=>by
 refine ⟨J,env,sr,az (aD w) λk wk J1 H1 e1=>?_⟩;cases k with
 | true=>
  rw [if_pos rfl] at wk ⊢;exact ⟨J1,env,sr.ext e1,az wk λo q=>q.mono e1.j⟩
 | false=>
  rw [if_neg (by decide)] at wk ⊢;exact ⟨J1,env,sr.ext e1,az wk λo q=>q.mono e1.j⟩⟩
theorem aI (i:Nat){x:Str}{pos':Pos}(hN:X.N.Nodup) (h:QD X c e g) (hi:X.N[i]?=some x:=by rfl) (hx:Loc X.env.scope x:=by first | exact Qi rfl | exact OQ rfl) (hs:O_ e (some (.Name x pos')) pos.line X.env=pure false:=by rfl)
  (hf:X.fn x=true\/X.env.scope.names.lookup x=some .local:=by first | exact .inl rfl | exact .inr rfl):jd X c (.Assign [.Name x pos'] e pos) (aU i g):=have h:=h.h;⟨iC (zv hN hi hx h hs hf) λE σ H ⟨J,env,sr,w⟩=>by
 refine ⟨J,env,sr,az (aD w) λr wr v J1 H1 e1 r1=>?_⟩;obtain ⟨x,q,wr⟩:=wm wr;exact wr (σ.set i (some v)) J1 H1 e1.j (sr.set e1 r1 q)⟩
theorem aY (i:Nat){x:Str}(hN:X.N.Nodup) (hi:X.N[i]?=some x:=by rfl) (hx:Loc X.env.scope x:=by first | exact Qi rfl | exact OQ rfl) (hf:X.fn x=true\/X.env.scope.names.lookup x=some .local:=by first | exact .inl rfl | exact .inr rfl):k9 X c (.Name x pos) (aJ i):=⟨
 BA (CI hN hi hx hf) λv σ H Q ⟨J,env,d,sr,rd,w⟩=>w _ (sr.setD (x:=.d d) rd λx z=>by cases x <;> cases z) λj xs q=>by
  rcases cZ q with ⟨_,_,e⟩ | ⟨hj,q⟩
  ·cases xs <;> cases e
  ·exact ⟨q,K_ (Mz hj)⟩⟩
theorem qL:wL X c [] xY:=⟨zl CJ λvs σ H Q ⟨J,env,ds,sr,rd,w⟩=>by
 cases rd with
 | nil=>exact ⟨rfl,w σ sr KO.refl⟩
 | cons _ _=>exact w.elim⟩
theorem gJ {t:GT}{u:nW}(h:k9 X c e t) (h':wL X c es u) (hs:(M_ (e::es) X.env).map (·.2)=assign e X.env::(M_ es X.env).map (·.2):=by rfl):wL X c (e::es) (jR t u):=have h:=h.h;have h':=h'.h;⟨
 zl (AK h h' hs) λvs σ H Q ⟨J,env,ds,sr,rd,w⟩=>by
  cases rd with
  | nil=>exact w.elim
  | cons r rs=>
   refine ⟨_,_,rfl,J,env,_,sr,r,az (aD w) λe1 w1 σ' sr' ko=>?_⟩;exact ⟨J,e1,_,sr',rs,az w1 λe2 q σ2 sr2 ko2=>q σ2 sr2 (ko.trans ko2)⟩⟩
theorem ur {k:Nat}{u:nW}{n:Nat}(h:wL X c es u) (hc:X.calm=true:=by rfl) (hK:X.K=c.K:=by rfl) (hn:(M_ es X.env).length=n:=by rfl) (hst:(M_ es X.env).findIdx? (·.1)=none:=by rfl):k9 X c (.Tuple es k pos) (rX n u):=have h:=h.h;⟨
 BA (ES hc h hn hst) λv σ H Q ⟨J,env,d,sr,rd,w⟩=>by
  cases rd with
  | tup h1 h2=>
   unfold rX at w;simp only at w;split at w
   ·rename_i hl;exact ⟨_,_,rfl,by rw [hK];exact fK sr.hp.sub h1,by rw [<-h2.length];exact hl,J,env,_,sr,h2,w⟩
   ·exact w.elim
  | _=>exact w.elim⟩
theorem i6 {J6:K8}{body:List Nc}{gi:G (List D)}{t:GT}(hi:sq X c tg J6 gi) (ht:k9 X c tg t) (hb:kK X c body u) (hp:R1 (KS X.prog X.w) X.A X.env X.xe:=by first | exact R8 | exact Rz) (hc:X.calm=true:=by rfl)
  (hs:∀x,LL J6 X.env x=pure x:=by intro _;rfl):jd X c (.For tg J6 body [] pos) (gV gi t u):=have hi:=hi.h;have ht:=ht.h;have hb:=hb.h;⟨iC (EV hp hc hi ht hb hs) λE σ H ⟨J,env,sr,w⟩=>by
 refine ⟨J,env,sr,az (aD w) λds wd It J1 H1 e1 wk=>?_⟩;refine ⟨λi m σ H=>m=ds.length - i/\∃J' env,aP J1 J'/\SR c J' H σ env/\cA (fJ t u (ds.drop i) env) (oP c J' E) c.T,
  ⟨ds.length,by simp,J1,env,aP.refl J1,sr.ext e1,by rw [QN];exact az wd λo q=>q.mono e1.j⟩,?_⟩
 rintro i m σ H ⟨rfl,J',env,s',sr',w'⟩;obtain ⟨w1,w2⟩:=wk i J' H sr'.hp s';by_cases hlt:i < ds.length
 ·obtain ⟨g1,y1⟩:=w2 ds[i] (by simp [hlt]);rw [Mj hlt] at w';refine .inr ⟨g1,λσ2 H2=>∃J2 env2,aP J' J2/\SR c J2 H2 σ2 env2/\cA (fJ t u (ds.drop (i + 1)) env2) (oP c J2 E) c.T,?_,?_⟩
  ·rintro σ2 H2 ⟨J2,env2,s2,sr2,w2⟩;exact ⟨ds.length - (i + 1),by omega,rfl,J2,env2,s'.trans s2,sr2,w2⟩
  ·intro x H2 hy;obtain ⟨J2,e2,rx⟩:=y1 x H2 hy;refine ⟨J2,env,ds[i],sr'.ext e2,rx,az (aD w') λenv3 w3 σ3 sr3 _=>?_⟩;refine ⟨J2,env3,sr3,az (aD w3) λo wo=>?_⟩;cases o with
   | nx env4=>exact λσ4 J4 H4 s4 sr4=>⟨J4,env4,e2.j.trans s4,sr4,az wo λo q=>q.mono (e2.j.trans s4)⟩
   | ct env4=>exact λσ4 J4 H4 s4 sr4=>⟨J4,env4,e2.j.trans s4,sr4,az wo λo q=>q.mono (e2.j.trans s4)⟩
   | bk env4=>exact λσ4 J4 H4 s4 sr4=>wo σ4 J4 H4 (e2.j.trans s4) sr4
   | rt r=>exact λv J4 H4 s4 h4 r4=>wo v J4 H4 (e2.j.trans s4) h4 r4
 ·rw [N5 (by omega)] at w';exact .inl ⟨w1 (by omega),w' σ J' H (aP.refl J') sr'⟩⟩
theorem gn {p:Pos}{gs:G (List R)}(ha:jA X c [a] gs) (hm:X.mg "range"=none) (hg:Gl X "range":=by rfl) (hs:KC [a] X.env=[(false,eval a X.env)]:=by rfl):sq X c tg (.Call (.Name "range" p) [a] [] pos) (fk gs):=have ha:=ha.h;⟨
 oW (zo hg hm ha hs) λσ H Q ⟨J,env,sr,w⟩=>by
  refine ⟨J,env,sr,az (aD w) λrs wr vs J1 H1 e1 r1=>?_⟩;split at wr
  ·split at wr
   ·rename_i h;obtain ⟨v,rfl,r⟩:=r1.one;cases r;have h:=dJ.mp h;exact ⟨_,rfl,Int.le_of_lt h.1,h.2,wr _ J1 H1 e1 yb⟩
   ·exact wr.elim
  ·exact wr.elim⟩
theorem kj {gi:G (List D)}(h:sq X c tg e gi):vf X c tg e gi:=have h:=h.h;⟨oW h λσ H Q ⟨J,env,sr,w⟩=>
 ⟨J,env,sr,az w λds q It J1 H1 e1 wk=>q It J1 H1 e1 λi J' H' hp u=>wk i J' H' hp u.1⟩⟩
end
section
variable {X:Cx}{c:C}{e a b tg:K8}{es:List K8}{ga gb g:G R}{pos:Pos}
theorem eF (i:Nat){x:Str}{p1 p2 pos':Pos}(h:QD X c e g) (hN:X.N[i]?=some x:=by rfl) (hv:vg X.env.scope x:=by first | exact Qi rfl | exact OQ (Qi rfl) | exact OQ (OQ rfl)) (hd:(x == ("__debug__":Str))=false:=by decide)
  (hcd:(x == ("__classdict__":Str))=false:=by decide)
  (hbase:Ox (.Name x p1) "append" X.env (eval (.Name x p1) X.env)=eval (.Name x p1) X.env:=by rfl)
  (hfew:((MQ pos' (KC [e] X.env)).all (λx=>!x.1) && (Ul pos' (R4 [] X.env)).all (λx=>x.1.isSome)
   && decide (([e]:List K8).length + ([]:List R5).length + (if ([]:List R5).isEmpty then 0 else 1) < 30))=true:=by rfl)
  (hline:(p2.endLine == pos'.line)=true:=by rfl) (hst:KC [e] X.env=(false,eval e X.env)::KC [] X.env:=by rfl) (hplain:(MQ pos' (KC [] X.env)).any (·.1)=false:=by rfl)
  (hs:O_ (.Call (.Attribute (.Name x p1) "append" p2) [e] [] pos') none pos.line X.env=pure false:=by rfl):jd X c (.Expr (.Call (.Attribute (.Name x p1) "append" p2) [e] [] pos') pos) (gG i g):=have h:=h.h;⟨
 iC (vU (Bw NY PySem.F.slot_list_append PySem.F.type_list_append qG (oV hN hv hd hcd) (gy h iZ hst) hbase hfew hline hst hplain) hs) λE σ H ⟨J,env,sr,w⟩=>by
  unfold gG at w;split at w
  ·rename_i xs hi;obtain ⟨v,h1,a,vs,rfl,h2,h3,h4,h5⟩:=sr.at_ i _ hi;refine ⟨.ref a,h1,.inl ⟨rfl,vs,bV.of h2⟩,?_⟩;refine ⟨J,env,sr,az (aD w) λr wr y J1 H1 e1 r1=>?_⟩;obtain ⟨d,q,wr⟩:=mQ wr;obtain ⟨J2,e2,s2,rd⟩:=freeze e1 r1 q;split at wr
   ·rename_i hz;refine ⟨a,vs,y,rfl,rfl,e2.h _ _ h2,by rw [<-h5.length];exact hz,?_⟩;refine wr σ J2 _ e2.j ?_;exact (sr.ext e2).upd hi h1 (e2.h _ _ h2) (e2.frz a (by rw [h2];intro z;cases z) h3) h4 ((h5.mono e2.j).append (.cons rd .nil))
   ·exact wr.elim
  ·exact w.elim⟩
end
section
variable {X:Cx}{c:C}
theorem bJ:k8 X c [] cV:=⟨λJW s σ H Q I ⟨J,env,sr,w⟩=>wpAny_tests_nil ⟨H,I,w J H (Ext.refl sr.hp.sub)⟩⟩
theorem lS {g:G Bool}(h:QB X c x g):k8 X c [x] g:=have h:=h.h;⟨λJW s σ H Q I q=>wpAny_tests_one (h JW s σ H Q I q)⟩
end
section
variable {K:Ke}{J:Hp}{s:Kh}
variable {X:Cx}{c:C}{e a b tg:K8}{es:List K8}{ga gb g:G R}{pos:Pos}
theorem lQ (hu:X.A.units + 64 < OW) (ha:QD X c a ga) (hb:QD X c b gb) (hK:X.K=c.K:=by rfl):QD X c (.Compare a [.Eq] [b] pos) (g2 (bx false) ga gb):=have ha:=ha.h;have hb:=hb.h;⟨uf (ze hu) (rP false hK) ha hb⟩
theorem o6 (hu:X.A.units + 64 < OW) (ha:QD X c a ga) (hb:QD X c b gb) (hK:X.K=c.K:=by rfl):QD X c (.Compare a [.NotEq] [b] pos) (g2 (bx true) ga gb):=have ha:=ha.h;have hb:=hb.h;⟨uf (zh hu) (rP true hK) ha hb⟩
theorem bL (hu:X.A.units + 64 < OW) (ha:QD X c a ga) (hb:QD X c b gb) (hK:X.K=c.K:=by rfl):QB X c (.Compare a [.Eq] [b] pos) (aS (g2 (bx false) ga gb)):=have ha:=ha.h;have hb:=hb.h;⟨jL (ze hu) (rP false hK) ha hb⟩
theorem um (hu:X.A.units + 64 < OW) (ha:QD X c a ga) (hb:QD X c b gb) (hK:X.K=c.K:=by rfl):QB X c (.Compare a [.NotEq] [b] pos) (aS (g2 (bx true) ga gb)):=have ha:=ha.h;have hb:=hb.h;⟨jL (zh hu) (rP true hK) ha hb⟩
theorem o5 (hu:X.A.units + 64 < OW) (ha:QD X c a ga) (hb:QD X c b gb) (hK:X.K=c.K:=by rfl) (hm:LK .In b=false:=by rfl):QD X c (.Compare a [.In] [b] pos) (g2 (fO false) ga gb):=have ha:=ha.h;have hb:=hb.h;⟨uf (zf hu) (wU false hK) ha hb hm⟩
theorem oZ (hu:X.A.units + 64 < OW) (ha:QD X c a ga) (hb:QD X c b gb) (hK:X.K=c.K:=by rfl) (hm:LK .In b=false:=by rfl):QB X c (.Compare a [.In] [b] pos) (aS (g2 (fO false) ga gb)):=have ha:=ha.h;have hb:=hb.h;⟨jL (zf hu) (wU false hK) ha hb hm⟩
theorem qJ (hu:X.A.units + 64 < OW) (ha:QD X c a ga) (hb:QD X c b gb) (hK:X.K=c.K:=by rfl) (hm:LK .NotIn b=false:=by rfl):QB X c (.Compare a [.NotIn] [b] pos) (aS (g2 (fO true) ga gb)):=have ha:=ha.h;have hb:=hb.h;⟨jL (zj hu) (wU true hK) ha hb hm⟩
end
section
variable {X:Cx}{c:C}{e a b tg:K8}{es:List K8}{ga gb g:G R}{pos:Pos}
theorem ff:Bh X c none m8:=⟨BB CK λσ H Q ⟨J,env,sr,w⟩=>w J H (Ext.refl sr.hp.sub)⟩
theorem cD (h:QD X c e g):Bh X c (some e) (gm g):=have h:=h.h;⟨BB (CL h) λσ H Q ⟨J,env,sr,w⟩=>by
 refine ⟨J,env,sr,az (aD w) λr wr v J1 H1 e1 r1=>?_⟩;split at wr
 ·cases r1;exact ⟨_,rfl,wr J1 H1 e1⟩
 ·exact wr.elim⟩
theorem o8 {p:Pos}{gs:G (List R)}(ha:jA X c (e::es) gs) (hm:X.mg "sorted"=none) (hK:X.K=c.K:=by rfl) (hg:Gl X "sorted":=by rfl)
  (he:KC (e::es) X.env=(false,eval e X.env)::KC es X.env:=by rfl) (hpl:(MQ pos (KC es X.env)).any (·.1)=false:=by rfl):QD X c (.Call (.Name "sorted" p) (e::es) [] pos) (gN iE gs):=have ha:=ha.h;⟨
 kh sP (by
  intro He J H xs vs Q hp rs w;unfold iE at w;split at w
  ·obtain ⟨v,rfl,r⟩:=rs.one;obtain ⟨xs,q,w⟩:=iK w;obtain ⟨p,vs,rfl,h1,h2⟩:=RR.list hp r q;split at w
   ·rename_i ss z;split at w
    ·rename_i hl;have:=kH z h2;subst this;refine ⟨p,ss,rfl,by rw [hK];exact h1,hl,λss' hp' hs' l hl'=>?_⟩;rw [pB hp' hs'];exact w _ _ _ (Ext.new hp.sub hl' _) (i8 hp hl' (lT _))
    ·exact w.elim
   ·exact w.elim
  ·exact w.elim) lg hm ha hg (by decide) (by decide) he hpl⟩
theorem br (ha:QD X c a ga) (hb:QD X c b gb):QD X c (.BinOp a .Add b pos) (g2 bu ga gb):=by
 have ha:=ha.h;have hb:=hb.h;refine ⟨?_⟩;have h1:BD c (qM λi j=>.int (i + j)) D3:=je λ_ _ _=>.int _;have q:=ki (pos:=pos) (EC.or (xM.or ED)) (BD.or (c:=c) (λx _=>Br x) h1 (BD.or (c:=c) (λx _=>Gx x) (f:=xg) (f':=xh) (by
  intro He He' J H x y u v Q hp rx ry w;unfold xg at w;split at w
  ·cases rx;cases ry;split at w
   ·rename_i h;exact ⟨_,_,rfl,rfl,h,w _ J H (Ext.refl hp.sub) (.str _)⟩
   ·exact w.elim
  ·exact w.elim) (by
  intro He He' J H x y u v Q hp rx ry w;unfold xh at w;split at w
  ·rename_i hm;rw [KU] at hm;obtain ⟨p,vs,xs,e1,rfl,h1,s1⟩:=rx.made hm.1;obtain ⟨p2,vs2,ys,e2,rfl,h2,s2⟩:=ry.made hm.2;rw [e1,e2] at w;simp only [aG] at w;split at w
   ·rename_i hz;rw [s1.length,s2.length] at hz;exact ⟨p,p2,vs,vs2,rfl,rfl,h1,h2,hz,λq hq=>w _ J _ (Ext.new hp.sub hq _) (i8 hp hq (s1.append s2))⟩
   ·exact w.elim
  ·exact w.elim))) ha hb
 exact q
theorem eB (ha:QD X c a ga) (hb:QD X c b gb):QD X c (.BinOp a .Mult b pos) (g2 di ga gb):=by
 have ha:=ha.h;have hb:=hb.h;refine ⟨?_⟩;have h1:BD c (rI wz λi j=>.int (i * j)) D6:=wR (λi j h=>Ci h) λ_ _ _=>.int _;exact ki (pos:=pos) (EG.or Cw) (BD.or (c:=c) (λx _=>Br x) h1 (f':=xj) (by
  intro He He' J H x y u v Q hp rx ry w;unfold xj at w;split at w
  ·cases rx;cases ry;split at w
   ·rename_i h;exact ⟨_,_,rfl,rfl,h.1,h.2.1,h.2.2,w _ J H (Ext.refl hp.sub) (.str _)⟩
   ·exact w.elim
  ·exact w.elim)) ha hb
theorem au (ha:QD X c a ga) (hb:QD X c b gb) (hK:X.K=c.K:=by rfl) (hs:l7 b:=by exact λ_ _=>rfl):QD X c (.Subscript a b pos) (g2 aK ga gb):=have ha:=ha.h;have hb:=hb.h;⟨FZ Ek (by
 intro He He' J H x y u v Q hp rx ry w;rw [hK];unfold aK at w;split at w
 ·cases rx;cases ry;split at w
  ·rename_i h;split at w
   ·rename_i k hk;exact .inr (.inr ⟨_,_,k,rfl,rfl,h,hk,w _ J H (Ext.refl hp.sub) (.str _)⟩)
   ·exact w.elim
  ·exact w.elim
 ·cases ry;obtain ⟨xs,q,w⟩:=iL w;obtain ⟨p,vs,rfl,hl,hs⟩:=jB hp rx q;split at w
  ·rename_i d hd;obtain ⟨z,h1,h2⟩:=CZ hs hd;have fin:=w z J H (Ext.refl hp.sub) h2;rcases hl with hl | hl
   ·exact .inl ⟨p,vs,_,z,rfl,rfl,hl,h1,fin⟩
   ·exact .inr (.inl ⟨p,vs,_,z,rfl,rfl,hl,h1,fin⟩)
  ·exact w.elim
 ·exact w.elim) ha hb hs⟩
theorem aM {F:List S->M R}{gs:G (List R)}(G:bq X.prog X.w X.K X.mg X.base k n x F) (hr:dg k' X.A) (ha:jA X c (e::es) gs) (hk:k<=k':=by decide) (hT:c.K=X.K:=by rfl) (hg:Gl X x:=by rfl) (hdb:(x == ("__debug__":Str))=false:=by decide)
 (he:KC (e::es) X.env=(false,eval e X.env)::KC es X.env:=by rfl) (hpl:(MQ pos (KC es X.env)).any (·.1)=false:=by rfl):QD X c (.Call (.Name x p) (e::es) [] pos) (gN (aC n F) gs):=by have ha:=ha.h;refine ⟨?_⟩;obtain ⟨f,fd,ps,h1,h2,h3,h4⟩:=G;exact CA h1 (hr.mono hk) h2 h3 h4 ha hT hg hdb he hpl
theorem uo (h:QD X c e g) (ht:k9 X c tg t) (hs:Q4 [tg] e pos.line X.env=pure false:=by rfl) (hw:SX [tg] e X.env=pure none:=by rfl)
 (h1:(M_ [tg] X.env).map (·.2)=[assign tg X.env]:=by rfl):jd X c (.Assign [tg] e pos) (pU t g):=have h:=h.h;have ht:=ht.h;⟨Cz h ht (EU h ht hs hw h1)⟩
theorem gI {T:String}{Ts:Str}{p p2:Pos}(kit:vc T) (hT:Lm Ts=some (.type T)) (mT:X.mg Ts=none)
  (h:QD X c a g) (hm:X.mg "isinstance"=none) (hK:X.K=c.K:=by rfl) (hg:Gl X "isinstance":=by rfl) (JI:Gl X Ts:=by rfl) (hn:Ts≠"__name__":=by decide) (JE:(Ts == ("__debug__":Str))=false:=by decide)
  (he:KC [a,.Name Ts p2] X.env=(false,eval a X.env)::KC [.Name Ts p2] X.env:=by rfl) (JF:KC [.Name Ts p2] X.env=(false,eval (.Name Ts p2) X.env)::KC [] X.env:=by rfl)
  (hpl:(MQ pos (KC [.Name Ts p2] X.env)).any (·.1)=false:=by rfl):QD X c (.Call (.Name "isinstance" p) [a,.Name Ts p2] [] pos) (cO T g):=have h:=h.h;⟨
 eO (nN (uN kit) hg hm (by decide +kernel) (gy h (gy (CF JI mT hT (v:=.ty T) rfl hn JE) iZ JF) he) (by decide) (by decide) he hpl) λσ H Q ⟨J,env,sr,w⟩=>by
  refine ⟨J,env,sr,az (aD w) λr wr v J1 H1 e1 r1=>?_⟩;exact ⟨r.dat,v,rfl,by rw [hK];exact r1.dat (sr.hp.ext e1),wr _ J1 H1 e1 (.bl _)⟩⟩
theorem iJ {p:Pos}{gs:G (List R)}(ha:jA X c (e::es) gs) (hm:X.mg "all"=none) (hK:X.K=c.K:=by rfl) (hc:X.calm=true:=by rfl) (hg:Gl X "all":=by rfl)
  (he:KC (e::es) X.env=(false,eval e X.env)::KC es X.env:=by rfl) (hpl:(MQ pos (KC es X.env)).any (·.1)=false:=by rfl):QD X c (.Call (.Name "all" p) (e::es) [] pos) (gN gU gs):=have ha:=ha.h;⟨
 kh (yt hc) (by
  intro He J H xs vs Q hp rs w;unfold gU at w;split at w
  ·obtain ⟨v,rfl,r⟩:=rs.one;obtain ⟨xs,q,w⟩:=iK w;obtain ⟨p,vs,rfl,h1,h2⟩:=RR.list hp r q;split at w
   ·rename_i ks z;have:=qw z h2;subst this;exact ⟨p,ks,rfl,by rw [hK];exact h1,w _ J H (Ext.refl hp.sub) (.bl _)⟩
   ·exact w.elim
  ·exact w.elim) yl hm ha hg (by decide) (by decide) he hpl⟩
theorem CT {p:Pos}{gs:G (List R)}(ha:jA X c (e::es) gs) (hm:X.mg "max"=none) (hc:X.calm=true:=by rfl) (hg:Gl X "max":=by rfl)
  (he:KC (e::es) X.env=(false,eval e X.env)::KC es X.env:=by rfl) (hpl:(MQ pos (KC es X.env)).any (·.1)=false:=by rfl):QD X c (.Call (.Name "max" p) (e::es) [] pos) (gN Al gs):=have ha:=ha.h;⟨
 kh (yv hc) (by
  intro He J H xs vs Q hp rs w;unfold Al at w;split at w
  ·obtain ⟨v,v',rfl,r,r'⟩:=rs.two;cases r;cases r';exact ⟨_,_,rfl,w _ J H (Ext.refl hp.sub) (.int _)⟩
  ·exact w.elim) (by decide +kernel) hm ha hg (by decide) (by decide) he hpl⟩
theorem AV (h:QD X c e g):sq X c tg e (Ao g):=have h:=h.h;⟨oW (ET h) λσ H Q ⟨J,env,sr,w⟩=>by
 refine ⟨J,env,sr,az (aD w) λr wr v J1 H1 e1 r1=>?_⟩;split at wr
 ·cases r1;exact ⟨_,rfl,wr _ J1 H1 e1 A9⟩
 ·exact wr.elim⟩
theorem eY {lo hi:Option K8}{gl gh:GO}{p2:Pos}(h:QD X c e g) (hl:Bh X c lo gl) (hh:Bh X c hi gh) (hK:X.K=c.K:=by rfl):QD X c (.Subscript e (.Slice lo hi none p2) pos) (iV fY g gl gh):=have h:=h.h;have hl:=hl.h;have hh:=hh.h;⟨F0 (zG.or C_) (by
 intro He J H x v l u Q hp rx w;unfold fY at w;split at w
 ·exact .inl (G3 hK He J H x v l u Q hp rx w)
 ·obtain ⟨xs,q,w⟩:=iK w;obtain ⟨p,vs,rfl,h1,h2⟩:=rx.list hp q;exact .inr ⟨p,vs,rfl,by rw [hK];exact h1,λp' hp'=>w _ _ _ (Ext.new hp.sub hp' _) (i8 hp hp' (h2.cut l u))⟩) h hl hh⟩
theorem CU {st:K8}{p2:Pos}(h:QD X c e g) (hst:PE X st (tC (.int (-1)))) (hK:X.K=c.K:=by rfl):QD X c (.Subscript e (.Slice none none (some st) p2) pos) (D_ g):=by
 have h:=h.h;refine ⟨?_⟩;intro JW s σ H Q I ⟨J,env,sr,w⟩;refine SE (bF (h JW s σ H (λv H1=>∃a xs,v=.ref a/\eH X.K H1 a xs/\∀p,H1 p=none->Q (.ref p) (upd H1 p (.tup xs.reverse))) I ⟨J,env,sr,az (aD w) λr wr v J1 H1 e1 r1=>?_⟩) λv s1 ⟨x,H1,I1,r1,a,xs,hx,hq,q⟩=>?_)
 ·split at wr
  ·cases r1 with
   | tup h1 s1=>
    exact ⟨_,_,rfl,by rw [hK];exact fK e1.sub h1,λp hp'=>wr _ _ _ (e1.trans (Ext.newJ e1.sub hp' _)) (lU (sr.hp.ext e1) hp' s1.rev)⟩
  ·exact wr.elim
 subst hx;cases r1;refine wpAny_Slice ?_;rw [Q9];refine Kf (Kf ?_);rw [S4];refine bF (hst JW s1 σ H1 (λv H2=>v=.int (-1)/\H2=H1) I1 ⟨rfl,rfl⟩) λu s3 ⟨y,H3,I3,r3,hy,hH⟩=>?_;subst hy hH;obtain ⟨k,rfl⟩:=r3;have I4:Inv X JW σ H3 {s3 with heap:=s3.heap.push {cls:=.type "slice",data:=.fields #[.none,.none,.int (-1) k]}}:=I3.kept (t':=s3.toks) λb ob q=>Kl _ q;obtain ⟨JY,r,ht,hz⟩:=I4.tuple hq;have hlen:=r.length;refine S6 (ops:=[.ref a,.ref s3.heap.objs.size]) ht.typeIs K4.lookup ?_ (by with_unfolding_all rfl);refine zN ht (Q_ ..) ?_ (by rw [Kv];omega);refine ⟨.ref _,_,I4.laid (t':=s3.toks) (o:=.tup xs.reverse) (λb ob q=>Kl _ q) (Kr _) ?_,rfl,q _ (I4.hok.fresh (Kr _))⟩;exact ⟨by simpa using hz,_,r.reverse,To _ _,λo q=>by rw [Kn _ rfl] at q;cases q;rfl⟩
theorem qK (h:A_ X.K X.mg x d) (hK:X.K=c.K:=by rfl) (hg:Gl X x:=by rfl) (hd:(x == ("__debug__":Str))=false:=by decide):QD X c (.Name x pos) (gC d):=by refine ⟨?_⟩;obtain ⟨u,v,h1,h2,h3⟩:=h;exact CB h1 h2 (λJ=>hK▸h3 J) hg hd
end
section
variable {X:Cx}{c:C}{e a b tg:K8}{es:List K8}{ga gb g:G R}{pos:Pos}{st:Nc}{t u:G O}{tb:G Bool}
theorem fU (h:QD X c a g):QD X c (.UnaryOp .USub a pos) (iU g):=have h:=h.h;⟨eO (By zR h) λσ H Q ⟨J,env,sr,w⟩=>by
 refine ⟨J,env,sr,az (aD w) λr wr v J1 H1 e1 r1=>?_⟩;split at wr
 ·cases r1;exact ⟨_,rfl,wr _ J1 H1 e1 (.int _)⟩
 ·exact wr.elim⟩
theorem CS (h:QD X c e g) (hK:X.K=c.K:=by rfl) (he:∀whole,QL e X.env whole=(do let v <-whole;Ng e.pos;holding [v] (truthy v)):=by intro _;rfl):QB X c e (Ea g):=have h:=h.h;⟨oY (AR h he) λσ H Q ⟨J,env,sr,w⟩=>by
 refine ⟨J,env,sr,az (aD w) λr wr v J1 H1 e1 r1=>?_⟩;rw [hK];obtain ⟨k,k1,k2⟩:=Di (sr.hp.ext e1) r1 wr;exact ⟨k,k1,k2 J1 H1 e1⟩⟩
theorem o4 (n:Nat){body:List Nc}(ht:QB X c e tb) (hb:kK X c body u) (hp:R1 (KS X.prog X.w) X.A X.env X.xe:=by first | exact R8 | exact Rz):jd X c (.While e body [] pos) (oH n tb u):=have ht:=ht.h;have hb:=hb.h;⟨iC (AO hp ht hb) λE σ H ⟨J,env,sr,w⟩=>by
 refine ⟨λm σ H=>∃J' env,aP J J'/\SR c J' H σ env/\cA (ja tb u m env) (oP c J' E) c.T,⟨n,J,env,aP.refl J,sr,w⟩,?_⟩;rintro m σ H ⟨J',env,s',sr',w'⟩;cases m with
 | zero=>exact w'.elim
 | succ m=>
  refine ⟨J',env,sr',az (aD w') λk wk J1 H1 e1=>?_⟩;cases k with
  | false=>
   rw [if_neg (by decide)] at wk ⊢;exact wk σ J1 H1 e1.j (sr'.ext e1)
  | true=>
   rw [if_pos rfl] at wk ⊢;refine ⟨λσ2 H2=>∃J2 env2,aP J1 J2/\SR c J2 H2 σ2 env2/\cA (ja tb u m env2) (oP c J2 E) c.T,?_,?_⟩
   ·rintro σ2 H2 ⟨J2,env2,s2,sr2,w2⟩;exact ⟨m,LI m,J2,env2,(s'.trans e1.j).trans s2,sr2,w2⟩
   ·refine ⟨J1,env,sr'.ext e1,az (aD wk) λo wo=>?_⟩;cases o with
    | nx env4=>exact λσ4 J4 H4 s4 sr4=>⟨J4,env4,s4,sr4,az wo λo q=>q.mono (e1.j.trans s4)⟩
    | ct env4=>exact λσ4 J4 H4 s4 sr4=>⟨J4,env4,s4,sr4,az wo λo q=>q.mono (e1.j.trans s4)⟩
    | bk env4=>exact λσ4 J4 H4 s4 sr4=>wo σ4 J4 H4 (e1.j.trans s4) sr4
    | rt r=>exact λv J4 H4 s4 h4 r4=>wo v J4 H4 (e1.j.trans s4) h4 r4⟩
theorem AU (i j:Nat){x y:Str}{p1 p2 pos' pos'':Pos}(nd:X.N.Nodup) (hi:X.N[i]?=some x:=by rfl) (hx:Loc X.env.scope x:=by first | exact Qi rfl | exact OQ rfl) (hj:X.N[j]?=some y:=by rfl)
  (hv:vg X.env.scope y:=by first | exact Qi rfl | exact OQ (Qi rfl) | exact OQ (OQ rfl)) (hd:(y == ("__debug__":Str))=false:=by decide) (hcd:(y == ("__classdict__":Str))=false:=by decide)
  (hbase:Ox (.Name y p1) "pop" X.env (eval (.Name y p1) X.env)=eval (.Name y p1) X.env:=by rfl) (hline:(p2.endLine == pos'.line)=true:=by rfl)
  (hs:O_ (.Call (.Attribute (.Name y p1) "pop" p2) [] [] pos') (some (.Name x pos'')) pos.line X.env=pure false:=by rfl)
  (hf:X.fn x=true\/X.env.scope.names.lookup x=some .local:=by first | exact .inl rfl | exact .inr rfl):jd X c (.Assign [.Name x pos''] (.Call (.Attribute (.Name y p1) "pop" p2) [] [] pos') pos) (tu i j):=⟨
 iC (zv nd hi hx (EL NY PySem.F.slot_list_pop PySem.F.type_list_pop Ex (oV hj hv hd hcd) hbase hline) hs hf) λE σ H ⟨J,env,sr,w⟩=>by
  unfold tu at w;split at w
  ·rename_i xs Js;split at w
   ·rename_i d II;obtain ⟨v,h1,p,vs,rfl,h2,h3,h4,h5⟩:=sr.at_ j _ Js;refine ⟨.ref p,h1,.inl ⟨rfl,vs,bV.of h2⟩,?_⟩;obtain ⟨z,hz,rz⟩:=h5.get II;refine ⟨p,vs,z,rfl,rfl,h2,by rw [<-h5.length];exact hz,?_⟩;have sr2:=sr.upd (xs':=xs.dropLast) (vs':=vs.dropLast) Js h1 h2 h3 h4 h5.dropLast;exact w (σ.set i (some z)) J _ (aP.refl J) (sr2.setD (x:=.d d) rz λx q=>by cases x <;> cases q)
   ·exact w.elim
  ·exact w.elim⟩
end
section
variable {X:Cx}{c:C}{e a b tg:K8}{es:List K8}{ga gb g:G R}{pos:Pos}
theorem uT (i:Nat){x:Str}{p1 p2 pos':Pos}(h:QD X c e g) (hN:X.N[i]?=some x:=by rfl) (hv:vg X.env.scope x:=by first | exact Qi rfl | exact OQ (Qi rfl) | exact OQ (OQ rfl)) (hd:(x == ("__debug__":Str))=false:=by decide)
  (hcd:(x == ("__classdict__":Str))=false:=by decide)
  (hbase:Ox (.Name x p1) "extend" X.env (eval (.Name x p1) X.env)=eval (.Name x p1) X.env:=by rfl)
  (hfew:((MQ pos' (KC [e] X.env)).all (λx=>!x.1) && (Ul pos' (R4 [] X.env)).all (λx=>x.1.isSome)
   && decide (([e]:List K8).length + ([]:List R5).length + (if ([]:List R5).isEmpty then 0 else 1) < 30))=true:=by rfl)
  (hline:(p2.endLine == pos'.line)=true:=by rfl) (hst:KC [e] X.env=(false,eval e X.env)::KC [] X.env:=by rfl) (hplain:(MQ pos' (KC [] X.env)).any (·.1)=false:=by rfl)
  (hs:O_ (.Call (.Attribute (.Name x p1) "extend" p2) [e] [] pos') none pos.line X.env=pure false:=by rfl) (hK:X.K=c.K:=by rfl):jd X c (.Expr (.Call (.Attribute (.Name x p1) "extend" p2) [e] [] pos') pos) (s_ i g):=have h:=h.h;⟨
 iC (vU (Bw NY PySem.F.slot_list_extend PySem.F.type_list_extend Ew (oV hN hv hd hcd) (gy h iZ hst) hbase hfew hline hst hplain) hs) λE σ H ⟨J,env,sr,w⟩=>by
  unfold s_ at w;split at w
  ·rename_i xs hi;obtain ⟨v,h1,a,vs,rfl,h2,h3,h4,h5⟩:=sr.at_ i _ hi;refine ⟨.ref a,h1,.inl ⟨rfl,vs,bV.of h2⟩,?_⟩;refine ⟨J,env,sr,az (aD w) λr wr y J1 H1 e1 r1=>?_⟩;obtain ⟨ys,q,wr⟩:=iL wr;split at wr
   ·rename_i hz;obtain ⟨p,ws,rfl,hq,hs⟩:=jB (sr.hp.ext e1) r1 q;refine ⟨a,p,vs,ws,rfl,rfl,e1.h _ _ h2,by rw [hK];exact hq,by rw [<-h5.length,<-hs.length];exact hz,?_⟩;refine wr σ J1 _ e1.j ?_;exact (sr.ext e1).upd hi h1 (e1.h _ _ h2) (e1.frz a (by rw [h2];intro z;cases z) h3) h4 ((h5.mono e1.j).append hs)
   ·exact wr.elim
  ·exact w.elim⟩
theorem zw (ha:QD X c a ga) (hb:QD X c b gb):QB X c (.Compare a [.IsNot] [b] pos) (aS (g2 (D4 true) ga gb)):=have ha:=ha.h;have hb:=hb.h;⟨jL zg (by
 intro He He' J H x y u v Q hp rx ry w;unfold D4 at w;split at w
 ·rename_i o ho;refine ⟨o,by rw [vQ ry];exact ho,?_⟩;rw [vQ rx];exact w _ J H (Ext.refl hp.sub) (.bl _)
 ·exact w.elim) ha hb⟩
end
section
variable {X:Cx}{c:C}{e a b tg i:K8}{es:List K8}{ga gb g:G R}{pos:Pos}
theorem uq {x:Str}{Ka:List (Str×D)}{p:Pos}(h:nV X.K X.w X.mg x Ka) (hi:QD X c i g) (hK:X.K=c.K:=by rfl) (hg:Gl X x:=by rfl) (hd:(x == ("__debug__":Str))=false:=by decide) (hs:l7 i:=by exact λ_ _=>rfl):QD X c (.Subscript (.Name x p) i pos) (xq Ka g):=by
 have hi:=hi.h;refine ⟨?_⟩;obtain ⟨a,us,h1,h2,h3,h4⟩:=h;refine eO (Bx Av (p9 (v:=.ref a) hg h1 rfl hd) hi hs) λσ H Q ⟨J,env,sr,w⟩=>?_;refine ⟨J,env,sr,az (aD w) λr wr v J1 H1 e1 r1=>?_⟩;split at wr
 ·rename_i k;cases r1;split at wr
  ·rename_i d hd';obtain ⟨u,v,k1,k2,k3⟩:=(h4.get k).1 d hd';exact ⟨a,us,k,u,v,rfl,rfl,h3,k1,k2,wr v J1 H1 e1 (show Rep c.K J1 d v from hK▸k3 J1)⟩
  ·exact wr.elim
 ·exact wr.elim
theorem CQ {x:Str}{Ka:List (Str×D)}{p:Pos}(h:nV X.K X.w X.mg x Ka) (ha:QD X c a g) (hg:Gl X x:=by rfl) (hd:(x == ("__debug__":Str))=false:=by decide) (hm:LK .In (.Name x p)=false:=by rfl):QB X c (.Compare a [.In] [.Name x p] pos) (aS (D9 false Ka g)):=by
 have ha:=ha.h;refine ⟨?_⟩;obtain ⟨q,us,h1,h2,h3,h4⟩:=h;refine oY (vV EE ha (p9 (v:=.ref q) hg h1 rfl hd) hm) λσ H Q ⟨J,env,sr,w⟩=>?_;refine ⟨J,env,sr,az (aD (aD w)) λr wr v J1 H1 e1 r1=>?_⟩;split at wr
 ·rename_i k;cases r1;refine ⟨q,us,k,rfl,rfl,h2,h3,?_⟩;rw [(h4.get k).2];exact ⟨_,rfl,wr J1 H1 e1⟩
 ·exact wr.elim
end
section
variable {prog:KL}{w:K5}{A:Lh}{E:Kg->Kh->Prop}{s:Kh}{l:KJ}{us:Array Kg}{ns:List Int}
variable {X:Cx}{c:C}{e a b tg i:K8}{es:List K8}{ga gb g:G R}{pos:Pos}
theorem nO {d:Int}{j:Nat}{p kp vp:Pos}(ha:QD X c e g) (hm:X.mg "max"=none) (hK:X.K=c.K:=by rfl) (hc:X.calm=true:=by rfl) (hg:Gl X "max":=by rfl)
  (he:MQ pos (KC [e] X.env)=(false,eval e X.env)::MQ pos (KC [] X.env):=by rfl) (hst:KC [e] X.env=(false,eval e X.env)::KC [] X.env:=by rfl)
  (hplain:(MQ pos (KC [e] X.env)).any (·.1)=false:=by rfl):QD X c (.Call (.Name "max" p) [e] [⟨some "default",.Constant (.int d) j vp,kp⟩] pos) (mG d g):=by
 have ha:=ha.h;refine ⟨?_⟩;intro JW s σ H Q I ⟨J,env,sr,w⟩;refine NQ (lK I hg hm Tv ?_ (by decide) (by decide));refine SN (bF ((gy ha iZ hst) pos JW s σ H (λvs H1=>∃p ns J1,vs=[.ref p]/\bV X.K H1 p (ns.map V.int)/\Ext J H J1 H1/\∀v J' H',Ext J H J' H'->RR c H J' H' (.d (.int (gX d ns))) v->Q v H') I ⟨J,env,sr,az (aD w) λr wr v J1 H1 e1 r1=>?_⟩) λus s1 ⟨vs,H1,I1,rv,p,ns,J1,hvs,hq,e1,q⟩=>?_) he hplain rfl rfl
 ·obtain ⟨xs,hx,wr⟩:=iK wr;obtain ⟨p,ws,rfl,hl,hs⟩:=RR.list (sr.hp.ext e1) r1 hx;split at wr
  ·rename_i ns hns;have:=oO hns hs;subst this;exact ⟨p,ns,J1,rfl,by rw [hK];exact hl,e1,wr⟩
  ·exact wr.elim
 ·subst hvs;obtain ⟨u,rfl,ru⟩:=rv.one;cases ru;refine Tw (bF (ug JW s1 σ H1 (λv H2=>v=.int d/\H2=H1) I1 ⟨rfl,rfl⟩) λdv s2 ⟨v2,H2,I2,r2,hv2,Jx⟩=>TU ?_);subst hv2 Jx;obtain ⟨td,rfl⟩:=r2;obtain ⟨JY,r',pl,hz⟩:=I2.list hq;have hlen:=r'.length;rw [Km] at hlen;show KH _ _ (call (.builtin "max") [.ref p] [("default",.int d td)]) _ _ s2;refine yw (I2.ok.hd hc) pl.isList (Dn r') (by simp [hlen]) λt' h' tk k=>?_;exact ⟨.int _,H2,I2.kept k,⟨t',rfl⟩,q _ J1 H2 e1 (.int _)⟩
end
section
variable {X:Cx}{c:C}{e a b d tg:K8}{es:List K8}{ga gb g:G R}{pos:Pos}
theorem i7 (h:QD X c e g) (hK:X.K=c.K:=by rfl):sq X c tg e (lD g):=have h:=h.h;⟨oW (zm h) λσ H Q ⟨J,env,sr,w⟩=>by
 refine ⟨J,env,sr,az (aD w) λr wr v J1 H1 e1 r1=>?_⟩;rw [hK];split at wr
 ·cases r1 with
  | tup h1 h2=>exact ⟨_,rfl,.inr ⟨⟨_,fK e1.sub h1⟩,wr _ J1 H1 e1 (qY (λJ H u=>u) h1 h2)⟩⟩
 ·cases r1 with
  | lst h1 h2=>exact ⟨_,rfl,.inl ⟨⟨_,e1.sub.seq h1⟩,wr _ J1 H1 e1 (l6 (.inl h1) h2)⟩⟩
 ·obtain ⟨J2,e2,s2,rd⟩:=freeze e1 r1 rfl;cases rd with
  | lst h1 h2=>exact ⟨_,rfl,.inl ⟨⟨_,e2.sub.seq h1⟩,wr _ J2 H1 e2 (l6 (.inl h1) h2)⟩⟩
 ·obtain ⟨a,vs,rfl,h1,h2⟩:=r1;exact ⟨_,rfl,.inl ⟨⟨_,(sr.hp.ext e1).ent.seq h1⟩,wr _ J1 H1 e1 (l6 (.inr h1) h2)⟩⟩
 ·exact wr.elim⟩
theorem cI (h:QD X c e g) (hK:X.K=c.K:=by rfl):vf X c tg e (fj g):=have h:=h.h;⟨oW (zm h) λσ H Q ⟨J,env,sr,w⟩=>by
 refine ⟨J,env,sr,az (aD w) λr wr v J1 H1 e1 r1=>?_⟩;rw [hK];have lst:∀{xs:List D},gj r=.ok xs->(∀It J1' H1',Ext J H J1' H1'->Walk c It xs J1' (λJ' H'=>aP J1' J'/\aP H1' H')->Q It H1')->∃a,v=.ref a/\(((∃xs,bV c.K H1 a xs)/\Q (Ba c.K a) H1)\/((∃xs,eH c.K H1 a xs)/\Q (Bd c.K a) H1)):=fun {xs} q wr=>by obtain ⟨a,vs,rfl,h1,h2⟩:=RR.list (sr.hp.ext e1) r1 q;refine ⟨a,rfl,.inl ⟨⟨_,h1⟩,wr _ J1 H1 e1 λi J' H' hp u=>?_⟩⟩;have h':=u.2.seq h1;refine ⟨λhl=>⟨vs,h',by rw [<-h2.length];exact hl⟩,λd hd=>?_⟩;obtain ⟨v,k1,k2⟩:=h2.get hd;refine ⟨⟨vs,v,h',k1⟩,λx H2 ⟨e,hy⟩=>?_⟩;subst e;have:=hy vs h';rw [k1] at this;cases this;exact ⟨J',Ext.refl hp.sub,k2.mono u.1⟩
 cases r with
 | d y=>
  cases y with
  | tup xs=>
   cases r1 with
   | tup h1 h2=>exact ⟨_,rfl,.inr ⟨⟨_,fK e1.sub h1⟩,wr _ J1 H1 e1 (qY (λJ H u=>u.1) h1 h2)⟩⟩
  | lst xs=>exact lst rfl wr
  | _=>exact wr.elim
 | l m xs=>exact lst rfl wr
 | mo _ _=>exact wr.elim
 | mb _ _=>exact wr.elim
 | mf _ _=>exact wr.elim
 | ln _=>exact wr.elim⟩
end
section
variable {X:Cx}{c:C}{st:Nc}{g:G O}
theorem AS (i:Nat) (h:jd X c st g):jd X c st (pV i g):=have h:=h.h;⟨λJW s σ H D I ⟨J,env,sr,w⟩=>by
 unfold pV at w;split at w
 ·rename_i xs hi;obtain ⟨v,h1,a,vs,rfl,h2,h3,h4,h5⟩:=sr.at_ i _ hi;obtain ⟨J',s1,sr'⟩:=sr.frz (x:=.inl xs) hi h1 h2 h3 h4 (.lst (.inl (.inl cj)) (h5.mono (b_ h3 _)));exact h JW s σ H D I ⟨J',_,sr',az w λo q=>q.mono s1⟩
 ·rename_i ks vs hi;obtain ⟨v,h1,a,rfl,⟨us,ws,ep,h2,m1,m2,m3,m4⟩,h3,h4⟩:=sr.at_ i _ hi;obtain ⟨J',s1,sr'⟩:=sr.frz (x:=.inr (ks,vs)) hi h1 h2 h3 h4 (.dct cj (m1.mono (b_ h3 _)) (m2.mono (b_ h3 _)) m3 m4);exact h JW s σ H D I ⟨J',_,sr',az w λo q=>q.mono s1⟩
 ·exact h JW s σ H D I ⟨J,env,sr,w⟩⟩
end
section
variable {X:Cx}{c:C}
theorem jM {P:KL}{w:K5}{K:Ke}{mg:Str->Option Kg}{base:L7}{x J_:Str}{st:Nc}{f:KJ}{fd:K7}{N ps:List Str}{k:Nat}{Fm:List S->M R}(F:gP K x J_ st f fd) (hm:mg x=some (.ref f)) (Sc:c7 N ps (aT st))
  (hbi:∀(kV doc pm:Kg) (an:Option KJ) (cdv ct:Kg) (us:List Kg),us.length=ps.length->Qx (LR x J_ (dO st) (bQ st) (aT st) .none kV doc pm an cdv ct) ⟨us,[]⟩=pure (ps.zip us)){gB:G O}
  (hb:∀(cdv:Kg) (A:Lh) (outer:List Env) (s:Kh) (H:Hp) (E:XK) (J:Hp) (T:Exc->Prop),dg k (A.deeper (OG J_ (aT st) s.heap.objs.size f cdv))->
   kK (sV P w K mg base N J_ (aT st) f cdv A outer s H E) ⟨K,H,J,T⟩ (bQ st) gB)
  (hF:∀as r,as.length=ps.length->Fm as=.ok r->fin (gB (aF N as))=.ok r):bq P w K mg base (k + 1) ps.length x Fm:=
 DS F hm Sc hbi (λcdv A outer s H E J T hr=>(hb cdv A outer s H E J T hr).h) hF
theorem CP {P:KL}{w:K5}{K:Ke}{mg:Str->Option Kg}{base:L7}{x J_:Str}{st:Nc}{f:KJ}{fd:K7}{N ps:List Str}{k:Nat}{Fm:List S->M R}(F:gP K x J_ st f fd) (Sc:c7 N ps (aT st)){gB:G O}
  (hb:∀(cdv:Kg) (A:Lh) (outer:List Env) (s:Kh) (H:Hp) (E:XK) (J:Hp) (T:Exc->Prop),dg k (A.deeper (OG J_ (aT st) s.heap.objs.size f cdv))->
   kK (sV P w K mg base N J_ (aT st) f cdv A outer s H E) ⟨K,H,J,T⟩ (bQ st) gB)
  (hF:∀as r,as.length=ps.length->Fm as=.ok r->fin (gB (aF N as))=.ok r):gA P w K mg base jx (k + 1) f fd ps (kU K ps.length Fm):=
 yN F Sc (λcdv A outer s H E J T hr=>(hb cdv A outer s H E J T hr).h) hF
end
end DL
namespace DX
open PySem PySem.Spec
open Builtin Builtin.ObjectAttr
end DX
namespace DX
open PySem PySem.Spec
end DX
namespace DX
open PySem PySem.Spec PyProof.Rows L2
end DX
namespace DL
open PySem PySem.Spec PyProof.Rows L2 DX
end DL
namespace DX
open PySem PySem.Spec PyProof.Rows L2
end DX
namespace DL
open PySem PySem.Spec PyProof.Rows L2 DX
end DL
namespace DX
open PySem PySem.Spec PyProof.Rows L2
end DX
namespace DL
open PySem PySem.Spec PyProof.Rows L2 DX
end DL
namespace DX
open PySem PySem.Spec PyProof.Rows L2
open Sem (wp)
end DX
namespace DL
open PySem PySem.Spec PyProof.Rows L2 DX
section
variable {K:Ke}{mg:Str->Option Kg}{P C N:KJ}{nm q:Str}{bs:List Kg}{sn:List Str}{sub:List Kg}{ab:Bool}{col:Option Bool}{dd:Option KJ}{k0 k1 k2 k3 k5:Option Kg}
theorem Gp (l:K.lookup C=some (QU nm q C N bs (.ref P::pF) true sn sub ab col dd k0 k1 k2 k3 k5 "ValueError.__new__")) (g:L_ K (.ref C) "__getattribute__"=some (some (.builtin "BaseException.__getattribute__"))) (h:L_ K (.ref C) "__getattr__"=some none)
  (k:L_ K (.ref C) "__class__"=some (some (.builtin "object.__class__"))):XE K P C:=⟨⟨nm,q,N,bs,sn,sub,ab,col,dd,k0,k1,k2,k3,k5,l⟩,g,h,k⟩
theorem FN (l:K.lookup P=some (QU nm q P N bs pF true sn sub ab col dd k0 k1 k2 k3 k5 "ValueError.__new__")) (ln:K.lookup N=some ⟨c,d,.dict es ep,sl⟩) (hs:Fi es=true) (hq:(quiet.all λn=>(nsFind es n).isNone)=true)
 (gt:Pc K (.builtin "object.__class__") "__get__"=some (some (.builtin "getset_descriptor.__get__"))) (tk:Qa K (.builtin "object.__class__")=some true):GX K P:=
 ⟨gt,tk,nm,q,N,bs,sn,sub,ab,col,dd,k0,k1,k2,k3,k5,l,λh X=>⟨_,FU ln hs X,λn hn=>Option.isNone_iff_eq_none.mp (LG.mp hq n hn)⟩⟩
end
end DL
namespace K01
open PySem DL
noncomputable def iA:List Str:=["_law_script","_law_k"]
noncomputable def j3:G O:=(aB (aX (aS (g2 (cJ λi j=>.bl (decide (i < j))) (af 1) (gN dG (ai (af 0) ay)))) (aL (g2 bw (g2 aK (af 0) (af 1)) (g2 xm (gC (.int 2)) (gC (.int 64))))) bB)
 (aL (gC (.int 0))))
noncomputable def bT (as:List S):M R:=fin (j3 (aF iA as))
noncomputable def mW:List Str:=["_law_cell_here","_law_many","_law_number","_law_base","_law_size","_law_words","_law_first","_law_signs","_law_at","_law_found","_law_k","_law_sign"]
noncomputable def ju:G O:=(aB (aU 2 (g2 bw (g2 di (af 0) (gC (.int 7129))) (gC (.int 1000033))))
 (aB (aU 3 (g2 aK (gC (.str "bcdfg")) (g2 bw (af 2) (gC (.int 5)))))
 (aB (aU 4 (g2 bu (gC (.int 2)) (g2 bw (g2 cW (af 2) (gC (.int 5))) (gC (.int 7)))))
 (aB (aX (aS (g2 (bx false) (g2 bw (g2 cW (af 2) (gC (.int 35))) (gC (.int 4))) (gC (.int 1)))) (aL (bU 1 [3] (fk (ai (af 1) ay)) (aJ 0) cV (g2 di (af 1) (g2 bu (gC (.int 2)) (af 0))))) bB)
 (aB (aX (aS (g2 (bx false) (g2 bw (g2 cW (af 2) (gC (.int 35))) (gC (.int 4))) (gC (.int 2)))) (aB (aU 5 (dB (ao (gC (.str "and")) (ao (gC (.str "or")) (ao (gC (.str "not")) (ao (gC (.str "some")) (ao (gC (.str "every")) (ao (gC (.str "least")) (ao (gC (.str "true")) (ao (gC (.str "false")) aO))))))))))
 (aB (aU 6 (g2 bw (g2 cW (af 2) (gC (.int 140))) (gC (.int 8))))
 (aB (aU 7 (gC (.str "abcdefghijklmnopqrstuvwxyz")))
 (aL (gN iE (ai (bU 1 [5,6,7,2] (fk (ai (af 1) ay)) (aJ 0) cV (g2 bu (g2 aK (g2 bu (af 1) (af 1)) (g2 bu (af 2) (af 0))) (g2 aK (af 3) (g2 bw (g2 cW (af 4) (gC (.int 1120))) (gC (.int 26)))))) ay)))))) bB)
 (aB (aU 8 (g2 bw (g2 cW (af 2) (gC (.int 105))) (af 4)))
 (aB (aU 9 (dB aO))
 (aB (gV (fk (ai (af 1) ay)) (aJ 10) (aB (aU 11 (g2 aK (gC (.str "abcdefghijklmnopqrstuvwxyz")) (g2 bw (g2 bu (g2 cW (af 2) (gC (.int 840))) (g2 di (gC (.int 5)) (af 10))) (gC (.int 26)))))
 (gG 9 (g2 bu (g2 bu (g2 di (af 3) (af 8)) (af 11)) (g2 di (af 3) (g2 lB (g2 lB (af 4) (gC (.int 1))) (af 8)))))))
 (aL (gN iE (ai (af 9) ay)))))))))))
noncomputable def eE (as:List S):M R:=fin (ju (aF mW as))
noncomputable def k6:List Str:=["_law_cell_here","_law_names_here","_law_number","_law_first"]
noncomputable def iW:G O:=(aB (aU 1 (gN (aC 2 eE) (ai (af 0) (ai (gC (.int 6)) ay))))
 (aB (aU 2 (g2 bw (g2 di (af 0) (gC (.int 523))) (gC (.int 10007))))
 (aB (aU 3 (g2 bw (g2 cW (af 2) (gC (.int 16))) (gC (.int 3))))
 (aL (cF (ao (gN jE (ai (iV fY (af 1) m8 (gm (g2 bw (af 2) (gC (.int 4))))) ay)) (ao (gN jE (ai (iV fY (af 1) (gm (af 3)) (gm (g2 bu (af 3) (g2 bw (g2 cW (af 2) (gC (.int 4))) (gC (.int 4)))))) ay)) aO)))))))
noncomputable def fL (as:List S):M R:=fin (iW (aF k6 as))
noncomputable def uG:List Str:=["_law_thing","_law_many"]
noncomputable def uS:G O:=(aL (bD (cO "int" (af 0)) (bD (cH (cO "bool" (af 0))) (bD (g2 (cJ λi j=>.bl (decide (i<=j))) (gC (.int 0)) (af 0)) (g2 (cJ λi j=>.bl (decide (i < j))) (af 0) (af 1))))))
noncomputable def jq (as:List S):M R:=fin (uS (aF uG as))
noncomputable def wH:List Str:=["_law_thing","_law_many"]
noncomputable def xr:G O:=(aB (aX (bZ (bH (aS (cO "tuple" (af 0)))) (aS (g2 (bx true) (gN dG (ai (af 0) ay)) (gC (.int 2))))) (aL (gC (.bl false))) bB)
 (aL (bD (gN (aC 2 jq) (ai (g2 aK (af 0) (gC (.int 0))) (ai (af 1) ay))) (gN (aC 2 jq) (ai (g2 aK (af 0) (gC (.int 1))) (ai (af 1) ay))))))
noncomputable def wC (as:List S):M R:=fin (xr (aF wH as))
noncomputable def ri:List Str:=["_law_thing"]
noncomputable def rL:G O:=(aB (aX (bZ (bH (aS (cO "str" (af 0)))) (bZ (aS (g2 (cJ λi j=>.bl (decide (i < j))) (gN dG (ai (af 0) ay)) (gC (.int 2)))) (aS (g2 (cJ λi j=>.bl (decide (j < i))) (gN dG (ai (af 0) ay)) (gC (.int 8)))))) (aL (gC (.bl false))) bB)
 (aB (aX (aS (g2 (fO false) (af 0) (cF (ao (gC (.str "and")) (ao (gC (.str "or")) (ao (gC (.str "not")) (ao (gC (.str "some")) (ao (gC (.str "every")) (ao (gC (.str "least")) (ao (gC (.str "true")) (ao (gC (.str "false")) aO))))))))))) (aL (gC (.bl false))) bB)
 (aL (gN gU (ai (bU 1 [] (Ao (af 0)) (aJ 0) cV (g2 (GL false) (af 0) (gC (.str "abcdefghijklmnopqrstuvwxyz")))) ay)))))
noncomputable def q_ (as:List S):M R:=fin (rL (aF ri as))
noncomputable def wI:List Str:=["_law_thing","_law_many","_law_way","_law_k"]
noncomputable def xu:G O:=(aB (aX (bZ (bH (aS (cO "tuple" (af 0)))) (aS (g2 (bx true) (gN dG (ai (af 0) ay)) (gC (.int 2))))) (aL (gC (.bl false))) bB)
 (aB (aX (bZ (bH (aS (gN (aC 1 q_) (ai (g2 aK (af 0) (gC (.int 0))) ay)))) (bH (aS (cO "tuple" (g2 aK (af 0) (gC (.int 1))))))) (aL (gC (.bl false))) bB)
 (aB (gV (fk (ai (gN dG (ai (g2 aK (af 0) (gC (.int 1))) ay)) ay)) (aJ 3) (aB (aX (bZ (bY (aS (g2 (bx false) (af 2) (gC (.int 0)))) (bH (aS (gN (aC 2 jq) (ai (g2 aK (g2 aK (af 0) (gC (.int 1))) (af 3)) (ai (af 1) ay)))))) (bY (aS (g2 (bx false) (af 2) (gC (.int 1)))) (bH (aS (gN (aC 2 wC) (ai (g2 aK (g2 aK (af 0) (gC (.int 1))) (af 3)) (ai (af 1) ay))))))) (aL (gC (.bl false))) bB)
 (aX (bY (aS (g2 (cJ λi j=>.bl (decide (j < i))) (af 3) (gC (.int 0)))) (bH (aS (g2 D5 (g2 aK (g2 aK (af 0) (gC (.int 1))) (g2 lB (af 3) (gC (.int 1)))) (g2 aK (g2 aK (af 0) (gC (.int 1))) (af 3)))))) (aL (gC (.bl false))) bB)))
 (aL (gC (.bl true))))))
noncomputable def wD (as:List S):M R:=fin (xu (aF wI as))
theorem gW (h:n<=1000):n<=sizeLine:=Lg h (by decide)
noncomputable def Et (k:Nat):Bool:=!(NX "abcdefghijklmnopqrstuvwxyz" ⟨#[k]⟩ 0 (Rq "abcdefghijklmnopqrstuvwxyz") 1).isEmpty
noncomputable def words:List D:=[.str "and",.str "or",.str "not",.str "some",.str "every",.str "least",.str "true",.str "false"]
noncomputable def zc (x:Str):Bool:=decide (2<=x.length) && (decide (x.length<=8) && (!inD (.str x) words && x.cps.toList.all Et))
theorem yF {ge:G R}{f:D->D}(tl:Ev):∀(ds:List D) (x:Option S),(∀d∈ds,ge (some (.d d)::tl)=.ok (.d (f d)))->dW (aJ 0) cV ge ds (x::tl)=.ok (ds.map f)
 | [],_,_=>rfl
 | d::r,x,h=>by have ih:=yF tl r (some (.d d)) λe he=>h e (Kq _ he);unfold dW;simp only [aJ,List.set_cons_zero,aG,cV,if_true,h d Ku,toD];rw [ih];rfl
theorem l_ {α:Type}{xs:List α}{k:Nat}{x:α}(h:xs[k]?=some x):L2.iR xs (k:Int)=some x:=by have hk:k < xs.length:=(KY.mp h).1;unfold L2.iR L2.tH;rw [if_pos (by omega),if_pos (by omega)];simpa using h
theorem mw {xs:List D}{k:Nat}{x:D}(h:xs[k]?=some x):aK (.d (.tup xs)) (.d (.int k))=.ok (.d x):=by unfold aK;simp only [gQ,aG,l_ h]
theorem oz {m:Md}{xs:List D}{k:Nat}{x:D}(h:xs[k]?=some x):aK (.l m xs) (.d (.int k))=.ok (.d x):=by unfold aK;simp only [gQ,aG,l_ h]
theorem vE {z:Str}{k:Nat}{c:Nat}(hz:z.length<=1000) (h:z.cps.toList[k]?=some c):aK (.d (.str z)) (.d (.int k))=.ok (.d (.str ⟨#[c]⟩)):=by unfold aK;simp only [gW hz,if_true,l_ h]
theorem bI (xs:List D):dG [.d (.tup xs)]=.ok (.d (.int xs.length)):=rfl
theorem eq_int (neg:Bool) (i j:Int):bx neg (.d (.int i)) (.d (.int j))=.ok (.d (.bl (if neg then !(i == j) else i == j))):=rfl
theorem fF (a:D) (r:List D):aK (.d (.tup (a::r))) (.d (.int 0))=.ok (.d a):=mw (k:=0) rfl
theorem fG (a b:D) (r:List D):aK (.d (.tup (a::b::r))) (.d (.int 1))=.ok (.d b):=mw (k:=1) rfl
theorem fH (a b c:D) (r:List D):aK (.d (.tup (a::b::c::r))) (.d (.int 2))=.ok (.d c):=mw (k:=2) rfl
theorem GZ (n:Nat) (h:n<=1000):below 4611686018427387904 (n:Int)=true:=dJ.mpr ⟨by omega,by omega⟩
noncomputable def BE (j:Int):M (List D):=if below 4611686018427387904 j then .ok (eZ 0 j.toNat) else .bad
theorem Fb (j:Int) (h:below 4611686018427387904 j=true):BE j=.ok (eZ 0 j.toNat):=by unfold BE;exact if_pos h
theorem E9 {gs:G (List R)}(hg:gs env=.ok [.d (.int j)]):fk gs env=BE j:=by unfold fk BE;rw [hg];rfl
theorem E7 {gs:G (List R)}{env:Ev}{n:Nat}(hg:gs env=.ok [.d (.int (n:Int))]) (h:n<=1000):fk gs env=.ok (eZ 0 n):=by rw [E9 hg,Fb _ (GZ n h)];exact congrArg (λk=>M.ok (eZ 0 k)) (Mg n)
theorem dU {t u:G O}(h:t env=.ok (.nx e)):aB t u env=u e:=by unfold aB;rw [h];rfl
theorem zF {t u:G O}(h:t env=.ok (.rt r)):aB t u env=.ok (.rt r):=by unfold aB;rw [h];rfl
theorem yO {g:G (List D)}{u:G O}(h:g env=.ok ds):gV g t u env=fJ t u ds env:=by unfold gV;rw [h];rfl
noncomputable abbrev inner:G O:=(gV (fk (ai (gN dG (ai (af 2) ay)) ay)) (aJ 3) (aX (bZ (bH (aS (gN (aC 3 wD) (ai (g2 aK (af 2) (af 3)) (ai (g2 aK (af 0) (gC (.int 0))) (ai (af 1) ay)))))) (bY (aS (g2 (cJ λi j=>.bl (decide (j < i))) (af 3) (gC (.int 0)))) (bH (aS (g2 D5 (g2 aK (g2 aK (af 2) (g2 lB (af 3) (gC (.int 1)))) (gC (.int 0))) (g2 aK (g2 aK (af 2) (af 3)) (gC (.int 0)))))))) (aL (gC (.bl false))) bB))
theorem dj (i j:Int):bu (.d (.int i)) (.d (.int j))=.ok (.d (.int (i + j))):=rfl
theorem Gk (i j:Int):lB (.d (.int i)) (.d (.int j))=.ok (.d (.int (i - j))):=rfl
theorem ow {C:Int->Int->Bool}{f:Int->Int->D}(h:C i j=true):fI C f (.d (.int i)) (.d (.int j))=.ok (.d (f i j)):=by show (if C i j=true then M.ok (R.d (f i j)) else M.bad)=_;rw [if_pos h]
theorem qe (i j:Int) (h1:-(2 ^ 64) < j) (h2:j < 2 ^ 64):di (.d (.int i)) (.d (.int j))=.ok (.d (.int (i * j))):=ow (C:=nL) (f:=λi j=>.int (i * j)) (by unfold nL;rw [MX];exact OQ (dJ.mpr ⟨h1,h2⟩))
theorem nS (i j:Int) (h1:-(2 ^ 64) < i) (h2:i < 2 ^ 64):di (.d (.int i)) (.d (.int j))=.ok (.d (.int (i * j))):=ow (C:=nL) (f:=λi j=>.int (i * j)) (by unfold nL;rw [MX];exact Qi (dJ.mpr ⟨h1,h2⟩))
theorem cY (i j:Int) (h1:0 < j) (h2:j < 1073741824):cW (.d (.int i)) (.d (.int j))=.ok (.d (.int (i / j))):=ow (by
 unfold xB;rw [KU];exact ⟨decide_eq_true h1,dJ.mpr ⟨by omega,h2⟩⟩)
theorem bz (i j:Int) (h1:0 < j):bw (.d (.int i)) (.d (.int j))=.ok (.d (.int (i % j))):=ow (decide_eq_true h1)
theorem we:xm (.d (.int 2)) (.d (.int 64))=.ok (.d (.int 18446744073709551616)):=ow (by decide)
theorem xX (x y:Str) (h:x.length + y.length<=1000):bu (.d (.str x)) (.d (.str y))=.ok (.d (.str (x++y))):=by show (if x.length + y.length<=sizeLine then M.ok (R.d (D.str (x++y))) else M.bad)=_;rw [if_pos (gW h)]
theorem xW (x:Str) (n:Int) (h0:0<=n) (h:n<=1000) (hx:x.length<=1000):di (.d (.str x)) (.d (.int n))=.ok (.d (.str (eG x n.toNat))):=by show (if 0<=n/\n<=1000/\x.length<=1000 then M.ok (R.d (D.str (eG x n.toNat))) else M.bad)=_;rw [if_pos ⟨h0,h,hx⟩]
noncomputable def DK:Str:="abcdefghijklmnopqrstuvwxyz"
theorem DM:∀k:Fin 26,DK.cps.toList[k.val]?=some (97 + k.val):=by decide +kernel
theorem BP:DK.length<=1000:=by decide +kernel
theorem tK (i:Int) (h0:0<=i) (h:i < 26):aK (.d (.str "abcdefghijklmnopqrstuvwxyz")) (.d (.int i))=.ok (.d (.str ⟨#[97 + i.toNat]⟩)):=by
 have e:i=((i.toNat:Nat):Int):=by omega
 have:=vE (z:=DK) (k:=i.toNat) BP (DM ⟨i.toNat,by omega⟩);rw [e];exact this
noncomputable def bases:List Nat:=[98,99,100,102,103]
theorem BW:∀k:Fin 5,("bcdfg":Str).cps.toList[k.val]?=some (bases.getD k.val 0):=by decide +kernel
theorem zZ:("bcdfg":Str).length<=1000:=by decide +kernel
theorem Cd (i:Int) (h0:0<=i) (h:i < 5):∃b∈bases,aK (.d (.str "bcdfg")) (.d (.int i))=.ok (.d (.str ⟨#[b]⟩)):=by
 have e:i=((i.toNat:Nat):Int):=by omega
 have hb:i.toNat < bases.length:=by show _ < 5;omega
 refine ⟨bases.getD i.toNat 0,?_,?_⟩
 ·rw [K2,KG hb];exact LJ _
 ·have:=vE (z:="bcdfg") (k:=i.toNat) zZ (BW ⟨i.toNat,by omega⟩);rw [e];exact this
theorem mq (x y:Str):(x++y).cps.toList=x.cps.toList++y.cps.toList:=by show (x.cps++y.cps).toList=_;simp
theorem oF (c:Array Nat):∀(k:Nat) (acc:Array Nat),((K6 k c).foldl (·++·) acc).toList=acc.toList++(K6 k c.toList).flatten
 | 0,acc=>by simp
 | k + 1,acc=>by rw [L5,Nj,oF c k];simp [L5]
theorem gT (b n:Nat):(eG ⟨#[b]⟩ n).cps.toList=K6 n b:=by
 unfold eG;simp only;rw [oF]
 induction n with
 | zero=>rfl
 | succ n ih=>simpa [L5] using ih
theorem jI (x:Str):x.length=x.cps.toList.length:=by show x.cps.size=_;simp
theorem Dg {x y:Str}(h:x.cps.toList=y.cps.toList):x=y:=by
 cases x with
 | mk a=>
  cases y with
  | mk b=>
   simp only at h;congr 1;exact RT.mp h
theorem AE {t:GT}{u:G O}(I:Nat->Ev->Prop) (n:Nat)
  (h:∀k,k < n->∀env,I k env->∃e1 e2,t (.int k) env=.ok e1/\u e1=.ok (.nx e2)/\I (k + 1) e2) (env:Ev) (h0:I 0 env):
  ∃e,fJ t u (eZ 0 n) env=.ok (.nx e)/\I n e:=by
 have key:∀(m i:Nat),i + m=n->∀env,I i env->∃e,fJ t u ((List.range' i m).map λ(k:Nat)=>D.int (0 + (k:Int))) env=.ok (.nx e)/\I n e:=by
  intro m
  induction m with
  | zero=>exact λi hi env hI=>⟨env,rfl,(by omega:i=n)▸hI⟩
  | succ m ih=>
   intro i hi env hI;obtain ⟨e1,e2,h1,h2,h3⟩:=h i (by omega) env hI;obtain ⟨e,h4,h5⟩:=ih (i + 1) (by omega) e2 h3;refine ⟨e,?_,h5⟩;rw [List.range'_succ,LN];unfold fJ;rw [RN,h1,aG,h2,aG];exact h4
 obtain ⟨e,h1,h2⟩:=key n 0 (by omega) env h0;refine ⟨e,?_,h2⟩;unfold eZ;rw [List.range_eq_range'];exact h1
noncomputable def c6:List (List Nat):=[[97,110,100],[111,114],[110,111,116],[115,111,109,101],[101,118,101,114,121],[108,101,97,115,116],[116,114,117,101],[102,97,108,115,101]]
noncomputable def dw:List Str:=["and","or","not","some","every","least","true","false"]
theorem qZ:dw.map (λw=>w.cps.toList)=c6:=by decide +kernel
theorem q9:words=dw.map .str:=rfl
theorem yS (x:Str):inD (.str x) words=dw.any λw=>w == x:=by rw [q9];unfold inD;rw [Tz];congr 1
theorem AD:∀k:Fin 26,Et (97 + k.val)=true:=by decide +kernel
theorem tY {x:Str}(h2:2<=x.cps.toList.length) (h8:x.cps.toList.length<=8) (hw:x.cps.toList∉c6) (ha:∀k∈x.cps.toList,97<=k/\k < 123):zc x=true:=by
 unfold zc;rw [jI,decide_eq_true h2,decide_eq_true h8,Pk,Pk,KU];refine ⟨?_,LG.mpr λk hk=>?_⟩
 ·rw [RA,Ru];intro h;rw [yS,Ot] at h;obtain ⟨w,h1,h3⟩:=h;have e:w=x:=eq_of_beq h3;subst e;refine hw ?_;rw [<-qZ];exact K0.mpr ⟨w,h1,rfl⟩
 ·obtain ⟨h1,h3⟩:=ha k hk;have:=AD ⟨k - 97,by omega⟩;rw [show 97 + (k - 97)=k by omega] at this;exact this
theorem An:∀b∈bases,∀w∈c6,¬(w.filter (· != b)).length<=1:=by decide
theorem uc (hb:b∈bases){l:List Nat}(h:(l.filter (· != b)).length<=1):l∉c6:=λz=>An b hb l z h
theorem za:∀w∈c6,∀w'∈c6,w'.dropLast≠w:=by decide
theorem nF:∀b∈bases,97<=b/\b < 123:=by decide
theorem strs_map:∀(ss:List Str),strsOf (ss.map .str)=some ss
 | []=>rfl
 | s::r=>by simp only [LN,strsOf,strs_map r];rfl
theorem sorted_strs (m:Md) (ss:List Str) (h:ss.length < 64):iE [.l m (ss.map .str)]=.ok (.l .fresh ((dX ss).map .str)):=by unfold iE;simp only [gj,aG,strs_map,h,if_true]
theorem zI {ss:List Str}(h:ss.Nodup):(dX ss).Pairwise λa b=>a.cps.toList < b.cps.toList:=by
 have h1:=i_ ss;have h2:(dX ss).Nodup:=(fq ss).symm.nodup h;have:=h1.and h2;refine this.imp fun {a b} ⟨x,y⟩=>?_;unfold gH at x;have x:=of_decide_eq_true x;rcases List.le_iff_lt_or_eq.mp x with z | z
 ·exact z
 ·exact absurd (Dg z) y
theorem sU {gi:G (List D)}{ge:G R}(hm:m<=1000) (f:Nat->D) (hi:gi env=.ok (eZ 0 m)) (hc:cE 1 cap env=none::tl) (h:∀k,k < m->ge (some (.d (.int (k:Nat)))::tl)=.ok (.d (f k))):
  bU 1 cap gi (aJ 0) cV ge env=.ok (.l .fresh ((Ky m).map f)):=by
 have e:=yF (ge:=ge) (f:=λd=>match d with | .int i=>f i.toNat | _=>.non) tl (eZ 0 m) none λd hd=>by unfold eZ at hd;rw [K0] at hd;obtain ⟨k,hk,rfl⟩:=hd;rw [RN];exact h k (KR.mp hk)
 have hl:(eZ 0 m).length<=sizeLine:=by unfold eZ;rw [Km,LB];exact gW hm
 unfold bU;rw [hi,aG,if_pos hl,hc,e,aG];unfold eZ;rw [M4];congr 3;funext k;show f ((0:Int) + (k:Int)).toNat=f k;rw [RN,Mg]
theorem zC (b:Nat):∀(i j:Nat),i < j->K6 i b < K6 j b
 | 0,j + 1,_=>by rw [L5];exact List.nil_lt_cons _ _
 | i + 1,j + 1,h=>by rw [L5,L5,List.cons_lt_cons_iff];exact .inr ⟨rfl,zC b i j (by omega)⟩
noncomputable def p6 (b k:Nat):Str:=eG ⟨#[b]⟩ (2 + k)
noncomputable def kc (f s k:Nat):Str:=(dw++dw).getD (f + k) ""++⟨#[97 + s]⟩
noncomputable def jv (b a r:Nat) (q:Int) (k:Nat):Str:=eG ⟨#[b]⟩ a++⟨#[97 + ((q + 5 * (k:Int)) % 26).toNat]⟩++eG ⟨#[b]⟩ r
noncomputable def Good (m:Nat) (ss:List Str):Prop:=ss.length=m/\(∀s∈ss,zc s=true)/\ss.Pairwise λa b=>a.cps.toList < b.cps.toList
theorem FL (hb:b∈bases) (hm:m<=6):Good m ((Ky m).map (p6 b)):=by
 refine ⟨by simp,λs hs=>?_,?_⟩
 ·obtain ⟨k,hk,rfl⟩:=K0.mp hs;have hk:=KR.mp hk;have e:(p6 b k).cps.toList=K6 (2 + k) b:=gT b (2 + k);refine tY (by rw [e,Li];omega) (by rw [e,Li];omega) (uc hb ?_) λx hx=>?_
  ·rw [e];simp
  ·rw [e] at hx;rw [NL hx];exact nF b hb
 ·rw [MZ];refine MG.imp fun {i j} h=>?_;show (eG _ _).cps.toList < (eG _ _).cps.toList;rw [gT,gT];exact zC b _ _ (by omega)
theorem ni {ss:List Str}(hl:ss.length=m) (hn:∀s∈ss,zc s=true) (hd:ss.Nodup):Good m (dX ss):=
 ⟨by rw [(fq ss).length_eq,hl],λs hs=>hn s ((fq ss).mem_iff.mp hs),zI hd⟩
theorem tL (f s k:Nat) (h:f + k < 16):(kc f s k).cps.toList=(c6++c6).getD (f + k) []++[97 + s]:=by show (_++_:Str).cps.toList=_;rw [mq];congr 1;rw [<-qZ,<-Le,K2,K2,KQ];have hl:f + k < (dw++dw).length:=h;rw [KG hl];rfl
theorem HD:∀j:Fin 16,(c6++c6).getD j.val []∈c6:=by decide
theorem Dp:∀w∈c6,2<=w.length/\w.length<=5/\∀k∈w,97<=k/\k < 123:=by decide
theorem Fz:∀(f:Fin 8) (j k:Fin 6),j.val≠k.val->(c6++c6).getD (f.val + j.val) []≠(c6++c6).getD (f.val + k.val) []:=by decide
theorem good2 (hf:f < 8) (hs:s < 26) (hm:m<=6):Good m (dX ((Ky m).map (kc f s))):=by
 refine ni (by simp) (λx hx=>?_) ?_
 ·obtain ⟨k,hk,rfl⟩:=K0.mp hx;have hk:=KR.mp hk;have e:=tL f s k (by omega);have hw:=HD ⟨f + k,by omega⟩;obtain ⟨h1,h2,h3⟩:=Dp _ hw;simp only at h1 h2 h3 hw;generalize (c6++c6).getD (f + k) []=w at e hw h1 h2 h3;refine tY (by rw [e,Ko];simp;omega) (by rw [e,Ko];simp;omega) (λz=>?_) λy hy=>?_
  ·rw [e] at z;exact za w hw _ z (by simp)
  ·rw [e,K3] at hy;rcases hy with hy | hy
   ·exact h3 y hy
   ·rw [Kw] at hy;omega
 ·rw [OX,MZ];refine (MG (n:=m)).imp_of_mem fun {i j} hi hj h z=>?_;have hi:=KR.mp hi;have hj:=KR.mp hj;have z':(kc f s i).cps.toList=(kc f s j).cps.toList:=by rw [z]
  rw [tL f s i (by omega),tL f s j (by omega)] at z';exact Fz ⟨f,hf⟩ ⟨i,by omega⟩ ⟨j,by omega⟩ (show i≠j by omega) (Pd z')
theorem tM (b a r:Nat) (q:Int) (k:Nat):(jv b a r q k).cps.toList=K6 a b++[97 + ((q + 5 * (k:Int)) % 26).toNat]++K6 r b:=by show (_++_++_:Str).cps.toList=_;rw [mq,mq,gT,gT]
theorem good3 (hb:b∈bases) (h2:1<=a + r) (h8:a + r<=7) (hm:m<=6):Good m (dX ((Ky m).map (jv b a r q))):=by
 refine ni (by simp) (λx hx=>?_) ?_
 ·obtain ⟨k,hk,rfl⟩:=K0.mp hx;have e:=tM b a r q k;refine tY (by rw [e];simp;omega) (by rw [e];simp;omega) (uc hb ?_) λy hy=>?_
  ·rw [e,Rj,Rj];have:∀n,(K6 n b).filter (· != b)=[]:=λn=>by simp
   rw [this,this,R9,Mc];exact Qj _ _
  ·rw [e,K3,K3,Kw] at hy;rcases hy with (hy | hy) | hy
   ·rw [NL hy];exact nF b hb
   ·have:0<=(q + 5 * (k:Int)) % 26:=MD _ (by decide);have:(q + 5 * (k:Int)) % 26 < 26:=MM _ (by decide);omega
   ·rw [NL hy];exact nF b hb
 ·rw [OX,MZ];refine (MG (n:=m)).imp_of_mem fun {i j} hi hj h z=>?_;have hi:=KR.mp hi;have hj:=KR.mp hj;have z':(jv b a r q i).cps.toList=(jv b a r q j).cps.toList:=by rw [z]
  rw [tM,tM] at z';have z2:=Pd z';have z3:=List.append_cancel_left z2;have z4:97 + ((q + 5 * (i:Int)) % 26).toNat=97 + ((q + 5 * (j:Int)) % 26).toNat:=by simpa using z3
  have g1:0<=(q + 5 * (i:Int)) % 26:=MD _ (by decide);have g2:0<=(q + 5 * (j:Int)) % 26:=MD _ (by decide);have z5:(q + 5 * (i:Int)) % 26=(q + 5 * (j:Int)) % 26:=by omega
  omega
theorem Bu (m:Md) (xs:List D):dG [.l m xs]=.ok (.d (.int xs.length)):=rfl
noncomputable def eK (ns:List Int) (k:Nat):Int:=(ns.map λx=>x % 18446744073709551616).getD k 0
theorem Dv (ns:List Int) (k:Nat):bT [.bor (ns.map D.int),.d (.int k)]=.ok (.d (.int (eK ns k))):=by
 unfold bT j3;by_cases h:k < ns.length
 ·have h':(k:Int) < ns.length:=by omega
  have e:(ns.map D.int)[k]?=some (.int ns[k]):=by rw [KQ,KG h];rfl
  have e2:eK ns k=ns[k] % 18446744073709551616:=by unfold eK;rw [K2,KQ,KG h];rfl
  simp [aB,aX,bZ,bY,bH,aS,cO,af,aF,S.rd,R.dat,c9,cS,g2,gN,ai,ay,gC,bB,aL,bD,cH,aC,cU,dM,rF,fin,cJ,bI,eq_int,ao,aO,toD,toS,aU,fF,fG,fH,iA,Bu,h',oz e,we,bz,e2]
 ·have h':¬(k:Int) < ns.length:=by omega
  have e2:eK ns k=0:=by unfold eK;rw [K2,KQ,List.getElem?_eq_none (by omega)];rfl
  simp [aB,aX,bZ,bY,bH,aS,cO,af,aF,S.rd,R.dat,c9,cS,g2,gN,ai,ay,gC,bB,aL,bD,cH,aC,cU,dM,rF,fin,cJ,bI,eq_int,ao,aO,toD,toS,aU,fF,fG,fH,iA,Bu,h',e2]
noncomputable abbrev eN (c m x2:Int) (x3:S) (x4:Int) (x5 x6 x7 x8 x9 x10 x11:Option S):Ev:=[some (.d (.int c)),some (.d (.int m)),some (.d (.int x2)),some x3,some (.d (.int x4)),x5,x6,x7,x8,x9,x10,x11]
theorem AZ {m:Nat}{env:Ev}{gs:G (List R)}(h:m<=1000) (hg:gs env=.ok [.d (.int (m:Int))]):fk gs env=.ok (eZ 0 m):=E7 hg h
theorem Ds:dB (ao (gC (.str "and")) (ao (gC (.str "or")) (ao (gC (.str "not")) (ao (gC (.str "some")) (ao (gC (.str "every")) (ao (gC (.str "least")) (ao (gC (.str "true")) (ao (gC (.str "false")) aO))))))))=λ_=>.ok (.l .fresh words):=by funext env;rfl
theorem BZ (xs ys:List D) (h:xs.length + ys.length<=1000):bu (.l .own xs) (.l .own ys)=.ok (.l .fresh (xs++ys)):=by show (if xs.length + ys.length<=sizeLine then M.ok (R.l Md.fresh (xs++ys)) else M.bad)=_;rw [if_pos (gW h)]
theorem Gn (j:Nat) (h:j < 16):(words++words)[j]?=some (.str ((dw++dw).getD j "")):=by rw [q9,<-Le,KQ,K2];have hl:j < (dw++dw).length:=h;rw [KG hl];rfl
theorem FD:∀j:Fin 16,((dw++dw).getD j.val "").length<=5:=by decide +kernel
theorem tE {b:G Bool}{t u:G O}(h:b env=.ok false):aX b t u env=u env:=by unfold aX;rw [h];rfl
theorem B9 {b:G Bool}{t u:G O}(h:b env=.ok true):aX b t u env=t env:=by unfold aX;rw [h];rfl
theorem xG {g:G R}{f:List R->M R}(h:g env=.ok r) (hf:f [r]=.ok r'):gN f (ai g ay) env=.ok r':=by unfold gN ai;rw [h];exact hf
theorem uv {g:G R}(h:g env=.ok r) (h2:rF r=.ok r'):aL g env=.ok (.rt r'):=by unfold aL;rw [h,aG,h2];rfl
theorem BL (c:Int) (m:Nat) (hm:m<=6):∃ss:List Str,eE [.d (.int c),.d (.int m)]=.ok (.l .fresh (ss.map .str))/\Good m ss:=by
 unfold eE ju;rw [Ds];show ∃ss:List Str,fin (aB _ _ [some (.d (.int c)),some (.d (.int m)),none,none,none,none,none,none,none,none,none,none])=_/\_;obtain ⟨n,hn⟩:∃n,c * 7129 % 1000033=n:=⟨_,rfl⟩;have n0:0<=n:=hn▸MD _ (by decide);have n1:n < 1000033:=hn▸MM _ (by decide);obtain ⟨b,hb,eb⟩:=Cd (n % 5) (by omega) (by omega);rw [dU (e:=[some (.d (.int c)),some (.d (.int m)),some (.d (.int n)),none,none,none,none,none,none,none,none,none]) (by simp [aB,aX,bZ,bY,bH,aS,cO,af,aF,S.rd,R.dat,c9,cS,g2,gN,ai,ay,gC,bB,aL,bD,cH,aC,cU,dM,rF,fin,cJ,bI,eq_int,ao,aO,toD,toS,aU,fF,fG,fH,qe,bz,hn])];rw [dU (e:=[some (.d (.int c)),some (.d (.int m)),some (.d (.int n)),some (.d (.str ⟨#[b]⟩)),none,none,none,none,none,none,none,none]) (by simp [aB,aX,bZ,bY,bH,aS,cO,af,aF,S.rd,R.dat,c9,cS,g2,gN,ai,ay,gC,bB,aL,bD,cH,aC,cU,dM,rF,fin,cJ,bI,eq_int,ao,aO,toD,toS,aU,fF,fG,fH,bz,eb])];rw [dU (e:=eN c m n (.d (.str ⟨#[b]⟩)) (2 + n / 5 % 7) none none none none none none none) (by simp [aB,aX,bZ,bY,bH,aS,cO,af,aF,S.rd,R.dat,c9,cS,g2,gN,ai,ay,gC,bB,aL,bD,cH,aC,cU,dM,rF,fin,cJ,bI,eq_int,ao,aO,toD,toS,aU,fF,fG,fH,bz,cY,dj])];have lb:(⟨#[b]⟩:Str).length<=1000:=by show 1<=1000;decide
 by_cases c1:n / 35 % 4=1
 ·refine ⟨(Ky m).map (p6 b),?_,FL hb hm⟩;have cr:=sU (cap:=[3]) (gi:=fk (ai (af 1) ay)) (ge:=g2 di (af 1) (g2 bu (gC (.int 2)) (af 0))) (env:=eN c m n (.d (.str ⟨#[b]⟩)) (2 + n / 5 % 7) none none none none none none none) (tl:=[some (.d (.str ⟨#[b]⟩))]) (m:=m) (by omega) (λk=>.str (p6 b k)) (AZ (by omega) (by simp [aB,aX,bZ,bY,bH,aS,cO,af,aF,S.rd,R.dat,c9,cS,g2,gN,ai,ay,gC,bB,aL,bD,cH,aC,cU,dM,rF,fin,cJ,bI,eq_int,ao,aO,toD,toS,aU,fF,fG,fH])) rfl (λk hk=>by
   have:=xW ⟨#[b]⟩ (2 + (k:Int)) (by omega) (by omega) lb;have e:(2 + (k:Int)).toNat=2 + k:=by omega
   rw [e] at this;simp [aB,aX,bZ,bY,bH,aS,cO,af,aF,S.rd,R.dat,c9,cS,g2,gN,ai,ay,gC,bB,aL,bD,cH,aC,cU,dM,rF,fin,cJ,bI,eq_int,ao,aO,toD,toS,aU,fF,fG,fH,dj,this,p6])
  rw [zF (r:=.l .fresh (((Ky m).map (p6 b)).map .str)) (by
   unfold aX aL;rw [cr];simp [aB,aX,bZ,bY,bH,aS,cO,af,aF,S.rd,R.dat,c9,cS,g2,gN,ai,ay,gC,bB,aL,bD,cH,aC,cU,dM,rF,fin,cJ,bI,eq_int,ao,aO,toD,toS,aU,fF,fG,fH,cY,bz,c1])]
  rfl
 ·rw [dU (e:=eN c m n (.d (.str ⟨#[b]⟩)) (2 + n / 5 % 7) none none none none none none none) ((tE (by simp [aB,aX,bZ,bY,bH,aS,cO,af,aF,S.rd,R.dat,c9,cS,g2,gN,ai,ay,gC,bB,aL,bD,cH,aC,cU,dM,rF,fin,cJ,bI,eq_int,ao,aO,toD,toS,aU,fF,fG,fH,cY,bz,c1])).trans rfl)];by_cases c2:n / 35 % 4=2
  ·refine ⟨dX ((Ky m).map (kc (n / 140 % 8).toNat (n / 1120 % 26).toNat)),?_,good2 (by omega) (by omega) hm⟩;have cr:=sU (cap:=[5,6,7,2]) (gi:=fk (ai (af 1) ay)) (ge:=(g2 bu (g2 aK (g2 bu (af 1) (af 1)) (g2 bu (af 2) (af 0))) (g2 aK (af 3) (g2 bw (g2 cW (af 4) (gC (.int 1120))) (gC (.int 26)))))) (env:=eN c m n (.d (.str ⟨#[b]⟩)) (2 + n / 5 % 7) (some (.own words)) (some (.d (.int (n / 140 % 8)))) (some (.d (.str "abcdefghijklmnopqrstuvwxyz"))) none none none none) (tl:=[some (.own words),some (.d (.int (n / 140 % 8))),some (.d (.str "abcdefghijklmnopqrstuvwxyz")),some (.d (.int n))]) (m:=m) (by omega) (λk=>.str (kc (n / 140 % 8).toNat (n / 1120 % 26).toNat k)) (AZ (by omega) (by simp [aB,aX,bZ,bY,bH,aS,cO,af,aF,S.rd,R.dat,c9,cS,g2,gN,ai,ay,gC,bB,aL,bD,cH,aC,cU,dM,rF,fin,cJ,bI,eq_int,ao,aO,toD,toS,aU,fF,fG,fH])) rfl (λk hk=>by
    have ea:=tK (n / 1120 % 26) (by omega) (by omega);have ew:=oz (m:=.fresh) (Gn ((n / 140 % 8).toNat + k) (by omega));have ei:(((n / 140 % 8).toNat + k:Nat):Int)=n / 140 % 8 + k:=by omega
    rw [ei] at ew;have el:=FD ⟨(n / 140 % 8).toNat + k,by omega⟩;simp only at el;have es:=xX ((dw++dw).getD ((n / 140 % 8).toNat + k) "") ⟨#[97 + (n / 1120 % 26).toNat]⟩ (by show _ + 1<=_;omega);have ec:=BZ words words (by decide);unfold kc;generalize (dw++dw).getD ((n / 140 % 8).toNat + k) ""=w at ew es ⊢;simp only [g2,af,gC,List.getElem?_cons_zero,List.getElem?_cons_succ,aG,S.rd,ec,dj];rw [ew,aG,cY _ _ (by decide) (by decide),aG,bz _ _ (by decide),aG,ea,aG,es])
   rw [zF (r:=.l .fresh ((dX ((Ky m).map (kc (n / 140 % 8).toNat (n / 1120 % 26).toNat))).map .str)) (by
    unfold aX;rw [show aS (g2 (bx false) (g2 bw (g2 cW (af 2) (gC (.int 35))) (gC (.int 4))) (gC (.int 2))) (eN c m n (.d (.str ⟨#[b]⟩)) (2 + n / 5 % 7) none none none none none none none)=.ok true by simp [aB,aX,bZ,bY,bH,aS,cO,af,aF,S.rd,R.dat,c9,cS,g2,gN,ai,ay,gC,bB,aL,bD,cH,aC,cU,dM,rF,fin,cJ,bI,eq_int,ao,aO,toD,toS,aU,fF,fG,fH,cY,bz,c2],aG,if_pos rfl];rw [dU (e:=eN c m n (.d (.str ⟨#[b]⟩)) (2 + n / 5 % 7) (some (.own words)) none none none none none none) (by simp [aB,aX,bZ,bY,bH,aS,cO,af,aF,S.rd,R.dat,c9,cS,g2,gN,ai,ay,gC,bB,aL,bD,cH,aC,cU,dM,rF,fin,cJ,bI,eq_int,ao,aO,toD,toS,aU,fF,fG,fH])];rw [dU (e:=eN c m n (.d (.str ⟨#[b]⟩)) (2 + n / 5 % 7) (some (.own words)) (some (.d (.int (n / 140 % 8)))) none none none none none) (by simp [aB,aX,bZ,bY,bH,aS,cO,af,aF,S.rd,R.dat,c9,cS,g2,gN,ai,ay,gC,bB,aL,bD,cH,aC,cU,dM,rF,fin,cJ,bI,eq_int,ao,aO,toD,toS,aU,fF,fG,fH,cY,bz])];rw [dU (e:=eN c m n (.d (.str ⟨#[b]⟩)) (2 + n / 5 % 7) (some (.own words)) (some (.d (.int (n / 140 % 8)))) (some (.d (.str "abcdefghijklmnopqrstuvwxyz"))) none none none none) (by simp [aB,aX,bZ,bY,bH,aS,cO,af,aF,S.rd,R.dat,c9,cS,g2,gN,ai,ay,gC,bB,aL,bD,cH,aC,cU,dM,rF,fin,cJ,bI,eq_int,ao,aO,toD,toS,aU,fF,fG,fH])];have hs:=sorted_strs .fresh ((Ky m).map (kc (n / 140 % 8).toNat (n / 1120 % 26).toNat)) (by simp;omega);rw [M4] at hs;exact uv (xG cr hs) rfl)]
   rfl
  ·rw [dU (e:=eN c m n (.d (.str ⟨#[b]⟩)) (2 + n / 5 % 7) none none none none none none none) ((tE (by simp [aB,aX,bZ,bY,bH,aS,cO,af,aF,S.rd,R.dat,c9,cS,g2,gN,ai,ay,gC,bB,aL,bD,cH,aC,cU,dM,rF,fin,cJ,bI,eq_int,ao,aO,toD,toS,aU,fF,fG,fH,cY,bz,c2])).trans rfl)];have hz:0 < 2 + n / 5 % 7:=by omega
   rw [dU (e:=eN c m n (.d (.str ⟨#[b]⟩)) (2 + n / 5 % 7) none none none (some (.d (.int (n / 105 % (2 + n / 5 % 7))))) none none none) (by simp [aB,aX,bZ,bY,bH,aS,cO,af,aF,S.rd,R.dat,c9,cS,g2,gN,ai,ay,gC,bB,aL,bD,cH,aC,cU,dM,rF,fin,cJ,bI,eq_int,ao,aO,toD,toS,aU,fF,fG,fH,cY,bz,hz])];rw [dU (e:=eN c m n (.d (.str ⟨#[b]⟩)) (2 + n / 5 % 7) none none none (some (.d (.int (n / 105 % (2 + n / 5 % 7))))) (some (.own [])) none none) (by simp [aB,aX,bZ,bY,bH,aS,cO,af,aF,S.rd,R.dat,c9,cS,g2,gN,ai,ay,gC,bB,aL,bD,cH,aC,cU,dM,rF,fin,cJ,bI,eq_int,ao,aO,toD,toS,aU,fF,fG,fH,dB])];obtain ⟨a,ha⟩:∃a,n / 105 % (2 + n / 5 % 7)=a:=⟨_,rfl⟩;have a0:0<=a:=ha▸MD _ (by omega);have a1:a < 2 + n / 5 % 7:=ha▸MM _ hz;obtain ⟨z,hz2⟩:∃z,2 + n / 5 % 7=z:=⟨_,rfl⟩;have z1:2<=z/\z<=8:=by omega
   rw [ha,hz2];rw [hz2] at a1;refine ⟨dX ((Ky m).map (jv b a.toNat (z - 1 - a).toNat (n / 840))),?_,good3 hb (by omega) (by omega) hm⟩;have ra:=xW ⟨#[b]⟩ a (by omega) (by omega) lb;have rr:=xW ⟨#[b]⟩ (z - 1 - a) (by omega) (by omega) lb;have la:(eG ⟨#[b]⟩ a.toNat).length<=8:=by rw [jI,gT,Li];omega
   have lr:(eG ⟨#[b]⟩ (z - 1 - a).toNat).length<=8:=by rw [jI,gT,Li];omega
   obtain ⟨e,h1,x,y,rfl⟩:=AE (t:=aJ 10) (u:=(aB (aU 11 (g2 aK (gC (.str "abcdefghijklmnopqrstuvwxyz")) (g2 bw (g2 bu (g2 cW (af 2) (gC (.int 840))) (g2 di (gC (.int 5)) (af 10))) (gC (.int 26)))))
 (gG 9 (g2 bu (g2 bu (g2 di (af 3) (af 8)) (af 11)) (g2 di (af 3) (g2 lB (g2 lB (af 4) (gC (.int 1))) (af 8))))))) (λk env=>∃x y,env=eN c m n (.d (.str ⟨#[b]⟩)) z none none none (some (.d (.int a))) (some (.own (((Ky k).map (jv b a.toNat (z - 1 - a).toNat (n / 840))).map .str))) x y) m (λk hk env ⟨x,y,he⟩=>by
    subst he;refine ⟨_,_,rfl,?_,some (.d (.int k)),some (.d (.str ⟨#[97 + ((n / 840 + 5 * (k:Int)) % 26).toNat]⟩)),rfl⟩
    ·have ea:=tK ((n / 840 + 5 * (k:Int)) % 26) (by omega) (by omega);rw [dU (e:=eN c m n (.d (.str ⟨#[b]⟩)) z none none none (some (.d (.int a))) (some (.own (((Ky k).map (jv b a.toNat (z - 1 - a).toNat (n / 840))).map .str))) (some (.d (.int k))) (some (.d (.str ⟨#[97 + ((n / 840 + 5 * (k:Int)) % 26).toNat]⟩)))) (by simp [aB,aX,bZ,bY,bH,aS,cO,af,aF,S.rd,R.dat,c9,cS,g2,gN,ai,ay,gC,bB,aL,bD,cH,aC,cU,dM,rF,fin,cJ,bI,eq_int,ao,aO,toD,toS,aU,fF,fG,fH,aJ,dj,nS,cY,bz,ea])];have e1:=xX (eG ⟨#[b]⟩ a.toNat) ⟨#[97 + ((n / 840 + 5 * (k:Int)) % 26).toNat]⟩ (by show _ + 1<=_;omega);have e2:=xX (eG ⟨#[b]⟩ a.toNat++⟨#[97 + ((n / 840 + 5 * (k:Int)) % 26).toNat]⟩) (eG ⟨#[b]⟩ (z - 1 - a).toNat) (by
      rw [jI,mq,Ko,<-jI];simp;omega)
     have hk':k < sizeLine:=KP (by omega:k < 1000) (by decide);simp [aB,aX,bZ,bY,bH,aS,cO,af,aF,S.rd,R.dat,c9,cS,g2,gN,ai,ay,gC,bB,aL,bD,cH,aC,cU,dM,rF,fin,cJ,bI,eq_int,ao,aO,toD,toS,aU,fF,fG,fH,gG,ra,rr,e1,e2,Gk,hk',R_,jv]) (eN c m n (.d (.str ⟨#[b]⟩)) z none none none (some (.d (.int a))) (some (.own [])) none none) ⟨none,none,rfl⟩
   rw [dU ((yO (AZ (m:=m) (by omega) (by simp [aB,aX,bZ,bY,bH,aS,cO,af,aF,S.rd,R.dat,c9,cS,g2,gN,ai,ay,gC,bB,aL,bD,cH,aC,cU,dM,rF,fin,cJ,bI,eq_int,ao,aO,toD,toS,aU,fF,fG,fH]))).trans h1)];have hs:=sorted_strs .own ((Ky m).map (jv b a.toNat (z - 1 - a).toNat (n / 840))) (by simp;omega);rw [uv (xG (r:=.l .own (((Ky m).map (jv b a.toNat (z - 1 - a).toNat (n / 840))).map .str)) rfl hs) rfl];rfl
noncomputable abbrev dN (k:Nat):D:=.int k
noncomputable def DH (ss:List Str):Prop:=ss.length<=3/\(∀s∈ss,zc s=true)/\ss.Pairwise λa b=>a.cps.toList < b.cps.toList
theorem jC {α:Type}(f:α->D) (xs:List α) (l u:Option Int):∃ys:List α,cutD (xs.map f) l u=ys.map f/\ys=(xs.drop (HT.bh xs.length 0 l)).take (HT.bh xs.length xs.length u - HT.bh xs.length 0 l):=by refine ⟨_,?_,rfl⟩;unfold cutD;rw [Km,Oz,OA]
theorem vA {α:Type}(xs:List α) (i j:Nat):((xs.drop i).take j).Sublist xs:=(Pa _ _).trans (RB _ _)
theorem Good.sub {ss ys:List Str}(h:Good m ss) (s:ys.Sublist ss) (hl:ys.length<=3):DH ys:=⟨hl,λx hx=>h.2.1 x (s.subset hx),h.2.2.sublist s⟩
theorem Fe (xs:List D) (l u:Option Int):fY (.l .own xs) l u=.ok (.l .fresh (cutD xs l u)):=rfl
theorem Dj (m:Md) (xs:List D):jE [.l m xs]=.ok (.d (.tup xs)):=rfl
theorem zV (c:Int):∃A B:List Str,fL [.d (.int c)]=.ok (.d (.tup [.tup (A.map .str),.tup (B.map .str)]))/\DH A/\DH B:=by
 obtain ⟨ss,hs,hg⟩:=BL c 6 (Kr _);have hs:eE [.d (.int c),.d (.int 6)]=.ok (.l .fresh (ss.map .str)):=hs;unfold fL iW;generalize eE=F_names at hs ⊢;show ∃A B:List Str,fin (aB _ _ [some (.d (.int c)),none,none,none])=_/\_;obtain ⟨n,hn⟩:∃n,c * 523 % 10007=n:=⟨_,rfl⟩;have n0:0<=n:=hn▸MD _ (by decide);rw [dU (e:=[some (.d (.int c)),some (.own (ss.map .str)),none,none]) (by simp [aB,aX,bZ,bY,bH,aS,cO,af,aF,S.rd,R.dat,c9,cS,g2,gN,ai,ay,gC,bB,aL,bD,cH,aC,cU,dM,rF,fin,cJ,bI,eq_int,ao,aO,toD,toS,aU,fF,fG,fH,hs])];rw [dU (e:=[some (.d (.int c)),some (.own (ss.map .str)),some (.d (.int n)),none]) (by simp [aB,aX,bZ,bY,bH,aS,cO,af,aF,S.rd,R.dat,c9,cS,g2,gN,ai,ay,gC,bB,aL,bD,cH,aC,cU,dM,rF,fin,cJ,bI,eq_int,ao,aO,toD,toS,aU,fF,fG,fH,qe,bz,hn])];rw [dU (e:=[some (.d (.int c)),some (.own (ss.map .str)),some (.d (.int n)),some (.d (.int (n / 16 % 3)))]) (by simp [aB,aX,bZ,bY,bH,aS,cO,af,aF,S.rd,R.dat,c9,cS,g2,gN,ai,ay,gC,bB,aL,bD,cH,aC,cU,dM,rF,fin,cJ,bI,eq_int,ao,aO,toD,toS,aU,fF,fG,fH,cY,bz])];obtain ⟨A,ha,ha'⟩:=jC D.str ss none (some (n % 4));obtain ⟨B,hb,hb'⟩:=jC D.str ss (some (n / 16 % 3)) (some (n / 16 % 3 + n / 4 % 4));refine ⟨A,B,?_,hg.sub (ha'▸vA _ _ _) ?_,hg.sub (hb'▸vA _ _ _) ?_⟩
 ·have Jv:2<=sizeLine:=by decide
  simp [aB,aX,bZ,bY,bH,aS,cO,af,aF,S.rd,R.dat,c9,cS,g2,gN,ai,ay,gC,bB,aL,bD,cH,aC,cU,dM,rF,fin,cJ,bI,eq_int,ao,aO,toD,toS,aU,fF,fG,fH,cF,iV,m8,gm,bz,cY,dj,Fe,Dj,ha,hb,Jv]
 ·rw [ha',Me,HT.nP];have e:n % 4=((n % 4).toNat:Int):=by omega
  rw [e,HT.jP];omega
 ·rw [hb',Me];have e:n / 16 % 3=((n / 16 % 3).toNat:Int):=by omega
  have e2:n / 16 % 3 + n / 4 % 4=((n / 16 % 3 + n / 4 % 4).toNat:Int):=by omega
  rw [e2,HT.jP,e,HT.jP,hg.1];omega
theorem qO {K:Ke}{J:L2.Hp}:∀(ns:List Int),aN K J (ns.map D.int) (ns.map L2.V.int)
 | []=>.nil
 | n::r=>.cons (.int n) (qO r)
end K01
namespace K02
open PySem DL
end K02
namespace K02
open PySem DL K01
end K02
namespace K04
open PySem DL
end K04
namespace K04
open PySem DL K01 K02
end K04
namespace DL
open PySem PySem.Spec PyProof.Rows L2 DX
end DL
namespace DL
open PySem PySem.Spec PyProof.Rows L2
section
open PySem.SeqAt
open PySem.AutoSeq1 (wpAny_loadPart')
open PySem.MeetsSeq PySem.MeetsSeq2 PySem.MeetsSeq3
end
end DL
namespace DL
open PySem PySem.Spec PyProof.Rows L2
open PySem.W (KasT kas_sort kas_asc kas_desc kas_rev kas_tail3 kas_descPart kas_count kas_place kas_bin)
variable {n:Nat}
end DL
namespace DL
open PySem PySem.Spec PyProof.Rows L2
open PySem.W (KasT kas_sort kas_ask kas_item kat_run kat_snds KatLex kat_cons kat_yes kat_no kat_lt kat_one KatTups kat_kind Looks)
end DL
namespace DL
open PySem PySem.Spec PyProof.Rows L2
open PySem.W (KasT kas_sort kas_ask KatLex kat_nil kat_cons kat_yes kat_no kat_lt kat_one KatTups kat_kind Looks)
end DL
namespace DL
open PySem PySem.Spec PyProof.Rows L2
open PySem.W (KasT kas_sort kas_ask)
section
variable {prog:KL}{w:K5}{A:Lh}{E:Kg->Kh->Prop}{s:Kh}
noncomputable abbrev Kp (h h':L7):Prop:=∀b o,h.get? b=some o->h'.get? b=some o
end
section
variable {K:Ke}{J:Hp}
theorem A8 {vs:List V}{us:List Kg}(h:Vals vs us):∀{i:Nat},i < vs.length->RelV (vs.getD i V.non) (us.getD i Mv):=by
 induction vs generalizing us with
 | nil=>intro i hi;exact absurd hi (Mt _)
 | cons x r ih=>
  intro i hi;cases h with
  | cons q rs=>
   cases i with
   | zero=>simpa using q
   | succ i=>simpa using ih rs (i:=i) (by simpa using hi)
end
end DL
namespace DL
open PySem PySem.Spec PyProof.Rows L2
section
variable {X:Cx}{c:C}{e:K8}{es:List K8}{pos:Pos}
noncomputable def Ak:List R->M R
 | [.d (.int i)]=>.ok (.d (.int i))
 | [.d (.bl k)]=>.ok (.d (.int (if k then 1 else 0)))
 | _=>.bad
theorem ym:Lm "int"=some (.type "int"):=by decide +kernel
end
end DL
namespace DL
open PySem PySem.Spec PyProof.Rows L2 DX
section
variable {M:SW}{A:Lh}{E:Kg->Kh->Prop}{s:Kh}
theorem xH {JV:M5}{globals:KJ}{closure:List (Str×KJ)}{J_:Str}{func:Option KJ}{code:Kg}{outer:Env}{builtins:KJ}{Q:Env->Kh->Prop}
  (hQ:Q (newEnv JV s.heap.objs.size globals (LA (s.heap.objs.size + 1) JV.names closure) J_ func code (some outer) builtins) {s with heap:=Sa (s.heap.push {cls:=.type "dict",data:=.dict #[]}) JV.names}):
  KH M A (Ss JV globals closure [] J_ func code (some outer) builtins) Q E s:=by simp only [Ss,Option.isSome_some,if_true];refine Kd (Sb ?_);refine Kd (wpAny_layCells _ (λname kind cells=>by cases hkc:kind == NV <;> simp [hkc]) _ _ _ _ ?_);rw [show ({s with heap:=s.heap.push {cls:=.type "dict",data:=.dict #[]}}:Kh).heap.objs.size=s.heap.objs.size + 1 from Ma ..];simp only [List.forIn_nil];exact Kd (Kf (Kf hQ))
theorem gS:∀(names:List (Str×ML)) (n:Nat) (acc:List (Str×KJ)) (x:Str),(∀y∈names,y.2=.cell->y.1≠x)->(LA n names acc).lookup x=acc.lookup x
 | [],_,_,_,_=>by unfold LA;rfl
 | (y,k)::r,n,acc,x,h=>by
  have hr:∀z∈r,z.2=.cell->z.1≠x:=λz hz=>h z (Kq _ hz);unfold LA;split
  ·rename_i hk;rw [gS r _ _ x hr];have hy:y≠x:=h (y,k) (Ku ..) (by simpa using hk);have:(x == y)=false:=by
    cases q:x == y with
    | false=>rfl
    | true=>exact absurd (eq_of_beq q).symm hy
   rw [LZ,this]
  ·exact gS r _ _ x hr
end
theorem rH:∀(names:List (Str×ML)) (n:Nat) (acc:List (Str×KJ)),LA n names acc=LA n names []++acc:=by
 intro names
 suffices ∀(n:Nat) (a b:List (Str×KJ)),LA n names (a++b)=LA n names a++b by intro n acc;exact this n [] acc
 induction names with
 | nil=>intro n a b;unfold LA;rfl
 | cons p r ih=>
  obtain ⟨y,k⟩:=p;intro n a b;unfold LA;split
  ·exact ih _ (_::a) b
  ·exact ih _ a b
noncomputable def c8 (names:List (Str×ML)) (x:Str):Bool:=names.any λy=>y.1 == x && y.2 == .cell
theorem gr:∀(names:List (Str×ML)) (n:Nat) (acc:List (Str×KJ)) (x:Str),((acc.lookup x).isSome=true\/c8 names x=true)->((LA n names acc).lookup x).isSome=true
 | [],_,_,_,h=>by
  unfold LA;rcases h with h | h
  ·exact h
  ·cases h
 | (y,k)::r,n,acc,x,h=>by
  unfold LA;have e:c8 ((y,k)::r) x=((y == x && k == .cell) || c8 r x):=rfl;rw [e] at h;split
  ·rename_i hk;refine gr r _ _ x ?_;by_cases hx:x=y
   ·left;subst hx;rw [LZ];simp
   ·rcases h with h | h
    ·left;rw [LZ];cases q:x == y with
     | true=>exact absurd (eq_of_beq q) hx
     | false=>exact h
    ·rw [MX,KU] at h;rcases h with h | h
     ·exact absurd (eq_of_beq h.1).symm hx
     ·exact .inr h
  ·rename_i hk;refine gr r _ _ x ?_;rcases h with h | h
   ·exact .inl h
   ·rw [MX,KU] at h;rcases h with h | h
    ·exact absurd h.2 hk
    ·exact .inr h
theorem fc {cl:List (Str×KJ)}(h:(LA n names cl).lookup x=some d):
  (LA n names []).lookup x=some d\/(c8 names x=false/\cl.lookup x=some d):=by
 rw [rH,List.lookup_append] at h;cases q:(LA n names []).lookup x with
 | some e=>rw [q] at h;left;simpa using h
 | none=>
  rw [q] at h;right;refine ⟨?_,by simpa using h⟩;cases z:c8 names x with
  | false=>rfl
  | true=>
   have:=gr names n [] x (.inr z);rw [q] at this;cases this
theorem kQ {JV:M5}(h:(relabel JV env).names.lookup x=some .cell\/(relabel JV env).names.lookup x=some .free):(x,LY)∈JV.names\/c8 JV.names x=true:=by
 unfold relabel at h;revert h;generalize JV.names=names
 induction names with
 | nil=>intro h;simp at h
 | cons p r ih=>
  obtain ⟨n,k⟩:=p;intro h;rw [LN] at h;simp only at h;by_cases hx:x=n
  ·subst hx;cases k with
   | free=>exact .inl (Ku ..)
   | cell=>right;unfold c8;simp
   | _=>simp [LZ] at h
  ·have e:(x == n)=false:=by simpa using hx
   have h':(r.map λ(n,k)=>if (k == LY && env.scope.kind == .function && env.kindOf n == some .cell) then (n,NV) else (n,k)).lookup x=some .cell\/(r.map λ(n,k)=>if (k == LY && env.scope.kind == .function && env.kindOf n == some .cell) then (n,NV) else (n,k)).lookup x=some .free:=by split at h <;> simpa [LZ,e] using h
   rcases ih h' with z | z
   ·exact .inl (Kq _ z)
   ·right;unfold c8 at z ⊢;rw [Rh,z,Bool.or_true]
section
variable {X:Cx}
noncomputable def cR (X:Cx) (own:List Str) (cap:List Nat) (JV:M5) (cl:List (Str×KJ)) (C:KJ) (s:Kh) (H:Hp) (fp:List KJ):Cx:=
 {DU X own cap JV (LA (C + 1) JV.names cl) C s H fp with fn:=c8 JV.names}
theorem B3 {H:Hp}{s:Kh}{own:List Str}{JV:M5}(I:Inv X JW σ H s) (hk:JV.kind=.function)
 (hcl:ef X.env.cells JV.names []=some cl) (ck:Uc h1 (s.heap.objs.size + 1) (LA (s.heap.objs.size + 1) JV.names [])) (hfp:∀b∈fp,ie X JW H b) (hin:∀b∈fp,b < s.heap.objs.size):(cR X own cap JV cl s.heap.objs.size s H fp).Ok:=by
 obtain ⟨m1,m2⟩:=gw JV.names [] cl hcl (λx c h=>by simp at h);have lo:∀{x:Str}{d:KJ},(LA (s.heap.objs.size + 1) JV.names []).lookup x=some d->s.heap.objs.size + 1<=d:=fun {x d} h=>(ck.empty _ _ (NZ h)).2;have old:∀{x:Str}{d:KJ},cl.lookup x=some d->d < s.heap.objs.size:=fun {x d} h=>by obtain ⟨v,z⟩:=I.cell x d (m1 x d h);exact z.lt
 refine ⟨I.ok.mod,hk,I.ok.glob,I.ok.blt,Kr _,λx y d h1 h2=>?_,λx hx=>?_,λx d hf h=>?_,λhc=>I.ok.hd hc,I.ok.frames,.inl rfl,λb hb=>⟨KI (hin b hb),λx d h=>?_⟩,
  I.bs,Lg I.ok.bsz I.sz,λb o h hb=>?_,λb hb hf=>?_,I.stack,I.stkFree⟩
 ·rcases fc h1 with h1 | ⟨_,h1⟩
  ·rcases fc h2 with h2 | ⟨_,h2⟩
   ·exact name_of_addr ck.apart (NZ h1) (NZ h2)
   ·exact absurd (KP (old h2) (M0 (lo h1))) (My _)
  ·rcases fc h2 with h2 | ⟨_,h2⟩
   ·exact absurd (KP (old h1) (M0 (lo h2))) (My _)
   ·exact I.ok.inj x y d (m1 x d h1) (m1 y d h2)
 ·refine L8.mp (gr _ _ _ x ?_);rcases kQ hx with z | z
  ·exact .inl (m2 x (.inr z))
  ·exact .inr z
 ·rcases fc h with h | ⟨z,h⟩
  ·exact M0 (lo h)
  ·have hf':c8 JV.names x=true:=hf;rw [z] at hf';cases hf'
 ·rcases fc h with h | ⟨_,h⟩
  ·exact Mq (KP (hin b hb) (M0 (lo h)))
  ·exact (hfp b hb).2.2.2.2.1 x d (m1 x d h)
 ·rcases (hfp b hb).2.2.2.1 with z | z
  ·exact I.ok.noex b o h z
  ·exact absurd (KP (Kz (I.ok.bs b o h).1) z) (My _)
 ·rcases KA.mp (I.stkSub b hf) with e | e
  ·exact (hfp b hb).2.1 e
  ·exact (hfp b hb).2.2.1 e
end
theorem tR {cl:List (Str×KJ)}(h:c8 names x=false):(LA n names cl).lookup x=cl.lookup x:=
 gS names n cl x λy hy hk e=>by unfold c8 at h;have:=List.any_eq_false.mp h y hy;simp [hk,e] at this
section
variable {X:Cx}
theorem Af {JW:List (KJ×Obj)}{σ:L2.St}{H:Hp}{s:Kh}{own:List Str}{cap:List Nat}{JV:M5}{cl:List (Str×KJ)}{fp:List KJ}{h1:L7}{m:Str->Option Kg}{tk:Nat}(I:Inv X JW σ H s) (ok:(cR X own cap JV cl s.heap.objs.size s H fp).Ok)
  (hcl:ef X.env.cells JV.names []=some cl) (ck:Uc h1 (s.heap.objs.size + 1) (LA (s.heap.objs.size + 1) JV.names [])) (hcap:mj X cap=true) (Iq:∀j∈cap,∀x,X.N[j]?=some x->(relabel JV X.env).names.lookup x≠some .local)
  (hno:∀j∈cap,∀x,X.N[j]?=some x->c8 JV.names x=false) (hns:h1.Ns s.heap.objs.size m) (old:∀b o,s.heap.get? b=some o->h1.get? b=some o):
  Inv (cR X own cap JV cl s.heap.objs.size s H fp) [] (K6 own.length none++cap.map λ(j:Nat)=>(σ[j]?).getD none) H {s with heap:=h1,toks:=tk}:=by
 obtain ⟨m1,m2⟩:=gw JV.names [] cl hcl (λx c h=>by simp at h);refine ⟨ok,rfl,I.bare,Un.kept old,⟨m,hns,λi x v q1 q2 q3=>?_⟩,λx d h=>?_,I.hok.fresh (Kr _),λx d h=>?_,λp hp=>absurd (show p∈([]:List (KJ×Obj)) from hp) (by simp),I.hok.kept old,?_⟩
 ·obtain ⟨j,h2,h3,h4⟩:=gq q2;have q1':(own++cap.map λ(j:Nat)=>(X.N[j]?).getD ("":Str))[i]?=some x:=q1;rw [LO (by exact h2),KQ,h3] at q1';have hj:j∈cap:=MS h3;have hc:(match X.N[j]? with
   | some x=>(match X.env.scope.names.lookup x with
    | some .cell=>true
    | some .free=>true
    | _=>false)
   | none=>false)=true:=by unfold mj at hcap;exact LG.mp hcap j hj
  cases hx:X.N[j]? with
  | none=>rw [hx] at hc;cases hc
  | some y=>
   rw [R7,hx] at q1';rw [hx] at hc;have e:y=x:=by simpa using q1'
   subst e;have kd:X.env.kindOf y=some .cell\/X.env.kindOf y=some .free:=by
    unfold Us;simp only at hc;split at hc
    ·rename_i z;exact .inl z
    ·rename_i z;exact .inr z
    ·cases hc
   obtain ⟨mX,nX,lX⟩:=I.loc;obtain ⟨u,ru,lu⟩:=lX j y v hx h4 (kd.elim (λz=>.inr (.inl z)) λz=>.inr (.inr z));refine ⟨u,ru,.inr ?_⟩;have kd':(relabel JV X.env).names.lookup y=some .cell\/(relabel JV X.env).names.lookup y=some .free:=by
    rcases q3 with z | z | z
    ·exact absurd z (Iq j hj y hx)
    ·exact .inl z
    ·exact .inr z
   refine ⟨kd',?_⟩;have no:=hno j hj y hx;have fr:(y,LY)∈JV.names:=by
    rcases kQ kd' with z | z
    ·exact z
    ·rw [no] at z;cases z
   obtain ⟨d,hd⟩:=L8.mp (m2 y (.inr fr));refine ⟨d,(tR no).trans hd,?_⟩;rcases lu with ⟨z,_⟩ | ⟨_,d',hd',z⟩
   ·rcases kd with k | k <;> (rw [k] at z;cases z)
   ·have:=m1 y d hd;rw [hd'] at this;cases this;obtain ⟨o,ho,hod⟩:=z;exact ⟨o,old _ _ ho,hod⟩
 ·rcases fc h with h | ⟨_,h⟩
  ·exact ⟨none,(ck.empty _ _ (NZ h)).1⟩
  ·obtain ⟨v,o,ho,hod⟩:=I.cell x d (m1 x d h);exact ⟨v,o,old _ _ ho,hod⟩
 ·rcases fc h with h | ⟨_,h⟩
  ·exact I.hok.fresh (M0 (ck.empty _ _ (NZ h)).2)
  ·exact I.freeC x d (m1 x d h)
 ·show _=(own++cap.map λ(j:Nat)=>(X.N[j]?).getD ("":Str)).length;simp
end
theorem Ez (h:L7) (names:List (Str×ML)):(Sa (h.push {cls:=.type "dict",data:=.dict #[]}) names).Ns h.objs.size (λ_=>none):=
 (Heap.Ns.new h (.type "dict")).keeps λb o e=>Sd _ _ _ _ e
theorem yD (h:L7) (names:List (Str×ML)):Uc (Sa (h.push {cls:=.type "dict",data:=.dict #[]}) names) (h.objs.size + 1) (LA (h.objs.size + 1) names []):=by have:=cellsFrom_ok names (h.push {cls:=.type "dict",data:=.dict #[]}) (h.objs.size + 1) [] ⟨λ_ _ hm=>(nomatch hm),N8⟩ (by rw [Ma];exact Kr _);rw [Ma] at this;exact this
noncomputable def Bk (X:Cx) (cap:List Nat) (JV:M5):Bool:=cap.all λj=>match X.N[j]? with
 | some x=>!c8 JV.names x
 | none=>true
section
variable {X:Cx}{c:C}{e:K8}{es:List K8}{g:G R}{pos:Pos}
theorem zx {gs:G (List R)}(ha:jA X c (e::es) gs) (hm:X.mg "int"=none) (hg:Gl X "int":=by rfl)
 (he:KC (e::es) X.env=(false,eval e X.env)::KC es X.env:=by rfl) (hpl:(MQ pos (KC es X.env)).any (·.1)=false:=by rfl):QD X c (.Call (.Name "int" p) (e::es) [] pos) (gN Ak gs):=have ha:=ha.h;⟨
 lN yu (by
  intro He J H xs vs Q hp rs w;unfold Ak at w;split at w
  ·obtain ⟨v,rfl,r⟩:=rs.one;cases r;exact .inl ⟨_,rfl,w _ J H (Ext.refl hp.sub) (.int _)⟩
  ·obtain ⟨v,rfl,r⟩:=rs.one;cases r;exact .inr ⟨_,rfl,w _ J H (Ext.refl hp.sub) (.int _)⟩
  ·exact w.elim) ym hm ha hg (by decide) (by decide) he hpl⟩
end
noncomputable def bC (gt:GT) (gts:G Bool) (act:Ev->M (List D×Ev)):List D->Ev->M (List D×Ev)
 | [],env=>.ok ([],env)
 | d::ds,env=>gt d env >>= λe=>gts e >>= λk=>if k=true then act e >>= λr=>bC gt gts act ds r.2 >>= λz=>.ok (r.1++z.1,z.2) else bC gt gts act ds e
noncomputable def sd (env:Ev) (σ:L2.St) (p:KJ):Prop:=∀(j:Nat) (xs:Mn),env[j]?=some (some (mS xs))->σ[j]?≠some (some (.ref p))
structure rY (Acc:Hp->Hp->List D->Prop):Prop where
 ext:∀{J H J' H':Hp}{ys:List D},Acc J H ys->Ext J H J' H'->Acc J' H' ys
noncomputable def pL (X:Cx) (c:C) (p:KJ) (Acc:Hp->Hp->List D->Prop) (J2 H2:Hp) (N:Nat) (m:Sem Unit) (act:Ev->M (List D×Ev)):Prop:=
 ∀(JW:List (KJ×Obj)) (s:Kh) (σ:L2.St) (H J:Hp) (env:Ev) (ys:List D) (Qf:List D×Ev->Prop),Inv X JW σ H s->Ext J2 H2 J H->SR c J H σ env->sd env σ p->Acc J H ys->ys.length + N<=sizeLine->cA (act env) Qf c.T->
  KH (KS X.prog X.w) X.A m (λ_ s'=>∃σ' H' J' r,Inv X JW σ' H' s'/\Ext J2 H2 J' H'/\aP J J'/\SR c J' H' σ' r.2/\sd r.2 σ' p/\Acc J' H' (ys++r.1)/\r.1.length<=N/\Qf r) X.xe s
noncomputable abbrev zM (ifs:List K8) (env:Env):Sem Bool:=forIn ifs true λc r=>if r=true then do let ok <-QL c env (eval c env);pure (MC ok) else pure (MC r)
noncomputable abbrev jm (JZ J6:K8) (ifs:List K8) (it:Kg) (env:Env) (act:Sem Unit) (again':Sem Fin):Sem Fin:=do
 Ng J6.pos
 match <-NI it with
 | none=>pure (.done .next)
 | some v=>
  MA JZ it v
  assign JZ env v
  let mut ok:=true
  for c in ifs do
   if ok then ok <-QL c env (eval c env)
  if ok then
   act
  again'
noncomputable def nY (prog:KL) (w:K5) (A:Lh) (e:K8) (depth:Nat) (it acc:Kg) (env:Env) (JZ:K8) (ifs:List K8) (m:Sem Unit):Prop:=
 ∀(R:Q5->Kh->Prop) (E:Kg->Kh->Prop) (I:Nat->Kh->Prop),(∀v s,E v s->S_ (KS prog w) A env (λx s'=>R (.error x) s') v s)->(∀n s,I n s->KH (KS prog w) A (NI it) (λr s₁=>match r with
   | none=>R (.ok .next) s₁
   | some v=>KH (KS prog w) A (MA JZ it v) (λ_ s₁=>KH (KS prog w) A (assign JZ env v) (λ_ s₂=>
     KH (KS prog w) A (zM ifs env) (λok s₃=>if ok=true then KH (KS prog w) A m (λ_ s₅=>∃m,m < n/\I m s₅) E s₃ else ∃m,m < n/\I m s₃) E s₂) E s₁) E s₁) E s)->
  ∀(n:Nat) (s:Kh),I n s->Mb (KS prog w) A (.compLoop e depth it acc env) R s
section
variable {prog:KL}{w:K5}{A:Lh}{JZ J6:K8}{ifs:List K8}{JV:M5}{pos:Pos}{it acc:Kg}{env:Env}{depth:Nat}{gens:List Np}{act:Sem Unit}
theorem uC {R:Q5->Kh->Prop}{I:Nat->Kh->Prop}{E:Kg->Kh->Prop}{code:Code}{n:Nat}{s:Kh}{Q:Fin->Kh->Prop}
  (JC:∀s,R (.ok .next) s->Q (.done .next) s) (Jq:∀s,(∃m,m < n/\I m s)->KH (KS prog w) A (again code) Q E s)
  (t:KH (KS prog w) A (NI it) (λr s₁=>match r with
   | none=>R (.ok .next) s₁
   | some v=>KH (KS prog w) A (MA JZ it v) (λ_ s₁=>KH (KS prog w) A (assign JZ env v) (λ_ s₂=>
     KH (KS prog w) A (zM ifs env) (λok s₃=>if ok=true then KH (KS prog w) A act (λ_ s₅=>∃m,m < n/\I m s₅) E s₃ else ∃m,m < n/\I m s₃) E s₂) E s₁) E s₁) E s):
  KH (KS prog w) A (jm JZ J6 ifs it env act (again code)) Q E s:=by
 refine Kd (M8 (Kd (Lq t (λr s₁ h₁=>?_) λ_ _ f=>f)));cases r with
 | none=>exact Kf (JC _ h₁)
 | some v=>
  refine Kd (Lq h₁ (λ_ s₁' h₁'=>?_) λ_ _ f=>f);refine Kd (Lq h₁' (λ_ s₂ h₂=>Kd (Lq h₂ (λok s₃ h₃=>?_) λ_ _ f=>f)) λ_ _ f=>f);cases ok with
  | false=>exact Jq _ h₃
  | true=>exact Kd (Lq h₃ (λ_ s₅ h₅=>Jq _ h₅) λ_ _ f=>f)
theorem xD {elt:K8}(ht:Oj (.ListComp elt gens JV pos) depth it acc env=jm JZ J6 ifs it env act (again (.compLoop (.ListComp elt gens JV pos) depth it acc env))):nY prog w A (.ListComp elt gens JV pos) depth it acc env JZ ifs act:=by intro R E I hE turn n s h;refine codeAny_loop rfl I (λn s hI=>?_) n h;show KH _ A ((Oj (.ListComp elt gens JV pos) depth it acc env).onRaise (λx=>do Rk x env;Se x)) _ _ s;refine wpAny_noted ?_;rw [ht];exact Lq (uC (E:=E) (Q:=λf s'=>match f with | .done g=>R (.ok g) s' | .again c=>c=_/\∃m,m < n/\I m s') (λ_ h=>h) (λ_ h=>Kf ⟨rfl,h⟩) (turn n s hI)) (λ_ _ h=>h) hE
end
section
variable {X:Cx}{c:C}{p:KJ}{Acc:Hp->Hp->List D->Prop}{J2 H2:Hp}{N:Nat}{m:Sem Unit}{act:Ev->M (List D×Ev)}{JZ:K8}{ifs:List K8}{gt:GT}{gts:G Bool}{e:K8}{depth:Nat}{acc:Kg}{it:KJ}{fp:List KJ}{tn:Nat->L7->Prop}{It:It}{ds:List D}{J1:Hp}
theorem tU (aR:rY Acc) (hc:X.calm=true){Rx:Kg->Kh->Prop}(hx:∀v s,X.xe v s->S_ (KS X.prog X.w) X.A X.env Rx v s) (LP:nY X.prog X.w X.A e depth (.ref it) acc X.env JZ ifs m) (hT:yf X c JZ gt) (hIf:wK X c ifs gts) (hA:pL X c p Acc J2 H2 N m act) (T:Turn X.prog X.w X.K JZ It fp it tn)
  (U:Hp->Hp->Prop) (wk:Walk c It ds J1 U){JW:List (KJ×Obj)}{s:Kh}{σ:L2.St}{H J:Hp}{env:Ev}{ys:List D}{Qf:List D×Ev->Prop}(hU:∀J' H',Ext J2 H2 J' H'->aP J J'->U J' H') (I:Inv X JW σ H s) (st:tn 0 s.heap) (fr:∀b∈fp,ie X JW H b) (e2:Ext J2 H2 J H) (sr:SR c J H σ env) (no:sd env σ p) (ac:Acc J H ys)
  (hl:ys.length + ds.length * N<=sizeLine) (w:cA (bC gt gts act ds env) Qf c.T):
  Mb (KS X.prog X.w) X.A (.compLoop e depth (.ref it) acc X.env) (λr s'=>match r with | .error x=>Rx x s' | .ok f=>f=.next/\∃σ' H' J' r',Inv X JW σ' H' s'/\Ext J2 H2 J' H'/\aP J J'/\SR c J' H' σ' r'.2/\sd r'.2 σ' p/\Acc J' H' (ys++r'.1)/\r'.1.length<=ds.length * N/\Qf r') s:=by
 refine LP _ X.xe (λn s'=>∃(i:Nat) (σ':L2.St) (H' J':Hp) (env':Ev) (zs:List D),n=ds.length - i/\i<=ds.length/\Inv X JW σ' H' s'/\tn i s'.heap/\(∀b∈fp,H' b=none)/\Ext J2 H2 J' H'/\aP J J'/\SR c J' H' σ' env'/\sd env' σ' p/\Acc J' H' (ys++zs)/\zs.length<=i * N/\
  cA (bC gt gts act (ds.drop i) env') (λr=>Qf (zs++r.1,r.2)) c.T) hx ?_ ds.length s ⟨0,σ,H,J,env,[],rfl,K1 _,I,st,λb hb=>(fr b hb).1,e2,aP.refl J,sr,no,by rw [Mc];exact ac,by simp,by rw [QN];exact w⟩
 rintro n s' ⟨i,σ',H',J',env',zs,rfl,hi,I',st',fr',e',sj,sr',no',ac',hz,w'⟩;have stat:∀{H':Hp},(∀b∈fp,H' b=none)->∀b∈fp,ie X JW H' b:=λhn b hb=>⟨hn b hb,(fr b hb).2⟩;obtain ⟨wk1,wk2⟩:=wk i J' H' sr'.hp (hU J' H' e' sj);by_cases hlt:i < ds.length
 ·obtain ⟨g1,y1⟩:=wk2 ds[i] (by simp [hlt]);rw [Mj hlt] at w';refine Lq (T.item X rfl rfl rfl hc i JW s' σ' H' X.xe I' (stat fr') st' g1) (λr s4 ⟨u,hr,h4⟩=>?_) λ_ _ f=>f;subst hr;refine Lq h4 (λ_ s5 ⟨x,H5,I5,r5,y5,st5,fr5⟩=>?_) λ_ _ f=>f;obtain ⟨J5,e5,rx⟩:=y1 x H5 y5;have I5':=I5.pinned (stat fr5) (T.obj _ _ st5);have again:∀{σ7:L2.St}{H7:Hp}{s7:Kh},Inv X (JW++lO fp s5.heap) σ7 H7 s7->Inv X JW σ7 H7 s7/\tn (i + 1) s7.heap/\(∀b∈fp,H7 b=none):=fun {σ7 H7 s7} I7=>by refine ⟨I7.unpinned,T.keep _ _ _ st5 λb hb o e=>(I7.pin (b,o) (La _ (La _ (iB hb e)))).1,λb hb=>?_⟩;obtain ⟨o,e,d⟩:=T.obj _ _ st5 b hb;exact (I7.pin (b,o) (La _ (La _ (iB hb e)))).2.1
  refine Lq (hT _ s5 σ' H5 x u (λσ6 H6=>∃e6,H6=H5/\SR c J5 H5 σ6 e6/\KO env' σ' e6 σ6/\cA (gts e6 >>= λk=>if k=true then act e6 >>= λr=>bC gt gts act (ds.drop (i + 1)) r.2 >>= λz=>.ok (r.1++z.1,z.2) else bC gt gts act (ds.drop (i + 1)) e6)
   (λr=>Qf (zs++r.1,r.2)) c.T) I5' r5 ⟨J5,env',ds[i],sr'.ext e5,rx,az (aD w') λe6 w6 σ6 sr6 ko=>⟨e6,rfl,sr6,ko,w6⟩⟩) (λ_ s6 ⟨σ6,H6,I6,e6,Jy,sr6,ko,w6⟩=>?_) λ_ _ f=>f
  subst Jy;have no6:sd e6 σ6 p:=λj xs q z=>by obtain ⟨k1,k2⟩:=ko j xs q;exact no' j xs k1 (k2▸z)
  refine Lq (hIf _ s6 σ6 H6 (λk H7=>∃J7,Ext J5 H6 J7 H7/\cA (if k=true then act e6 >>= λr=>bC gt gts act (ds.drop (i + 1)) r.2 >>= λz=>.ok (r.1++z.1,z.2) else bC gt gts act (ds.drop (i + 1)) e6)
   (λr=>Qf (zs++r.1,r.2)) c.T) I6 ⟨J5,e6,sr6,az (aD w6) λk wk J7 H7 e7=>⟨J7,e7,wk⟩⟩) (λk s7 ⟨H7,I7,J7,e7,w7⟩=>?_) λ_ _ f=>f
  have sr7:=sr6.ext e7;have ac7:=aR.ext (aR.ext ac' e5) e7;have x7:=(e'.trans e5).trans e7;have j7:=(sj.trans e5.j).trans e7.j;have hm:(i + 1) * N=i * N + N:=by rw [Nat.add_mul,Nat.one_mul]
  cases k with
  | false=>
   rw [if_neg (by decide)] at w7 ⊢;obtain ⟨a1,a2,a3⟩:=again I7;exact ⟨ds.length - (i + 1),by omega,i + 1,σ6,H7,J7,e6,zs,rfl,hlt,a1,a2,a3,x7,j7,sr7,no6,ac7,by omega,w7⟩
  | true=>
   rw [if_pos rfl] at w7 ⊢;have hN:(i + 1) * N<=ds.length * N:=Ow N hlt;refine Lq (hA _ s7 σ6 H7 J7 e6 (ys++zs) _ I7 x7 sr7 no6 ac7 (by rw [Ko];omega) (aD w7)) (λ_ s8 ⟨σ8,H8,J8,r,I8,x8,j8,sr8,no8,ac8,l8,w8⟩=>?_) λ_ _ f=>f;obtain ⟨a1,a2,a3⟩:=again I8;refine ⟨ds.length - (i + 1),by omega,i + 1,σ8,H8,J8,r.2,zs++r.1,rfl,hlt,a1,a2,a3,x8,j7.trans j8,sr8,no8,by rw [<-Nq];exact ac8,by rw [Ko];omega,?_⟩;refine az (aD w8) λz q=>?_;rw [Nq];exact q
 ·have JJ:i=ds.length:=by omega
  subst JJ;rw [N5 (Kr _)] at w';refine Lq (T.done X rfl rfl rfl hc _ JW s' σ' H' X.xe I' (stat fr') st' (wk1 (Kr _))) (λr s4 ⟨hr,I9⟩=>?_) λ_ _ f=>f;subst hr;have w9:Qf (zs++[],env'):=w';rw [Mc] at w9;exact ⟨rfl,σ',H',J',(zs,env'),I9,e',sj,sr',no',ac',hz,w9⟩
end
section
variable {prog:KL}{w:K5}{A:Lh}{R:Q5->Kh->Prop}{s:Kh}{it acc:Kg}{env:Env}{JV:M5}{pos:Pos}{g0:Np}{JZ J6:K8}{ifs:List K8}{rest:List Np}
theorem Fg (h0:Mb (KS prog w) A (.compLoop (.ListComp elt (g0::⟨JZ,J6,ifs,0⟩::rest) JV pos) 1 it acc env) R s)
 (h:KH (KS prog w) A (OE it) (λit' s'=>Mb (KS prog w) A (.compLoop (.ListComp elt (g0::⟨JZ,J6,ifs,0⟩::rest) JV pos) 1 it' acc env) R s') (λ_ _=>False) s):
  Mb (KS prog w) A (.compStart (.ListComp elt (g0::⟨JZ,J6,ifs,0⟩::rest) JV pos) 1 it acc env) R s:=by
 refine N1 ?_;show KH _ _ ((Qk (.ListComp elt (g0::⟨JZ,J6,ifs,0⟩::rest) JV pos) 1 it acc env).onRaise (λx=>do Rk x env;Ng Ql)) _ _ s;refine Rl ?_;unfold Qk;show KH _ _ (ask >>= _) _ _ s;refine Kd (L4 (TF ?_));split
 ·first
   | exact Kd (Kf (Kf (Ol rfl h0)))
   | exact Kf (Ol rfl h0)
 ·refine Kd (N_ ?_);show KH _ _ (Ng J6.pos >>= _) _ _ s;exact Kd (M8 (Kd (Lq h (λit' s' h'=>Kf (Ol rfl h')) λ_ _ x=>x.elim)))
end
noncomputable def gg (gi:G (List D)) (gt:GT) (gts:G Bool) (act:Ev->M (List D×Ev)):Ev->M (List D×Ev):=λenv=>gi env >>= λds=>if ds.length<=1000 then bC gt gts act ds env else .bad
noncomputable abbrev nI (e J6:K8) (acc:Kg) (env:Env):Sem Unit:=do
 let x <-eval J6 env
 Ng J6.pos
 let x <-LL J6 env x
 let _ <-runOwn (.compStart e 1 (<-holding [x] (OE x)) acc env) env
section
variable {X:Cx}{c:C}{p:KJ}{Acc:Hp->Hp->List D->Prop}{J2 H2:Hp}{N:Nat}{m:Sem Unit}{act:Ev->M (List D×Ev)}{JZ J6:K8}{ifs:List K8}{gi:G (List D)}{gt:GT}{gts:G Bool}{e:K8}{acc:Kg}
theorem vn (aR:rY Acc) (hc:X.calm=true) (hx:∀v s,X.xe v s->False) (hs:∀x,LL J6 X.env x=pure x)
  (start:∀(it:KJ) (R:Q5->Kh->Prop) (s:Kh),Mb (KS X.prog X.w) X.A (.compLoop e 1 (.ref it) acc X.env) R s->KH (KS X.prog X.w) X.A (OE (.ref it)) (λit' s'=>Mb (KS X.prog X.w) X.A (.compLoop e 1 it' acc X.env) R s') (λ_ _=>False) s->Mb (KS X.prog X.w) X.A (.compStart e 1 (.ref it) acc X.env) R s)
  (LP:∀it:KJ,nY X.prog X.w X.A e 1 (.ref it) acc X.env JZ ifs m) (hi:Gv X c JZ J6 gi) (hT:yf X c JZ gt) (hIf:wK X c ifs gts) (hA:pL X c p Acc J2 H2 N m act):
  pL X c p Acc J2 H2 (1000 * N) (nI e J6 acc X.env) (gg gi gt gts act):=by
 intro JW s σ H J env ys Qf I x2 sr no ac hl w;refine Kd (Lq (hi JW s σ H (λIt H1=>∃ds J1,Ext J H J1 H1/\Walk c It ds J1 (λJ' _=>aP J1 J')/\cA (if ds.length<=1000 then bC gt gts act ds env else .bad) Qf c.T) I ⟨J,env,sr,az (aD w) λds wd It J1 H1 e1 wk=>⟨ds,J1,e1,wk,wd⟩⟩) (λxv s1 h1=>?_) λv s f=>(hx v s f).elim);refine Kd (M8 ?_);rw [hs xv];refine Kd (Kf (Kd (Lz (Lq h1 (λitv s2 h2=>?_) λv s f=>(hx v s f).elim))));obtain ⟨it,fp,tn,It,H1,rfl,I1,T,st1,f1,ds,J1,e1,wk,w1⟩:=h2;have hsz:ds.length<=1000:=by
  by_cases z:ds.length<=1000
  ·exact z
  ·rw [if_neg z] at w1;exact w1.elim
 rw [if_pos hsz] at w1;have hm:ds.length * N<=1000 * N:=Ow N hsz;have hb:ys.length + ds.length * N<=sizeLine:=Lg (Nat.add_le_add_left hm _) hl;have run:=tU (Rx:=λ_ _=>False) aR hc (λv s f=>(hx v s f).elim) (LP it) hT hIf hA T (λJ' _=>aP J1 J') wk (λ_ _ _ h=>h) I1 st1 f1 (x2.trans e1) (sr.ext e1) no (aR.ext ac e1) hb w1;have run':Mb (KS X.prog X.w) X.A (.compLoop e 1 (.ref it) acc X.env) (λr s'=>match r with | .ok f=>KH (KS X.prog X.w) X.A (pure ()) (λ_ s'=>∃σ' H' J' r,Inv X JW σ' H' s'/\Ext J2 H2 J' H'/\aP J J'/\SR c J' H' σ' r.2/\sd r.2 σ' p/\Acc J' H' (ys++r.1)/\r.1.length<=1000 * N/\Qf r) X.xe s' | .error e=>cameBackBy (KS X.prog X.w) X.A X.env X.xe e s') s2:=Nh run λr s' h=>by
  cases r with
  | error x=>exact h.elim
  | ok f=>
  obtain ⟨_,σ',H',J',r',q1,q2,q3,q4,q5,q6,q7,q8⟩:=h;exact Kf ⟨σ',H',J',r',q1,q2,e1.j.trans q3,q4,q5,q6,Lg q7 hm,q8⟩
 exact Kd (wpAny_runOwn (h:=none) (start it _ _ run' (T.self _ 0 _ _ _ st1 run')))
end
noncomputable def fN (ge:G R):Ev->M (List D×Ev):=λe=>ge e >>= λr=>toD r >>= λy=>.ok ([y],e)
noncomputable def wM (c:C) (p:KJ):Hp->Hp->List D->Prop:=λJ H ys=>∃us,H p=some (.lst us)/\J p=none/\aN c.K J ys us
theorem nD:rY (wM c p):=⟨fun {J H J' H' ys} ⟨us,h1,h2,h3⟩ e=>⟨us,e.h _ _ h1,e.frz _ (by rw [h1];intro z;cases z) h2,h3.mono e.j⟩⟩
section
variable {X:Cx}{c:C}{p:KJ}{J2 H2:Hp}{elt:K8}{ge:G R}
theorem vm (hp2:H2 p=none) (hp0:c.H0 p=none) (hE:PD X c elt ge):pL X c p (wM c p) J2 H2 1 (do let _ <-call (.builtin "list.append") [.ref p,<-eval elt X.env]) (fN ge):=by
 intro JW s σ H J env ys Qf I x2 sr no ⟨us,h1,h2,h3⟩ hl w;have hlen:ys.length=us.length:=h3.length;refine Kd (Lq (hE _ s σ H (λv H8=>∃J8 y,Ext J H J8 H8/\Rep c.K J8 y v/\Qf ([y],env)) I ⟨J,env,sr,az (aD w) λr wr v J8 H8 e8 r8=>?_⟩) (λu8 s8 ⟨v8,H8,I8,r8,J8,y,e8,ry,w8⟩=>?_) λv s f=>f)
 ·obtain ⟨y,q,wr⟩:=mQ wr;obtain ⟨J9,e9,_,ry⟩:=freeze e8 r8 q;exact ⟨J9,y,e9,ry,wr⟩
 have p8:H8 p=some (.lst us):=e8.h _ _ h1;have J8p:J8 p=none:=e8.frz _ (by rw [h1];intro z;cases z) h2;refine Kd (Lq (qG (X:=X) _ s8 σ H8 (.ref p) [v8] (.ref p) [u8] (λ_ H9=>H9=L2.upd H8 p (.lst (us++[v8]))) I8 rfl (.cons r8 .nil) ⟨_,us,v8,rfl,rfl,p8,by omega,rfl⟩) (λ_ s9 ⟨_,H9,I9,_,h9⟩=>?_) λv s f=>f);subst h9;exact Kf ⟨σ,_,J8,([y],env),I9,(x2.trans e8).other hp2 J8p,e8.j,(sr.ext e8).other J8p hp0 no,no,⟨us++[v8],cj,J8p,(h3.mono e8.j).append (.cons ry .nil)⟩,Kr _,w8⟩
end
noncomputable def gk {ρ:Type}(lim n:Nat) (cap:List Nat) (gi:G (List D)) (gt:GT) (gts:G Bool) (act:Ev->M (List D×Ev)) (fin:List D->M ρ):G ρ:=λenv=>gi env >>= λds=>if ds.length<=lim then bC gt gts act ds (cE n cap env) >>= λr=>fin r.1 else .bad
section
variable {X:Cx}{c:C}
structure u6 (X:Cx) (JV:M5) (cap:List Nat) (J6:K8):Prop where
 hk:JV.kind=.function
 hno:Bk X cap JV=true
 hnames:(JV.names.all λx=>!(x.2 == .local) || (JV.names.lookup x.1 == some .local))=true
 hcl:(ef X.env.cells JV.names []).isSome=true
 hcap:mj X cap=true
 hloc:yC X cap JV=true
 hnd:tZ cap=true
 hcalm:X.calm=true
 hs:∀x,LL J6 X.env x=pure x
theorem Bl {JV:M5}(hcl:(ef X.env.cells JV.names []).isSome=true) (hk:JV.kind=.function:=by rfl) (hno:Bk X cap JV=true:=by rfl) (hnames:(JV.names.all λx=>!(x.2 == .local) || (JV.names.lookup x.1 == some .local))=true:=by rfl)
 (hcap:mj X cap=true:=by rfl) (hloc:yC X cap JV=true:=by rfl) (hnd:tZ cap=true:=by rfl) (hcalm:X.calm=true:=by rfl) (hs:∀x,LL J6 X.env x=pure x:=by intro _;rfl):u6 X JV cap J6:=⟨hk,hno,hnames,hcl,hcap,hloc,hnd,hcalm,hs⟩
noncomputable def GA {ρ:Type}(c:C) (rr:Hp->Hp->Hp->ρ->V->Prop) (g:G ρ):TE:=λσ H Q=>∃J env,SR c J H σ env/\cA (g env) (λr=>∀v J' H',Ext J H J' H'->rr H J' H' r v->Q v H') c.T
noncomputable def wA {ρ:Type}(X:Cx) (c:C) (rr:Hp->Hp->Hp->ρ->V->Prop) (cm:Option (Kg->Sem Unit)->Sem Kg) (g:G ρ):Prop:=
 ∀{JW:List (KJ×Obj)}{s:Kh}{σ:L2.St}{H:Hp}{Q:VK}{use:Option (Kg->Sem Unit)}{Q0:Kg->Kh->Prop},Inv X JW σ H s->GA c rr g σ H Q->
  (∀(acc C:KJ) (m:Str->Option Kg) (s':Kh) (H':Hp) (fl:Flow),s'.heap.Ns C m->((C∈X.ex\/X.s₀.heap.objs.size<=C)/\C≠X.env.locals/\(∀x c,X.env.cells.lookup x=some c->c≠C)/\∀p∈X.pn++JW,p.1≠C)->H' C=none->(∀h'',Mp C s'.heap h''->Inv X JW σ H' {s' with heap:=h''})->Q (.ref acc) H'->compPost (KS X.prog X.w) X.A X.xe use Q0 (.ref acc) C (.ok fl) s')->
  KH (KS X.prog X.w) X.A (cm use) Q0 X.xe s
noncomputable abbrev Du (X:Cx) (c:C) (cm:Option (Kg->Sem Unit)->Sem Kg) (g:G R):Prop:=wA X c (RR c) cm g
noncomputable abbrev vB (X:Cx) (own:List Str) (cap:List Nat) (JV:M5) (cl:List (Str×KJ)) (C:KJ) (s:Kh) (H:Hp) (fp:List KJ) (xe:Kg->Kh->Prop):Cx:={cR X own cap JV cl C s H fp with xe:=xe}
noncomputable def DJ (X:Cx) (own:List Str) (cap:List Nat) (JV:M5) (xc:List (Str×KJ)->KJ->Kh->Hp->List KJ->Kg->Kh->Prop):Prop:=
 ∀(cl:List (Str×KJ)) (C:KJ) (s:Kh) (H:Hp) (fp:List KJ) (JW:List (KJ×Obj)) (σ:L2.St) (H2:Hp) (s2:Kh),Inv X JW σ H2 s2->s2.heap.objs.size<=s.heap.objs.size->(∀pi σ' H' s1 h'',Inv (cR X own cap JV cl C s H fp) pi σ' H' s1->Mp C s1.heap h''->Inv X JW σ H' {s1 with heap:=h''})->
  ∀v s',xc cl C s H fp v s'->S_ (KS X.prog X.w) X.A (cR X own cap JV cl C s H fp).env (λx s3=>∃m,s3.heap.Ns C m/\∀h',Mp C s3.heap h'->∀cenv:Env,cenv.locals=C->KH (KS X.prog X.w) X.A (passOn "comprehension.variables-let-go" x cenv:Sem Kg) (λ_ _=>False) X.xe {s3 with heap:=h'}) v s'
noncomputable abbrev HE:List (Str×KJ)->KJ->Kh->Hp->List KJ->Kg->Kh->Prop:=λ_ _ _ _ _ _ _=>False
theorem pI {own:List Str}{cap:List Nat}{JV:M5}:DJ X own cap JV HE:=λ_ _ _ _ _ _ _ _ _ _ _ _ _ _ f=>f.elim
theorem jW {ρ:Type}{rr:Hp->Hp->Hp->ρ->V->Prop}(own:List Str) (cap:List Nat){xc:List (Str×KJ)->KJ->Kh->Hp->List KJ->Kg->Kh->Prop}{e JZ J6:K8}{ifs:List K8}{gs:List Np}{JV:M5}{gi:G (List D)}{gt:GT}{gts:G Bool}{act:Ev->M (List D×Ev)}{fin:List D->M ρ}{newAcc:Sem Kg}{ob:Obj}{o0:KJ->HO}{Acc:KJ->Hp->Hp->Hp->List D->Prop}{N lim:Nat}{m:KJ->Env->Sem Unit}
  (hcls:clausesOf e=⟨JZ,J6,ifs,0⟩::gs) (hi:Gu X c JZ J6 gi)
  (hnew:∀(s:Kh) (Q:Kg->Kh->Prop) (E:Kg->Kh->Prop),Q (.ref s.heap.objs.size) {s with heap:=s.heap.push ob}->KH (KS X.prog X.w) X.A newAcc Q E s)
  (hob:∀(h:L7) (H:Hp),cX X.prog X.w H (h.push ob) h.objs.size (o0 h.objs.size))
  (aR:∀p H2,rY (Acc p H2)) (a0:∀(p:KJ) (H2 J H:Hp),MT < p->H p=some (o0 p)->J p=none->Acc p H2 J H [])
  (hN:lim * N<=sizeLine) (LP:∀(it p:KJ) (env:Env),nY X.prog X.w X.A e 0 (.ref it) (.ref p) env JZ ifs (m p env))
  (start:∀(it:KJ) (acc:Kg) (env:Env) (R:Q5->Kh->Prop) (s:Kh),Mb (KS X.prog X.w) X.A (.compLoop e 0 (.ref it) acc env) R s->KH (KS X.prog X.w) X.A (OE (.ref it)) (λit' s'=>Mb (KS X.prog X.w) X.A (.compLoop e 0 it' acc env) R s') (S_ (KS X.prog X.w) X.A env λx s'=>R (.error x) s') s->Mb (KS X.prog X.w) X.A (.compStart e 0 (.ref it) acc env) R s)
  (nofin:∀ys z,fin ys≠.exc z) (hend:∀{p:KJ}{H2 J H J' H':Hp}{ys:List D}{r:ρ},H p=none->aP H H2->Ext J H J' H'->Acc p H2 J' H' ys->fin ys=.ok r->∃J'',Ext J H J'' H'/\rr H J'' H' r (.ref p))
  (hbody:∀(cl:List (Str×KJ)) (C:KJ) (s:Kh) (H:Hp) (fp:List KJ),ef X.env.cells JV.names []=some cl->yf (vB X own cap JV cl C s H fp (xc cl C s H fp)) c JZ gt/\wK (vB X own cap JV cl C s H fp (xc cl C s H fp)) c ifs gts/\∀(p:KJ) (J2 H2:Hp),H2 p=none->c.H0 p=none->pL (vB X own cap JV cl C s H fp (xc cl C s H fp)) c p (Acc p H2) J2 H2 N (m p (cR X own cap JV cl C s H fp).env) act)
  (hxc:DJ X own cap JV xc) (a:u6 X JV cap J6){pos':Pos}:wA X c rr (λuse=>comprehension e JV X.env pos' newAcc false (eval J6 X.env) use) (gk lim own.length cap gi gt gts act fin):=by
 obtain ⟨hk,hno,hnames,hcl,hcap,hloc,hnd,hcalm,hs⟩:=a;intro JW s σ H Q use Q0 I h Jb;obtain ⟨J,env,sr,w⟩:=h;obtain ⟨cl,hcl⟩:=L8.mp hcl;have Jg:∀j∈cap,∀x,X.N[j]?=some x->c8 JV.names x=false:=λj hj x hx=>by have:=LG.mp hno j hj;rw [hx] at this;simpa using this
 have IE:∀x∈JV.names,x.2=.local->JV.names.lookup x.1=some .local:=λy hy z=>by have:=LG.mp hnames y hy;rw [z] at this;simpa using this
 have IU:∀j∈cap,∀x,X.N[j]?=some x->(relabel JV X.env).names.lookup x≠some .local:=λj hj x hx z=>by have:=LG.mp hloc j hj;rw [hx] at this;simp only at this;rw [z] at this;cases this
 refine wpAny_comprehension_free (use:=use) hcls hs (rJ hcl) hk IE ?_;refine bF (hi JW s σ H (λIt H1=>∃ds J1,Ext J H J1 H1/\Walk c It ds J1 (λJ' H'=>aP J1 J'/\aP H1 H')/\
  cA (if ds.length<=lim then bC gt gts act ds (cE own.length cap env) >>= λr=>fin r.1 else .bad) (λr=>∀v J' H',Ext J H J' H'->rr H J' H' r v->Q v H') c.T) I ⟨J,env,sr,az (aD w) λds wd It J1 H1 e1 wk=>⟨ds,J1,e1,wk,wd⟩⟩) λxv s1 h1=>bF h1 λitv s2 h2=>?_
 obtain ⟨it,fp,tn,It,H2,rfl,I2,T,st2,f2,ds,J2,e2,wk,w2⟩:=h2;have hsz:ds.length<=lim:=by
  by_cases z:ds.length<=lim
  ·exact z
  ·rw [if_neg z] at w2;exact w2.elim
 rw [if_pos hsz] at w2;have w3:=aD w2;refine hnew s2 _ _ (xH ?_);dsimp only;generalize IZ:s2.heap.push ob=Hs;have hC:Hs.objs.size=s2.heap.objs.size + 1:=by rw [<-IZ,Ma]
 have hp2:H2 s2.heap.objs.size=none:=I2.hok.fresh (Kr _);have kHs:∀b o,s2.heap.get? b=some o->Hs.get? b=some o:=λb o e=>by rw [<-IZ];exact Kl _ e
 have I3:Inv X JW σ (L2.upd H2 s2.heap.objs.size (o0 s2.heap.objs.size)) {s2 with heap:=Hs,toks:=s2.toks}:=I2.laid (t':=s2.toks) kHs (Kr _) (by rw [<-IZ];exact hob _ _);have f3:∀b∈fp,ie X JW (L2.upd H2 s2.heap.objs.size (o0 s2.heap.objs.size)) b:=λb hb=>by obtain ⟨o,ho,_⟩:=T.obj _ _ st2 b hb;exact ⟨by rw [a_ (KI (Kz ho))];exact (f2 b hb).1,(f2 b hb).2⟩
 have hin:∀b∈fp,b < Hs.objs.size:=λb hb=>by obtain ⟨o,ho,_⟩:=T.obj _ _ st2 b hb;exact LS (Kz ho) (by rw [hC];exact LI _)
 obtain ⟨h₁,eh₁⟩:∃h₁,h₁=Sa (Hs.push {cls:=.type "dict",data:=.dict #[]}) JV.names:=⟨_,rfl⟩;rw [<-eh₁];have hns₁:h₁.Ns Hs.objs.size (λ_=>none):=by rw [eh₁];exact Ez Hs JV.names
 have ck:Uc h₁ (Hs.objs.size + 1) (LA (Hs.objs.size + 1) JV.names []):=by rw [eh₁];exact yD Hs JV.names
 have okC:=B3 (own:=own) (cap:=cap) I3 hk hcl ck f3 hin;have old1:∀b o,Hs.get? b=some o->h₁.get? b=some o:=λb o e=>by rw [eh₁];exact Sd _ _ _ _ (Kl _ e)
 have I4:=Af (tk:=s2.toks) I3 okC hcl ck hcap IU Jg hns₁ old1;have sr2:=sr.ext e2;have srA:SR c J2 (L2.upd H2 s2.heap.objs.size (o0 s2.heap.objs.size)) σ env:=sr2.ext (Ext.new e2.sub hp2 _);have J2p:J2 s2.heap.objs.size=none:=e2.sub.free hp2;have H0p:c.H0 s2.heap.objs.size=none:=sr2.hp.ent.free hp2;have nown:∀(j:Nat) (xs:Mn),(cE own.length cap env)[j]?=some (some (mS xs))->(K6 own.length none++cap.map λ(j:Nat)=>(σ[j]?).getD none)[j]?≠some (some (.ref s2.heap.objs.size)):=λj xs q z=>by obtain ⟨a,h1,h2,h3⟩:=gq q;obtain ⟨a',h4,h5,h6⟩:=gq z;rw [h2] at h5;cases h5;obtain ⟨p,k1,k2,_⟩:=sr2.mine h3;rw [h6] at k1;cases k1;exact k2 hp2
 obtain ⟨hT,hIf,hE⟩:=hbody cl Hs.objs.size {s2 with heap:=Hs,toks:=s2.toks} (L2.upd H2 s2.heap.objs.size (o0 s2.heap.objs.size)) fp hcl;have fpC:∀{H':Hp},(∀b∈fp,H' b=none)->∀b∈fp,ie (cR X own cap JV cl Hs.objs.size {s2 with heap:=Hs,toks:=s2.toks} (L2.upd H2 s2.heap.objs.size (o0 s2.heap.objs.size)) fp) [] H' b:=fun {H'} hn b hb=>by
  obtain ⟨m1,_⟩:=gw JV.names [] cl hcl (λx c h=>by simp at h);refine ⟨hn b hb,KI (hin b hb),λz=>?_,.inl hb,λx d h=>(fc h).elim (λh=>Mq (KP (hin b hb) (M0 (ck.empty _ _ (NZ h)).2))) (λh=>(f2 b hb).2.2.2.2.1 x d (m1 x d h.2)),λp hp=>absurd (show p∈([]:List (KJ×Obj)) from hp) (by simp)⟩;rcases KA.mp (I2.stkSub b z) with e | e
  ·exact (f2 b hb).2.1 e
  ·exact (f2 b hb).2.2.1 e
 have back:∀{pi:List (KJ×Obj)}{σ':L2.St}{H':Hp}{s':Kh}{h'':L7},Inv (cR X own cap JV cl Hs.objs.size {s2 with heap:=Hs,toks:=s2.toks} (L2.upd H2 s2.heap.objs.size (o0 s2.heap.objs.size)) fp) pi σ' H' s'->Mp Hs.objs.size s'.heap h''->Inv X JW σ H' {s' with heap:=h''}:=fun {pi σ' H' s' h''} I' sb=>by
  have B:Un (frs X.stack) fp (L2.upd H2 s2.heap.objs.size (o0 s2.heap.objs.size)) H' Hs s'.heap:=I'.base;have ne2:∀{b:KJ}{o:Obj},s2.heap.get? b=some o->b≠s2.heap.objs.size/\b≠Hs.objs.size:=fun {b o} e=>
   ⟨KI (Kz e),KI (LS (Kz e) (by rw [hC];exact LI _))⟩
  have nH:∀{b:KJ}{o:HO},H2 b=some o->L2.upd H2 s2.heap.objs.size (o0 s2.heap.objs.size) b=some o:=fun {b o} e=>by rw [a_ (ez e hp2)];exact e
  refine Inv.call' (ch:=fp) (s':={s' with heap:=h''}) I2 I'.os ⟨λb o e n hf hx=>?_,λb o e n hf hx=>?_,λb o e n hx=>?_,λb o e hx=>?_,λb xs e=>B.tups b xs (nH e),λb o u e=>B.frzs b o u (nH e),λb ps e=>B.tbls b ps (nH e)⟩ (uW I'.hok I'.free sb) I'.bare λb hb=>⟨(f2 b hb).2.2.2.1,(f2 b hb).2.1,(f2 b hb).2.2.2.2.1,(f2 b hb).2.2.2.2.2⟩
  ·exact (sb.2 b (ne2 e).2).trans (B.keep b o (kHs b o e) (by rw [a_ (ne2 e).1];exact n) hf hx)
  ·obtain ⟨sl,z⟩:=B.slot b o (kHs b o e) (by rw [a_ (ne2 e).1];exact n) hf hx;exact ⟨sl,(sb.2 b (ne2 e).2).trans z⟩
  ·exact B.free b o (kHs b o e) (by rw [a_ (ne2 e).1];exact n) hx
  ·obtain ⟨o',z⟩:=B.there b o (kHs b o e) hx;exact ⟨o',(sb.2 b (ne2 e).2).trans z⟩
 have out:∀{pi:List (KJ×Obj)}{σ':L2.St}{H':Hp}{s':Kh}{xe:Kg->Kh->Prop},Inv (vB X own cap JV cl Hs.objs.size {s2 with heap:=Hs,toks:=s2.toks} (L2.upd H2 s2.heap.objs.size (o0 s2.heap.objs.size)) fp xe) pi σ' H' s'->Inv (cR X own cap JV cl Hs.objs.size {s2 with heap:=Hs,toks:=s2.toks} (L2.upd H2 s2.heap.objs.size (o0 s2.heap.objs.size)) fp) pi σ' H' s':=λI=>⟨okC,I.os,I.bare,I.base,I.loc,I.cell,I.free,I.freeC,I.pin,I.hok,I.len⟩;have o:=okC;have okE:∀xe,(vB X own cap JV cl Hs.objs.size {s2 with heap:=Hs,toks:=s2.toks} (L2.upd H2 s2.heap.objs.size (o0 s2.heap.objs.size)) fp xe).Ok:=λxe=>⟨o.mod,o.kind,o.glob,o.blt,o.above,o.inj,o.has,o.cab,o.hd,o.frames,o.stk,o.exf,o.bs,o.bsz,o.noex,o.exfs,o.funs,o.frf⟩;have run:=λ(s4:Kh) (I4:Inv (cR X own cap JV cl Hs.objs.size {s2 with heap:=Hs,toks:=s2.toks} (L2.upd H2 s2.heap.objs.size (o0 s2.heap.objs.size)) fp) [] _ _ s4) (st4:tn 0 s4.heap)=>tU (X:=vB X own cap JV cl Hs.objs.size {s2 with heap:=Hs,toks:=s2.toks} (L2.upd H2 s2.heap.objs.size (o0 s2.heap.objs.size)) fp (xc cl Hs.objs.size {s2 with heap:=Hs,toks:=s2.toks} (L2.upd H2 s2.heap.objs.size (o0 s2.heap.objs.size)) fp)) (e:=e) (depth:=0) (acc:=.ref s2.heap.objs.size) (aR _ _) hcalm (hxc cl Hs.objs.size {s2 with heap:=Hs,toks:=s2.toks} (L2.upd H2 s2.heap.objs.size (o0 s2.heap.objs.size)) fp JW σ H2 s2 I2 (Lg (MP _) (Tq hC.symm)) λ_ _ _ _ _ I' sb=>back I' sb) (LP it _ _) hT hIf (hE s2.heap.objs.size J2 H2 hp2 H0p) T (λJ' H'=>aP J2 J'/\aP H2 H') wk (λJ' H' x _=>⟨x.j,x.h⟩) ⟨okE _,I4.os,I4.bare,I4.base,I4.loc,I4.cell,I4.free,I4.freeC,I4.pin,I4.hok,I4.len⟩ st4 (fpC λb hb=>(f3 b hb).1) (Ext.new e2.sub hp2 _) (srA.cap own.length cap (vP hnd)) nown (a0 _ _ _ _ (DQ I2) cj J2p) (Lg (by rw [List.length_nil,Qm];exact Ow N hsz) hN) w3;have st4:=T.keep _ _ _ st2 (λb hb o e=>old1 b o (kHs b o e));have go:=Nh (run _ I4 st4) (R':=compPost (KS X.prog X.w) X.A X.xe use Q0 (.ref s2.heap.objs.size) Hs.objs.size) λr s' h=>by
  cases r with
  | error x=>cases use <;> exact h
  | ok f=>
  obtain ⟨_,σ',H',J',r',I9,x9,j9,sr9,no9,ac9,l9,w9⟩:=h;obtain ⟨mm,hm,_⟩:=I9.loc;refine Jb s2.heap.objs.size Hs.objs.size mm _ H' _ hm (DP I2 (by rw [hC];exact MP _)) I9.free (λh'' sb=>back (out I9) sb) ?_;cases q:fin r'.1 with
  | bad=>rw [q] at w9;exact w9.elim
  | exc z=>rw [q] at w9;exact (nofin _ z q).elim
  | ok z=>
   rw [q] at w9;obtain ⟨J9,x10,rr⟩:=hend (e2.h.free hp2) e2.h (e2.trans x9) ac9 q;exact w9 _ J9 H' x10 rr
 exact start it _ _ _ _ go (T.self _ 0 _ _ _ st4 go)
noncomputable def rO (X:Cx) (c:C) (e:K8) (g:G R):Prop:=∃cm,Du X c cm g/\eval e X.env=cm none/\∀use,evalThenUse e X.env use=(do let _ <-cm (some use))
theorem dS {g:G R}(h:rO X c e g):QD X c e g:=by obtain ⟨cm,core,hev,_⟩:=h;refine ⟨λJW s σ H Q I h=>?_⟩;rw [hev];exact core I h λacc C m s' H' fl hm hz hf hb q=>⟨m,hm,λh'' sb=>⟨.ref acc,H',hb h'' sb,rfl,q⟩⟩
theorem vW (i:Nat){g:G R}{pos' pos2:Pos}(hN:X.N.Nodup) (h:rO X c e g) (hx:X.N[i]?=some x:=by rfl) (Ju:X.env.scope.names.lookup x=some .local:=by rfl)
 (hsw:O_ e (some (.Name x pos')) pos2.line X.env=pure true:=by rfl):jd X c (.Assign [.Name x pos'] e pos2) (aU i g):=by
 obtain ⟨cm,core,_,Ja⟩:=h;refine ⟨λJW s σ H D I ⟨J,env,sr,w⟩=>?_⟩;rw [arm_exec_Assign];refine Kd (M8 ?_);rw [show Q4 [.Name x pos'] e pos2.line X.env=pure true from hsw];refine Kd (Kf ?_);rw [if_pos rfl,Ja];refine Kd (Kd (core (Q:=λv H1=>∃J1 r xx,Ext J H J1 H1/\RR c H J1 H1 r v/\toS r=.ok xx/\oP c J D (.nx (env.set i (some xx)))) I ⟨J,env,sr,az (aD w) λr wr v J1 H1 e1 r1=>?_⟩ λacc C m s' H' fl hm ap hf hb ⟨J1,r,xx,e1,r1,q1,w1⟩=>?_))
 ·obtain ⟨xx,q,wr⟩:=wm wr;exact ⟨J1,r,xx,e1,r1,q,wr⟩
 ·have I1:L2.Inv X JW σ H' s':=hb s'.heap (RC ..);show KH _ _ (do Ng pos';bindName X.env x (.ref acc)) _ _ _;refine Kd (M8 (wpAny_bindName ?_));refine qW I1 hN hx (.inl Ju) (v:=.ref acc) (u:=.ref acc) rfl (λs2 I2 ⟨a,sb,ha⟩=>?_) (.inr Ju);have hac:C≠a:=λz=>by
   rcases ha with e | e
   ·exact ap.2.1 (z.trans e)
   ·exact ap.2.2.1 _ _ e z.symm
  refine ⟨m,hm.sameBut sb hac,λh2 sb2=>?_⟩;refine Kf (Kf ⟨σ.set i (some (.ref acc)),H',zk I2 ap hf sb2 (o0:=default),?_⟩);exact w1 _ J1 H' e1.j (sr.set e1 r1 q1)
end
noncomputable def oG (n:Nat) (cap:List Nat) (gi0:G (List D)) (gt0:GT) (gts0:G Bool) (gi1:G (List D)) (gt1:GT) (gts1:G Bool) (ge:G R):G R:=gk 10000 n cap gi0 gt0 gts0 (gg gi1 gt1 gts1 (fN ge)) (λys=>.ok (.l .fresh ys))
theorem Dk (elt t0 i0 t1 i1:K8) (f0 f1:List K8) (JV:M5) (pos:Pos) (it acc:Kg) (env:Env):
  Oj (.ListComp elt [⟨t0,i0,f0,0⟩,⟨t1,i1,f1,0⟩] JV pos) 0 it acc env=(do
   Ng i0.pos
   match <-NI it with
   | none=>pure (.done .next)
   | some v=>
    MA t0 it v
    assign t0 env v
    let mut ok:=true
    for c in f0 do
     if ok then ok <-QL c env (eval c env)
    if ok then
     let x <-eval i1 env
     Ng i1.pos
     let x <-LL i1 env x
     let _ <-runOwn (.compStart (.ListComp elt [⟨t0,i0,f0,0⟩,⟨t1,i1,f1,0⟩] JV pos) 1 (<-holding [x] (OE x)) acc env) env
    again (.compLoop (.ListComp elt [⟨t0,i0,f0,0⟩,⟨t1,i1,f1,0⟩] JV pos) 0 it acc env)):=by rfl
theorem Fq (elt t0 i0 t1 i1:K8) (f0 f1:List K8) (JV:M5) (pos:Pos) (it acc:Kg) (env:Env):
  Oj (.ListComp elt [⟨t0,i0,f0,0⟩,⟨t1,i1,f1,0⟩] JV pos) 0 it acc env=jm t0 i0 f0 it env (nI (.ListComp elt [⟨t0,i0,f0,0⟩,⟨t1,i1,f1,0⟩] JV pos) i1 acc env) (again (.compLoop (.ListComp elt [⟨t0,i0,f0,0⟩,⟨t1,i1,f1,0⟩] JV pos) 0 it acc env)):=by
 rw [Dk];refine bind_congr λ_=>bind_congr λr=>?_;cases r with
 | none=>rfl
 | some v=>
  refine bind_congr λ_=>bind_congr λ_=>bind_congr λok=>?_;cases ok with
  | false=>rfl
  | true=>simp only [nI,bind_assoc,pure_bind,if_true]
theorem Ft (elt t0 i0 t1 i1:K8) (f0 f1:List K8) (JV:M5) (pos:Pos) (it acc:Kg) (env:Env):
  Oj (.ListComp elt [⟨t0,i0,f0,0⟩,⟨t1,i1,f1,0⟩] JV pos) 1 it acc env=jm t1 i1 f1 it env (do let _ <-call (.builtin "list.append") [acc,<-eval elt env]) (again (.compLoop (.ListComp elt [⟨t0,i0,f0,0⟩,⟨t1,i1,f1,0⟩] JV pos) 1 it acc env)):=by rfl
section
variable {X:Cx}{c:C}
theorem GK (own:List Str) (cap:List Nat){JV:M5}{pos:Pos}{gi0 gi1:G (List D)}{gts0 gts1:G Bool}{ge:G R}(hi:vf X c t0 i0 gi0)
 (hbody:∀(cl:List (Str×KJ)) (C:KJ) (s:Kh) (H:Hp) (fp:List KJ),ef X.env.cells JV.names []=some cl->k9 (cR X own cap JV cl C s H fp) c t0 gt0/\k8 (cR X own cap JV cl C s H fp) c f0 gts0/\sq (cR X own cap JV cl C s H fp) c t1 i1 gi1/\k9 (cR X own cap JV cl C s H fp) c t1 gt1/\k8 (cR X own cap JV cl C s H fp) c f1 gts1/\QD (cR X own cap JV cl C s H fp) c elt ge)
 (a:u6 X JV cap i0:=by exact Bl rfl) (hs1:∀(en:Env) x,LL i1 en x=pure x:=by intro _ _;rfl):rO X c (.ListComp elt [⟨t0,i0,f0,0⟩,⟨t1,i1,f1,0⟩] JV pos) (oG own.length cap gi0 gt0 gts0 gi1 gt1 gts1 ge):=by
 refine ⟨_,?_,rfl,λ_=>rfl⟩;refine jW (e:=.ListComp elt [⟨t0,i0,f0,0⟩,⟨t1,i1,f1,0⟩] JV pos) (ob:={cls:=.type "list",dict:=none,data:=.seq ([]:List Kg).toArray}) (o0:=λ_=>.lst []) (Acc:=λp _=>wM c p) (N:=1000 * 1) (lim:=10000) (m:=λp env=>nI (.ListComp elt [⟨t0,i0,f0,0⟩,⟨t1,i1,f1,0⟩] JV pos) i1 (.ref p) env) own cap rfl hi.h
  (λs Q E q=>KZ q) (λh H=>⟨K1 _,[],0,.nil,Kn _ rfl⟩) (λp _=>nD) (λp _ J H _ h1 h2=>⟨[],h1,h2,.nil⟩) (by decide) (λit p env=>xD (Fq ..)) (λit acc env R s h0 h=>PU h0 h) (λys z q=>by cases q)
  (fun {p H2 J H J' H' ys r} hp _ e ⟨us,h1,h2,h3⟩ q=>by cases q;exact ⟨J',e,⟨p,us,rfl,h1,h2,hp,h3⟩⟩) (λcl C s H fp hcc=>?_) pI a
 obtain ⟨b1,b2,b3,b4,b5,b6⟩:=hbody cl C s H fp hcc;exact ⟨b1.h,b2.h,λp J2 H2 hp2 hp0=>vn nD a.hcalm (λ_ _ f=>f) (λx=>hs1 _ x) (λit R s h0 h=>Fg h0 h) (λit=>xD (Ft ..)) b3.h b4.h b5.h (vm hp2 hp0 b6.h)⟩
end
end DL
namespace DL
open PySem PySem.Spec PyProof.Rows L2
open PySem.W (KasT kas_sort kas_asc kas_desc kas_rev kas_tail3 kas_descPart kas_count kas_place kas_bin)
end DL
namespace DL
open PySem PySem.Spec PyProof.Rows L2
open PySem.W (kas_sort)
variable {P R:D->Prop}
inductive Fm where
 | b | i | s | JU (t:Fm) | tn | tc (x r:Fm)
end DL
namespace ST
open PySem PySem.SetTable
theorem pW (xs:Array Nat) (j:Nat) (hs:xs.toList.Pairwise (· < ·)):∀(f lo hi:Nat),hi<=xs.size->lo<=hi->hi - lo<=f->(∀i,i < lo->xs.getD i 0 < j)->(∀i,hi<=i->i < xs.size->j<=xs.getD i 0)->
  below.go xs j f lo hi<=xs.size/\(∀i,i < below.go xs j f lo hi->xs.getD i 0 < j)/\∀i,below.go xs j f lo hi<=i->i < xs.size->j<=xs.getD i 0
 | 0,lo,hi,h1,h2,h3,h4,h5=>by
  have:lo=hi:=by omega
  subst this;exact ⟨h1,h4,h5⟩
 | f + 1,lo,hi,h1,h2,h3,h4,h5=>by
  have mono:∀a b,a<=b->b < xs.size->xs.getD a 0<=xs.getD b 0:=λa b hab hb=>by
   rcases Rm hab with h | h
   ·have:=Nx.mp hs a b (by simpa using LS h hb) (by simpa using hb) h;simp [Mx,LS h hb,hb] at this ⊢;omega
   ·rw [h];exact Kr _
  unfold below.go;by_cases c:lo < hi
  ·rw [if_pos c];have hm:(lo + hi) / 2 < xs.size:=by omega
   have e:xs.getD ((lo + hi) / 2) j=xs.getD ((lo + hi) / 2) 0:=by simp [Mx,hm]
   by_cases d:xs.getD ((lo + hi) / 2) j < j
   ·simp only [d,if_true];rw [e] at d;exact pW xs j hs f _ hi h1 (by omega) (by omega) (λi hi'=>N2 (mono i ((lo + hi) / 2) (by omega) hm) d) h5
   ·simp only [d,if_false];rw [e] at d;exact pW xs j hs f lo _ (by omega) (by omega) (by omega) h4 (λi hi' hs'=>Lg (by omega) (mono ((lo + hi) / 2) i hi' hs'))
  ·rw [if_neg c];have:lo=hi:=by omega
   subst this;exact ⟨h1,h4,h5⟩
theorem jU (xs:Array Nat) (j:Nat) (hs:xs.toList.Pairwise (· < ·)):below xs j<=xs.size/\(∀i,i < below xs j->xs.getD i 0 < j)/\∀i,below xs j<=i->i < xs.size->j<=xs.getD i 0:=
 pW xs j hs xs.size 0 xs.size (Kr _) (K1 _) (by omega) (λi h=>absurd h (Mt _)) (λi h1 h2=>by omega)
theorem below_at {xs:Array Nat}(hs:xs.toList.Pairwise (· < ·)) (h:xs[i]?=some j):below xs j=i:=by
 obtain ⟨hi,e⟩:=Lx.mp h;obtain ⟨b1,b2,b3⟩:=jU xs j hs;have g:xs.getD i 0=j:=by simp [Mx,hi,e]
 rcases RD (below xs j) i with c | c | c
 ·have h1:=b3 (below xs j) (Kr _) (by omega);have:=Nx.mp hs (below xs j) i (by simpa using LS c hi) (by simpa using hi) c;simp [Mx,LS c hi] at h1;simp at this;omega
 ·exact c
 ·have:=b2 i c;omega
theorem zH {t:Lj}(hs:t.place.toList.Pairwise (· < ·)) (h:t.place[i]?=some j):t.slot j=.live i:=by unfold slot;rw [below_at hs h];show (if (t.place[i]? == some j)=true then Slot.live i else _)=_;rw [h];simp
theorem xS {t:Lj}(hd:t.dummies=#[]) (h:j∉t.place.toList):t.slot j=.empty:=by
 unfold slot;have h1:(t.place[below t.place j]? == some j)=false:=by
  rw [beq_eq_false_iff_ne];intro z;exact h (by
   obtain ⟨hi,e⟩:=Lx.mp z;rw [<-e];simp)
 have h2:has t.dummies j=false:=by rw [hd];rfl
 simp only [h1,h2,Lw,if_false]
noncomputable def st (mask:Nat) (h:Int):Nat->Probe
 | 0=>({mask:=mask,place:=#[],dummies:=#[],finger:=0,led:=true,moves:=0,plain:=true}:Lj).probeStart h
 | n + 1=>({mask:=mask,place:=#[],dummies:=#[],finger:=0,led:=true,moves:=0,plain:=true}:Lj).advance (st mask h n)
noncomputable abbrev pos (mask:Nat) (h:Int) (n:Nat):Nat:=(st mask h n).j
theorem nR (mask:Nat) (h:Int):∀n,(st mask h n).dummy=none
 | 0=>rfl
 | n + 1=>by
  unfold st advance;split
  ·exact nR mask h n
  ·exact nR mask h n
noncomputable def tn (mask:Nat) (h:Int):Nat->Nat×Nat
 | 0=>(bits h % (mask + 1),bits h)
 | k + 1=>leap mask (tn mask h k).1 (tn mask h k).2
theorem qP (mask:Nat) (h:Int):∀(m n:Nat) (i p j:Nat),st mask h n={j:=j,more:=m,i:=i,perturb:=p,dummy:=none}->st mask h (n + m)={j:=j + m,more:=0,i:=i,perturb:=p,dummy:=none}
 | 0,n,i,p,j,e=>e
 | m + 1,n,i,p,j,e=>by
  have e1:st mask h (n + 1)={j:=j + 1,more:=m,i:=i,perturb:=p,dummy:=none}:=by show advance _ (st mask h n)=_;rw [e];unfold advance;simp
  have:=qP mask h m (n + 1) i p (j + 1) e1;rw [show n + (m + 1)=n + 1 + m by omega,this];congr 1;omega
theorem wg (mask:Nat) (h:Int):∀k,∃n,n<=10 * k/\st mask h n={j:=(tn mask h k).1,more:=runEnd mask (tn mask h k).1 - (tn mask h k).1,i:=(tn mask h k).1,perturb:=(tn mask h k).2,dummy:=none}
 | 0=>⟨0,Kr _,rfl⟩
 | k + 1=>by
  obtain ⟨n,hn,e⟩:=wg mask h k;have hm:runEnd mask (tn mask h k).1 - (tn mask h k).1<=9:=by unfold runEnd;split <;> omega
  have:=qP mask h _ n _ _ _ e;refine ⟨n + (runEnd mask (tn mask h k).1 - (tn mask h k).1) + 1,by omega,?_⟩;show advance _ (st mask h (n + (runEnd mask (tn mask h k).1 - (tn mask h k).1)))=_;rw [this];unfold advance;simp;exact ⟨rfl,rfl,rfl,rfl⟩
theorem pC (mask:Nat) (h:Int):∀k,(tn mask h k).2=bits h / 32 ^ k
 | 0=>by simp [tn]
 | k + 1=>by show (tn mask h k).2 / 32=_;rw [pC mask h k,PV,TH]
theorem BX (h:Int):bits h < 2 ^ 64:=by unfold bits;have:=MM h (b:=2 ^ 64) (by decide);omega
noncomputable def yZ (mask i:Nat):Nat:=(i * 5 + 1) % (mask + 1)
noncomputable def f6 (mask:Nat):Nat->Nat->Nat
 | 0,i=>i
 | r + 1,i=>yZ mask (f6 mask r i)
theorem uB (mask:Nat) (h:Int):∀r,(tn mask h (12 + r)).1=f6 mask r (tn mask h 12).1
 | 0=>rfl
 | r + 1=>by
  show (leap mask (tn mask h (12 + r)).1 (tn mask h (12 + r)).2).1=yZ mask (f6 mask r (tn mask h 12).1);rw [<-uB mask h r,pC];unfold leap yZ;have:bits h / 32 ^ (12 + r) / 32=0:=by rw [PV,<-TH];refine Nat.div_eq_of_lt (KP (BX h) ?_);refine Lg (show 2 ^ 64<=32 ^ 13 by decide) (Nat.pow_le_pow_right (by decide) (by omega))
  rw [this]
theorem GJ:∀i:Fin 8,∀j:Fin 8,(Ky 8).any (λr=>f6 7 r i.val == j.val)=true:=by decide +kernel
theorem FH:∀i:Fin 32,∀j:Fin 32,(Ky 32).any (λr=>f6 31 r i.val == j.val)=true:=by decide +kernel
noncomputable def DV:List Nat:=(Ky 128).map λr=>f6 127 r 0
theorem vv:∀j:Fin 128,DV.contains j.val=true:=by decide +kernel
theorem B0:f6 127 128 0=0:=by decide +kernel
theorem j_ (mask:Nat):∀a b i,f6 mask (a + b) i=f6 mask a (f6 mask b i)
 | 0,b,i=>by rw [Qm];rfl
 | a + 1,b,i=>by rw [show a + 1 + b=(a + b) + 1 by omega];show yZ mask (f6 mask (a + b) i)=yZ mask (f6 mask a (f6 mask b i));rw [j_ mask a b i]
noncomputable def jz (mask:Nat):Prop:=mask=7\/mask=31\/mask=127
theorem yG {mask:Nat}(hm:jz mask) (i j:Nat) (hi:i<=mask) (hj:j<=mask):∃r,r<=mask/\f6 mask r i=j:=by
 rcases hm with rfl | rfl | rfl
 ·have:=GJ ⟨i,by omega⟩ ⟨j,by omega⟩;rw [Ot] at this;obtain ⟨r,h1,h2⟩:=this;exact ⟨r,by have:=KR.mp h1;omega,by simpa using h2⟩
 ·have:=FH ⟨i,by omega⟩ ⟨j,by omega⟩;rw [Ot] at this;obtain ⟨r,h1,h2⟩:=this;exact ⟨r,by have:=KR.mp h1;omega,by simpa using h2⟩
 ·have hi':=vv ⟨i,by omega⟩;have hj':=vv ⟨j,by omega⟩;rw [List.contains_iff_mem] at hi' hj';obtain ⟨a,ha,ea⟩:=K0.mp hi';obtain ⟨b,hb,eb⟩:=K0.mp hj';have ha:=KR.mp ha;have hb:=KR.mp hb;have ea:f6 127 a 0=i:=ea;have eb:f6 127 b 0=j:=eb;by_cases c:a<=b
  ·refine ⟨b - a,by omega,?_⟩;rw [<-ea,<-j_,show b - a + a=b by omega];exact eb
  ·refine ⟨128 + b - a,by omega,?_⟩;rw [<-ea,<-j_,show 128 + b - a + a=b + 128 by omega,j_,B0];exact eb
theorem xZ (mask:Nat) (h:Int) (k:Nat):(tn mask h k).1<=mask:=by
 cases k with
 | zero=>exact Oa (Pe _ (by omega))
 | succ k=>exact Oa (Pe _ (by omega))
theorem visits {mask:Nat}(hm:jz mask) (h:Int) (j:Nat) (hj:j<=mask):∃n,n<=10 * (mask + 12)/\pos mask h n=j:=by obtain ⟨r,hr,e⟩:=yG hm (tn mask h 12).1 j (xZ mask h 12) hj;obtain ⟨n,hn,q⟩:=wg mask h (12 + r);refine ⟨n,by omega,?_⟩;show (st mask h n).j=j;rw [q];show (tn mask h (12 + r)).1=j;rw [uB,e]
theorem xo {mask:Nat}(hm:jz mask) (h:Int) (P:List Nat) (hP:P.length<=mask):∃n,n<=10 * (mask + 12)/\pos mask h n∉P/\∀m,m < n->pos mask h m∈P:=by
 have ex:∃j,j<=mask/\j∉P:=by
  by_cases c:∀j,j<=mask->j∈P
  ·exfalso;have:(Ky (mask + 1)).length<=P.length:=Mu Ou λj hj=>c j (by have:=KR.mp hj;omega);rw [LB] at this;omega
  ·exact Ml λz=>c λj hj=>Ml λy=>z ⟨j,hj,y⟩
 obtain ⟨j,hj,hn⟩:=ex;obtain ⟨n,hn1,hn2⟩:=visits hm h j hj;have key:∀k,k<=n->(∃m,m<=k/\pos mask h m∉P/\∀m',m' < m->pos mask h m'∈P)\/∀m,m<=k->pos mask h m∈P:=by
  intro k
  induction k with
  | zero=>
   intro _;by_cases c:pos mask h 0∈P
   ·exact .inr λm hm=>by rw [show m=0 by omega];exact c
   ·exact .inl ⟨0,Kr _,c,λm' h'=>absurd h' (Mt _)⟩
  | succ k ih=>
   intro hk;rcases ih (by omega) with ⟨m,h1,h2⟩ | h1
   ·exact .inl ⟨m,by omega,h2⟩
   ·by_cases c:pos mask h (k + 1)∈P
    ·exact .inr λm hm=>by
      by_cases d:m<=k
      ·exact h1 m d
      ·rw [show m=k + 1 by omega];exact c
    ·exact .inl ⟨k + 1,Kr _,c,λm' h'=>h1 m' (by omega)⟩
 rcases key n (Kr _) with ⟨m,h1,h2,h3⟩ | h1
 ·exact ⟨m,by omega,h2,h3⟩
 ·exact absurd (h1 n (Kr _)) (by rw [hn2];exact hn)
noncomputable def Reach (mask:Nat) (P:List Nat) (h:Int) (j:Nat):Prop:=∃n,pos mask h n=j/\∀m,m < n->pos mask h m∈P
theorem Reach.mono {mask:Nat}{P P':List Nat}{h:Int}{j:Nat}(r:Reach mask P h j) (s:∀x∈P,x∈P'):Reach mask P' h j:=
 let ⟨n,h1,h2⟩:=r;⟨n,h1,λm hm=>s _ (h2 m hm)⟩
structure Tab (t:Lj) (es:Array (Int×Kg)) (L:List (Nat×Int×Kg)):Prop where
 dm:t.dummies=#[]
 pl:t.place.toList=L.map (·.1)
 en:es.toList=L.map (·.2)
 so:(L.map (·.1)).Pairwise (· < ·)
 bd:∀e∈L,e.1<=t.mask
 mo:jz t.mask
 fl:L.length<=t.mask
 pr:∀e∈L,Reach t.mask (L.map (·.1)) e.2.1 e.1
section
variable {t:Lj}{es:Array (Int×Kg)}{L:List (Nat×Int×Kg)}
theorem Tab.at_ (T:Tab t es L){i:Nat}{e:Nat×Int×Kg}(h:L[i]?=some e):t.place[i]?=some e.1/\es[i]?=some e.2:=by
 constructor
 ·rw [<-Ni,T.pl,KQ,h];rfl
 ·rw [<-Ni,T.en,KQ,h];rfl
theorem Tab.sop (T:Tab t es L):t.place.toList.Pairwise (· < ·):=by rw [T.pl];exact T.so
theorem kO {α:Type}(xs:Array α) (p:Nat) (x:α) (hp:p<=xs.size):(insertAt xs p x).toList=xs.toList.take p++x::xs.toList.drop p:=by
 unfold insertAt;simp
 (exact PX (by simp))
theorem Tab.put (T:Tab t es L) (h:Int) (x:Kg) (n0:Nat) (hf:pos t.mask h n0∉L.map (·.1)) (hb:∀m,m < n0->pos t.mask h m∈L.map (·.1)) (hj:pos t.mask h n0<=t.mask) (hl:L.length + 1<=t.mask):
  ∃L',Tab (t.put (pos t.mask h n0)).1 (insertAt es (t.put (pos t.mask h n0)).2 (h,x)) L'/\L'.Perm ((pos t.mask h n0,h,x)::L):=by
 obtain ⟨b1,b2,b3⟩:=jU t.place (pos t.mask h n0) T.sop;generalize hp:below t.place (pos t.mask h n0)=p at b1 b2 b3;have hsz:t.place.size=L.length:=by rw [<-KN,T.pl,Km]
 have hes:es.size=L.length:=by rw [<-KN,T.en,Km]
 have perm:(L.take p++(pos t.mask h n0,h,x)::L.drop p).Perm ((pos t.mask h n0,h,x)::L):=by
  have:=Py (a:=(pos t.mask h n0,h,x)) (l₁:=L.take p) (l₂:=L.drop p)
  rwa [MN] at this
 have e1:(t.put (pos t.mask h n0))=({t with place:=insertAt t.place p (pos t.mask h n0),dummies:=#[]},p):=by unfold SetTable.put;rw [hp,T.dm];rfl
 rw [e1];have getP:∀i (hi:i < L.length),t.place.getD i 0=L[i].1:=λi hi=>by
  have:=(T.at_ (KG hi)).1;have hi':i < t.place.size:=by omega
  simp [Mx,hi'];rw [LV hi'] at this;exact Lp this
 refine ⟨L.take p++(pos t.mask h n0,h,x)::L.drop p,⟨rfl,?_,?_,?_,λe he=>?_,T.mo,?_,λe he=>?_⟩,perm⟩
 ·show (insertAt t.place p (pos t.mask h n0)).toList=_;rw [kO _ _ _ b1,T.pl];simp [Oz,OA]
 ·show (insertAt es p (h,x)).toList=_;rw [kO _ _ _ (by omega),T.en];simp [Oz,OA]
 ·rw [Le,LN,List.pairwise_append];refine ⟨?_,?_,?_⟩
  ·rw [Oz];exact T.so.sublist (Pa _ _)
  ·rw [O0];refine ⟨λa ha=>?_,?_⟩
   ·obtain ⟨e,he,rfl⟩:=K0.mp ha;obtain ⟨i,hi,rfl⟩:=Nu.mp he;rw [RE];rw [LX] at hi;have:=b3 (p + i) (by omega) (by omega);rw [getP _ (by omega)] at this;rcases Rm this with c | c
    ·exact c
    ·exact absurd (K0.mpr ⟨L[p + i],LJ _,c.symm⟩) hf
   ·rw [OA];exact T.so.sublist (RB _ _)
  ·intro a ha b hb;obtain ⟨e,he,rfl⟩:=K0.mp ha;obtain ⟨i,hi,rfl⟩:=Nu.mp he;rw [List.getElem_take];rw [Me] at hi;have h1:=b2 i (by omega);rw [getP _ (by omega)] at h1
   (rcases KA.mp hb with rfl | hb)
   ·exact h1
   ·obtain ⟨e,he,rfl⟩:=K0.mp hb;obtain ⟨k,hk,rfl⟩:=Nu.mp he;rw [RE];rw [LX] at hk;have:=b3 (p + k) (by omega) (by omega);rw [getP _ (by omega)] at this;omega
 ·rcases KA.mp (perm.mem_iff.mp he) with rfl | he
  ·exact hj
  ·exact T.bd e he
 ·rw [perm.length_eq];exact hl
 ·have sub:∀y∈L.map (·.1),y∈(L.take p++(pos t.mask h n0,h,x)::L.drop p).map (·.1):=λy hy=>by obtain ⟨e,he,rfl⟩:=K0.mp hy;exact K0.mpr ⟨e,perm.mem_iff.mpr (Kq _ he),rfl⟩
  rcases KA.mp (perm.mem_iff.mp he) with rfl | he
  ·exact ⟨n0,rfl,λm hm=>sub _ (hb m hm)⟩
  ·exact (T.pr e he).mono sub
end
theorem jO (mask:Nat) (h:Int) (n i p m:Nat) (e:st mask h n={j:=i,more:=m,i:=i,perturb:=p,dummy:=none}):∀r,r<=m->st mask h (n + r)={j:=i + r,more:=m - r,i:=i,perturb:=p,dummy:=none}
 | 0,_=>e
 | r + 1,hr=>by show advance _ (st mask h (n + r))=_;rw [jO mask h n i p m e r (by omega)];unfold advance;rw [if_pos (by show m - r > 0;omega)];show Probe.mk _ _ _ _ _=_;congr 1
theorem zP (mask:Nat) (h:Int) (k n:Nat) (e:st mask h n={j:=(tn mask h k).1,more:=runEnd mask (tn mask h k).1 - (tn mask h k).1,i:=(tn mask h k).1,perturb:=(tn mask h k).2,dummy:=none}):
  st mask h (n + (runEnd mask (tn mask h k).1 - (tn mask h k).1) + 1)={j:=(tn mask h (k + 1)).1,more:=runEnd mask (tn mask h (k + 1)).1 - (tn mask h (k + 1)).1,i:=(tn mask h (k + 1)).1,perturb:=(tn mask h (k + 1)).2,dummy:=none}:=by show advance _ (st mask h (n + (runEnd mask (tn mask h k).1 - (tn mask h k).1)))=_;rw [jO mask h n _ _ _ e _ (Kr _)];unfold advance;simp;exact ⟨rfl,rfl,rfl,rfl⟩
theorem qx (mask:Nat) (h:Int) (owner:Array (Option Nat)) (G:List Nat) (ho:∀j,j<=mask->((owner.getD j (some 0)).isNone=true↔j∉G)):
  ∀(f k n:Nat),st mask h n={j:=(tn mask h k).1,more:=runEnd mask (tn mask h k).1 - (tn mask h k).1,i:=(tn mask h k).1,perturb:=(tn mask h k).2,dummy:=none}->(∀m,m < n->pos mask h m∈G)->
   (∃n',layClean.free mask owner f (tn mask h k).1 (tn mask h k).2=some (pos mask h n')/\pos mask h n'<=mask/\pos mask h n'∉G/\∀m,m < n'->pos mask h m∈G)\/(layClean.free mask owner f (tn mask h k).1 (tn mask h k).2=none/\∀r,r < f->(tn mask h (k + r)).1∈G)
 | 0,k,n,e,hb=>.inr ⟨rfl,λr hr=>absurd hr (Mt _)⟩
 | f + 1,k,n,e,hb=>by
  have hi:=xZ mask h k;have re:runEnd mask (tn mask h k).1<=mask/\(tn mask h k).1<=runEnd mask (tn mask h k).1:=by unfold runEnd;split <;> omega
  unfold layClean.free;cases q:(Ky (runEnd mask (tn mask h k).1 + 1 - (tn mask h k).1)).find? λr=>(owner.getD ((tn mask h k).1 + r) (some 0)).isNone with
  | some r=>
   have h1:=List.find?_some q;have h2:=KR.mp (List.mem_of_find?_eq_some q);have h3:pos mask h (n + r)=(tn mask h k).1 + r:=by show (st mask h (n + r)).j=_;rw [jO mask h n _ _ _ e r (by omega)]
   refine .inl ⟨n + r,?_,?_,?_,?_⟩
   ·show some _=_;rw [h3]
   ·rw [h3];omega
   ·rw [h3];exact (ho _ (by omega)).mp h1
   ·intro m hm;by_cases c:m < n
    ·exact hb m c
    ·obtain ⟨s,rfl⟩:∃s,m=n + s:=⟨m - n,by omega⟩;have h4:pos mask h (n + s)=(tn mask h k).1 + s:=by show (st mask h (n + s)).j=_;rw [jO mask h n _ _ _ e s (by omega)]
     rw [h4];refine Ml λz=>?_;have z':=(ho ((tn mask h k).1 + s) (by omega)).mpr z;rw [List.find?_eq_some_iff_append] at q;obtain ⟨_,as,bs,eq,hall⟩:=q;have hs:s∈as:=by
      have hlen:as.length=r:=by
       have hl:as.length < (Ky (runEnd mask (tn mask h k).1 + 1 - (tn mask h k).1)).length:=by rw [eq];simp
       have e3:(Ky (runEnd mask (tn mask h k).1 + 1 - (tn mask h k).1))[as.length]?=some r:=by rw [eq];simp
       rw [LB] at hl;rw [OM hl] at e3;exact Lp e3
      have e4:(Ky (runEnd mask (tn mask h k).1 + 1 - (tn mask h k).1))[s]?=some s:=OM (by omega);rw [eq,Mh (by omega)] at e4;exact MS e4
     have:=hall s hs;rw [z'] at this;exact absurd this (by decide)
  | none=>
   have hall:=List.find?_eq_none.mp q;have occ:∀s,s<=runEnd mask (tn mask h k).1 - (tn mask h k).1->(tn mask h k).1 + s∈G:=λs hs=>Ml λz=>by have z':=(ho ((tn mask h k).1 + s) (by omega)).mpr z;exact hall s (KR.mpr (by omega)) z'
   have nb:∀m,m < n + (runEnd mask (tn mask h k).1 - (tn mask h k).1) + 1->pos mask h m∈G:=λm hm=>by
    by_cases c:m < n
    ·exact hb m c
    ·obtain ⟨s,rfl⟩:∃s,m=n + s:=⟨m - n,by omega⟩;have h4:pos mask h (n + s)=(tn mask h k).1 + s:=by show (st mask h (n + s)).j=_;rw [jO mask h n _ _ _ e s (by omega)]
     rw [h4];exact occ s (by omega)
   rcases qx mask h owner G ho f (k + 1) _ (zP mask h k n e) nb with ⟨n',g1,g2',g3⟩ | ⟨g1,g2'⟩
   ·exact .inl ⟨n',g1,g2',g3⟩
   ·refine .inr ⟨g1,λr hr=>?_⟩;cases r with
    | zero=>have:=occ 0 (K1 _);exact this
    | succ r=>have:=g2' r (by omega);rwa [show k + (r + 1)=k + 1 + r by omega]
theorem B7 {mask:Nat}(hm:jz mask) (h:Int) (owner:Array (Option Nat)) (G:List Nat) (hG:G.length<=mask) (ho:∀j,j<=mask->((owner.getD j (some 0)).isNone=true↔j∉G)):
  ∃n',layClean.free mask owner (turns mask) (bits h % (mask + 1)) (bits h)=some (pos mask h n')/\pos mask h n'<=mask/\pos mask h n'∉G/\∀m,m < n'->pos mask h m∈G:=by
 rcases qx mask h owner G ho (turns mask) 0 0 rfl (λm hm=>absurd hm (Mt _)) with a | ⟨_,b⟩
 ·exact a
 ·exfalso;have all:∀j,j<=mask->j∈G:=λj hj=>by obtain ⟨r,hr,e⟩:=yG hm (tn mask h 12).1 j (xZ mask h 12) hj;have:=b (12 + r) (by unfold turns;omega);rw [Qm,uB,e] at this;exact this
  have:(Ky (mask + 1)).length<=G.length:=Mu Ou λj hj=>all j (by have:=KR.mp hj;omega);rw [LB] at this;omega
structure Own (mask:Nat) (owner:Array (Option Nat)) (G:List Nat) (hs:List Int):Prop where
 sz:owner.size=mask + 1
 ln:G.length=hs.length
 nd:G.Nodup
 bd:∀j∈G,j<=mask
 at_:∀j,j<=mask->owner.getD j none=if j∈G then some (G.idxOf j) else none
 pr:∀k (h1:k < G.length) (h2:k < hs.length),Reach mask G hs[k] G[k]
theorem Own.occ {mask:Nat}{owner:Array (Option Nat)}{G:List Nat}{hs:List Int}(O:Own mask owner G hs):∀j,j<=mask->((owner.getD j (some 0)).isNone=true↔j∉G):=λj hj=>by
 have e:owner.getD j (some 0)=owner.getD j none:=by
  have:j < owner.size:=by rw [O.sz];omega
  simp [Mx,this]
 rw [e,O.at_ j hj];split <;> simp_all
theorem Own.step {mask:Nat}{owner:Array (Option Nat)}{G:List Nat}{hs:List Int}(O:Own mask owner G hs) (hm:jz mask) (hl:hs.length<=mask) (h:Int):
  ∃j,layClean.free mask owner (turns mask) (bits h % (mask + 1)) (bits h)=some j/\Own mask (owner.setIfInBounds j (some hs.length)) (G++[j]) (hs++[h]):=by
 obtain ⟨n',e,b,f,r⟩:=B7 hm h owner G (by rw [O.ln];exact hl) O.occ;refine ⟨_,e,⟨by rw [Array.size_setIfInBounds,O.sz],by simp [O.ln],?_,λj hj=>?_,λj hj=>?_,λk h1 h2=>?_⟩⟩
 ·rw [List.nodup_append];refine ⟨O.nd,by simp,λa ha b hb=>?_⟩;rw [Kw] at hb;subst hb;intro z;subst z;exact f ha
 ·rcases K3.mp hj with h1 | h1
  ·exact O.bd j h1
  ·rw [Kw.mp h1];exact b
 ·have hsz:j < owner.size:=by rw [O.sz];omega
  by_cases c:j=pos mask h n'
  ·subst c;rw [if_pos (by simp)];simp [Mx,hsz];rw [RG,if_neg f];simp [O.ln]
  ·have e1:(owner.setIfInBounds (pos mask h n') (some hs.length)).getD j none=owner.getD j none:=by simp [Mx,hsz];rw [Array.getElem_setIfInBounds_ne];exact λz=>c z.symm
   rw [e1,O.at_ j hj];by_cases d:j∈G
   ·rw [if_pos d,if_pos (LQ _ d),RG,if_pos d]
   ·rw [if_neg d,if_neg (by simp [d,c])]
 ·have sub:∀x∈G,x∈G++[pos mask h n']:=λx hx=>LQ _ hx;by_cases c:k < G.length
  ·have:=(O.pr k c (by rw [<-O.ln];exact c)).mono sub;rw [NN c,NN (by rw [<-O.ln];exact c)];exact this
  ·have hk:k=G.length:=by simp at h1;omega
   subst hk;have e1:(G++[pos mask h n'])[G.length]=pos mask h n':=by simp
   have e2:(hs++[h])[G.length]=h:=by simp [O.ln]
   rw [e1,e2];exact ⟨n',rfl,λm hm=>sub _ (r m hm)⟩
theorem tP {mask:Nat}(hm:jz mask):∀(rest hs:List Int) (owner:Array (Option Nat)) (G:List Nat),Own mask owner G hs->(hs++rest).length<=mask->∃owner' G',rest.foldl (λacc h=>do
  let (owner,k) <-acc
  let j <-layClean.free mask owner (turns mask) (bits h % (mask + 1)) (bits h)
  pure (owner.setIfInBounds j (some k),k + 1)) (some (owner,hs.length))=some (owner',(hs++rest).length)/\Own mask owner' G' (hs++rest)
 | [],hs,owner,G,O,_=>⟨owner,G,by simp,by simpa using O⟩
 | h::rest,hs,owner,G,O,hl=>by
  obtain ⟨j,e,O'⟩:=O.step hm (by simp at hl;omega) h;obtain ⟨owner',G',e2,O2⟩:=tP hm rest (hs++[h]) _ _ O' (by simpa using hl);refine ⟨owner',G',?_,by simpa using O2⟩;rw [Nj];have e3:(do
   let (owner,k) <-some (owner,hs.length)
   let j <-layClean.free mask owner (turns mask) (bits h % (mask + 1)) (bits h)
   pure (owner.setIfInBounds j (some k),k + 1):Option (Array (Option Nat)×Nat))=some (owner.setIfInBounds j (some hs.length),(hs++[h]).length):=by show Option.bind (layClean.free mask owner (turns mask) (bits h % (mask + 1)) (bits h)) _=_;rw [e];simp
  rw [e3];simpa using e2
theorem Cy (mask:Nat):Own mask (Array.replicate (mask + 1) none) [] []:=
 ⟨by simp,rfl,Og,λj h=>absurd h (by simp),λj hj=>by simp [Mx],λk h1=>absurd h1 (by simp)⟩
theorem yY {mask:Nat}(hm:jz mask) (hs:Array Int) (hl:hs.size<=mask):∃owner G,layClean mask hs=some owner/\Own mask owner G hs.toList:=by obtain ⟨owner,G,e,O⟩:=tP hm hs.toList [] _ [] (Cy mask) (by simpa using hl);refine ⟨owner,G,?_,by simpa using O⟩;unfold layClean;rw [<-Array.foldl_toList];have e':=congrArg (Option.map (·.1)) e;exact e'
theorem Cn {t:Lj}{es:Array (Int×Kg)}{mask:Nat}(hm:jz mask) (finger moves:Nat) (led plain:Bool) (hl:es.size<=mask):
  ∃t' Kc L',laid mask finger moves led plain (es.map (·.1))=some (t',Kc)/\t'.mask=mask/\t'.led=led/\t'.plain=plain/\Tab t' (Kc.filterMap (es[·]?)) L'/\(Kc.filterMap (es[·]?)).toList.Perm es.toList:=by
 obtain ⟨owner,G,e,O⟩:=yY hm (es.map (·.1)) (by simpa using hl);have hlen:G.length=es.size:=by rw [O.ln];simp
 (let live:=(Ky (mask + 1)).filterMap λj=>(owner.getD j none).map (j,·))
 have lv:∀p,p∈live↔p.1∈G/\p.2=G.idxOf p.1:=λp=>by
  show p∈(Ky (mask + 1)).filterMap _↔_;rw [NO];constructor
  ·rintro ⟨j,hj,q⟩;have hj':j<=mask:=by have:=KR.mp hj;omega
   rw [O.at_ j hj'] at q;by_cases c:j∈G
   ·rw [if_pos c] at q;have q:(j,G.idxOf j)=p:=by simpa using q
    subst q;exact ⟨c,rfl⟩
   ·rw [if_neg c] at q;exact absurd q (by simp)
  ·rintro ⟨h1,h2⟩;refine ⟨p.1,KR.mpr (by have:=O.bd _ h1;omega),?_⟩;rw [O.at_ _ (O.bd _ h1),if_pos h1];show some (p.1,G.idxOf p.1)=some p;rw [<-h2]
 have so1:live.Pairwise λa b=>a.1 < b.1:=by
  show ((Ky (mask + 1)).filterMap _).Pairwise _;rw [Pn];refine MG.imp ?_;intro a b hab x hx y hy;cases q1:owner.getD a none with
  | none=>rw [q1] at hx;exact absurd hx (by simp)
  | some k1=>cases q2:owner.getD b none with
   | none=>rw [q2] at hy;exact absurd hy (by simp)
   | some k2=>
    rw [q1] at hx;rw [q2] at hy;have hx:(a,k1)=x:=by simpa using hx
    have hy:(b,k2)=y:=by simpa using hy
    subst hx;subst hy;exact hab
 have ord:(live.map (·.2)).Perm (Ky es.size):=by
  rw [MI _ Ou]
  ·intro k;rw [K0,KR];constructor
   ·rintro ⟨p,hp,rfl⟩;obtain ⟨h1,h2⟩:=(lv p).mp hp;rw [h2,<-hlen];exact Ls h1
   ·intro hk;rw [<-hlen] at hk;exact ⟨(G[k],k),(lv _).mpr ⟨LJ _,(O.nd.idxOf_getElem k hk).symm⟩,rfl⟩
  ·show (live.map (·.2)).Pairwise _;rw [MZ];refine (Qn.mp so1).imp ?_;rintro a b ⟨ha,hb,hab⟩ z;obtain ⟨a1,a2⟩:=(lv a).mp ha;obtain ⟨b1,b2⟩:=(lv b).mp hb;rw [a2,b2] at z;have ga:=Nd (Ls a1);have gb:=Nd (Ls b1);have:a.1=b.1:=by rw [<-ga,<-gb];congr 1
   omega
 have inR:∀p∈live,∃h:p.2 < es.size,True:=λp hp=>by have:p.2∈live.map (·.2):=K0.mpr ⟨p,hp,rfl⟩;exact ⟨KR.mp (ord.mem_iff.mp this),trivial⟩
 let L':=live.map λp=>(p.1,es.getD p.2 default)
 have eL:(live.map (·.2)).toArray.filterMap (es[·]?)=(L'.map (·.2)).toArray:=by
  rw [List.filterMap_toArray];congr 1;show Su _ (live.map _)=(live.map _).map _;rw [Q7,M4];have:∀(l:List (Nat×Nat)),(∀p∈l,p∈live)->Su ((λx=>es[x]?) ∘ λx=>x.snd) l=O1 ((λx=>x.snd) ∘ λp=>(p.fst,es.getD p.snd default)) l:=by
   intro l
   induction l with
   | nil=>intro _;rfl
   | cons p l ih=>
    intro hl;obtain ⟨hp,_⟩:=inR p (hl p (by simp));rw [Pf (b:=es.getD p.2 default)]
    ·rw [LN,ih λq hq=>hl q (by simp [hq])];rfl
    ·show es[p.2]?=_;simp [Mx,hp]
  exact this live λp hp=>hp
 have eP:L'.map (·.1)=live.map (·.1):=by show (live.map _).map _=_;rw [M4];rfl
 have memP:∀j,j∈live.map (·.1)↔j∈G:=λj=>by
  rw [K0];constructor
  ·rintro ⟨p,hp,rfl⟩;exact ((lv p).mp hp).1
  ·intro h;exact ⟨(j,G.idxOf j),(lv _).mpr ⟨h,rfl⟩,rfl⟩
 have lenL:L'.length=es.size:=by have:=ord.length_eq;rw [Km,LB] at this;show (live.map _).length=_;rw [Km,this]
 refine ⟨{mask,place:=(live.map (·.1)).toArray,dummies:=#[],finger,led,moves,plain},(live.map (·.2)).toArray,L',?_,rfl,rfl,rfl,⟨rfl,?_,?_,?_,λx hx=>?_,hm,?_,λx hx=>?_⟩,?_⟩
 ·unfold laid;rw [e];rfl
 ·show (live.map (·.1)).toArray.toList=_;rw [eP]
 ·rw [eL]
 ·rw [eP,MZ];exact so1
 ·obtain ⟨p,hp,rfl⟩:=K0.mp hx;exact O.bd _ ((lv p).mp hp).1
 ·show L'.length<=mask;rw [lenL];exact hl
 ·obtain ⟨p,hp,rfl⟩:=K0.mp hx;obtain ⟨h1,h2⟩:=(lv p).mp hp;obtain ⟨hs,_⟩:=inR p hp;have r:=O.pr p.2 (by omega) (by simpa using hs);have e1:G[p.2]'(by omega)=p.1:=by have:=Nd (Ls h1);rw [<-this];congr 1
  have e2:((es.map (·.1)).toList[p.2]'(by simpa using hs))=(es.getD p.2 default).1:=by simp [Mx,hs]
  rw [e1,e2] at r;show Reach mask (L'.map (·.1)) (es.getD p.2 default).1 p.1;refine r.mono λy hy=>?_;rw [eP];exact (memP y).mpr hy
 ·rw [eL];show (L'.map (·.2)).Perm es.toList;have e1:(live.map (·.2)).map (λk=>es.getD k default)=L'.map (·.2):=by show _=(live.map _).map _;rw [M4,M4];rfl
  rw [<-e1];refine (ord.map _).trans ?_;have:(Ky es.size).map (λk=>es.getD k default)=es.toList:=by refine NC (by simp) λi h1 h2=>?_;simp at h1;simp [Mx,h1]
  rw [this]
theorem zA {t:Lj}{es:Array (Int×Kg)}(hm:jz (sizeAbove w - 1)) (hl:es.size<=sizeAbove w - 1):
  ∃t' Kc L',t.relaid (es.map (·.1)) w=some (t',Kc)/\t'.mask=sizeAbove w - 1/\t'.led=t.led/\t'.plain=t.plain/\Tab t' (Kc.filterMap (es[·]?)) L'/\(Kc.filterMap (es[·]?)).toList.Perm es.toList:=
 Cn (t:=t) hm t.finger (t.movedTo (sizeAbove w - 1)) t.led t.plain hl
end ST
namespace DL
open PySem PySem.Spec PyProof.Rows L2
end DL
namespace DL
open PySem PySem.Spec PyProof.Rows L2 ST
theorem cg {t:Lj}{es:Array (Int×Kg)}(T:Tab t es L):t.fits es.size=true:=by
 have h1:t.place.size=L.length:=by rw [<-KN,T.pl,Km]
 have h2:es.size=L.length:=by rw [<-KN,T.en,Km]
 have h3:t.fill=L.length:=by unfold Tc;rw [T.dm,h1];rfl
 unfold SetTable.fits;rw [h1,h2,h3];simp [T.fl]
end DL
namespace DL
open PySem PySem.Spec PyProof.Rows L2 DX
open Classical in
noncomputable def KD:Type:={d:D // isKey d=true/\dep d<=8}
noncomputable instance:DecidableEq KD:=λa b=>Td (a=b)
end DL
namespace DL
open PySem PySem.Spec PyProof.Rows L2 ST
theorem yJ (mask i:Nat) (h:i<=mask):i + (Sf mask i - i)<=mask:=by unfold Sf;split <;> omega
theorem BG (mask:Nat) (h:Int):∀n,(ST.st mask h n).j + (ST.st mask h n).more<=mask
 | 0=>yJ mask _ (Oa (Pe _ (by omega)))
 | n + 1=>by
  have ih:=BG mask h n;show (Pz _ (ST.st mask h n)).j + (Pz _ (ST.st mask h n)).more<=mask;unfold Pz;split
  ·dsimp only;omega
  ·exact yJ mask _ (Oa (Pe _ (by omega)))
theorem zq (mask:Nat) (h:Int) (n:Nat):ST.pos mask h n<=mask:=by have:=BG mask h n;show (ST.st mask h n).j<=mask;omega
theorem BQ:Nf 20=32:=by decide +kernel
theorem BR:Nf 76=128:=by decide +kernel
theorem qf {es:Array (Int×Kg)}{L:List (Nat×Int×Kg)}(T:Tab t es L):L.length=es.size:=by rw [<-KN,T.en,Km]
end DL
namespace DL
open PySem PySem.Spec PyProof.Rows L2 ST PySem.SetTable
section
variable {t:Lj}{es:Array (Int×Kg)}{L:List (Nat×Int×Kg)}
theorem oX (T:Tab t es L) (h:Int) (n0:Nat) (hf:pos t.mask h n0∉L.map (·.1)) (hb:∀m,m < n0->pos t.mask h m∈L.map (·.1)):
  ∀(d n F:Nat),n0 - n=d->n<=n0->d < F->probe.go t (λ_=>h + 1) h F (st t.mask h n)=some (.empty (pos t.mask h n0) none)
 | d,n,0,_,_,h=>absurd h (Mt _)
 | d,n,F + 1,hd,hn,hF=>by
  by_cases c:n=n0
  ·subst c;unfold probe.go;rw [xS T.dm (by rw [T.pl];exact hf)];show some (Met.empty _ (st t.mask h n).dummy)=_;rw [nR]
  ·obtain ⟨e,he,ej⟩:=K0.mp (hb n (by omega));obtain ⟨i,hi,rfl⟩:=Nu.mp he;have hs:t.slot (pos t.mask h n)=.live i:=zH T.sop (by rw [(T.at_ (KG hi)).1,ej]);have eg:probe.go t (λ_=>h + 1) h (F + 1) (st t.mask h n)=probe.go t (λ_=>h + 1) h F (st t.mask h (n + 1)):=by rw [probe.go,hs];show (if (h + 1 == h)=true then _ else _)=_;rw [if_neg (by rw [beq_iff_eq];omega)];rfl
   rw [eg];exact oX T h n0 hf hb (n0 - (n + 1)) (n + 1) F rfl (by omega) (by omega)
theorem yP (T:Tab t es L) (h:Int) (n0:Nat) (hf:pos t.mask h n0∉L.map (·.1)) (hb:∀m,m < n0->pos t.mask h m∈L.map (·.1)) (hn0:n0<=10 * (t.mask + 12)):t.freeSlot h=some (pos t.mask h n0,false):=by have e:t.probe (λ_=>h + 1) h (t.probeStart h)=some (.empty (pos t.mask h n0) none):=oX T h n0 hf hb n0 0 (10 * turns t.mask) rfl (K1 _) (by unfold turns;omega);unfold SetTable.freeSlot;rw [e];rfl
theorem Co (T:Tab t es L) (h:Int) (x:Kg) (n0:Nat) (hf:pos t.mask h n0∉L.map (·.1)) (hb:∀m,m < n0->pos t.mask h m∈L.map (·.1)) (hn0:n0<=10 * (t.mask + 12)) (hl:L.length + 1<=t.mask):
  layNew t es h x=(insertAt es (t.put (pos t.mask h n0)).2 (h,x),(t.put (pos t.mask h n0)).1,false,false):=by obtain ⟨L',T',_⟩:=T.put h x n0 hf hb (zq _ _ _) hl;have fit:=cg T';unfold layNew;rw [yP T h n0 hf hb hn0];dsimp only;unfold SetTable.orStandIn;rw [fit];rfl
theorem Az {mask finger moves:Nat}{led plain:Bool}{t':Lj}{Kc:Array Nat}(hm:jz mask) (hl:es.size<=mask) (e:laid mask finger moves led plain (es.map (·.1))=some (t',Kc)):Kc.toList.Perm (Ky es.size):=by
 obtain ⟨owner,G,e0,O⟩:=yY hm (es.map (·.1)) (by simpa using hl);have hlen:G.length=es.size:=by rw [O.ln];simp
 (let live:=(Ky (mask + 1)).filterMap λj=>(owner.getD j none).map (j,·))
 have lv:∀p,p∈live↔p.1∈G/\p.2=G.idxOf p.1:=λp=>by
  show p∈(Ky (mask + 1)).filterMap _↔_;rw [NO];constructor
  ·rintro ⟨j,hj,q⟩;have hj':j<=mask:=by have:=KR.mp hj;omega
   rw [O.at_ j hj'] at q;by_cases c:j∈G
   ·rw [if_pos c] at q;have q:(j,G.idxOf j)=p:=by simpa using q
    subst q;exact ⟨c,rfl⟩
   ·rw [if_neg c] at q;exact absurd q (by simp)
  ·rintro ⟨h1,h2⟩;refine ⟨p.1,KR.mpr (by have:=O.bd _ h1;omega),?_⟩;rw [O.at_ _ (O.bd _ h1),if_pos h1];show some (p.1,G.idxOf p.1)=some p;rw [<-h2]
 have so1:live.Pairwise λa b=>a.1 < b.1:=by
  show ((Ky (mask + 1)).filterMap _).Pairwise _;rw [Pn];refine MG.imp ?_;intro a b hab x hx y hy;cases q1:owner.getD a none with
  | none=>rw [q1] at hx;exact absurd hx (by simp)
  | some k1=>cases q2:owner.getD b none with
   | none=>rw [q2] at hy;exact absurd hy (by simp)
   | some k2=>
    rw [q1] at hx;rw [q2] at hy;have hx:(a,k1)=x:=by simpa using hx
    have hy:(b,k2)=y:=by simpa using hy
    subst hx;subst hy;exact hab
 have ord:(live.map (·.2)).Perm (Ky es.size):=by
  rw [MI _ Ou]
  ·intro k;rw [K0,KR];constructor
   ·rintro ⟨p,hp,rfl⟩;obtain ⟨h1,h2⟩:=(lv p).mp hp;rw [h2,<-hlen];exact Ls h1
   ·intro hk;rw [<-hlen] at hk;exact ⟨(G[k],k),(lv _).mpr ⟨LJ _,(O.nd.idxOf_getElem k hk).symm⟩,rfl⟩
  ·show (live.map (·.2)).Pairwise _;rw [MZ];refine (Qn.mp so1).imp ?_;rintro a b ⟨ha,hb,hab⟩ z;obtain ⟨a1,a2⟩:=(lv a).mp ha;obtain ⟨b1,b2⟩:=(lv b).mp hb;rw [a2,b2] at z;have ga:=Nd (Ls a1);have gb:=Nd (Ls b1);have:a.1=b.1:=by rw [<-ga,<-gb];congr 1
   omega
 unfold laid at e;rw [e0] at e;have e1:(live.map (·.2)).toArray=Kc:=by have:=Lp e;exact congrArg Prod.snd this
 rw [<-e1];exact ord
theorem zB (hm:jz (sizeAbove w - 1)) (hl:es.size<=sizeAbove w - 1):∃t' es' L',relayAll t es w=(es',t',false)/\t'.mask=sizeAbove w - 1/\t'.led=t.led/\t'.plain=t.plain/\Tab t' es' L'/\es'.toList.Perm es.toList:=by
 obtain ⟨t',Kc,L',e1,e2,e3,e4,e5,e6⟩:=zA (t:=t) (es:=es) hm hl;have od:Kc.toList.Perm (Ky es.size):=Az hm hl e1;refine ⟨t',Kc.filterMap (es[·]?),L',?_,e2,e3,e4,e5,e6⟩;unfold relayAll;rw [e1];dsimp only;have c1:coversAll Kc es.size=true:=by unfold coversAll;exact List.isPerm_iff.mpr od
 rw [c1,cg e5];rfl
end
end DL
namespace DL
open PySem PySem.Spec PyProof.Rows L2 ST
theorem zL:Qo (.type "tuple") (.type "set")=pure false:=by rw [Ny];kernel_rfl
theorem zK:Qo (.type "tuple") (.type "frozenset")=pure false:=by rw [Ny];kernel_rfl
theorem yX:Qo (.type "list") (.type "set")=pure false:=by rw [Ny];kernel_rfl
theorem yW:Qo (.type "list") (.type "frozenset")=pure false:=by rw [Ny];kernel_rfl
noncomputable abbrev d8 (led:Bool):Obj:={cls:=.type "set",dict:=none,data:=.set #[] 0 (.fresh 0 0 led)}
noncomputable abbrev cC (w:K5):Bool:=!w.params.followText "set-order"
section
variable {prog:KL}{w:K5}{A:Lh}{E:Kg->Kh->Prop}{s:Kh}{K:Ke}{J:Hp}
theorem A1 (a:Kg){Q₁:Kg->Kh->Prop}(h:Q₁ (.ref s.heap.objs.size) {s with heap:=s.heap.push (d8 (cC w))}):
  (Mb (KS prog w) A (.call (.builtin "set.__new__") ⟨[.type "set",a],[]⟩) (wants Q₁ E) s):=by
 refine (N1 ?_)
 (show KH _ A.in1 (do Oq "set.__new__" ⟨[.type "set",a],[]⟩;again (.builtin "set.__new__" ⟨[.type "set",a],[]⟩)) _ _ s)
 refine Kd (NG (PySem.F.newCall_set_1 a) (Kf ⟨Mk Sg _,LU F.entry_set_new ?_⟩))
 (rw [Ln Sg _])
 (unfold Ph.«set.__new__» Sj)
 have hsub:=sub_set_self
 (obtain ⟨hp,g,d,tk,os⟩:=s)
 dsimp only
 wp_walk
 (refine L4 (Kf ?_))
 dsimp only;simp only [newObj]
 (refine Kd (Sb (Kf ?_)))
 exact Kf h
noncomputable def zW (prog:KL) (w:K5) (A:Lh) (E:Kg->Kh->Prop) (s:Kh) (l:KJ) (JX:Array Kg):Prop:=
 ∃(I:KJ) (fp:List KJ) (St:Nat->Kh->Prop) (h2:L7),WalksS prog w A.in1.in1.in1 I fp [I] (λa b=>b=a) JX.size (λi v=>JX[i]?=some v) St/\s.heap.objs.size∉fp/\s.heap.objs.size < I/\St 0 {s with heap:=h2}/\(∀b o,(s.heap.push (d8 (cC w))).get? b=some o->h2.get? b=some o)/\
  ∀R:Kg->Kh->Prop,R (.ref I) {s with heap:=h2}->KH (KS prog w) A.in1.in1 (OE (.ref l)) R E {s with heap:=s.heap.push (d8 (cC w))}
theorem uw {ol:Obj}{Q:Kg->Kh->Prop}{JX:Array Kg}(P:L7->Prop) (IB:s.heap.get? l=some ol) (hcl:ol.cls=.type T) (JO:Qo (.type T) (.type "set")=pure false) (JN:Qo (.type T) (.type "frozenset")=pure false) (hne:(M9 T == M9 "dict")=false)
 (it:zW prog w A E s l JX)
 (loop:∀{I:KJ}{fp:List KJ}{St:Nat->Kh->Prop}{h2:L7}{R:_->Kh->Prop},WalksS prog w A.in1.in1.in1 I fp [I] (λa b=>b=a) JX.size (λi v=>JX[i]?=some v) St->s.heap.objs.size∉fp->s.heap.objs.size < I->St 0 {s with heap:=h2}->(∀b o,(s.heap.push (d8 (cC w))).get? b=some o->h2.get? b=some o)->
 (∀s',Moved [s.heap.objs.size,I] (λa b=>b=a) {s with heap:=h2} s'->P s'.heap->R (.ok (.ret .none)) s')->Mb (KS prog w) A.in1.in1 (.builtin "set.update.loop" ⟨[.ref s.heap.objs.size,.ref I],[]⟩) R {s with heap:=h2})
 (h:∀(h':L7) (tk:Nat),P h'->(∀b o,b < s.heap.objs.size->s.heap.get? b=some o->h'.get? b=some o)->Q (.ref s.heap.objs.size) {s with heap:=h',toks:=tk}):
  (KH (KS prog w) A (call (.type "set") [.ref l]) Q E s):=by
 (obtain ⟨c,tl,JK⟩:=Nk.mro)
 (have hmade:=Nk.made)
 have hsub:=Nk.sub
 (refine Qy (N1 ?_))
 (show KH _ _ (callAny (.type "set") _) _ _ _)
 (refine Kf ⟨Code.quiet_builtin _ (by decide +kernel),LU F.entry_type_call ?_⟩)
 (rw [Around.under_plain (weight_type_call_type "set" [.ref l] []) rfl])
 (have h1:=Nk.notType)
 (have h2:=Nk.canCreate)
 have hct:=PySem.F.typeCall_set_1 (.ref l)
 (repeat (any_goals (first | assumption | wp_step)))
 refine Nh (A1 (.ref l) (E:=E) (Q₁:=λobj s₁=>obj=.ref s.heap.objs.size/\s₁={s with heap:=s.heap.push (d8 (cC w))}) ⟨rfl,rfl⟩) λr s₁ hr=>?_;cases r with
 | error e=>exact hr
 | ok fl=>
  cases fl with
  | ret obj=>
   obtain ⟨rfl,rfl⟩:=hr;have hS:(s.heap.push (d8 (cC w))).get? s.heap.objs.size=some (d8 (cC w)):=Kn _ rfl;have hT:N3 {s with heap:=s.heap.push (d8 (cC w))} (.ref s.heap.objs.size) "set":=⟨_,hS,rfl⟩
   (have hli:=Nk.init.lookup)
   (have hbi:=Nk.init.bind (.ref s.heap.objs.size))
   (repeat (any_goals (first | assumption | wp_step)))
   refine Nh (Ov (R:=wants (λr s₂=>r=.none/\∃h' tk,s₂={s with heap:=h',toks:=tk}/\P h'/\
     (∀b o,b < s.heap.objs.size->s.heap.get? b=some o->h'.get? b=some o)) E) Nk.init.plain F.entry_set_init ((check_set_init_1 hT ?_))) λr₂ s₂ hr₂=>?_
   ·have Jj:(s.heap.push (d8 (cC w))).get? l=some ol:=Kl _ IB;have JT:N3 {s with heap:=s.heap.push (d8 (cC w))} (.ref l) T:=⟨_,Jj,hcl⟩
    (unfold Ph.«set.__init__» noKeywords R0)
    generalize JB:OE=PI
    wp_walk
    subst JB;obtain ⟨I,fp,St,h2,W,hSf,hSI,st,hk,hit⟩:=it;refine hit _ (Kd (QO (loop W hSf hSI st hk λs' hm hp=>?_)))
    (obtain ⟨h',g',d',tk',os'⟩:=s')
    (have eg:g'=s.gens:=hm.gens)
    (have ed:d'=s.drawn:=hm.drawn)
    have eo:os'=s.os:=hm.os;subst eg;subst ed;subst eo;show KH _ _ _ _ _ _;refine Kf ?_
    (show KH _ _ (ret Mv) _ _ _)
    refine Kf ⟨rfl,h',tk',rfl,hp,λb o hb e=>hm.heap b o ?_ (hk b o (Kl _ e))⟩;simp only [KA,LH,or_false,not_or];exact ⟨KI hb,KI (LS hb hSI)⟩
   ·cases r₂ with
    | error e=>exact hr₂
    | ok fl₂=>
     cases fl₂ with
     | ret r=>
      obtain ⟨rfl,h',tk,rfl,hp,hk'⟩:=hr₂
      (repeat (any_goals (first | assumption | wp_step)))
      exact h _ _ hp hk'
     | _=>exact hr₂.elim
  | _=>exact hr.elim
theorem Ar (hh:A.handled=none) (hl:s.heap.IsTuple l JX):zW prog w A E s l JX:=by
 obtain ⟨ol,IB,hcl,nl,hdl⟩:=id hl;have hl1:(s.heap.push (d8 (cC w))).IsTuple l JX:=⟨_,Kl _ IB,hcl,nl,hdl⟩;have hlS:l < s.heap.objs.size:=Kz IB;have z1:(s.heap.push (d8 (cC w))).objs.size=s.heap.objs.size + 1:=Ma _ _;have IL:l≠(s.heap.push (d8 (cC w))).objs.size:=by rw [z1];exact KI (MY hlS)
 refine ⟨_,_,_,_,(Walks.tuple (A:=A.in1.in1.in1) (by simp [hh]) (s.heap.push (d8 (cC w))).objs.size l IL JX).toS,?_,?_,⟨⟨_,Kn _ rfl,rfl,rfl⟩,hl1.push _⟩,λb o e=>Kl _ e,λR q=>Ri hl1 q⟩
 ·rw [z1];simp only [KA,LH,or_false,not_or];exact ⟨KI (LI _),Mq hlS⟩
 ·rw [z1];exact LI _
theorem Ca (hh:A.handled=none) (hl:s.heap.IsList l JX):zW prog w A E s l JX:=by
 obtain ⟨ol,IB,hcl,nl,hdl⟩:=id hl;have hl1:(s.heap.push (d8 (cC w))).IsList l JX:=⟨_,Kl _ IB,hcl,nl,hdl⟩;have hlS:l < s.heap.objs.size:=Kz IB;have z1:(s.heap.push (d8 (cC w))).objs.size=s.heap.objs.size + 1:=Ma _ _;have IL:l≠(s.heap.push (d8 (cC w))).objs.size:=by rw [z1];exact KI (MY hlS)
 refine ⟨_,_,_,_,(SK (A:=A.in1.in1.in1) (by simp [hh]) (s.heap.push (d8 (cC w))).objs.size l IL JX).toS,?_,?_,⟨⟨_,Kn _ rfl,rfl,rfl⟩,hl1.push _⟩,λb o e=>Kl _ e,λR q=>N9 hl1 q⟩
 ·rw [z1];simp only [KA,LH,or_false,not_or];exact ⟨KI (LI _),Mq hlS⟩
 ·rw [z1];exact LI _
end
end DL
namespace ST
open PySem PySem.SetTable
theorem sF {xs:Array Nat}(hs:xs.toList.Pairwise (· < ·)) (hi:i<=xs.size) (h1:∀k,k < i->xs.getD k 0 < j) (h2:∀k,i<=k->k < xs.size->j<=xs.getD k 0):below xs j=i:=by
 obtain ⟨b1,b2,b3⟩:=jU xs j hs;rcases RD (below xs j) i with c | c | c
 ·have:=h1 _ c;have:=b3 _ (Kr _) (by omega);omega
 ·exact c
 ·have:=b2 _ c;have:=h2 i (Kr _) (by omega);omega
theorem wW {xs:Array Nat}(hs:xs.toList.Pairwise (· < ·)):below xs 0=0:=sF hs (K1 _) (λk h=>absurd h (Mt _)) λk _ _=>K1 _
theorem wV {xs:Array Nat}(hs:xs.toList.Pairwise (· < ·)) (h:xs[i]?=some j):below xs (j + 1)=i + 1:=by
 obtain ⟨hi,e⟩:=Lx.mp h;have sw:=Nx.mp hs;have gd:∀k (hk:k < xs.size),xs.getD k 0=xs[k]:=λk hk=>by simp [Mx,hk]
 refine sF hs (by omega) (λk hk=>?_) (λk h1 h2=>?_)
 ·rw [gd k (by omega)];by_cases c:k=i
  ·subst c;omega
  ·have:=sw k i (by simp;omega) (by simpa using hi) (by omega);simp at this;omega
 ·rw [gd k h2];have:=sw i k (by simpa using hi) (by simpa using h2) (by omega);simp at this;omega
theorem qI {α:Type}(next:Nat->Nat):∀(f k:Nat) (left:List α) (out:Array α),f=left.length->(RO next f k left out).toList.Perm (out.toList++left)
 | 0,k,left,out,h=>by have:left=[]:=Po.mp h.symm;subst this;unfold RO;simp
 | f + 1,k,left,out,h=>by
  have hl:next k % left.length < left.length:=Pe _ (by omega);unfold RO;rw [KG hl];dsimp only;refine (qI next f (k + 1) _ _ (by rw [QF];simp [hl];omega)).trans ?_;rw [Array.toList_push,Nq]
  (refine TJ _ ?_)
  have e1:left.eraseIdx (next k % left.length)=left.take (next k % left.length)++left.drop (next k % left.length + 1):=Ob _ _;have e2:left=left.take (next k % left.length)++left[next k % left.length]::left.drop (next k % left.length + 1):=by rw [PY,MN]
  rw [e1,Om];exact (Py.symm).trans (Qp e2.symm)
theorem xP {α:Type}(next:Nat->Nat) (xs:Array α):(Sh next xs).toList.Perm xs.toList:=by have h:=qI next xs.size 0 xs.toList #[] (by simp);rw [show (#[]:Array α).toList++xs.toList=xs.toList from rfl] at h;exact h
end ST
namespace DL
open PySem PySem.Spec PyProof.Rows L2 ST
structure iP (h:L7) (a:KJ) (led:Bool) (es:Array (Int×Kg)) (ep:Nat) (t:Lj):Prop where
 at_:h.get? a=some {cls:=.type "set",dict:=none,data:=.set es ep t}
 tab:∃L,Tab t es L
 pl:led=true->(!t.plain && decide (es.size > 1))=false
 ld:t.led=led
theorem iP.keep {h h':L7}(S:iP h a led es ep t) (e:∀o,h.get? a=some o->h'.get? a=some o):iP h' a led es ep t:=⟨e _ S.at_,S.tab,S.pl,S.ld⟩
noncomputable abbrev jk (w:K5):Bool:=!w.params.followText "set-order"
noncomputable def fP (w:K5) (a ep:Nat) (es:Array (Int×Kg)):Array (Int×Kg):=if w.params.followText "set-order"=true then Sh (w.params.setOrder a ep) es else es
theorem ny (w:K5) (a ep:Nat) (es:Array (Int×Kg)):(fP w a ep es).toList.Perm es.toList:=by
 unfold fP;split
 ·exact xP _ _
 ·exact .refl _
theorem jw (w:K5) (a ep:Nat) (es:Array (Int×Kg)):(fP w a ep es).size=es.size:=by rw [<-KN,(ny w a ep es).length_eq,KN]
noncomputable abbrev kP (a:KJ) (slot i n ep:Nat):Obj:={cls:=.type "set_iterator",data:=.fields #[.int slot 0,.int i 0,.ref a,.int n 0,.int ep 0]}
theorem jh:Uq table "set.__iter__"=some Ph.«frozenset.__iter__»:=
 (Sv (id':="frozenset.__iter__") (by kernel_rfl) rfl (by decide +kernel) (by kernel_rfl))
theorem bP:Slot "set_iterator" "__next__" "set_iterator.__next__":=
 (.of (owner:="set_iterator") (n:="__next__") (by rw [Qq,Oo];kernel_rfl) (by decide +kernel) (by decide +kernel) (by decide +kernel)
  (by first | exact .inl (by decide +kernel) | exact .inr (by decide +kernel)) (by rw [Ny];kernel_rfl))
theorem gu:Uq table "set_iterator.__next__"=some Ph.«set_iterator.__next__»:=(entryFor_of_tree (by kernel_rfl))
theorem gD (a:Kg):SM "set_iterator.__next__" ⟨[a],[]⟩:=by unfold SM;kernel_rfl
section
variable {prog:KL}{w:K5}{A:Lh}{E:Kg->Kh->Prop}{s:Kh}
theorem Au {a:KJ}{es:Array (Int×Kg)}{ep:Nat}{t:Lj}{Q:Kg->Kh->Prop}(S:iP s.heap a (jk w) es ep t)
  (hQ:Q (.ref s.heap.objs.size) {s with heap:=s.heap.push (kP a 0 0 es.size ep)}):KH (KS prog w) A (OE (.ref a)) Q E s:=by
 obtain ⟨L,T⟩:=S.tab;have hT:s.TypeIs (.ref a) "set":=⟨_,S.at_,rfl⟩;refine Oc hT OR (Lo OR hT jh ?_ (RH _));show KH _ _ (M1 a >>= _) _ _ s;unfold M1;refine Kd (Kd (ME S.at_ rfl (cg T) (Kf ?_)));unfold setDrawn QA;refine Kd (Kd (M3 S.at_ rfl (cg T) (Kd (Kd (L4 (Kf (Kf ?_)))))));dsimp only;split
 ·rename_i c;have c:(!w.params.followText "set-order" && (!t.plain && decide (es.size > 1)))=true:=c;rw [KU] at c;exact absurd (c.2.symm.trans (S.pl c.1)) (by decide)
 ·(refine Kd (Kf ?_))
  refine Kd (RI S.at_ rfl (cg T) ?_)
  (refine Kd (KZ ?_))
  exact Kf ⟨_,rfl,"set_iterator",_,⟨_,Kn _ rfl,rfl⟩,bP.lookup,hQ⟩
theorem ux {t:Lj}{Q:Option (Kg×Nat)->Kh->Prop}(S:iP s.heap a (jk w) es ep t) (hb:w.params.followText "set-order"=false->Nz t.place slot=i)
 (q1:∀e slot',(fP w a ep es)[i]?=some e->(w.params.followText "set-order"=false->Nz t.place slot'=i + 1)->Q (some (e.2,slot')) s) (q2:(fP w a ep es)[i]?=none->Q none s):
  KH (KS prog w) A (setNext a slot i ep) Q E s:=by
 obtain ⟨L,T⟩:=S.tab;unfold setNext QA;refine Kd (M3 S.at_ rfl (cg T) ?_);dsimp only
 (refine Kd (Kd (L4 (Kf ?_))))
 dsimp only;cases bt:w.params.followText "set-order" with
 | true=>
  rw [show (KS prog w).w.params.followText "set-order"=true from bt];simp only [if_true,bne_self_eq_false,Lw,if_false];unfold setWalk QA;refine Kd (Kd (M3 S.at_ rfl (cg T) ?_));dsimp only
  (refine Kd (Kd (L4 (Kf ?_))))
  dsimp only;rw [show (KS prog w).w.params.followText "set-order"=true from bt];simp only [if_true];refine Kd (L4 (Kf ?_));dsimp only;have ew:fP w a ep es=Sh ((KS prog w).w.params.setOrder a ep) es:=by unfold fP;rw [if_pos bt];rfl
  rw [ew] at q1 q2;cases q:(Sh ((KS prog w).w.params.setOrder a ep) es)[i]? with
  | none=>exact Kf (q2 q)
  | some e=>exact Kf (q1 e slot q λz=>absurd (bt.symm.trans z) (by decide))
 | false=>
  rw [show (KS prog w).w.params.followText "set-order"=false from bt]
  (simp only [Lw,if_false])
  have ew:fP w a ep es=es:=by unfold fP;rw [if_neg (by rw [bt];decide)]
  rw [ew] at q1 q2;have Jd:t.led=true:=by rw [S.ld];show (!w.params.followText "set-order")=true;rw [bt];rfl
  split
  ·rename_i c;have c:(!t.plain && decide (es.size > 1))=true:=c;exact absurd (c.symm.trans (S.pl (by show (!w.params.followText "set-order")=true;rw [bt];rfl))) (by decide)
  ·refine Kd (NG (a:=()) ?_ ?_)
   ·show (if (!t.led && !es.isEmpty)=true then _ else pure ())=pure ();rw [Jd];rfl
   ·rw [hb bt];cases q:es[i]? with
    | none=>exact Kf (q2 q)
    | some e=>
     have hlen:i < t.place.size:=by
      have h1:=(Lx.mp q).1;have h2:t.place.size=es.size:=by rw [<-KN,T.pl,Km,qf T]
      omega
     have ep':t.place[i]?=some t.place[i]:=LV hlen;rw [ep'];exact Kf (q1 e _ q λ_=>wV T.sop ep')
theorem AF {es:Array (Int×Kg)}{t:Lj}{Q:Option Kg->Kh->Prop}(hne:a≠I) (S:iP s.heap a (jk w) es ep t) (hI:s.heap.get? I=some (kP a slot i es.size ep)) (hb:w.params.followText "set-order"=false->Nz t.place slot=i) (hi:i < es.size)
 (hQ:∀h' slot' e,(fP w a ep es)[i]?=some e->h'.get? I=some (kP a slot' (i + 1) es.size ep)->(w.params.followText "set-order"=false->Nz t.place slot'=i + 1)->Mp I s.heap h'->Q (some e.2) {s with heap:=h'}):
  KH (KS prog w) A (NI (.ref I)) Q E s:=by
 obtain ⟨L,T⟩:=S.tab;have hT:s.TypeIs (.ref I) "set_iterator":=⟨_,hI,rfl⟩;unfold NI;refine Kd (NT (LM (name:=NJ "__next__") hT bP (Lo bP hT gu ?_ (gD _))));show KH _ _ (Te (.ref I) >>= _) _ _ s;refine Kd (O6 hI rfl ?_);dsimp only;refine Kd (ME S.at_ rfl (cg T) ?_);simp only [bne_self_eq_false,Lw,if_false,Mg];refine Kd (ux S hb (λe slot' q1 q2=>?_) λq=>?_)
 ·dsimp only;refine Kd (MO hI (by simp) λh1 g1 b1=>?_);refine Kd (MO (s:={s with heap:=h1}) g1 (by simp) λh2 g2' b2=>?_);exact Kf ⟨_,rfl,Kf (hQ h2 slot' e q1 (g2'.trans (by simp [Tj])) q2 (b1.trans b2))⟩
 ·exfalso;have:=(Array.getElem?_eq_none_iff.mp q);rw [jw] at this;omega
theorem B5 {es:Array (Int×Kg)}{t:Lj}{Q:Option Kg->Kh->Prop}(hh:A.handled=none) (S:iP s.heap a (jk w) es ep t) (hI:s.heap.get? I=some (kP a slot es.size es.size ep)) (hb:w.params.followText "set-order"=false->Nz t.place slot=es.size)
 (hQ:∀h',Ud I s.heap h'->Q none {s with heap:=h'}):KH (KS prog w) A (NI (.ref I)) Q E s:=by
 obtain ⟨L,T⟩:=S.tab;have hT:s.TypeIs (.ref I) "set_iterator":=⟨_,hI,rfl⟩;unfold NI;refine Kd (NT (LM (name:=NJ "__next__") hT bP (Lo bP hT gu ?_ (gD _))));show KH _ _ (Te (.ref I) >>= _) _ _ s;refine Kd (O6 hI rfl ?_);dsimp only;refine Kd (ME S.at_ rfl (cg T) ?_);simp only [bne_self_eq_false,Lw,if_false,Mg];refine Kd (ux S hb (λe slot' q1 q2=>?_) λq=>?_)
 ·exfalso;have:=(Lx.mp q1).1;rw [jw] at this;omega
 ·dsimp only;refine Kd (MO hI (by simp) λh1 g1 b1=>?_);refine Kd ?_;simp only [newExc,newTuple]
  (refine Kd (KZ ?_ (by size_fits)))
  (refine Kd (m:=O7 _ _) (NG (a:=Mv) (by first | rfl | (simp only [O7];rfl)) ?_))
  (refine KZ ?_ (by size_fits))
  simp only [raiseNew]
  (refine Kd (Tf ?_))
  (first | rw [show A.in1.handled=none from hh] | rw [hh])
  (refine Kd (Kf (wpAny_throw ?_)))
  (refine Kd (PF (T:="StopIteration") (b:=true) ⟨_,Kn _ rfl,rfl⟩ Sw ?_))
  exact Kf (hQ _ ((b1.extBut.push _).push _))
end
theorem rN:typeLookup (.type "set") "__len__"=pure (some (.builtin "set.__len__")):=by rw [Qq,Oo];kernel_rfl
theorem pH {M:SW}{A:Lh}{E:Kg->Kh->Prop}{s:Kh}{α:Type}{c:Prop} [Decidable c] {m1 m2:Sem α}{Q:α->Kh->Prop}(hc:c) (h:KH M A m1 Q E s):KH M A (if c then m1 else m2) Q E s:=by rw [if_pos hc];exact h
theorem tw {prog:KL}{w:K5}{A:Lh}{E:Kg->Kh->Prop}{s:Kh}{a:KJ}{Q:Bool->Kh->Prop}(hT:s.TypeIs (.ref a) "set") (hQ:Q false s):KH (KS prog w) A (OS (.ref a)) Q E s:=by
 have sp:splitId "set.__len__"=some ("set","__len__"):=by decide +kernel
 (unfold OS)
 refine Kd (wpAny_specialOf hT rN ?_);dsimp -zeta only;rw [sp];dsimp -zeta only;refine Kd (m:=isInstance (.ref a) (.type "set")) (PF hT sub_set_self ?_)
 (show KH _ _ (if (!true)=true then _ else _) _ _ _)
 rw [if_neg (by decide)];refine pH (by decide +kernel) ?_
 (refine Kd (NK hT ?_))
 exact Kf hQ
theorem gM:Slot "set_iterator" "__iter__" "set_iterator.__iter__":=
 ((.of (owner:="set_iterator") (n:="__iter__") (by rw [Qq,Oo];kernel_rfl) (by decide +kernel) (by decide +kernel) (by decide +kernel)
  ((by first | exact .inl (by decide +kernel) | exact .inr (by decide +kernel))) (by rw [Ny];kernel_rfl)))
theorem kL:Uq table "set_iterator.__iter__"=some Ph.«dict_keyiterator.__iter__»:=
 (Sv (id':="dict_keyiterator.__iter__") (by kernel_rfl) rfl (by decide +kernel) (by kernel_rfl))
theorem k_ (a:Kg):SM "set_iterator.__iter__" ⟨[a],[]⟩:=by unfold SM;kernel_rfl
section
variable {prog:KL}{w:K5}{A:Lh}{E:Kg->Kh->Prop}{s:Kh}
noncomputable def jn (w:K5) (a ep:Nat) (es:Array (Int×Kg)):List Kg:=(fP w a ep es).toList.map (·.2)
theorem zT (hh:A.handled=none) (I a:KJ) (hne:a≠I){es:Array (Int×Kg)}{t:Lj}:
  Walks prog w A I [I,a] [I] es.size (λi v=>(jn w a ep es)[i]?=some v) (λi h=>∃slot,h.get? I=some (kP a slot i es.size ep)/\iP h a (jk w) es ep t/\(w.params.followText "set-order"=false->Nz t.place slot=i)) where
 sub:=λ_ hb=>by simp at hb;simp [hb]
 frame:=λ_ _ _ ⟨slot,h1,h2,h3⟩ hk=>⟨slot,hk I (by simp) _ h1,h2.keep λo e=>hk a (by simp) o e,h3⟩
 item:=λi s Q E hi ⟨slot,h1,h2,h3⟩ hQ=>by
  refine AF hne h2 h1 h3 hi λh' slot' e q1 q2 q3 q4=>?_;refine hQ e.2 h' s.toks ?_ ⟨slot',q2,h2.keep λo e=>?_,q3⟩ λb o hb e=>?_
  ·unfold jn;rw [KQ,Ni,q1];rfl
  ·rw [q4.2 a hne];exact e
  ·exact q4.extBut b o (λh=>hb (by simp [h])) e
 done:=λs Q E ⟨slot,h1,h2,h3⟩ hQ=>B5 hh h2 h1 h3 λh' he=>hQ h' s.toks λb o hb e=>he b o (λh=>hb (by simp [h])) e
 self:=λi s Q E ⟨slot,h1,h2,h3⟩ hQ=>by have hT:s.TypeIs (.ref I) "set_iterator":=⟨_,h1,rfl⟩;refine Oc hT gM (Lo gM hT kL ?_ (k_ _));show KH _ _ (ret (.ref I)) _ _ s;exact Kf ⟨_,rfl,"set_iterator",_,hT,bP.lookup,hQ⟩
theorem uQ {a:KJ}{es:Array (Int×Kg)}{ep:Nat}{t:Lj}{Q:List Kg->Kh->Prop}(hh:A.handled=none) (S:iP s.heap a (jk w) es ep t) (hn:es.size<=76)
  (hQ:∀(h':L7) (tk:Nat),(∀b o,s.heap.get? b=some o->h'.get? b=some o)->s.heap.objs.size < h'.objs.size->Q (jn w a ep es) {s with heap:=h',toks:=tk}):KH (KS prog w) A (collect (.ref a)) Q E s:=by
 have ha:a < s.heap.objs.size:=Kz S.at_;have hT:s.TypeIs (.ref a) "set":=⟨_,S.at_,rfl⟩;unfold collect
 (refine Kd (QO (LU Qs ?_)))
 (rw [Ln Qt _])
 show KH _ A.in1 (newList [] >>= λl=>again (.builtin "list.__iadd__" ⟨[l,.ref a],[]⟩)) _ _ s
 (refine Kd (KZ ?_))
 (refine Kf ⟨Mk Od _,LU RJ ?_⟩)
 (rw [Ln Od _])
 generalize Jc:({cls:=.type "list",data:=.seq ([]:List Kg).toArray}:Obj)=l0;have S1:iP (s.heap.push l0) a (jk w) es ep t:=S.keep λo e=>Kl _ e;have hT1:N3 {s with heap:=s.heap.push l0} (.ref a) "set":=⟨_,S1.at_,rfl⟩;show KH _ A.in1 (MF (.ref s.heap.objs.size) (.ref a) (.ref s.heap.objs.size)) _ _ _
 (unfold MF)
 refine Kd (NK hT1 ?_);have h1:Pg (.ref s.heap.objs.size) (.ref a)=false:=by show (s.heap.objs.size == a)=false;exact beq_eq_false_iff_ne.mpr (Mq ha)
 have h2:(M9 "set" == M9 "list")=false:=by decide
 have h3:(M9 "set" == M9 "tuple")=false:=by decide
 (simp only [h1,h2,h3,Ra,Lw,if_false])
 refine Kd (Au S1 ?_)
 (refine Kd (Lz ?_))
 have z1:(s.heap.push l0).objs.size=s.heap.objs.size + 1:=Ma _ _;rw [z1];have S2:iP ((s.heap.push l0).push (kP a 0 0 es.size ep)) a (jk w) es ep t:=S1.keep λo e=>Kl _ e;have hT2:N3 {s with heap:=(s.heap.push l0).push (kP a 0 0 es.size ep)} (.ref a) "set":=⟨_,S2.at_,rfl⟩;refine tw hT2 ?_;refine pH (by decide +kernel) ?_
 (refine Kd (N_ ?_))
 subst Jc;have hI:((s.heap.push {cls:=.type "list",data:=.seq ([]:List Kg).toArray}).push (kP a 0 0 es.size ep)).get? (s.heap.objs.size + 1)=some (kP a 0 0 es.size ep):=by rw [<-z1];exact Kn _ rfl
 have hS₁:((s.heap.push {cls:=.type "list",data:=.seq ([]:List Kg).toArray}).push (kP a 0 0 es.size ep)).get? s.heap.objs.size=some {cls:=.type "list",data:=.seq ([]:List Kg).toArray}:=Kl _ (Kn _ rfl);refine Kd ?_
 (show KH _ A.in1 (Qg s.heap.objs.size (·.push .none) >>= λ_=>Qg s.heap.objs.size (·.pop)) _ _ _)
 (refine Kd (Ms hS₁ rfl ?_))
 (have hS₂:=LF (MW (·.push Mv)) hS₁ rfl)
 (refine Ms hS₂ rfl ?_)
 (have hS₃:=LF (MW (·.pop)) hS₂ rfl)
 have oth:∀b o,b≠s.heap.objs.size->((s.heap.push {cls:=.type "list",data:=.seq ([]:List Kg).toArray}).push (kP a 0 0 es.size ep)).get? b=some o->
   ((((s.heap.push {cls:=.type "list",data:=.seq ([]:List Kg).toArray}).push (kP a 0 0 es.size ep)).update s.heap.objs.size (MW (·.push Mv))).update s.heap.objs.size (MW (·.pop))).get? b=some o:=
  (λb o hb e=>(Lf _ _ (Mz hb)).trans ((Lf _ _ (Mz hb)).trans e))
 have hne:a≠s.heap.objs.size + 1:=KI (MY ha);have hSf:s.heap.objs.size∉[s.heap.objs.size + 1,a]:=by simp only [KA,LH,or_false,not_or];exact ⟨KI (LI _),Mq ha⟩
 obtain ⟨L,T⟩:=S.tab;refine Kf ⟨Mk QX _,QG ((zT (A:=A.in1) (prog:=prog) (w:=w) (es:=es) (ep:=ep) (t:=t) hh (s.heap.objs.size + 1) a hne).toS) (by rw [Ly];omega) _ hSf _ es.size 0 _ _ _ rfl (K1 _)
  ⟨0,oth _ _ (Mq (LI _)) hI,S2.keep λo e=>oth _ _ (KI ha) e,λ_=>wW T.sop⟩ hS₃ (Ue _) λs' acc' c' hm hS' hacc=>?_⟩
 (show KH _ A (load s.heap.objs.size >>= _) _ _ s')
 (refine Kd (SD hS' ?_))
 have eacc:acc'.toList=jn w a ep es:=by
  obtain ⟨z,q⟩:=hacc;have lw:(jn w a ep es).length=es.size:=by unfold jn;rw [Km,KN,jw]
  refine NC (by rw [KN,z,lw]) λi x1 x2=>?_;have this:(jn w a ep es)[i]?=some (acc'[i]'(by simpa using x1)):=q i _ (LV (by simpa using x1));rw [KG x2] at this
  (exact (Lp this).symm)
 refine Kf ?_;rw [eacc]
 (obtain ⟨h',g',d',tk',os'⟩:=s')
 (have eg:g'=s.gens:=hm.gens)
 (have ed:d'=s.drawn:=hm.drawn)
 have eo:os'=s.os:=hm.os;subst eg;subst ed;subst eo;refine hQ h' tk' (λb o e=>?_) (Kz hS');have lb:=Kz e;refine hm.heap b o ?_ (oth b o (KI lb) (Kl _ (Kl _ e)));simp only [KA,LH,or_false,not_or];exact ⟨KI lb,KI (MY lb)⟩
end
end DL
namespace DL
open PySem PySem.Spec PyProof.Rows L2 ST
open PySem.W (KasT kas_sort kas_ask)
noncomputable def dd:List D->List D
 | []=>[]
 | x::xs=>if (dd xs).any (dh x)=true then dd xs else x::dd xs
end DL
namespace DL
open PySem PySem.Spec PyProof.Rows L2
end DL
namespace DL
open PySem PySem.Spec PyProof.Rows L2 DX
end DL
namespace DL
open PySem PySem.Spec PyProof.Rows L2
end DL
namespace DL
open PySem PySem.Spec PyProof.Rows L2 DX
open PySem.W (KasT kas_sort kas_ask)
end DL
namespace DL
open PySem PySem.Spec PyProof.Rows L2 ST DX
open PySem.W (KasT kas_sort kas_ask)
end DL
namespace DL
open PySem PySem.Spec PyProof.Rows L2 DX
section
open PySem.SeqAt
open PySem.AutoSeq1 (wpAny_loadPart')
open PySem.MeetsSeq PySem.MeetsSeq2 PySem.MeetsSeq3
end
theorem pR (gt:GT) (gts:G Bool) (ge:G R):∀(ds:List D) (env:Ev) (k:List D->M R),(bC gt gts (fN ge) ds env >>= λr=>k r.1)=(dW gt gts ge ds env >>= k)
 | [],env,k=>rfl
 | d::ds,env,k=>by
  unfold bC dW;cases gt d env with
  | bad=>rfl
  | exc z=>rfl
  | ok e=>
   show ((gts e >>= λk=>if k=true then fN ge e >>= λr=>bC gt gts (fN ge) ds r.2 >>= λz=>.ok (r.1++z.1,z.2) else bC gt gts (fN ge) ds e) >>= _)=((gts e >>= λk=>if k=true then ge e >>= λr=>toD r >>= λy=>dW gt gts ge ds e >>= λys=>.ok (y::ys) else dW gt gts ge ds e) >>= _);cases gts e with
   | bad=>rfl
   | exc z=>rfl
   | ok b=>
    cases b with
    | false=>exact pR gt gts ge ds e k
    | true=>
     show ((fN ge e >>= λr=>bC gt gts (fN ge) ds r.2 >>= λz=>.ok (r.1++z.1,z.2)) >>= _)=((ge e >>= λr=>toD r >>= λy=>dW gt gts ge ds e >>= λys=>.ok (y::ys)) >>= _);unfold fN;cases ge e with
     | bad=>rfl
     | exc z=>rfl
     | ok r=>
      show (((toD r >>= λy=>M.ok ([y],e)) >>= λr=>bC gt gts (fN ge) ds r.2 >>= λz=>.ok (r.1++z.1,z.2)) >>= _)=((toD r >>= λy=>dW gt gts ge ds e >>= λys=>.ok (y::ys)) >>= _);cases toD r with
      | bad=>rfl
      | exc z=>rfl
      | ok y=>
       have ih:=pR gt gts ge ds e λys=>k (y::ys);show ((bC gt gts (fN ge) ds e >>= λz=>.ok ([y]++z.1,z.2)) >>= λr=>k r.1)=((dW gt gts ge ds e >>= λys=>M.ok (y::ys)) >>= k);have e1:((bC gt gts (fN ge) ds e >>= λz=>M.ok ([y]++z.1,z.2)) >>= λr=>k r.1)=(bC gt gts (fN ge) ds e >>= λr=>k (y::r.1)):=by cases bC gt gts (fN ge) ds e <;> rfl
       have e2:((dW gt gts ge ds e >>= λys=>M.ok (y::ys)) >>= k)=(dW gt gts ge ds e >>= λys=>k (y::ys)):=by cases dW gt gts ge ds e <;> rfl
       rw [e1,e2,ih]
theorem B8 (n:Nat) (cap:List Nat) (gi:G (List D)) (gt:GT) (gts:G Bool) (ge:G R):bU n cap gi gt gts ge=gk sizeLine n cap gi gt gts (fN ge) (λys=>.ok (.l .fresh ys)):=by
 funext env;unfold bU gk;cases gi env with
 | bad=>rfl
 | exc z=>rfl
 | ok ds=>
  show (if ds.length<=sizeLine then _ else _)=(if ds.length<=sizeLine then _ else _);by_cases c:ds.length<=sizeLine
  ·rw [if_pos c,if_pos c];exact (pR gt gts ge ds _ λys=>.ok (.l .fresh ys)).symm
  ·rw [if_neg c,if_neg c]
section
variable {X:Cx}{c:C}
theorem iu (own:List Str) (cap:List Nat){JV:M5}{pos:Pos}{gi:G (List D)}{gts:G Bool}{ge:G R}(hi:vf X c JZ J6 gi)
 (hbody:∀(cl:List (Str×KJ)) (C:KJ) (s:Kh) (H:Hp) (fp:List KJ),ef X.env.cells JV.names []=some cl->k9 (cR X own cap JV cl C s H fp) c JZ gt/\k8 (cR X own cap JV cl C s H fp) c ifs gts/\QD (cR X own cap JV cl C s H fp) c elt ge) (a:u6 X JV cap J6:=by exact Bl rfl):rO X c (.ListComp elt [⟨JZ,J6,ifs,0⟩] JV pos) (bU own.length cap gi gt gts ge):=by
 refine ⟨_,?_,rfl,λ_=>rfl⟩;rw [B8];refine jW (e:=.ListComp elt [⟨JZ,J6,ifs,0⟩] JV pos) (ob:={cls:=.type "list",dict:=none,data:=.seq ([]:List Kg).toArray}) (o0:=λ_=>.lst []) (Acc:=λp _=>wM c p) (N:=1) (lim:=sizeLine) (m:=λp env=>do let _ <-call (.builtin "list.append") [.ref p,<-eval elt env]) own cap rfl hi.h
  (λs Q E q=>KZ q) (λh H=>⟨K1 _,[],0,.nil,Kn _ rfl⟩) (λp _=>nD) (λp _ J H _ h1 h2=>⟨[],h1,h2,.nil⟩) (by rw [Nat.mul_one];exact Kr _) (λit p env=>xD (compTurn_list ..)) (λit acc env R s h0 h=>PU h0 h) (λys z q=>by cases q)
  (fun {p H2 J H J' H' ys r} hp _ e ⟨us,h1,h2,h3⟩ q=>by cases q;exact ⟨J',e,⟨p,us,rfl,h1,h2,hp,h3⟩⟩) (λcl C s H fp hcc=>?_) pI a
 obtain ⟨b1,b2,b3⟩:=hbody cl C s H fp hcc;exact ⟨b1.h,b2.h,λp J2 H2 hp2 hp0=>vm hp2 hp0 b3.h⟩
end
end DL
namespace DL
open PySem PySem.Spec PyProof.Rows L2 DX
open Sem (wp)
end DL
namespace DL
open PySem PySem.Spec PyProof.Rows L2 DX
end DL
namespace DL
open PySem PySem.Spec PyProof.Rows L2
noncomputable def FA (K:Ke) (x:Str) (st:Nc):Prop:=∃f fd,K9 K KW x=some (some (.ref f))/\gP K x x st f fd
theorem FI {K:Ke}{st:Nc}(a:K9 K KW x=some (some (.ref f)))
 (l:K.lookup f=some ⟨u,o,.func (LR x x (dO st) (bQ st) (aT st) .none v d p n q r),s⟩) (c:Oe K q x=true) (k:Na K (.ref f)=true):FA K x st:=⟨f,_,a,yQ l c k⟩
noncomputable def FB (K:Ke) (mg:Str->Option Kg) (x:Str) (st:Nc):Prop:=∃f fd,mg x=some (.ref f)/\gP K x x st f fd
theorem cL {K:Ke}{h:L7}{mg:Str->Option Kg}(X:K.In h) (G:h.Ns KW mg){st:Nc}(e:FA K x st):FB K mg x st:=let ⟨f,fd,a,F⟩:=e;⟨f,fd,M7 X G a,F⟩
theorem Ht {P:KL}{w:K5}{K:Ke}{mg:Str->Option Kg}{base:L7}{x:Str}{st:Nc}{k:Nat}{Fm:List S->M R}(gB:G O) (N:List Str) (n:Nat) (e:FB K mg x st)
  (hb:N.Nodup->∀(f:KJ) (cdv:Kg) (A:Lh) (outer:List Env) (s:Kh) (H:Hp) (E:XK) (J:Hp) (T:Exc->Prop),dg k (A.deeper (OG x (aT st) s.heap.objs.size f cdv))->
   kK (sV P w K mg base N x (aT st) f cdv A outer s H E) ⟨K,H,J,T⟩ (bQ st) gB)
  (Sc:c7 N (N.take n) (aT st))
  (hbi:∀(kV doc pm:Kg) (an:Option KJ) (cdv ct:Kg) (us:List Kg),us.length=(N.take n).length->Qx (LR x x (dO st) (bQ st) (aT st) .none kV doc pm an cdv ct) ⟨us,[]⟩=pure ((N.take n).zip us))
  (hF:∀as r,as.length=(N.take n).length->Fm as=.ok r->fin (gB (aF N as))=.ok r):bq P w K mg base (k + 1) (N.take n).length x Fm:=
 let ⟨f,_,hm,F⟩:=e;jM F hm Sc hbi (hb Sc.nd f) hF
theorem qc {P:KL}{w:K5}{K:Ke}{mg:Str->Option Kg}{base:L7}{x:Str}{st:Nc}{k:Nat}{Fm:List S->M R}(gB:G O) (N:List Str) (n:Nat) (e:FB K mg x st)
  (hb:N.Nodup->∀(f:KJ) (cdv:Kg) (A:Lh) (outer:List Env) (s:Kh) (H:Hp) (E:XK) (J:Hp) (T:Exc->Prop),dg k (A.deeper (OG x (aT st) s.heap.objs.size f cdv))->
   kK (sV P w K mg base N x (aT st) f cdv A outer s H E) ⟨K,H,J,T⟩ (bQ st) gB)
  (Sc:c7 N (N.take n) (aT st):=by exact ⟨rfl,rfl,rfl,by decide +kernel,rfl,by decide +kernel,by decide +kernel⟩)
  (hbi:∀(kV doc pm:Kg) (an:Option KJ) (cdv ct:Kg) (us:List Kg),us.length=(N.take n).length->Qx (LR x x (dO st) (bQ st) (aT st) .none kV doc pm an cdv ct) ⟨us,[]⟩=pure ((N.take n).zip us):=by
   intro _ _ _ _ _ _ us hl;rcases us with _ | ⟨_,_ | ⟨_,_ | ⟨_,_ | ⟨_,_ | ⟨_,_ | ⟨_,_ | ⟨_,_⟩⟩⟩⟩⟩⟩⟩ <;> first | exact rfl | (cases hl;done) | exact nomatch hl)
  (hF:∀as r,as.length=(N.take n).length->Fm as=.ok r->fin (gB (aF N as))=.ok r:=by intro _ _ _ h;exact h):bq P w K mg base (k + 1) (N.take n).length x Fm:=
 Ht gB N n e hb Sc hbi hF
end DL
namespace DL
open PySem PySem.Spec PyProof.Rows L2 PySem.Builtin PySem.Builtin.Str
end DL
namespace DL
open PySem PySem.Spec PyProof.Rows L2 DX
end DL
namespace DL
open PySem PySem.Spec PyProof.Rows L2
end DL
namespace DL
open PySem PySem.Spec PyProof.Rows L2 DX
end DL
namespace DL
open PySem PySem.Spec PyProof.Rows L2
section
variable {X:Cx}{c:C}{a b:K8}{ga gb:G R}{pos:Pos}
noncomputable def F9 (K:Ke):R2:=λx y H Q=>∃l b xs zs,x=.ref l/\y=.ref b/\bV K H l xs/\bV K H b zs/\xs.length + zs.length<=sizeLine/\∀p,H p=none->Q (.ref p) (upd H p (.lst (xs++zs)))
theorem Cu:dI X (NP .Add) (F9 X.K):=by
 intro JW s σ H x y v u Q I rx ry h;obtain ⟨l,b,xs,zs,rfl,rfl,hl,hb,hz,q⟩:=h;cases rx;cases ry;obtain ⟨JY,r,p1,z1⟩:=I.list hl;obtain ⟨its2,r2,p2,z2⟩:=I.list hb;obtain ⟨⟨cls,dd,data,sl⟩,ho,hc,n,hd⟩:=id p1.isList;obtain ⟨⟨cls2,dd2,data2,sl2⟩,ho2,hc2,n2,hd2⟩:=id p2.isList
 (simp only at hc hd hc2 hd2)
 subst hc hd hc2 hd2;have e1:=r.length;have e2:=r2.length;refine concat_meets ⟨_,ho,rfl⟩ ⟨_,ho2,rfl⟩ noFill_list_add seq_list_add PySem.F.slot_list_add PySem.F.entry_list_add (PySem.F.args_list_add_2 _ _) (list_addW l b JY.toArray its2.toArray n n2 dd dd2 sl sl2 (by rw [Kv,Kv];omega)) ⟨ho,ho2,?_⟩;rw [show JY.toArray++its2.toArray=(JY++its2).toArray by simp];exact ⟨.ref _,_,I.lnew (t':=s.toks) (r.append r2) (by rw [Ko];omega),rfl,q _ I.fresh⟩
noncomputable def gF (x y:R):M R:=gj x >>= λxs=>gj y >>= λys=>if xs.length + ys.length<=sizeLine then .ok (.l .fresh (xs++ys)) else .bad
theorem kr (ha:QD X c a ga) (hb:QD X c b gb) (hK:X.K=c.K:=by rfl):QD X c (.BinOp a .Add b pos) (g2 gF ga gb):=⟨ki Cu (by
 intro He He' J H x y u v Q hp rx ry w;unfold gF at w;obtain ⟨xs,q1,w⟩:=iK w;obtain ⟨ys,q2,w⟩:=iK w;obtain ⟨p,vs,rfl,h1,s1⟩:=RR.list hp rx q1;obtain ⟨p2,vs2,rfl,h2,s2⟩:=RR.list hp ry q2;split at w
 ·rename_i hz;rw [s1.length,s2.length] at hz;exact ⟨p,p2,vs,vs2,rfl,rfl,by rw [hK];exact h1,by rw [hK];exact h2,hz,λq hq=>w _ J _ (Ext.new hp.sub hq _) (i8 hp hq (s1.append s2))⟩
 ·exact w.elim) ha.h hb.h⟩
end
end DL
namespace DL
open PySem PySem.Spec PyProof.Rows L2 DX
open Sem (wp)
end DL
namespace DL
open PySem PySem.Spec PyProof.Rows L2 DX
end DL
namespace DL
open PySem PySem.Spec PyProof.Rows L2
open PySem.W (KasT kas_sort kas_ask kas_item kat_run kat_snds)
end DL
namespace DL
open PySem PySem.Spec PyProof.Rows L2
end DL
namespace DL
open PySem PySem.Spec PyProof.Rows L2
open PySem.W (kas_sort)
end DL
namespace DL
open PySem PySem.Spec PyProof.Rows L2 DX
section
variable {X:Cx}{c:C}{pos:Pos}
open Classical in
end
end DL
namespace DL
open PySem PySem.Spec PyProof.Rows L2 ST
noncomputable def eU:List Str->List Str
 | []=>[]
 | x::r=>if (eU r).contains x then eU r else x::eU r
theorem gx:∀(l:List Str) (d:Str),d∈eU l↔d∈l
 | [],_=>UA
 | x::r,d=>by
  unfold eU;split
  ·rename_i h;rw [gx r,KA];exact ⟨.inr,λz=>z.elim (λz=>z▸(gx r x).mp (by simpa using h)) id⟩
  ·rw [KA,KA,gx r]
theorem lz:∀l:List Str,(eU l).Nodup
 | []=>Og
 | x::r=>by
  unfold eU;split
  ·exact lz r
  ·rename_i h;exact MB.mpr ⟨by simpa using h,lz r⟩
inductive d_ (w:K5):List (Int×Kg)->List Str->Prop
 | nil:d_ w [] []
 | cons {i:Str}{k:Tok}{es:List (Int×Kg)}{ns:List Str}:d_ w es ns->d_ w ((ND w i,.str i k)::es) (i::ns)
theorem d_.perm {w:K5}{es es':List (Int×Kg)}(p:es.Perm es'):∀{ns:List Str},d_ w es ns->∃ns',ns.Perm ns'/\d_ w es' ns':=by
 induction p with
 | nil=>intro ns h;exact ⟨ns,.refl _,h⟩
 | cons x _ ih=>
  intro ns h;cases h with
  | cons h3=>obtain ⟨ns',a,b⟩:=ih h3;exact ⟨_,a.cons _,.cons b⟩
 | swap x y l=>
  intro ns h;cases h with
  | cons h3=>cases h3 with
   | cons h6=>exact ⟨_,.swap _ _ _,.cons (.cons h6)⟩
 | trans _ _ ih1 ih2=>
  intro ns h;obtain ⟨k1,a,b⟩:=ih1 h;obtain ⟨k2,c,d⟩:=ih2 b;exact ⟨k2,a.trans c,d⟩
theorem d_.length {w:K5}{es:List (Int×Kg)}{ns:List Str}(h:d_ w es ns):es.length=ns.length:=by
 induction h with
 | nil=>rfl
 | cons _ ih=>simp [ih]
structure fM (w:K5) (h:L7) (a:KJ) (led:Bool) (ns:List Str) (es:Array (Int×Kg)) (ep:Nat) (t:Lj):Prop where
 at_:h.get? a=some {cls:=.type "set",dict:=none,data:=.set es ep t}
 tab:∃L,Tab t es L
 ld:t.led=led
 rm:ns.length * 5 < t.mask * 3
 en:d_ w es.toList ns
 nd:ns.Nodup
section
variable {w:K5}{prog:KL}{E:Kg->Kh->Prop}{A:Lh}{s:Kh}
theorem As {M:SW}{c:Prop} [Decidable c] {α β:Type}{m1 m2:Sem α}{k:α->Sem β}{Q:β->Kh->Prop}(h:KH M A ((if c then m1 else m2) >>= k) Q E s):KH M A (if c then m1 >>= k else m2 >>= k) Q E s:=by
 by_cases hc:c
 ·rw [if_pos hc] at h ⊢;exact h
 ·rw [if_neg hc] at h ⊢;exact h
theorem uZ {t:Lj}{es:Array (Int×Kg)}{L:List (Nat×Int×Kg)}(h:Tab t es L):Tab {t with plain:=false} es L:=by cases h;constructor <;> assumption
theorem d_.elems {es:List (Int×Kg)}{ns:List Str}(h:d_ w es ns):ElemsOf (Pj prog w) es:=by
 induction h with
 | nil=>exact λe he=>nomatch he
 | @cons i k es ns _ ih=>
  intro e he
  (rcases KA.mp he with rfl | he)
  ·exact ⟨⟨i,SO _ _ _ _,rfl⟩,rfl⟩
  ·exact ih e he
theorem d_.find {es:List (Int×Kg)}{ns:List Str}(h:d_ w es ns) (i:Str):(es.findIdx? λe=>(Pj prog w).is i e.2)=none↔i∉ns:=by
 rw [List.findIdx?_eq_none_iff]
 induction h with
 | nil=>simp
 | @cons j k es ns _ ih=>
  rw [KA,not_or,<-ih];have e:(Pj prog w).is i (.str j k)=decide (i=j):=KeyKind.is_eq_decide (SO prog w j k) i;constructor
  ·intro h;refine ⟨λz=>?_,λx hx=>h x (Kq _ hx)⟩;have:=h _ Ku;rw [e,z] at this;simp at this
  ·rintro ⟨h1,h2⟩ x hx
   (rcases KA.mp hx with rfl | hx)
   ·rw [e];simpa using h1
   ·exact h2 x hx
theorem vo {a:KJ}{es:Array (Int×Kg)}{ep:Nat}{t:Lj}{led:Bool}{ns:List Str}{i:Str}{k:Tok}{Q:Bool->Kh->Prop}(S:fM w s.heap a led ns es ep t) (hl:ns.length < 76)
  (q1:i∈ns->Q false s) (q2:i∉ns->∀(h':L7) ns' es' ep' t',Mp a s.heap h'->(i::ns).Perm ns'->fM w h' a led ns' es' ep' t'->Q true {s with heap:=h'}):
  KH (KS prog w) A (setAddHashed a (.str i k) (ND w i)) Q E s:=by
 obtain ⟨L,T⟩:=S.tab;have lenL:L.length=ns.length:=by rw [qf T,<-KN,S.en.length]
 have hes:es.size=ns.length:=by rw [<-KN,S.en.length]
 obtain ⟨n0,b1,b2,b3⟩:=xo T.mo (ND w i) (L.map (·.1)) (by rw [Km];exact T.fl)
 (unfold setAddHashed setAddHashedIn)
 refine Lz (Kd (M3 S.at_ rfl (cg T) ?_));dsimp only;have sc:byScan (.str i k) es=true:=byScan_of (prog:=prog) (w:=w) (knd:=Pj prog w) rfl (by unfold scanBound;omega) S.en.elems;rw [sc];simp only [if_true];unfold setAddByScan;refine Kd ?_
 (refine Kd (N_ ?_))
 refine Kd (wpAny_setScan_of (knd:=Pj prog w) (k:=i) (SO _ _ _ _) S.at_ rfl (cg T) S.en.elems ?_);cases hr:List.findIdx? (λe=>(Pj prog w).is i e.2) es.toList with
 | some j=>
  dsimp only;have hin:i∈ns:=Ml λz=>by have:=(S.en.find (prog:=prog) (w:=w) i).mpr z;rw [hr] at this;cases this
  exact Kf (Kf (q1 hin))
 | none=>
  dsimp only;have hm:i∉ns:=(S.en.find i).mp hr;have rm:=S.rm;have ln:=Co T (ND w i) (.str i k) n0 b2 b3 b1 (by rcases T.mo with h | h | h <;> rw [h] at rm ⊢ <;> omega);rw [ln];dsimp only
  (refine Kd (NG (a:=()) rfl ?_))
  obtain ⟨L',T',pm⟩:=T.put (ND w i) (.str i k) n0 b2 b3 (zq _ _ _) (by rcases T.mo with h | h | h <;> rw [h] at rm ⊢ <;> omega);have fl:(t.put (pos t.mask (ND w i) n0)).1.mask=t.mask/\(t.put (pos t.mask (ND w i) n0)).1.plain=t.plain/\(t.put (pos t.mask (ND w i) n0)).1.led=t.led:=⟨rfl,rfl,rfl⟩;generalize t.put (pos t.mask (ND w i) n0)=tp at T' fl ⊢;obtain ⟨t',p⟩:=tp;dsimp only at T' fl ⊢;obtain ⟨f1,f2,f3⟩:=fl;obtain ⟨ns',p1,p2⟩:∃ns',(i::ns).Perm ns'/\d_ w (Nr es p (ND w i,.str i k)).toList ns':=by refine d_.perm (es:=(ND w i,.str i k)::es.toList) ?_ (.cons S.en);rw [T'.en,T.en];exact (pm.map (·.2)).symm
  have nd':ns'.Nodup:=p1.nodup_iff.mp (MB.mpr ⟨hm,S.nd⟩);have lk:ns'.length=ns.length + 1:=by rw [<-p1.length_eq];rfl
  refine As (Kd (NG (a:=!t'.plain) (by generalize t'.plain=pl;cases pl <;> rfl) ?_));rw [show (if (!t'.plain)=true then t' else {t' with plain:=false})={t' with plain:=false} by cases t';rename_i pl;cases pl <;> rfl];have T':=uZ T';have f1:({t' with plain:=false}:Lj).mask=t.mask:=f1;have f3:({t' with plain:=false}:Lj).led=t.led:=f3;generalize ({t' with plain:=false}:Lj)=t' at T' f1 f3 ⊢;have esz:(Nr es p (ND w i,Th i k)).size=ns'.length:=by rw [<-KN,p2.length]
  refine Kd (RK S.at_ rfl ?_ (by rw [esz,Ly];omega));have hg:=LF (SQ (Nr es p (ND w i,.str i k)) t') S.at_ rfl;have hfill:t'.fill=ns'.length:=by unfold Tc;rw [T'.dm,<-KN,T'.pl,Km,qf T',esz];rfl
  split
  ·rename_i c;simp only [Sx,Pk] at c;unfold RU at c;rw [hfill,f1,decide_eq_true_eq] at c;have hW:(Nf (O8 ns'.length)=32/\ns'.length=5)\/(Nf (O8 ns'.length)=128/\ns'.length=19):=by
    unfold O8;rw [if_neg (by omega)];rcases T.mo with h | h | h
    ·rw [h] at c rm;have:ns'.length=5:=by omega
     rw [this];exact .inl ⟨BQ,rfl⟩
    ·rw [h] at c rm;have:ns'.length=19:=by omega
     rw [this];exact .inr ⟨BR,rfl⟩
    ·rw [h] at c;omega
   have hmo:jz (Nf (O8 ns'.length) - 1):=by rcases hW with ⟨h,_⟩ | ⟨h,_⟩ <;> rw [h];exact .inr (.inl rfl);exact .inr (.inr rfl)
   rw [esz];obtain ⟨t2,es2,L2,g1,g2',g3,g4,g5,g6⟩:=zB (t:=t') (es:=Nr es p (ND w i,.str i k)) hmo (by rw [esz];rcases hW with ⟨h,h'⟩ | ⟨h,h'⟩ <;> rw [h] <;> omega);rw [g1];dsimp only
   (refine Kd (NG (a:=()) rfl ?_))
   obtain ⟨ns2,r1,r2⟩:=p2.perm g6.symm;have es2z:es2.size=ns'.length:=by rw [<-KN,r2.length,r1.length_eq]
   refine Kd (RK (s:={s with heap:=s.heap.update a (SQ (Nr es p (ND w i,.str i k)) t')}) hg rfl ?_ (by rw [es2z,Ly];omega));have JH:=LF (SQ es2 t2) hg rfl;refine Kf (Kf (q2 hm _ ns2 _ _ _ ((OT _ _ _).trans (OT _ _ _)) (p1.trans r1) ⟨JH,⟨L2,g5⟩,g3.trans (f3.trans S.ld),?_,r2,r1.nodup_iff.mp nd'⟩));rw [<-r1.length_eq,g2'];rcases hW with ⟨h,h'⟩ | ⟨h,h'⟩ <;> rw [h,h'] <;> omega
  ·rename_i c;simp only [Sx,Pk] at c;unfold RU at c;rw [hfill,f1,decide_eq_true_eq] at c;exact Kf (Kf (q2 hm _ ns' _ _ _ (OT _ _ _) p1 ⟨hg,⟨L',T'⟩,f3.trans S.ld,by rw [f1];omega,p2,nd'⟩))
end
theorem fM.keep {w:K5}{h h':L7}{a:KJ}{led:Bool}{ns:List Str}{es:Array (Int×Kg)}{ep:Nat}{t:Lj}(S:fM w h a led ns es ep t) (e:∀o,h.get? a=some o->h'.get? a=some o):fM w h' a led ns es ep t:=
 ⟨e _ S.at_,S.tab,S.ld,S.rm,S.en,S.nd⟩
section
variable {w:K5}{prog:KL}{R:Q5->Kh->Prop}{A:Lh}{I:KJ}{fp wr:List KJ}{G:Array Ui->Array Ui->Prop}{n:Nat}{P:Nat->Kg->Prop}{St:Nat->Kh->Prop}
theorem zS (W:WalksS prog w A.in1 I fp wr G n P St) (S:KJ) (hSf:S∉fp) (val:Nat->Str) (hval:∀i v,P i v->∃t,v=.str (val i) t) (hn:(eU ((Ky n).map val)).length < 76){led:Bool}:
  ∀(k i:Nat) (s:Kh) (ns:List Str) (es:Array (Int×Kg)) (ep:Nat) (t:Lj),n - i=k->i<=n->St i s->fM w s.heap S led ns es ep t->(∀d,d∈ns↔d∈(Ky i).map val)->
   (∀s' ns' es' ep' t',Moved (S::wr) G s s'->fM w s'.heap S led ns' es' ep' t'->(∀d,d∈ns'↔d∈(Ky n).map val)->R (.ok (.ret .none)) s')->
   (Mb (KS prog w) A (.builtin "set.update.loop" ⟨[.ref S,.ref I],[]⟩) R s):=by
 (have IJ:S∉wr:=λh=>hSf (W.sub _ h))
 (have hsub:∀b∈wr,b∈S::wr:=λb hb=>Kq _ hb)
 intro k
 induction k with
 | zero=>
  intro i s ns es ep t hk hi hst hS hm hR;have hin:i=n:=by omega
  subst hin;refine LU NB ?_;rw [Ln LW _]
  (show KH _ A.in1 (NI (.ref I) >>= _) _ _ s)
  refine Kd (W.done s _ _ hst λs' IQ=>?_)
  (show KH _ A.in1 (ret Mv) _ _ s')
  exact Kf (hR s' ns es ep t (IQ.mono hsub) (hS.keep λo e=>IQ.heap S o IJ e) hm)
 | succ k ih=>
  intro i s ns es ep t hk hi hst hS hm hR;have hlt:i < n:=by omega
  have hlen:ns.length < 76:=N2 (Mu hS.nd λd hd=>(gx _ d).mpr (by
   obtain ⟨j,hj,e⟩:=K0.mp ((hm d).mp hd);exact K0.mpr ⟨j,KR.mpr (LS (KR.mp hj) hlt),e⟩)) hn
  refine LU NB ?_;rw [Ln LW _]
  (show KH _ A.in1 (NI (.ref I) >>= _) _ _ s)
  refine Kd (W.item i s _ _ hlt hst λv s' hP IV IQ=>?_);obtain ⟨tk,rfl⟩:=hval i v hP;have hS':=hS.keep (h':=s'.heap) λo e=>IQ.heap S o IJ e;have mem':∀(ns':List Str),(∀d,d∈ns'↔d=val i\/d∈ns)->∀d,d∈ns'↔d∈(Ky (i + 1)).map val:=λns' h d=>by rw [h d,hm d,R_,Le,K3];simp only [LN,Tp,Kw];exact Or.comm
  show KH _ A.in1 (holding [.str (val i) tk] (setAdd S (.str (val i) tk)) >>= _) _ _ s'
  (refine Kd (Lz ?_))
  unfold setAdd;refine Lz ?_
  (refine Kd (Pr ?_))
  refine vo (s:={s' with toks:=s'.toks + 1}) hS' hlen (λhin=>?_) (λhin h' ns' es' ep' t' IW Jk IM=>?_)
  ·refine Kf ⟨Mk LW _,ih (i + 1) _ ns es ep t (by omega) hlt (W.frame _ s' _ _ IV (MP _) λb hb o e=>e) hS' (mem' ns λd=>⟨.inr,λh=>h.elim (λh=>h▸hin) id⟩) λs'' ns'' es'' ep'' t'' hm'' hS'' Jf=>?_⟩;exact hR s'' ns'' es'' ep'' t'' (Ug W.gtrans ((IQ.mono hsub).then_heap (MP _) λb o hb e=>e) hm'') hS'' Jf
  ·refine Kf ⟨Mk LW _,ih (i + 1) _ ns' es' ep' t' (by omega) hlt (W.frame _ s' _ _ IV (MP _) λb hb o e=>?_) IM (mem' ns' λd=>?_) λs'' ns'' es'' ep'' t'' hm'' hS'' Jf=>?_⟩
   ·(rw [IW.2 b (λh:b=S=>hSf (by rw [<-h];exact hb))];exact e)
   ·rw [<-Jk.mem_iff,KA]
   ·refine hR s'' ns'' es'' ep'' t'' (Ug W.gtrans ((IQ.mono hsub).then_heap (MP _) λb o hb e=>?_) hm'') hS'' Jf
    (rw [IW.2 b (λh:b=S=>hb (by rw [h];exact Ku))];exact e)
end
theorem kF {w:K5}{h:L7}{a:KJ}{led:Bool}(e:h.get? a=some {cls:=.type "set",dict:=none,data:=.set #[] 0 (.fresh 0 0 led)}):fM w h a led [] #[] 0 (.fresh 0 0 led):=
 ⟨e,⟨[],⟨rfl,rfl,rfl,N8,(λ_ h=>nomatch h),.inl rfl,K1 _,(λ_ h=>nomatch h)⟩⟩,rfl,(show 0 * 5 < 7 * 3 by decide),.nil,Og⟩
section
variable {w:K5}{prog:KL}{A:Lh}{s:Kh}{E:Kg->Kh->Prop}{l:KJ}{JX:Array Kg}{ds:List Str}
theorem zb (hz:JX.size=ds.length) (hi:∀(i:Nat) (v:Kg),JX[i]?=some v->∃t,v=.str (ds.getD i "") t) (hn:(eU ds).length < 76){I:KJ}{fp:List KJ}{St:Nat->Kh->Prop}{h2:L7}{R:_->Kh->Prop}(W:WalksS prog w A.in1.in1.in1 I fp [I] (λa b=>b=a) JX.size (λi v=>JX[i]?=some v) St) (hSf:s.heap.objs.size∉fp) (st:St 0 {s with heap:=h2})
  (hk:∀b o,(s.heap.push (d8 (cC w))).get? b=some o->h2.get? b=some o) (hR:∀s',Moved [s.heap.objs.size,I] (λa b=>b=a) {s with heap:=h2} s'->(∃ks es ep t,fM w s'.heap s.heap.objs.size (cC w) ks es ep t/\∀d,d∈ks↔d∈ds)->R (.ok (.ret .none)) s'):Mb (KS prog w) A.in1.in1 (.builtin "set.update.loop" ⟨[.ref s.heap.objs.size,.ref I],[]⟩) R {s with heap:=h2}:=by
 have all:(Ky JX.size).map (λi=>ds.getD i "")=ds:=by refine NC (by simp [hz]) λi a b=>?_;simp [b]
 exact zS (A:=A.in1.in1) (led:=cC w) W s.heap.objs.size hSf (λi=>ds.getD i "") hi (by rw [all];exact hn) JX.size 0 _ [] #[] 0 (.fresh 0 0 (cC w)) (by omega) (K1 _) st (kF (hk _ _ (Kn _ rfl))) (λd=>by simp) λs' ks es ep t hm hS' hmem=>hR s' hm ⟨ks,es,ep,t,hS',by rw [all] at hmem;exact hmem⟩
noncomputable abbrev Gq (Q:Kg->Kh->Prop) (w:K5) (s:Kh) (ds:List Str):Prop:=∀(h':L7) (tk:Nat) ks es ep t,fM w h' s.heap.objs.size (cC w) ks es ep t->(∀d,d∈ks↔d∈ds)->(∀b o,b < s.heap.objs.size->s.heap.get? b=some o->h'.get? b=some o)->Q (.ref s.heap.objs.size) {s with heap:=h',toks:=tk}
theorem Dt {Q:Kg->Kh->Prop}(hh:A.handled=none) (hl:s.heap.IsTuple l JX) (hz:JX.size=ds.length) (hi:∀(i:Nat) (v:Kg),JX[i]?=some v->∃t,v=.str (ds.getD i "") t) (hn:(eU ds).length < 76) (h:Gq Q w s ds):(KH (KS prog w) A (call (.type "set") [.ref l]) Q E s):=by obtain ⟨ol,IB,hcl,_⟩:=id hl;exact uw (λh'=>∃ks es ep t,fM w h' s.heap.objs.size (cC w) ks es ep t/\∀d,d∈ks↔d∈ds) IB hcl zL zK (by decide) (Ar hh hl) (λW a _ c d e=>zb hz hi hn W a c d e) λh' tk ⟨ks,es,ep,t,a,b⟩=>h h' tk ks es ep t a b
theorem uy {Q:Kg->Kh->Prop}(hh:A.handled=none) (hl:s.heap.IsList l JX) (hz:JX.size=ds.length) (hi:∀(i:Nat) (v:Kg),JX[i]?=some v->∃t,v=.str (ds.getD i "") t) (hn:(eU ds).length < 76) (h:Gq Q w s ds):(KH (KS prog w) A (call (.type "set") [.ref l]) Q E s):=by obtain ⟨ol,IB,hcl,_⟩:=id hl;exact uw (λh'=>∃ks es ep t,fM w h' s.heap.objs.size (cC w) ks es ep t/\∀d,d∈ks↔d∈ds) IB hcl yX yW (by decide) (Ca hh hl) (λW a _ c d e=>zb hz hi hn W a c d e) λh' tk ⟨ks,es,ep,t,a,b⟩=>h h' tk ks es ep t a b
end
section
variable {prog:KL}{w:K5}{A:Lh}{E:Kg->Kh->Prop}{s:Kh}
theorem wp_choose {M:SW}{src:Source}{n:Nat}{Q:Nat->Kh->Prop}(hn:n≠0) (h:∀i dr,i < n->Q i {s with drawn:=dr}):KH M A (choose src n) Q E s:=fun Γ p hΓ=>by show n≠0/\_;exact ⟨hn,h _ _ (Pe _ (Nat.pos_of_ne_zero hn))⟩
theorem vD {α:Type}{M:SW}:∀(n:Nat) (xs:List α) (s:Kh) (Q:List α->Kh->Prop),xs.length=n->(∀l dr,l.Perm xs->Q l {s with drawn:=dr})->KH M A (drawOrder n xs) Q E s
 | 0,xs,s,Q,hn,h=>by have:xs=[]:=Po.mp hn;subst this;exact Kf (h [] s.drawn (.refl _))
 | n + 1,[],s,Q,hn,h=>by cases hn
 | n + 1,x::xs,s,Q,hn,h=>by
  show KH _ _ (choose Source.order (x::xs).length >>= _) _ _ s;refine Kd (wp_choose (by simp) λi dr hi=>?_);have e:(x::xs)[i]?=some (x::xs)[i]:=KG hi;rw [e];dsimp only;refine Kd (vD n ((x::xs).eraseIdx i) _ _ (by rw [QF,if_pos hi];omega) λl dr' p=>Kf ?_);refine h _ dr' ((p.cons _).trans ?_);have e1:(x::xs).eraseIdx i=(x::xs).take i++(x::xs).drop (i + 1):=Ob _ _;have e2:(x::xs)=(x::xs).take i++(x::xs)[i]::(x::xs).drop (i + 1):=by rw [PY,MN]
  rw [e1];exact (Py.symm).trans (Qp e2.symm)
structure iO (h:L7) (a:KJ) (es:Array (Int×Kg)) (ep:Nat) (t:Lj):Prop where
 at_:h.get? a=some {cls:=.type "set",dict:=none,data:=.set es ep t}
 tab:∃L,Tab t es L
 pl:t.plain=false
 two:1 < es.size
theorem iO.keep {h h':L7}{a:KJ}{es:Array (Int×Kg)}{ep:Nat}{t:Lj}(S:iO h a es ep t) (e:∀o,h.get? a=some o->h'.get? a=some o):iO h' a es ep t:=⟨e _ S.at_,S.tab,S.pl,S.two⟩
noncomputable abbrev tG (a T:KJ) (i n ep:Nat):Obj:={cls:=.type "set_iterator",data:=.fields #[.ref T,.int i 0,.ref a,.int n 0,.int ep 0]}
noncomputable abbrev pD (os:List Nat):Obj:={cls:=.type "tuple",data:=.seq (os.map λ(i:Nat)=>Tj i).toArray}
theorem xA {a:KJ}{es:Array (Int×Kg)}{ep:Nat}{t:Lj}{Q:Kg->Kh->Prop}(hw:w.params.followText "set-order"=false) (S:iO s.heap a es ep t) (hz:es.size<=76)
  (hQ:∀(os:List Nat) dr,os.Perm (Ky es.size)->Q (.ref (s.heap.objs.size + 1)) {s with heap:=(s.heap.push (pD os)).push (tG a s.heap.objs.size 0 es.size ep),drawn:=dr}):KH (KS prog w) A (OE (.ref a)) Q E s:=by
 obtain ⟨L,T⟩:=S.tab;have hT:s.TypeIs (.ref a) "set":=⟨_,S.at_,rfl⟩;refine Oc hT OR (Lo OR hT jh ?_ (RH _));show KH _ _ (M1 a >>= _) _ _ s;unfold M1;refine Kd (Kd (ME S.at_ rfl (cg T) (Kf ?_)));unfold setDrawn QA;refine Kd (Kd (M3 S.at_ rfl (cg T) (Kd (Kd (L4 (Kf (Kf ?_)))))));dsimp only;refine pH (show (!w.params.followText "set-order" && (!t.plain && decide (es.size > 1)))=true by rw [hw,S.pl,decide_eq_true S.two];rfl) ?_;refine Kd (vD es.size (Ky es.size) s _ (LB ..) λos dr pm=>?_);have lo:os.length=es.size:=by rw [pm.length_eq,LB]
 refine Kd (wpAny_newTuple ?_ (by rw [Km,lo,Ly];omega));have S1:iO (s.heap.push (pD os)) a es ep t:=S.keep λo e=>Kl _ e;refine Kd (RI S1.at_ rfl (cg T) ?_);refine Kd (KZ ?_);have z1:(s.heap.push (pD os)).objs.size=s.heap.objs.size + 1:=Ma _ _;have q:=hQ os dr pm;rw [<-z1] at q;exact Kf ⟨_,rfl,"set_iterator",_,⟨_,Kn _ rfl,rfl⟩,bP.lookup,q⟩
theorem xJ {I a T:KJ}{es:Array (Int×Kg)}{ep:Nat}{t:Lj}{os:List Nat}{i:Nat}{Q:Option Kg->Kh->Prop}(S:iO s.heap a es ep t) (hI:s.heap.get? I=some (tG a T i es.size ep)) (IS:s.heap.get? T=some (pD os)) (pm:os.Perm (Ky es.size)) (hi:i < es.size)
  (hQ:∀h' k e,os[i]?=some k->es[k]?=some e->h'.get? I=some (tG a T (i + 1) es.size ep)->Mp I s.heap h'->Q (some e.2) {s with heap:=h'}):KH (KS prog w) A (NI (.ref I)) Q E s:=by
 obtain ⟨L,TT⟩:=S.tab;have lo:os.length=es.size:=by rw [pm.length_eq,LB]
 have hk:os[i]?=some (os[i]'(by omega)):=KG (by omega);generalize (os[i]'(by omega))=k at hk;have kl:k < es.size:=KR.mp (pm.mem_iff.mp (MS hk));have ek:es[k]?=some es[k]:=LV kl;have hT:s.TypeIs (.ref I) "set_iterator":=⟨_,hI,rfl⟩;unfold NI;refine Kd (NT (LM (name:=NJ "__next__") hT bP (Lo bP hT gu ?_ (gD _))));show KH _ _ (Te (.ref I) >>= _) _ _ s;refine Kd (O6 hI rfl ?_);dsimp only;refine Kd (ME S.at_ rfl (cg TT) ?_);simp only [bne_self_eq_false,Lw,if_false,Mg];refine Kd (Oh IS rfl ?_);have ip:(os.map λ(i:Nat)=>Tj i).toArray[i]?=some (.int k 0):=by rw [Qu,KQ,hk];rfl
 dsimp only;rw [ip];dsimp only;unfold setNextDrawn;refine Kd (Kd (M3 S.at_ rfl (cg TT) ?_));simp only [bne_self_eq_false,Lw,if_false,Mg];rw [ek];refine Kf ?_;refine Kd (MO hI (by simp) λh1 g1 b1=>?_);exact Kf ⟨_,rfl,Kf (hQ h1 k _ hk ek (g1.trans (by simp [Tj])) b1)⟩
theorem yI {I a T:KJ}{es:Array (Int×Kg)}{ep:Nat}{t:Lj}{os:List Nat}{Q:Option Kg->Kh->Prop}(hh:A.handled=none) (S:iO s.heap a es ep t) (hI:s.heap.get? I=some (tG a T es.size es.size ep)) (IS:s.heap.get? T=some (pD os)) (pm:os.Perm (Ky es.size))
  (hQ:∀h',Ud I s.heap h'->Q none {s with heap:=h'}):KH (KS prog w) A (NI (.ref I)) Q E s:=by
 obtain ⟨L,TT⟩:=S.tab;have lo:os.length=es.size:=by rw [pm.length_eq,LB]
 have hT:s.TypeIs (.ref I) "set_iterator":=⟨_,hI,rfl⟩;unfold NI;refine Kd (NT (LM (name:=NJ "__next__") hT bP (Lo bP hT gu ?_ (gD _))));show KH _ _ (Te (.ref I) >>= _) _ _ s;refine Kd (O6 hI rfl ?_);dsimp only;refine Kd (ME S.at_ rfl (cg TT) ?_);simp only [bne_self_eq_false,Lw,if_false,Mg];refine Kd (Oh IS rfl ?_);have ip:(os.map λ(i:Nat)=>Tj i).toArray[es.size]?=none:=by rw [Qu,List.getElem?_eq_none_iff,Km,lo];exact Kr _
 dsimp only;rw [ip];dsimp only;refine Kd (MO hI (by simp) λh0 g0 b0=>?_);refine Kd (MO (s:={s with heap:=h0}) g0 (by simp) λh1 g1 b1=>?_);refine Kd ?_;simp only [newExc,newTuple]
 (refine Kd (KZ ?_ (by size_fits)))
 (refine Kd (m:=O7 _ _) (NG (a:=Mv) (by first | rfl | (simp only [O7];rfl)) ?_))
 (refine KZ ?_ (by size_fits))
 simp only [raiseNew]
 (refine Kd (Tf ?_))
 (first | rw [show A.in1.handled=none from hh] | rw [hh])
 (refine Kd (Kf (wpAny_throw ?_)))
 (refine Kd (PF (T:="StopIteration") (b:=true) ⟨_,Kn _ rfl,rfl⟩ Sw ?_))
 exact Kf (hQ _ (((b0.trans b1).extBut.push _).push _))
noncomputable def ou (es:Array (Int×Kg)) (os:List Nat):List Kg:=os.filterMap λk=>es[k]?.map (·.2)
theorem DY {es:Array (Int×Kg)}{os:List Nat}(pm:os.Perm (Ky es.size)){i k:Nat}{e:Int×Kg}(h1:os[i]?=some k) (h2:es[k]?=some e):(ou es os)[i]?=some e.2:=by
 have:ou es os=os.map λk=>(es.getD k default).2:=by
  unfold ou;have key:∀l:List Nat,(∀k∈l,k < es.size)->(l.filterMap λk=>es[k]?.map (·.2))=l.map λk=>(es.getD k default).2:=λl=>by
   induction l with
   | nil=>intro _;rfl
   | cons a l ih=>
    intro h;have ha:=h a Ku;rw [Pf (b:=(es.getD a default).2) (by rw [LV ha];simp [Mx,ha]),LN,ih λk hk=>h k (Kq _ hk)]
  exact key os λk hk=>KR.mp (pm.mem_iff.mp hk)
 rw [this,KQ,h1];obtain ⟨hk,rfl⟩:=Lx.mp h2;simp [Mx,hk]
theorem sY {es:Array (Int×Kg)}{os:List Nat}(pm:os.Perm (Ky es.size)):(ou es os).Perm (es.toList.map (·.2)):=by refine (pm.filterMap _).trans (Qp ?_);have:=filterMap_getElem?_range es;rw [<-this,List.map_filterMap]
theorem u5 (hh:A.handled=none) (I a T:KJ) (hne:a≠I) (hnt:T≠I){es:Array (Int×Kg)}{ep:Nat}{t:Lj}{os:List Nat}(pm:os.Perm (Ky es.size)):
  Walks prog w A I [I,a,T] [I] es.size (λi v=>(ou es os)[i]?=some v) (λi h=>h.get? I=some (tG a T i es.size ep)/\h.get? T=some (pD os)/\iO h a es ep t) where
 sub:=λ_ hb=>by simp at hb;simp [hb]
 frame:=λ_ _ _ ⟨h1,h2,h3⟩ hk=>⟨hk I (by simp) _ h1,hk T (by simp) _ h2,h3.keep λo e=>hk a (by simp) o e⟩
 item:=λi s Q E hi ⟨h1,h2,h3⟩ hQ=>by
  refine xJ h3 h1 h2 pm hi λh' k e q1 q2 q3 q4=>?_;refine hQ e.2 h' s.toks (DY pm q1 q2) ⟨q3,?_,h3.keep λo e=>?_⟩ λb o hb e=>?_
  ·rw [q4.2 T hnt];exact h2
  ·rw [q4.2 a hne];exact e
  ·exact q4.extBut b o (λh=>hb (by simp [h])) e
 done:=λs Q E ⟨h1,h2,h3⟩ hQ=>yI hh h3 h1 h2 pm λh' he=>hQ h' s.toks λb o hb e=>he b o (λh=>hb (by simp [h])) e
 self:=λi s Q E ⟨h1,h2,h3⟩ hQ=>by have hT:s.TypeIs (.ref I) "set_iterator":=⟨_,h1,rfl⟩;refine Oc hT gM (Lo gM hT kL ?_ (k_ _));show KH _ _ (ret (.ref I)) _ _ s;exact Kf ⟨_,rfl,"set_iterator",_,hT,bP.lookup,hQ⟩
theorem rK {a:KJ}{es:Array (Int×Kg)}{ep:Nat}{t:Lj}{Q:List Kg->Kh->Prop}(hw:w.params.followText "set-order"=false) (hh:A.handled=none) (S:iO s.heap a es ep t) (hn:es.size<=76)
  (hQ:∀(os:List Nat) (dr:Drawn) (h':L7) (tk:Nat),os.Perm (Ky es.size)->(∀b o,s.heap.get? b=some o->h'.get? b=some o)->s.heap.objs.size < h'.objs.size->Q (ou es os) {s with heap:=h',toks:=tk,drawn:=dr}):KH (KS prog w) A (collect (.ref a)) Q E s:=by
 have ha:a < s.heap.objs.size:=Kz S.at_;unfold collect
 (refine Kd (QO (LU Qs ?_)))
 (rw [Ln Qt _])
 show KH _ A.in1 (newList [] >>= λl=>again (.builtin "list.__iadd__" ⟨[l,.ref a],[]⟩)) _ _ s
 (refine Kd (KZ ?_))
 (refine Kf ⟨Mk Od _,LU RJ ?_⟩)
 (rw [Ln Od _])
 generalize Jc:({cls:=.type "list",data:=.seq ([]:List Kg).toArray}:Obj)=l0;have S1:iO (s.heap.push l0) a es ep t:=S.keep λo e=>Kl _ e;have hT1:N3 {s with heap:=s.heap.push l0} (.ref a) "set":=⟨_,S1.at_,rfl⟩;show KH _ A.in1 (MF (.ref s.heap.objs.size) (.ref a) (.ref s.heap.objs.size)) _ _ _
 (unfold MF)
 refine Kd (NK hT1 ?_);have h1:Pg (.ref s.heap.objs.size) (.ref a)=false:=by show (s.heap.objs.size == a)=false;exact beq_eq_false_iff_ne.mpr (Mq ha)
 have h2:(M9 "set" == M9 "list")=false:=by decide
 have h3:(M9 "set" == M9 "tuple")=false:=by decide
 (simp only [h1,h2,h3,Ra,Lw,if_false])
 refine Kd (xA hw S1 hn λos dr pm=>?_)
 (refine Kd (Lz ?_))
 have z1:(s.heap.push l0).objs.size=s.heap.objs.size + 1:=Ma _ _;rw [z1];have z2:((s.heap.push l0).push (pD os)).objs.size=s.heap.objs.size + 1 + 1:=by rw [Ma,z1]
 obtain ⟨hp,ehp⟩:∃hp,hp=((s.heap.push l0).push (pD os)).push (tG a (s.heap.objs.size + 1) 0 es.size ep):=⟨_,rfl⟩;rw [<-ehp];have kp:∀b o,(s.heap.push l0).get? b=some o->hp.get? b=some o:=λb o e=>by rw [ehp];exact Kl _ (Kl _ e)
 have S2:iO hp a es ep t:=S1.keep λo e=>kp _ o e;have hT2:N3 {s with heap:=hp,drawn:=dr} (.ref a) "set":=⟨_,S2.at_,rfl⟩;refine tw hT2 ?_;refine pH (by decide +kernel) ?_
 (refine Kd (N_ ?_))
 subst Jc;have hI:hp.get? (s.heap.objs.size + 1 + 1)=some (tG a (s.heap.objs.size + 1) 0 es.size ep):=by rw [ehp,<-z2];exact Kn _ rfl
 have IS:hp.get? (s.heap.objs.size + 1)=some (pD os):=by rw [ehp,<-z1];exact Kl _ (Kn _ rfl)
 have hS₁:hp.get? s.heap.objs.size=some {cls:=.type "list",data:=.seq ([]:List Kg).toArray}:=kp _ _ (Kn _ rfl);refine Kd ?_
 (show KH _ A.in1 (Qg s.heap.objs.size (·.push .none) >>= λ_=>Qg s.heap.objs.size (·.pop)) _ _ _)
 (refine Kd (Ms hS₁ rfl ?_))
 (have hS₂:=LF (MW (·.push Mv)) hS₁ rfl)
 (refine Ms hS₂ rfl ?_)
 (have hS₃:=LF (MW (·.pop)) hS₂ rfl)
 have oth:∀b o,b≠s.heap.objs.size->hp.get? b=some o->((hp.update s.heap.objs.size (MW (·.push Mv))).update s.heap.objs.size (MW (·.pop))).get? b=some o:=
  (λb o hb e=>(Lf _ _ (Mz hb)).trans ((Lf _ _ (Mz hb)).trans e))
 have l1:s.heap.objs.size < s.heap.objs.size + 1:=LI _;have l2:s.heap.objs.size + 1 < s.heap.objs.size + 1 + 1:=LI _;have hne:a≠s.heap.objs.size + 1 + 1:=KI (LS (LS ha l1) l2);have hSf:s.heap.objs.size∉[s.heap.objs.size + 1 + 1,a,s.heap.objs.size + 1]:=by simp only [KA,LH,or_false,not_or];exact ⟨KI (LS l1 l2),Mq ha,KI l1⟩
 obtain ⟨L,T⟩:=S.tab;refine Kf ⟨Mk QX _,QG ((u5 (A:=A.in1) (prog:=prog) (w:=w) (es:=es) (ep:=ep) (t:=t) hh (s.heap.objs.size + 1 + 1) a (s.heap.objs.size + 1) hne (KI l2) pm).toS) (by rw [Ly];omega) _ hSf _ es.size 0 _ _ _ rfl (K1 _)
  ⟨oth _ _ (Mq (LS l1 l2)) hI,oth _ _ (Mq l1) IS,S2.keep λo e=>oth _ _ (KI ha) e⟩ hS₃ (Ue _) λs' acc' c' hm hS' hacc=>?_⟩
 (show KH _ A (load s.heap.objs.size >>= _) _ _ s')
 (refine Kd (SD hS' ?_))
 have eacc:acc'.toList=ou es os:=by
  obtain ⟨z,q⟩:=hacc;have lw:(ou es os).length=es.size:=by rw [(sY pm).length_eq,Km,KN]
  refine NC (by rw [KN,z,lw]) λi x1 x2=>?_;have this:(ou es os)[i]?=some (acc'[i]'(by simpa using x1)):=q i _ (LV (by simpa using x1));rw [KG x2] at this
  (exact (Lp this).symm)
 refine Kf ?_;rw [eacc]
 (obtain ⟨h',g',d',tk',os'⟩:=s')
 (have eg:g'=s.gens:=hm.gens)
 (have ed:d'=dr:=hm.drawn)
 have eo:os'=s.os:=hm.os;subst eg;subst ed;subst eo;refine hQ os d' h' tk' pm (λb o e=>?_) (Kz hS');have lb:=Kz e;refine hm.heap b o ?_ (oth b o (KI lb) (kp _ _ (Kl _ e)));simp only [KA,LH,or_false,not_or];exact ⟨KI lb,KI (LS (LS lb l1) l2)⟩
theorem xT {x:Kg}{ks:List Str}{Q:Kg->Kh->Prop}(h64:ks.length < 64) (I_:∀(E:Kg->Kh->Prop) (C:List Kg->Kh->Prop),(∀vs ss dr h1 tk,O5 vs ss->ss.Perm ks->Kp s.heap h1->s.heap.objs.size<=h1.objs.size->C vs {s with heap:=h1,toks:=tk,drawn:=dr})->KH (KS prog w) A.in1 (collect x) C E s)
  (h:∀h' tk dr l n (out:Array Kg) ss',O5 out.toList ss'->ss'.Perm ks->sortedS ss'=true->Kp s.heap h'->s.heap.objs.size<=l->h'.get? l=some (Up "list" out n)->Q (.ref l) {s with heap:=h',toks:=tk,drawn:=dr}):KH (KS prog w) A (call (.builtin "sorted") [x]) Q E s:=by
 refine Calls.call_function_entry kind_sorted plain_sorted entry_sorted (args_sorted1 _) ?_;unfold Ph.«sorted»;refine Kd (m:=checkCount "sorted" 1 1 _) (Kf ?_);refine Kd (I_ _ _ λvs ss dr h1 tk hS pm k1 le1=>?_);have lv:vs.length < 64:=by
  have e:vs.length=ss.length:=by
   clear pm
   induction hS with
   | nil=>rfl
   | cons x t _ ih=>simp [ih]
  rw [e,pm.length_eq];exact h64
 refine Kd (wpAny_newList ?_ (by rw [Ly];omega));have gL:(h1.push (Up "list" vs.toArray 0)).get? h1.objs.size=some (Up "list" vs.toArray 0):=Kn _ rfl;refine Kd (Lz (Lo slot_list_sort ⟨_,gL,rfl⟩ entry_list_sort (list_sort_treeK strKind_oneLt gL hS.keysOf (λv₁ v₂ rest e=>keyKind_strs (by rw [<-e];exact hS)) lv λst' a1 a2=>⟨_,rfl,?_⟩) (args_list_sort _)));obtain ⟨ss',b1,b2,b3⟩:=sorted_out_str hS a1 a2;obtain ⟨n,hn⟩:=sortedHeap_at (out:=(arrOf st').map (·.2)) gL;refine Kf ⟨_,rfl,h _ tk dr _ n _ ss' b1 (b2.trans pm) b3 (λb o e=>?_) le1 hn⟩;have e1:=k1 b o e;rw [sortedHeap_old (KI (Kz e1)) (Kz (Kl _ e1))];exact Kl _ e1
theorem d_.are {es:List (Int×Kg)}{ns:List Str}(h:d_ w es ns):O5 (es.map (·.2)) ns:=by
 induction h with
 | nil=>exact .nil
 | cons _ ih=>exact .cons _ _ ih
theorem O5.perm {vs vs':List Kg}(p:vs.Perm vs'):∀{ss:List Str},O5 vs ss->∃ss',ss'.Perm ss/\O5 vs' ss':=by
 induction p with
 | nil=>intro ss h;exact ⟨ss,.refl _,h⟩
 | cons x _ ih=>
  intro ss h;cases h with
  | cons a t h=>obtain ⟨ss',p,q⟩:=ih h;exact ⟨_,p.cons _,.cons _ _ q⟩
 | swap x y l=>
  intro ss h;cases h with
  | cons a t h=>cases h with
   | cons b u h=>exact ⟨_,.swap _ _ _,.cons _ _ (.cons _ _ h)⟩
 | trans _ _ ih1 ih2=>
  intro ss h;obtain ⟨s1,p1,q1⟩:=ih1 h;obtain ⟨s2,p2,q2⟩:=ih2 q1;exact ⟨s2,p2.trans p1,q2⟩
theorem uR {a:KJ}{ks:List Str}{es:Array (Int×Kg)}{ep:Nat}{t:Lj}{C:List Kg->Kh->Prop}(hh:A.handled=none) (S:fM w s.heap a (cC w) ks es ep t) (hn:ks.length<=76)
  (hC:∀vs ss dr h1 tk,O5 vs ss->ss.Perm ks->Kp s.heap h1->s.heap.objs.size<=h1.objs.size->C vs {s with heap:=h1,toks:=tk,drawn:=dr}):KH (KS prog w) A (collect (.ref a)) C E s:=by
 have hes:es.size=ks.length:=by rw [<-KN,S.en.length]
 by_cases c:cC w=true/\(!t.plain && decide (es.size > 1))=true
 ·obtain ⟨c1,c2⟩:=c;rw [KU] at c2;refine rK (by cases q:w.params.followText "set-order" with
   | true=>rw [show cC w=!w.params.followText "set-order" from rfl,q] at c1;cases c1
   | false=>rfl) hh (t:=t) (ep:=ep) ⟨S.at_,S.tab,by simpa using c2.1,by simpa using c2.2⟩ (by omega) λos dr h1 tk pm k1 le=>?_
  obtain ⟨ss,p1,q1⟩:=O5.perm (sY pm).symm S.en.are;exact hC _ ss dr h1 tk q1 p1 k1 (OY le)
 ·refine uQ hh (t:=t) (ep:=ep) (es:=es) ⟨S.at_,S.tab,λz=>?_,S.ld⟩ (by omega) λh1 tk k1 le=>?_
  ·cases q:(!t.plain && decide (es.size > 1)) with
   | true=>exact (c ⟨z,q⟩).elim
   | false=>rfl
  ·obtain ⟨ss,p1,q1⟩:=O5.perm (vs':=jn w a ep es) ((ny w a ep es).symm.map (·.2)) S.en.are;exact hC _ ss s.drawn h1 tk q1 p1 k1 (OY le)
end
theorem yT {X:Cx}{JW:List (KJ×Obj)}{σ:L2.St}{H:Hp}{s:Kh}(I:Inv X JW σ H s) (dr:Drawn):Inv X JW σ H {s with drawn:=dr}:=⟨I.ok,I.os,I.bare,I.base,I.loc,I.cell,I.free,I.freeC,I.pin,I.hok,I.len⟩
noncomputable abbrev gK (w:K5) (a:KJ) (ns:List Str):HO:=.ext λh=>∃ks es ep t,fM w h a (cC w) ks es ep t/\∀d,d∈ks↔d∈ns
section
variable {X:Cx}
theorem kE {H:Hp}{h:L7}{a:KJ}{ns ks:List Str}{es:Array (Int×Kg)}{ep:Nat}{t:Lj}(S:fM X.w h a (cC X.w) ks es ep t) (hm:∀d,d∈ks↔d∈ns):cX X.prog X.w H h a (gK X.w a ns):=
 ⟨⟨ks,es,ep,t,S,hm⟩,⟨_,S.at_⟩,λh1 h2 ⟨ks,es,ep,t,S,hm⟩ e=>⟨ks,es,ep,t,S.keep e,hm⟩⟩
theorem uO (hc:X.calm=true):dD X (.builtin "sorted") (λxs H Q=>∃p ns,xs=[.ref p]/\H p=some (gK X.w p ns)/\(eU ns).length < 64/\∀l,H l=none->Q (.ref l) (upd H l (.lst ((dX (eU ns)).map V.str)))):=by
 intro JW s σ H xs us Q I r h;obtain ⟨p,ns,rfl,hp,l64,q⟩:=h;obtain ⟨u,rfl,rx⟩:=vals1 r;cases rx;have hh:X.A.handled=none:=I.ok.hd hc;obtain ⟨⟨ks,es,ep,t,S,hm⟩,_⟩:=(show cX X.prog X.w H s.heap p (gK X.w p ns) from I.hok p _ hp);have pm:ks.Perm (eU ns):=(MI S.nd (lz ns)).mpr λd=>by rw [hm d,gx]
 have len:=pm.length_eq;refine xT (ks:=ks) (by omega) (λE C k=>uR hh S (by omega) k) λh' tk dr l n out ss' a1 a2 a3 kp hl hg=>?_;have e:=pB (a2.trans pm) a3;subst e;have lo:(dX (eU ns)).length=ks.length:=a2.length_eq;exact ⟨.ref l,_,(yT I dr).laid (t':=tk) kp hl (show cX X.prog X.w _ _ _ (.lst ((dX (eU ns)).map V.str)) from ⟨by rw [Km,lo,Ly];omega,out.toList,n,l5 a1,by simpa [Up] using hg⟩),rfl,q l (I.hok.fresh hl)⟩
theorem Fj {K:Ke}{J:Hp}{ms:List Str}{us:List Kg}(rv:Vals (ms.map V.str) us):∀(i:Nat) (v:Kg),us.toArray[i]?=some v->∃t,v=.str (ms.getD i "") t:=λi v q=>by
 have l1:ms.length=us.length:=by have:=rv.length;rwa [Km] at this
 have hi:i < us.length:=by have:=(Lx.mp q).1;simpa using this
 have e:us.getD i Mv=v:=by simp at q;simp [UB,q]
 have r2:=A8 rv (i:=i) (by rw [Km];omega);rw [e] at r2;have e2:(ms.map V.str).getD i V.non=.str (ms.getD i ""):=by simp [UB,show i < ms.length by omega]
 rw [e2] at r2;exact r2
theorem yx (hc:X.calm=true):dD X (.type "set") (λxs H Q=>∃p ms,xs=[.ref p]/\bV X.K H p (ms.map V.str)/\(eU ms).length < 64/\∀l,H l=none->Q (.ref l) (upd H l (gK X.w l ms))):=by
 intro JW s σ H xs us Q I r h;obtain ⟨p,ms,rfl,hq,l64,q⟩:=h;obtain ⟨u,rfl,rx⟩:=vals1 r;cases rx;have hh:X.A.handled=none:=I.ok.hd hc;have fr:H s.heap.objs.size=none:=I.hok.fresh (Kr _);obtain ⟨JY,r',pl,hz⟩:=I.list hq;have lm:JY.length=ms.length:=by have:=r'.length;rw [Km] at this;exact this.symm
 refine uy hh pl.isList (by simp [lm]) (Fj (K:=X.K) (J:=H) r') (by omega) λh' tk ks es ep t S hm kp=>?_;exact ⟨.ref s.heap.objs.size,_,I.laid (t':=tk) (λb o e=>kp b o (Kz e) e) (Kr _) (kE S hm),rfl,q _ fr⟩
end
end DL
namespace DL
open PySem PySem.Spec PyProof.Rows L2 ST DX
theorem yp:Lm "set"=some (.type "set"):=by decide +kernel
section
variable {prog:KL}{w:K5}{A:Lh}{E:Kg->Kh->Prop}{s:Kh}
theorem yr {a:KJ}{es:Array (Int×Kg)}{ep:Nat}{t:Lj}{led:Bool}{ns:List Str}{x:Str}{k:Tok}{Q:Kg->Kh->Prop}(S:fM w s.heap a led ns es ep t) (hl:ns.length < 76)
  (h:∀(h':L7) ns' es' ep' t',Mp a s.heap h'->(∀d,d∈ns'↔d=x\/d∈ns)->fM w h' a led ns' es' ep' t'->Q .none {s with heap:=h',toks:=s.toks + 1}):KH (KS prog w) A (call (.builtin "set.add") [.ref a,.str x k]) Q E s:=by
 refine Lo F.slot_set_add ⟨_,S.at_,rfl⟩ F.entry_set_add ?_ (F.args_set_add_2 _ _);unfold Ph.«set.add» Sk;simp only [List.isEmpty_nil,bind_assoc];unfold SS setAdd;refine Kd (Kf ?_)
 try dsimp only
 refine Kd (Kf ?_)
 try dsimp only
 refine Kd ?_;refine Lz ?_;refine Kd (Pr ?_);refine vo (s:={s with toks:=s.toks + 1}) S hl (λhin=>?_) (λhin h' ns' es' ep' t' IW Jk IM=>?_)
 ·show KH _ _ (ret Mv) _ _ _;exact Kf ⟨_,rfl,h s.heap ns es ep t (RC ..) (λd=>⟨.inr,λz=>z.elim (λz=>z▸hin) id⟩) S⟩
 ·show KH _ _ (ret Mv) _ _ _;exact Kf ⟨_,rfl,h h' ns' es' ep' t' IW (λd=>by rw [<-Jk.mem_iff,KA]) IM⟩
end
noncomputable def isLet (x:Str):Bool:=match x.cps.toList with
 | [c]=>decide (97<=c) && decide (c < 123)
 | _=>false
noncomputable def jS:List Str:=(Ky 26).map λk=>⟨#[97 + k]⟩
theorem qD {x:Str}(h:isLet x=true):x∈jS:=by
 unfold isLet at h;split at h
 ·rename_i c hc;rw [KU,decide_eq_true_eq,decide_eq_true_eq] at h;refine K0.mpr ⟨c - 97,KR.mpr (by omega),?_⟩;rw [show 97 + (c - 97)=c by omega];cases x;congr 1;exact RT.mp hc.symm
 ·cases h
theorem vK {ns:List Str}(nd:ns.Nodup) (h:∀x∈ns,isLet x=true):ns.length<=26:=by have:=Mu nd λx hx=>qD (h x hx);unfold jS at this;simpa using this
noncomputable def jT (ge:G R):Ev->M (List D×Ev):=λe=>ge e >>= λr=>match r with
 | .d (.str x)=>if isLet x=true then .ok ([.str x],e) else .bad
 | _=>.bad
noncomputable def sA (w:K5) (p:KJ):Hp->Hp->List D->Prop:=λJ H ys=>∃ns,ys=ns.map .str/\(∀x∈ns,isLet x=true)/\H p=some (gK w p ns)/\J p=none
theorem nE {w:K5}{p:KJ}:rY (sA w p):=⟨fun {J H J' H' ys} ⟨ns,h0,h1,h2,h3⟩ e=>⟨ns,h0,h1,e.h _ _ h2,e.frz _ (by rw [h2];intro z;cases z) h3⟩⟩
noncomputable abbrev wN (elt:K8) (p:KJ) (env:Env):Sem Unit:=do let v <-eval elt env;Ng elt.pos;let _ <-call (.builtin "set.add") [.ref p,v]
noncomputable def BF (w:K5):Hp->Hp->Hp->List Str->V->Prop:=λ_ _ H ns v=>∃p,v=.ref p/\H p=some (gK w p ns)
structure yh (X:Cx) (c:C) (e:K8) (g:G (List Str)):Prop where
 h:PE X e (GA c (BF X.w) g)
section
variable {prog:KL}{w:K5}{A:Lh}{JZ J6:K8}{ifs:List K8}{JV:M5}{pos:Pos}{it acc:Kg}{env:Env}{depth:Nat}{gens:List Np}{act:Sem Unit}
theorem xE {elt:K8}(ht:Oj (.SetComp elt gens JV pos) depth it acc env=jm JZ J6 ifs it env act (again (.compLoop (.SetComp elt gens JV pos) depth it acc env))):nY prog w A (.SetComp elt gens JV pos) depth it acc env JZ ifs act:=by intro R E I hE turn n s h;refine codeAny_loop rfl I (λn s hI=>?_) n h;show KH _ A ((Oj (.SetComp elt gens JV pos) depth it acc env).onRaise (λx=>do Rk x env;Se x)) _ _ s;refine wpAny_noted ?_;rw [ht];exact Lq (uC (E:=E) (Q:=λf s'=>match f with | .done g=>R (.ok g) s' | .again c=>c=_/\∃m,m < n/\I m s') (λ_ h=>h) (λ_ h=>Kf ⟨rfl,h⟩) (turn n s hI)) (λ_ _ h=>h) hE
end
section
variable {prog:KL}{w:K5}{A:Lh}{R:Q5->Kh->Prop}{s:Kh}{it acc:Kg}{env:Env}{JV:M5}{pos:Pos}{g0:Np}{JZ J6:K8}{ifs:List K8}{rest:List Np}{elt:K8}
theorem Df (h0:Mb (KS prog w) A (.compLoop (.SetComp elt (g0::⟨JZ,J6,ifs,0⟩::rest) JV pos) 1 it acc env) R s)
  (h:KH (KS prog w) A (OE it) (λit' s'=>Mb (KS prog w) A (.compLoop (.SetComp elt (g0::⟨JZ,J6,ifs,0⟩::rest) JV pos) 1 it' acc env) R s') (λ_ _=>False) s):
  Mb (KS prog w) A (.compStart (.SetComp elt (g0::⟨JZ,J6,ifs,0⟩::rest) JV pos) 1 it acc env) R s:=by
 refine N1 ?_;show KH _ _ ((Qk (.SetComp elt (g0::⟨JZ,J6,ifs,0⟩::rest) JV pos) 1 it acc env).onRaise (λx=>do Rk x env;Ng Ql)) _ _ s;refine Rl ?_;unfold Qk;show KH _ _ (ask >>= _) _ _ s;refine Kd (L4 (TF ?_));split
 ·first
   | exact Kd (Kf (Kf (Ol rfl h0)))
   | exact Kf (Ol rfl h0)
 ·refine Kd (N_ ?_);show KH _ _ (Ng J6.pos >>= _) _ _ s;exact Kd (M8 (Kd (Lq h (λit' s' h'=>Kf (Ol rfl h')) λ_ _ x=>x.elim)))
theorem v9 (h0:Mb (KS prog w) A (.compLoop (.SetComp elt (⟨JZ,J6,ifs,0⟩::rest) JV pos) 0 it acc env) R s)
  (h:KH (KS prog w) A (OE it) (λit' s'=>Mb (KS prog w) A (.compLoop (.SetComp elt (⟨JZ,J6,ifs,0⟩::rest) JV pos) 0 it' acc env) R s') (S_ (KS prog w) A env λx s'=>R (.error x) s') s):
  Mb (KS prog w) A (.compStart (.SetComp elt (⟨JZ,J6,ifs,0⟩::rest) JV pos) 0 it acc env) R s:=by
 refine N1 ?_;show KH _ A ((Qk (.SetComp elt (⟨JZ,J6,ifs,0⟩::rest) JV pos) 0 it acc env).onRaise (λx=>do Rk x env;Ng Ql)) _ _ s;refine Rl ?_;unfold Qk;show KH _ A (ask >>= _) _ _ s;refine Kd (L4 (TF ?_));split
 ·first
   | exact Kd (Kf (Kf (Ol rfl h0)))
   | exact Kf (Ol rfl h0)
 ·refine Kd (N_ ?_);show KH _ _ (Ng J6.pos >>= _) _ _ s;exact Kd (M8 (Kd (Lq h (λit' s' h'=>Kf (Ol rfl h')) λ_ _ x=>x)))
end
theorem Dl (elt t0 i0 t1 i1:K8) (f0 f1:List K8) (JV:M5) (pos:Pos) (it acc:Kg) (env:Env):
  Oj (.SetComp elt [⟨t0,i0,f0,0⟩,⟨t1,i1,f1,0⟩] JV pos) 0 it acc env=(do
   Ng i0.pos
   match <-NI it with
   | none=>pure (.done .next)
   | some v=>
    MA t0 it v
    assign t0 env v
    let mut ok:=true
    for c in f0 do
     if ok then ok <-QL c env (eval c env)
    if ok then
     let x <-eval i1 env
     Ng i1.pos
     let x <-LL i1 env x
     let _ <-runOwn (.compStart (.SetComp elt [⟨t0,i0,f0,0⟩,⟨t1,i1,f1,0⟩] JV pos) 1 (<-holding [x] (OE x)) acc env) env
    again (.compLoop (.SetComp elt [⟨t0,i0,f0,0⟩,⟨t1,i1,f1,0⟩] JV pos) 0 it acc env)):=by rfl
theorem Fv (elt t0 i0 t1 i1:K8) (f0 f1:List K8) (JV:M5) (pos:Pos) (it acc:Kg) (env:Env):
  Oj (.SetComp elt [⟨t0,i0,f0,0⟩,⟨t1,i1,f1,0⟩] JV pos) 0 it acc env=jm t0 i0 f0 it env (nI (.SetComp elt [⟨t0,i0,f0,0⟩,⟨t1,i1,f1,0⟩] JV pos) i1 acc env) (again (.compLoop (.SetComp elt [⟨t0,i0,f0,0⟩,⟨t1,i1,f1,0⟩] JV pos) 0 it acc env)):=by
 rw [Dl];refine bind_congr λ_=>bind_congr λr=>?_;cases r with
 | none=>rfl
 | some v=>
  refine bind_congr λ_=>bind_congr λ_=>bind_congr λok=>?_;cases ok with
  | false=>rfl
  | true=>simp only [nI,bind_assoc,pure_bind,if_true]
theorem Fw (elt t0 i0 t1 i1:K8) (f0 f1:List K8) (JV:M5) (pos:Pos) (it:Kg) (p:KJ) (env:Env):
  Oj (.SetComp elt [⟨t0,i0,f0,0⟩,⟨t1,i1,f1,0⟩] JV pos) 1 it (.ref p) env=jm t1 i1 f1 it env (wN elt p env) (again (.compLoop (.SetComp elt [⟨t0,i0,f0,0⟩,⟨t1,i1,f1,0⟩] JV pos) 1 it (.ref p) env)):=by rfl
theorem Fx (elt t0 i0:K8) (f0:List K8) (JV:M5) (pos:Pos) (it:Kg) (p:KJ) (env:Env):
  Oj (.SetComp elt [⟨t0,i0,f0,0⟩] JV pos) 0 it (.ref p) env=jm t0 i0 f0 it env (wN elt p env) (again (.compLoop (.SetComp elt [⟨t0,i0,f0,0⟩] JV pos) 0 it (.ref p) env)):=by rfl
section
variable {X:Cx}{c:C}{p:KJ}{J2 H2:Hp}{elt:K8}{ge:G R}
theorem sC (hx:∀v s,X.xe v s->False) (hp2:H2 p=none) (hp0:c.H0 p=none) (hE:PD X c elt ge):pL X c p (sA X.w p) J2 H2 1 (wN elt p X.env) (jT ge):=by
 intro JW s σ H J env ys Qf I x2 sr no ⟨ns,h0,h1,h2,h3⟩ hl w;refine Kd (Lq (hE _ s σ H (λv H8=>∃J8 x,v=.str x/\Ext J H J8 H8/\isLet x=true/\Qf ([.str x],env)) I ⟨J,env,sr,az (aD w) λr wr v J8 H8 e8 r8=>?_⟩) (λu8 s8 ⟨v8,H8,I8,r8,J8,x,hv,e8,lx,w8⟩=>?_) λv s f=>(hx v s f).elim)
 ·split at wr
  ·split at wr
   ·rename_i lx;cases r8;exact ⟨J8,_,rfl,e8,lx,wr⟩
   ·exact wr.elim
  ·exact wr.elim
 subst hv;obtain ⟨tk,rfl⟩:=r8;have p8:H8 p=some (gK X.w p ns):=e8.h _ _ h2;have J8p:J8 p=none:=e8.frz _ (by rw [h2];intro z;cases z) h3;obtain ⟨⟨ks,es,ep,t,S,hm⟩,_⟩:=(show cX X.prog X.w H8 s8.heap p (gK X.w p ns) from I8.hok p _ p8);have kl:ks.length<=26:=vK S.nd λd hd=>h1 d ((hm d).mp hd);refine Kd (M8 (Kd (yr S (by omega) λh' ns' es' ep' t' sb hm' S'=>?_)));have hm2:∀d,d∈ns'↔d∈ns++[x]:=λd=>by rw [hm' d,hm d,K3,Kw];exact Or.comm
 have I9:Inv X JW σ (L2.upd H8 p (gK X.w p (ns++[x]))) {s8 with heap:=h',toks:=s8.toks + 1}:=I8.write (e:=p) (by rw [p8];trivial) (.inl rfl) (λb u hb q=>by rw [sb.2 b hb];exact q) ⟨_,S'.at_⟩ (kE S' hm2);exact Kf ⟨σ,_,J8,([.str x],env),I9,(x2.trans e8).other hp2 J8p,e8.j,(sr.ext e8).other J8p hp0 no,no,⟨ns++[x],by rw [h0,Le];rfl,λz hz=>by
  rcases K3.mp hz with hz | hz
  ·exact h1 z hz
  ·rw [Kw.mp hz];exact lx,cj,J8p⟩,Kr _,w8⟩
noncomputable def nT (ys:List D):List Str:=ys.map λd=>match d with
 | .str x=>x
 | _=>TL
theorem nU (ns:List Str):nT (ns.map .str)=ns:=by unfold nT;rw [M4];exact Nl ns
noncomputable def rQ (n:Nat) (cap:List Nat) (gi:G (List D)) (gt:GT) (gts:G Bool) (ge:G R):G (List Str):=gk 10000 n cap gi gt gts (jT ge) λys=>.ok (nT ys)
noncomputable def rR (n:Nat) (cap:List Nat) (gi0:G (List D)) (gt0:GT) (gts0:G Bool) (gi1:G (List D)) (gt1:GT) (gts1:G Bool) (ge:G R):G (List Str):=gk 10000 n cap gi0 gt0 gts0 (gg gi1 gt1 gts1 (jT ge)) λys=>.ok (nT ys)
theorem vO {s:Kh}{Q:Kg->Kh->Prop}{E:Kg->Kh->Prop}(q:Q (.ref s.heap.objs.size) {s with heap:=s.heap.push (d8 (cC X.w))}):KH (KS X.prog X.w) X.A (newSet (.type "set")) Q E s:=by unfold newSet QA;refine Kd (Kd (L4 (Kf ?_)));dsimp only;simp only [newObj];exact Kd (Sb (Kf q))
theorem zy {e:K8}{g:G (List Str)}{cm:Option (Kg->Sem Unit)->Sem Kg}(core:wA X c (BF X.w) cm g) (hev:eval e X.env=cm none):yh X c e g:=⟨λJW s σ H Q I h=>by
 rw [hev];exact core I h λacc C m s' H' fl hm hz hf hb q=>⟨m,hm,λh'' sb=>⟨.ref acc,H',hb h'' sb,rfl,q⟩⟩⟩
theorem v5 {p:KJ}{J H J' H':Hp}{ys:List D}{r:List Str}(e:Ext J H J' H') (a:sA X.w p J' H' ys) (q:M.ok (nT ys)=.ok r):∃J'',Ext J H J'' H'/\BF X.w H J'' H' r (.ref p):=by obtain ⟨ns,h0,h1,h2,h3⟩:=a;cases q;rw [h0,nU];exact ⟨J',e,p,rfl,h2⟩
theorem E2 (own:List Str) (cap:List Nat){elt t0 i0:K8}{f0:List K8}{JV:M5}{pos:Pos}{gi0:G (List D)}{gt0:GT}{gts0:G Bool}{ge:G R}(hi:vf X c t0 i0 gi0)
  (hbody:∀(cl:List (Str×KJ)) (C:KJ) (s:Kh) (H:Hp) (fp:List KJ),ef X.env.cells JV.names []=some cl->k9 (cR X own cap JV cl C s H fp) c t0 gt0/\k8 (cR X own cap JV cl C s H fp) c f0 gts0/\QD (cR X own cap JV cl C s H fp) c elt ge)
  (a:u6 X JV cap i0:=by exact Bl rfl):yh X c (.SetComp elt [⟨t0,i0,f0,0⟩] JV pos) (rQ own.length cap gi0 gt0 gts0 ge):=by
 refine zy ?_ rfl;refine jW (e:=.SetComp elt [⟨t0,i0,f0,0⟩] JV pos) (ob:=d8 (cC X.w)) (o0:=λp=>gK X.w p []) (Acc:=λp _=>sA X.w p) (N:=1) (lim:=10000) (m:=λp env=>wN elt p env) own cap rfl hi.h
  (λs Q E q=>vO q) (λh H=>kE (kF (Kn _ rfl)) λd=>UA) (λp _=>nE) (λp _ J H _ h1 h2=>⟨[],rfl,λ_ h=>(nomatch h),h1,h2⟩) (by decide) (λit p env=>xE (Fx ..)) (λit acc env R s h0 h=>v9 h0 h) (λys z q=>by cases q)
  (fun {p H2 J H J' H' ys r} hp _ e a q=>v5 e a q) (λcl C s H fp hcc=>?_) pI a
 obtain ⟨b1,b2,b3⟩:=hbody cl C s H fp hcc;exact ⟨b1.h,b2.h,λp J2 H2 hp2 hp0=>sC (λ_ _ f=>f) hp2 hp0 b3.h⟩
theorem E3 (own:List Str) (cap:List Nat){elt t0 i0 t1 i1:K8}{f0 f1:List K8}{JV:M5}{pos:Pos}{gi0 gi1:G (List D)}{gt0 gt1:GT}{gts0 gts1:G Bool}{ge:G R}(hi:vf X c t0 i0 gi0)
  (hbody:∀(cl:List (Str×KJ)) (C:KJ) (s:Kh) (H:Hp) (fp:List KJ),ef X.env.cells JV.names []=some cl->k9 (cR X own cap JV cl C s H fp) c t0 gt0/\k8 (cR X own cap JV cl C s H fp) c f0 gts0/\sq (cR X own cap JV cl C s H fp) c t1 i1 gi1/\k9 (cR X own cap JV cl C s H fp) c t1 gt1/\k8 (cR X own cap JV cl C s H fp) c f1 gts1/\QD (cR X own cap JV cl C s H fp) c elt ge)
  (a:u6 X JV cap i0:=by exact Bl rfl) (hs1:∀(en:Env) x,LL i1 en x=pure x:=by intro _ _;rfl):yh X c (.SetComp elt [⟨t0,i0,f0,0⟩,⟨t1,i1,f1,0⟩] JV pos) (rR own.length cap gi0 gt0 gts0 gi1 gt1 gts1 ge):=by
 refine zy ?_ rfl;refine jW (e:=.SetComp elt [⟨t0,i0,f0,0⟩,⟨t1,i1,f1,0⟩] JV pos) (ob:=d8 (cC X.w)) (o0:=λp=>gK X.w p []) (Acc:=λp _=>sA X.w p) (N:=1000 * 1) (lim:=10000) (m:=λp env=>nI (.SetComp elt [⟨t0,i0,f0,0⟩,⟨t1,i1,f1,0⟩] JV pos) i1 (.ref p) env) own cap rfl hi.h
  (λs Q E q=>vO q) (λh H=>kE (kF (Kn _ rfl)) λd=>UA) (λp _=>nE) (λp _ J H _ h1 h2=>⟨[],rfl,λ_ h=>(nomatch h),h1,h2⟩) (by decide) (λit p env=>xE (Fv ..)) (λit acc env R s h0 h=>v9 h0 h) (λys z q=>by cases q)
  (fun {p H2 J H J' H' ys r} hp _ e a q=>v5 e a q) (λcl C s H fp hcc=>?_) pI a
 obtain ⟨b1,b2,b3,b4,b5,b6⟩:=hbody cl C s H fp hcc;exact ⟨b1.h,b2.h,λp J2 H2 hp2 hp0=>vn nE a.hcalm (λ_ _ f=>f) (λx=>hs1 _ x) (λit R s h0 h=>Df h0 h) (λit=>xE (Fw ..)) b3.h b4.h b5.h (sC (λ_ _ f=>f) hp2 hp0 b6.h)⟩
noncomputable def Bq (gs:G (List R)):G (List Str):=λenv=>gs env >>= λrs=>match rs with
 | [r]=>gj r >>= λxs=>(match strsOf xs with
  | some ss=>if (eU ss).length < 64 then .ok ss else .bad
  | none=>.bad)
 | _=>.bad
theorem CV {e:K8}{p:Pos}{pos:Pos}{gs:G (List R)}(ha:jA X c [e] gs) (hm:X.mg "set"=none) (hK:X.K=c.K:=by rfl) (hc:X.calm=true:=by rfl) (hg:Gl X "set":=by rfl)
  (he:KC [e] X.env=(false,eval e X.env)::KC [] X.env:=by rfl) (hpl:(MQ pos (KC [] X.env)).any (·.1)=false:=by rfl):yh X c (.Call (.Name "set" p) [e] [] pos) (Bq gs):=
 ⟨eO (qH (yx hc) hg hm yp ha.h (by decide) (by decide) he hpl) λσ H Q ⟨J,env,sr,w⟩=>by
  refine ⟨J,env,sr,az (aD w) λrs wr vs J1 H1 e1 r1=>?_⟩;split at wr
  ·obtain ⟨v,rfl,r⟩:=r1.one;rename_i r0;obtain ⟨xs,q,wr⟩:∃xs,gj r0=.ok xs/\cA (match strsOf xs with
    | some ss=>if (eU ss).length < 64 then M.ok ss else M.bad
    | none=>M.bad) (λr=>∀(v:V) (J' H':Hp),Ext J H J' H'->BF X.w H J' H' r v->Q v H') c.T:=by
    cases q:gj r0 with
    | ok xs=>rw [q] at wr;exact ⟨xs,rfl,wr⟩
    | bad=>rw [q] at wr;exact wr.elim
    | exc z=>unfold gj at q;split at q <;> cases q
   obtain ⟨p,vs,rfl,h1,h2⟩:=RR.list (sr.hp.ext e1) r q;split at wr
   ·rename_i ss z;split at wr
    ·rename_i hl;have:=kH z h2;subst this;refine ⟨p,ss,rfl,by rw [hK];exact h1,hl,λl hl'=>?_⟩;exact wr _ _ _ (e1.trans (Ext.new e1.sub hl' _)) ⟨l,rfl,cj⟩
    ·exact wr.elim
   ·exact wr.elim
  ·exact wr.elim⟩
noncomputable def iF (g:G (List Str)):G R:=λenv=>g env >>= λns=>if (eU ns).length < 64 then .ok (.l .fresh ((dX (eU ns)).map .str)) else .bad
theorem kB {e:K8}{p pos:Pos}{g:G (List Str)}(h:yh X c e g) (hm:X.mg "sorted"=none) (hc:X.calm=true:=by rfl) (hg:Gl X "sorted":=by rfl)
  (he:KC [e] X.env=(false,eval e X.env)::KC [] X.env:=by rfl) (hpl:(MQ pos (KC [] X.env)).any (·.1)=false:=by rfl):QD X c (.Call (.Name "sorted" p) [e] [] pos) (iF g):=
 ⟨eO (nN (uO hc) hg hm lg (gy h.h iZ he) (by decide) (by decide) he hpl) λσ H Q ⟨J,env,sr,w⟩=>by
  refine ⟨J,env,sr,az (aD w) λns wn v J1 H1 e1 ⟨p,hv,hp⟩=>?_⟩;split at wn
  ·rename_i hl;refine ⟨p,ns,by rw [hv],hp,hl,λl hl'=>?_⟩;exact wn _ _ _ (e1.trans (Ext.new e1.sub hl' _)) (RR.from e1.h (i8 (sr.hp.ext e1) hl' (lT _)))
  ·exact wn.elim⟩
end
end DL
namespace WP
open PySem DL K01
noncomputable def Wp {α:Type}(m:M α) (P:α->Prop):Prop:=∃a,m=.ok a/\P a
section
variable {α β:Type}{m:M α}{P P':α->Prop}{a:α}{env:Ev}{Q:O->Prop}{t u:G O}{g:G R}{r r':R}{i:Nat}{b:G Bool}
theorem Wp.mono (h:Wp m P) (k:∀a,P a->P' a):Wp m P':=let ⟨a,h1,h2⟩:=h;⟨a,h1,k a h2⟩
theorem Wp.eq (h:Wp m (·=a)):m=.ok a:=let ⟨_,h1,h2⟩:=h;h2▸h1
theorem mO {P:R->Prop}(h:Wp (t env) λo=>∃r,o=.rt r/\P r):Wp (fin (t env)) P:=by obtain ⟨_,h1,r,rfl,h2⟩:=h;exact ⟨r,by rw [h1];rfl,h2⟩
theorem dR (h:Wp (t env) (·=.rt r)):fin (t env)=.ok r:=by rw [h.eq];rfl
theorem bN (h:Wp (t env) λo=>match o with
 | .nx e=>Wp (u e) Q
 | o=>Q o):Wp (aB t u env) Q:=by
 obtain ⟨o,h1,h2⟩:=h;show Wp (t env >>= _) Q;rw [h1];cases o with
 | nx e=>exact h2
 | rt r=>exact ⟨_,rfl,h2⟩
 | bk e=>exact ⟨_,rfl,h2⟩
 | ct e=>exact ⟨_,rfl,h2⟩
theorem jj (h:g env=.ok r) (h2:toS r=.ok x) (k:Q (.nx (env.set i (some x)))):Wp (aU i g env) Q:=⟨_,by show (g env >>= _)=_;rw [h,aG,h2];rfl,k⟩
theorem bK (h:g env=.ok r) (h2:toS r=.ok x) (k:Wp (u (env.set i (some x))) Q):Wp (aB (aU i g) u env) Q:=bN (jj h h2 k)
theorem bM (h:g env=.ok r) (h2:rF r=.ok r') (k:Q (.rt r')):Wp (aL g env) Q:=⟨_,uv h h2,k⟩
theorem fm (k:Q (.nx env)):Wp (bB env) Q:=⟨_,rfl,k⟩
theorem rT (h:b env=.ok true) (k:Wp (t env) Q):Wp (aX b t u env) Q:=by rw [B9 h];exact k
theorem nM (h:b env=.ok false) (k:Wp (u env) Q):Wp (aX b t u env) Q:=by rw [tE h];exact k
theorem fZ (h:b env=.ok c) (k1:c=true->Wp (t env) Q) (k2:c=false->Wp (u env) Q):Wp (aX b t u env) Q:=by
 cases c with
 | true=>exact rT h (k1 rfl)
 | false=>exact nM h (k2 rfl)
theorem Bt {gi:G (List D)}(h:gi env=.ok ds) (k:Wp (fJ tg u ds env) Q):Wp (gV gi tg u env) Q:=by rw [yO h];exact k
theorem xR {gi:G (List D)}{v:G O}(h:gi env=.ok ds) (k:Wp (fJ tg t ds env) λo=>match o with
 | .nx e=>Wp (v e) Q
 | o=>Q o):Wp (aB (gV gi tg t) v env) Q:=bN (Bt h k)
theorem pG {tg:GT}(I:Nat->Ev->Prop) (ds:List D) (h0:I 0 env) (step:∀(k:Nat) (hk:k < ds.length) (env:Ev),I k env->∃e,tg ds[k] env=.ok e/\Wp (u e) λo=>∃e,o=.nx e/\I (k + 1) e)
  (k:∀e,I ds.length e->Q (.nx e)):Wp (fJ tg u ds env) Q:=by
 have key:∀(es:List D) (i:Nat) (env:Ev),ds.drop i=es->i<=ds.length->I i env->Wp (fJ tg u es env) Q:=by
  intro es
  induction es with
  | nil=>
   intro i env hd hi hI;have:i=ds.length:=by have:=congrArg QS hd;rw [LX] at this;simp at this;omega
   subst this;exact ⟨_,rfl,k _ hI⟩
  | cons d es ih=>
   intro i env hd hi hI;have hlt:i < ds.length:=by have:=congrArg QS hd;rw [LX] at this;simp at this;omega
   have e1:=Mj hlt;rw [hd] at e1;obtain ⟨q1,q2⟩:=UE e1;obtain ⟨e,h1,_,h2,e2,rfl,h3⟩:=step i hlt env hI;unfold fJ;rw [q1,h1,aG,h2,aG];exact ih (i + 1) e2 q2.symm (by omega) h3
 exact key ds 0 env rfl (K1 _) h0
theorem n1 {f:List R->M R}(hx:g env=.ok x) (hf:f [x]=.ok z):gN f (ai g ay) env=.ok z:=xG hx hf
theorem two {f:R->R->M R}{h:G R}{x y z:R}(hx:g env=.ok x) (hy:h env=.ok y) (hf:f x y=.ok z):g2 f g h env=.ok z:=by show (g env >>= _)=_;rw [hx,aG,hy,aG,hf]
theorem c1 {F:List S->M R}(hx:g env=.ok x) (hF:F [cU x]=.ok z):gN (aC 1 F) (ai g ay) env=.ok (dM z):=by show (ai g ay env >>= _)=_;unfold ai ay;rw [hx];show (match F [cU x] with | .ok r=>M.ok (dM r) | _=>M.bad)=_;rw [hF]
theorem c2 {F:List S->M R}{h:G R}(hx:g env=.ok x) (hy:h env=.ok y) (hF:F [cU x,cU y]=.ok z):gN (aC 2 F) (ai g (ai h ay)) env=.ok (dM z):=by show (ai g (ai h ay) env >>= _)=_;unfold ai ay;rw [hx,hy];show (match F [cU x,cU y] with | .ok r=>M.ok (dM r) | _=>M.bad)=_;rw [hF]
theorem c3 {F:List S->M R}{h k:G R}(hx:g env=.ok x) (hy:h env=.ok y) (hw:k env=.ok w) (hF:F [cU x,cU y,cU w]=.ok z):gN (aC 3 F) (ai g (ai h (ai k ay))) env=.ok (dM z):=by show (ai g (ai h (ai k ay)) env >>= _)=_;unfold ai ay;rw [hx,hy,hw];show (match F [cU x,cU y,cU w] with | .ok r=>M.ok (dM r) | _=>M.bad)=_;rw [hF]
theorem GI {gi:G (List D)}{tg:GT}{ge:G R}{gts:G Bool}{α:Type}{xs:List α}{h:α->D}(o:α->Ev) (p:α->Bool) (f:α->D) (hi:gi env=.ok (xs.map h)) (hl:xs.length<=1000000)
 (ho:∀x,(o x).length=n) (ht:∀x (e:Ev),e.length=n->tg (h x) (e++cE 0 cap env)=.ok (o x++cE 0 cap env))
 (hb:∀x∈xs,gts (o x++cE 0 cap env)=.ok (p x)/\(p x=true->∃r,ge (o x++cE 0 cap env)=.ok r/\toD r=.ok (f x))):bU n cap gi tg gts ge env=.ok (.l .fresh ((xs.filter p).map f)):=by
 have key:∀(es:List α) (x:Ev),x.length=n->(∀d∈es,d∈xs)->dW tg gts ge (es.map h) (x++cE 0 cap env)=.ok ((es.filter p).map f):=by
  intro es
  induction es with
  | nil=>exact λ_ _ _=>rfl
  | cons d es ih=>
   intro x hx hm;obtain ⟨h0,h1⟩:=hb d (hm d Ku);have ih:=ih (o d) (ho d) λe he=>hm e (Kq _ he);rw [LN];unfold dW;rw [ht d x hx,aG,h0,aG];cases q:p d with
   | true=>
    obtain ⟨r,h1,h2⟩:=h1 q;rw [if_pos rfl,h1,aG,h2,aG,ih,Pp q];rfl
   | false=>
    rw [if_neg (by decide),Pq (by simp [q])];exact ih
 unfold bU;rw [hi,aG,if_pos (by rw [Ly,Km];omega)];show (dW tg gts ge _ (K6 n none++cE 0 cap env) >>= _)=_;rw [key xs _ Li λ_ h=>h];rfl
theorem FG {α:Type}(xs:List α):xs.filter (λ_=>true)=xs:=OU.mpr λ_ _=>rfl
theorem w4 {gi:G (List D)}{ge:G R}{gts:G Bool}{α:Type}{xs:List α}{h:α->D}(p:α->Bool) (f:α->D) (hi:gi env=.ok (xs.map h)) (hl:xs.length<=1000000)
 (hb:∀x∈xs,gts (some (.d (h x))::cE 0 cap env)=.ok (p x)/\(p x=true->∃r,ge (some (.d (h x))::cE 0 cap env)=.ok r/\toD r=.ok (f x))):bU 1 cap gi (aJ 0) gts ge env=.ok (.l .fresh ((xs.filter p).map f)):=
 GI (λx=>[some (.d (h x))]) p f hi hl (λ_=>rfl) (λ_ e he=>match e,he with | [_],_=>rfl) hb
theorem iS {gi:G (List D)}{ge:G R}{α:Type}{xs:List α}{h:α->D}(f:α->D) (hi:gi env=.ok (xs.map h)) (hl:xs.length<=1000000)
 (hb:∀x∈xs,∃r,ge (some (.d (h x))::cE 0 cap env)=.ok r/\toD r=.ok (f x)):bU 1 cap gi (aJ 0) cV ge env=.ok (.l .fresh (xs.map f)):=by
 have:=w4 (gts:=cV) (λ_=>true) f hi hl λx hx=>⟨rfl,λ_=>hb x hx⟩
 rwa [FG] at this
theorem G0 (n:Nat):eZ 0 n=(Ky n).map dN:=by simp [eZ]
theorem E8 {gs:G (List R)}{n:Nat}(hg:gs env=.ok [.d (.int (n:Int))]) (h:n<=1000):fk gs env=.ok ((Ky n).map dN):=by rw [E7 hg h,G0]
theorem lC (h:g env=.ok x):ai g ay env=.ok [x]:=by show (g env >>= _)=_;rw [h];rfl
theorem bA:aO env=.ok []:=rfl
theorem aH {gs:G (List D)}(h:g env=.ok r) (h2:toD r=.ok d) (k:gs env=.ok ds):ao g gs env=.ok (d::ds):=by show (g env >>= _)=_;rw [h,aG,h2,aG,k];rfl
theorem c5 {gs:G (List D)}{ds:List D}(h:gs env=.ok ds) (hl:ds.length<=1000):cF gs env=.ok (.d (.tup ds)):=by show (gs env >>= _)=_;rw [h,aG,if_pos (gW hl)]
theorem eu {gs:G (List D)}{ds:List D}(h:gs env=.ok ds) (hl:ds.length<=1000):dB gs env=.ok (.l .fresh ds):=by show (gs env >>= _)=_;rw [h,aG,if_pos (gW hl)]
theorem oS {α:Type}{xs:List α}{h:α->D}(f:R) (hf:gQ f=.ok (xs.map h)) (i:Int) (h0:0<=i) (hi:i < xs.length):∃x∈xs,aK f (.d (.int i))=.ok (.d (h x)):=by
 obtain ⟨k,rfl⟩:=Int.eq_ofNat_of_zero_le h0;have hk:k < xs.length:=by omega
 refine ⟨xs[k],LJ hk,?_⟩;have h1:(xs.map h)[k]?=some (h xs[k]):=by rw [KQ,KG hk];rfl
 cases f with
 | d x=>
  cases x with
  | tup ys=>cases hf;exact mw h1
  | lst ys=>cases hf;unfold aK;simp only [gQ,aG,l_ h1]
  | _=>cases hf
 | l m x=>cases hf;exact oz h1
 | mo _ _=>cases hf
 | mb _ _=>cases hf
 | mf _ _=>cases hf
 | ln _=>cases hf
theorem Gm (h:env[i]?=some (some (.own xs))) (k:Wp (t (env.set i (some (.d (.lst xs))))) Q):Wp (pV i t env) Q:=by
 have:pV i t env=t (env.set i (some (.d (.lst xs)))):=by unfold pV;rw [h]
 rw [this];exact k
theorem xC (h:g env=.ok r) (h2:toD r=.ok d) (h3:tg d env=.ok e) (k:Q (.nx e)):Wp (pU tg g env) Q:=⟨_,by show (g env >>= _)=_;rw [h,aG,h2,aG,h3];rfl,k⟩
theorem F_ (h:g env=.ok r) (h2:toD r=.ok d) (h3:tg d env=.ok e) (k:Wp (u e) Q):Wp (aB (pU tg g) u env) Q:=bN (xC h h2 h3 k)
theorem Ad (xs:List D) (z:D):cutD (xs++[z]) none (some (-1))=xs:=by unfold cutD HT.bh;simp;rw [show ((-1:Int) + ((xs.length:Int) + 1)).toNat=xs.length by omega];simp
theorem wj {tb:G Bool}(I:Nat->Ev->Prop) (step:∀d env,I d env->(tb env=.ok false/\Q (.nx env))\/(tb env=.ok true/\Wp (t env) λo=>match o with
  | .nx e=>∃d',d' < d/\I d' e
  | .rt r=>Q (.rt r)
  | _=>False)):∀(n d:Nat) (env:Ev),I d env->d < n->Wp (ja tb t n env) Q
 | 0,d,env,_,h=>absurd h (Mt _)
 | n + 1,d,env,hI,h=>by
  unfold ja;rcases step d env hI with ⟨h1,h2⟩ | ⟨h1,o,h2,h3⟩
  ·rw [h1];exact ⟨_,rfl,h2⟩
  ·rw [h1,aG,if_pos rfl,h2,aG];cases o with
   | nx e=>
    obtain ⟨d',hd,hI'⟩:=h3;exact wj I step n d' e hI' (by omega)
   | rt r=>exact ⟨_,rfl,h3⟩
   | bk e=>exact h3.elim
   | ct e=>exact h3.elim
theorem vZ {tb:G Bool}(I:Nat->Ev->Prop) (d:Nat) (hd:d < n) (h0:I d env) (step:∀d env,I d env->(tb env=.ok false/\Wp (u env) Q)\/(tb env=.ok true/\Wp (t env) λo=>match o with
 | .nx e=>∃d',d' < d/\I d' e
 | .rt r=>Q (.rt r)
 | _=>False)):Wp (aB (oH n tb t) u env) Q:=bN (wj I (λd env h=>by
  rcases step d env h with h | ⟨h1,h2⟩
  ·exact .inl h
  ·refine .inr ⟨h1,h2.mono λo ho=>?_⟩;cases o <;> exact ho) n d env h0 hd)
end
end WP
namespace K12
open PySem DL
noncomputable def mZ:List Str:=["saying"]
noncomputable def ng:G O:=(aB (aX (aS (g2 (bx false) (g2 aK (af 0) (gC (.int 0))) (gC (.str "row")))) (aL (gN mz (ai (g2 aK (af 0) (gC (.int 2))) ay))) bB)
 (aL (bU 1 [0] (fj (xq [("mark",(.tup [(.int 2)])),("arrow",(.tup [(.int 2),(.int 3)])),("same",(.tup [(.int 1),(.int 2)])),("not",(.tup [])),("and",(.tup [])),("or",(.tup [])),("some",(.tup [(.int 1)])),("every",(.tup [(.int 1)])),("least",(.tup [(.int 2)]))] (g2 aK (af 0) (gC (.int 0))))) (aJ 0) cV (g2 aK (af 1) (af 0)))))
noncomputable def fD (as:List S):M R:=fin (ng (aF mZ as))
noncomputable def ve:List Str:=["saying","word"]
noncomputable def vI:G O:=(aB (aU 1 (g2 aK (af 0) (gC (.int 0))))
 (aB (aX (aS (g2 (fO false) (af 1) (cF (ao (gC (.str "and")) (ao (gC (.str "or")) aO))))) (aL (g2 aK (af 0) (gC (.int 1)))) bB)
 (aB (aX (aS (D9 false [("not",(.int 1)),("some",(.int 2)),("every",(.int 2)),("least",(.int 3))] (af 1))) (aL (cF (ao (g2 aK (af 0) (xq [("not",(.int 1)),("some",(.int 2)),("every",(.int 2)),("least",(.int 3))] (af 1))) aO))) bB)
 (aL (cF aO)))))
noncomputable def fR (as:List S):M R:=fin (vI (aF ve as))
noncomputable def qp:List Str:=["saying","parts","left","one"]
noncomputable def qC:G O:=(aB (aU 1 (dB aO))
 (aB (aU 2 (dB (ao (af 0) aO)))
 (aB (oH 2000 (Ea (af 2)) (aB (tu 3 2)
 (aB (gG 1 (af 3))
 (s_ 2 (D_ (gN (aC 1 K12.fR) (ai (af 3) ay)))))))
 (aL (af 1)))))
noncomputable def e_ (as:List S):M R:=fin (qC (aF qp as))
noncomputable def rj:List Str:=["saying","earlier","deepest"]
noncomputable def ig (Fr:List S->M R):G O:=(aB (aX (aS (g2 (bx false) (g2 aK (af 0) (gC (.int 0))) (gC (.str "row")))) (aL (g2 aK (af 1) (g2 aK (af 0) (gC (.int 1))))) bB)
 (aB (aU 2 (mG 0 (bU 1 [1] (fj (gN (aC 1 K12.fR) (ai (af 0) ay))) (aJ 0) cV (gN (aC 2 Fr) (ai (af 0) (ai (af 1) ay))))))
 (aB (aX (aS (g2 (fO false) (g2 aK (af 0) (gC (.int 0))) (gC (.tup [(.str "some"),(.str "every"),(.str "least")])))) (aL (g2 bu (af 2) (gC (.int 1)))) bB)
 (aL (af 2)))))
noncomputable def dz:Nat->List S->M R
 | 0,_=>.bad
 | k + 1,as=>fin (ig (dz k) (aF rj as))
noncomputable def qm:List Str:=["saying"]
noncomputable def qA:G O:=(aL (gN (aC 2 (K12.dz 60)) (ai (af 0) (ai (cF aO) ay))))
noncomputable def jb (as:List S):M R:=fin (qA (aF qm as))
noncomputable def m6:List Str:=["saying"]
noncomputable def nh:G O:=(aL (iF (rR 2 [] (fj (gN (aC 1 K12.e_) (ai (af 0) ay))) (aJ 0) cV (lD (gN (aC 1 K12.fD) (ai (af 0) ay))) (aJ 1) cV (af 1))))
noncomputable def gf (as:List S):M R:=fin (nh (aF m6 as))
noncomputable def n5:List Str:=["saying","inner","here"]
noncomputable def oK:G O:=(aB (aU 2 (gN (aC 1 K12.fD) (ai (af 0) ay)))
 (aB (aX (aS (g2 (fO false) (g2 aK (af 0) (gC (.int 0))) (gC (.tup [(.str "some"),(.str "every"),(.str "least")])))) (aL (iF (rQ 1 [2] (fj (af 1)) (aJ 0) (aS (g2 (fO true) (af 0) (af 1))) (af 0)))) bB)
 (aL (iF (Bq (ai (g2 gF (af 2) (af 1)) ay))))))
noncomputable def iy (as:List S):M R:=fin (oK (aF n5 as))
noncomputable def zX:List Str:=["saying"]
noncomputable def nJ (Fr:List S->M R):G O:=(aL (gN (aC 2 K12.iy) (ai (af 0) (ai (oG 2 [] (fj (gN (aC 1 K12.fR) (ai (af 0) ay))) (aJ 0) cV (lD (gN (aC 1 Fr) (ai (af 0) ay))) (aJ 1) cV (af 1)) ay))))
noncomputable def fh:Nat->List S->M R
 | 0,_=>.bad
 | k + 1,as=>fin (nJ (fh k) (aF zX as))
noncomputable def qo:List Str:=["saying"]
noncomputable def qB:G O:=(aL (gN gU (ai (bU 1 [] (fj (gN (aC 1 K12.e_) (ai (af 0) ay))) (aJ 0) cV (g2 (bx true) (g2 aK (af 0) (gC (.int 0))) (gC (.str "least")))) ay)))
noncomputable def jc (as:List S):M R:=fin (qB (aF qo as))
noncomputable def n6:List Str:=["saying","tongue","marks","arrows"]
noncomputable def oM:G O:=(aB (pU (rX 2 (jR (aJ 2) (jR (aJ 3) xY))) (af 1))
 (aB (aX (aS (g2 (bx false) (g2 aK (af 0) (gC (.int 0))) (gC (.str "mark")))) (aL (g2 (fO false) (g2 aK (af 0) (gC (.int 1))) (af 2))) bB)
 (aB (aX (aS (g2 (bx false) (g2 aK (af 0) (gC (.int 0))) (gC (.str "arrow")))) (aL (g2 (fO false) (g2 aK (af 0) (gC (.int 1))) (af 3))) bB)
 (aL (gC (.bl true))))))
noncomputable def iz (as:List S):M R:=fin (oM (aF n6 as))
noncomputable def vd:List Str:=["saying","tongue"]
noncomputable def vH:G O:=(aL (gN gU (ai (bU 1 [1] (fj (gN (aC 1 K12.e_) (ai (af 0) ay))) (aJ 0) cV (gN (aC 2 K12.iz) (ai (af 0) (ai (af 1) ay)))) ay)))
noncomputable def jy (as:List S):M R:=fin (vH (aF vd as))
noncomputable def kI:List Str:=["_law_cell_here"]
noncomputable def kM:G O:=(aL (bU 1 [0] (fk (ai (gC (.int 4)) ay)) (aJ 0) cV (g2 aK (gC (.str "abcdefghijklmnopqrstuvwxyz")) (g2 bw (g2 bu (af 1) (g2 di (gC (.int 7)) (af 0))) (gC (.int 26))))))
noncomputable def gp (as:List S):M R:=fin (kM (aF kI as))
noncomputable def nZ:List Str:=["_law_number","_law_tongue_here","_law_letters_here","_law_one","_law_other"]
noncomputable def oJ:G O:=(aB (aU 3 (g2 aK (af 2) (g2 bw (g2 cW (af 0) (gC (.int 3))) (gC (.int 4)))))
 (aB (aU 4 (g2 aK (af 2) (g2 bw (g2 cW (af 0) (gC (.int 12))) (gC (.int 4)))))
 (aB (aX (bY (aS (g2 (bx false) (g2 bw (af 0) (gC (.int 3))) (gC (.int 0)))) (aS (g2 (bx true) (g2 aK (af 1) (gC (.int 0))) (cF aO)))) (aL (cF (ao (gC (.str "mark")) (ao (g2 aK (g2 aK (af 1) (gC (.int 0))) (g2 bw (g2 cW (af 0) (gC (.int 48))) (gN dG (ai (g2 aK (af 1) (gC (.int 0))) ay)))) (ao (af 3) aO))))) bB)
 (aB (aX (bY (aS (g2 (bx false) (g2 bw (af 0) (gC (.int 3))) (gC (.int 1)))) (aS (g2 (bx true) (g2 aK (af 1) (gC (.int 1))) (cF aO)))) (aL (cF (ao (gC (.str "arrow")) (ao (g2 aK (g2 aK (af 1) (gC (.int 1))) (g2 bw (g2 cW (af 0) (gC (.int 48))) (gN dG (ai (g2 aK (af 1) (gC (.int 1))) ay)))) (ao (af 3) (ao (af 4) aO)))))) bB)
 (aL (cF (ao (gC (.str "same")) (ao (af 3) (ao (af 4) aO)))))))))
noncomputable def fQ (as:List S):M R:=fin (oJ (aF nZ as))
noncomputable def kJ:List Str:=["_law_number","_law_letters_here","_law_top","_law_saying","_law_deep_here","_law_high","_law_letter"]
noncomputable def kN:G O:=(aB (pU (rX 3 (jR (aJ 3) (jR (aJ 4) (jR (aJ 5) xY)))) (af 2))
 (aB (aU 6 (g2 aK (af 1) (g2 bw (g2 cW (af 0) (gC (.int 5))) (gC (.int 4)))))
 (aB (aX (bZ (aS (g2 (bx false) (g2 bw (af 0) (gC (.int 5))) (gC (.int 0)))) (aS (g2 (cJ λi j=>.bl (decide (j < i))) (af 4) (gC (.int 2))))) (aL (cF (ao (cF (ao (gC (.str "not")) (ao (af 3) aO))) (ao (af 4) (ao (g2 bu (af 5) (gC (.int 1))) aO))))) bB)
 (aB (aX (aS (g2 (bx false) (g2 bw (af 0) (gC (.int 5))) (gC (.int 4)))) (aL (cF (ao (cF (ao (gC (.str "least")) (ao (g2 bu (gC (.int 1)) (g2 bw (g2 cW (af 0) (gC (.int 20))) (g2 aK (dB (ao (gC (.int 9)) (ao (gC (.int 3)) aO))) (g2 bw (g2 cW (af 0) (gC (.int 200))) (gC (.int 2)))))) (ao (af 6) (ao (af 3) aO))))) (ao (g2 bu (af 4) (gC (.int 1))) (ao (g2 bu (af 5) (gC (.int 1))) aO))))) bB)
 (aL (cF (ao (cF (ao (g2 aK (dB (ao (gC (.str "some")) (ao (gC (.str "every")) aO))) (g2 bw (af 0) (gC (.int 2)))) (ao (af 6) (ao (af 3) aO)))) (ao (g2 bu (af 4) (gC (.int 1))) (ao (g2 bu (af 5) (gC (.int 1))) aO)))))))))
noncomputable def fz (as:List S):M R:=fin (kN (aF kJ as))
noncomputable def kY:List Str:=["_law_number","_law_some","_law_parts","_law_deep_here","_law_high"]
noncomputable def lG:G O:=(aB (aU 2 (gN jE (ai (bU 1 [] (fj (af 1)) (aJ 0) cV (g2 aK (af 0) (gC (.int 0)))) ay)))
 (aB (aU 3 (mG 0 (bU 1 [] (fj (af 1)) (aJ 0) cV (g2 aK (af 0) (gC (.int 1))))))
 (aB (aU 4 (mG 0 (bU 1 [] (fj (af 1)) (aJ 0) cV (g2 aK (af 0) (gC (.int 2))))))
 (aB (aX (aS (g2 (bx false) (gN dG (ai (af 1) ay)) (gC (.int 1)))) (aL (g2 aK (af 1) (gC (.int 0)))) bB)
 (aL (cF (ao (cF (ao (g2 aK (dB (ao (gC (.str "and")) (ao (gC (.str "or")) aO))) (g2 bw (af 0) (gC (.int 2)))) (ao (af 2) aO))) (ao (af 3) (ao (g2 bu (af 4) (gC (.int 1))) aO)))))))))
noncomputable def eT (as:List S):M R:=fin (lG (aF kY as))
noncomputable def mV:List Str:=["_law_cells","_law_tongue_here","_law_letters_here","_law_stack","_law_k","_law_number","_law_way","_law_rest","_law_many"]
noncomputable def m_:G O:=(aB (aU 3 (dB aO))
 (aB (gV (fk (ai (gN dG (ai (af 0) ay)) ay)) (aJ 4) (aB (aU 5 (g2 bw (g2 di (g2 bu (g2 bw (g2 aK (af 0) (af 4)) (g2 xm (gC (.int 2)) (gC (.int 64)))) (g2 di (gC (.int 613)) (af 4))) (gC (.int 71993))) (gC (.int 998244353))))
 (aB (aU 6 (g2 bw (af 5) (gC (.int 7))))
 (aB (aU 7 (g2 cW (af 5) (gC (.int 7))))
 (aX (bZ (aS (g2 (bx false) (af 3) (dB aO))) (bZ (aS (g2 (cJ λi j=>.bl (decide (i < j))) (af 6) (gC (.int 3)))) (aS (g2 (cJ λi j=>.bl (decide (j < i))) (g2 aK (g2 aK (af 3) (iU (gC (.int 1)))) (gC (.int 2))) (gC (.int 11)))))) (gG 3 (cF (ao (gN (aC 3 K12.fQ) (ai (af 7) (ai (af 1) (ai (af 2) ay)))) (ao (gC (.int 0)) (ao (gC (.int 0)) aO))))) (aX (bY (aS (g2 (bx false) (af 6) (gC (.int 3)))) (aS (g2 (cJ λi j=>.bl (decide (j < i))) (gN dG (ai (af 3) ay)) (gC (.int 1))))) (aB (aU 8 (g2 bu (gC (.int 2)) (g2 bw (g2 cW (af 7) (gC (.int 2))) (gC (.int 2)))))
 (aU 3 (g2 bu (iV fY (af 3) m8 (gm (iU (af 8)))) (dB (ao (gN (aC 2 K12.eT) (ai (af 7) (ai (iV fY (af 3) (gm (iU (af 8))) m8) ay))) aO))))) (aX (bY (aS (g2 (bx false) (af 6) (gC (.int 4)))) (aS (g2 (bx false) (g2 bw (af 7) (gC (.int 4))) (gC (.int 0))))) (gG 3 (cF (ao (cF (ao (g2 aK (dB (ao (gC (.str "and")) (ao (gC (.str "or")) aO))) (g2 bw (g2 cW (af 7) (gC (.int 4))) (gC (.int 2)))) (ao (cF aO) aO))) (ao (gC (.int 0)) (ao (gC (.int 0)) aO))))) (aU 3 (g2 bu (iV fY (af 3) m8 (gm (iU (gC (.int 1))))) (dB (ao (gN (aC 3 K12.fz) (ai (af 7) (ai (af 2) (ai (g2 aK (af 3) (iU (gC (.int 1)))) ay)))) aO)))))))))))
 (aL (g2 aK (gN (aC 2 K12.eT) (ai (gN dG (ai (af 0) ay)) (ai (af 3) ay))) (gC (.int 0))))))
noncomputable def f9 (as:List S):M R:=fin (m_ (aF mV as))
noncomputable def k7:List Str:=["_law_saying"]
noncomputable def lI:G O:=(aB (aX (bZ (aS (g2 (bx false) (g2 aK (af 0) (gC (.int 0))) (gC (.str "and")))) (aS (g2 (bx false) (g2 aK (af 0) (gC (.int 0))) (gC (.str "or"))))) (aL (gN mz (ai (g2 aK (af 0) (gC (.int 1))) ay))) bB)
 (aB (aX (bZ (aS (g2 (bx false) (g2 aK (af 0) (gC (.int 0))) (gC (.str "mark")))) (bZ (aS (g2 (bx false) (g2 aK (af 0) (gC (.int 0))) (gC (.str "arrow")))) (aS (g2 (bx false) (g2 aK (af 0) (gC (.int 0))) (gC (.str "same")))))) (aL (dB aO)) bB)
 (aL (dB (ao (g2 aK (af 0) (iU (gC (.int 1)))) aO)))))
noncomputable def cQ (as:List S):M R:=fin (lI (aF k7 as))
noncomputable def mU:List Str:=["_law_saying"]
noncomputable def m9:G O:=(aL (lF (g2 (bx false) (g2 aK (af 0) (gC (.int 0))) (gC (.str "some"))) (lF (g2 (bx false) (g2 aK (af 0) (gC (.int 0))) (gC (.str "every"))) (g2 (bx false) (g2 aK (af 0) (gC (.int 0))) (gC (.str "least"))))))
noncomputable def dH (as:List S):M R:=fin (m9 (aF mU as))
noncomputable def qk:List Str:=["_law_saying","_law_found","_law_at"]
noncomputable def qy:G O:=(aB (aU 1 (dB (ao (af 0) aO)))
 (aB (aU 2 (gC (.int 0)))
 (aB (oH 2000 (aS (g2 (cJ λi j=>.bl (decide (i < j))) (af 2) (gN dG (ai (af 1) ay)))) (aB (aU 1 (g2 bu (af 1) (gN (aC 1 K12.cQ) (ai (g2 aK (af 1) (af 2)) ay))))
 (aU 2 (g2 bu (af 2) (gC (.int 1))))))
 (aL (af 1)))))
noncomputable def g7 (as:List S):M R:=fin (qy (aF qk as))
noncomputable def wF:List Str:=["_law_saying","_law_deep_here","_law_part"]
noncomputable def j4 (Fr:List S->M R):G O:=(aB (aU 1 (gC (.int 0)))
 (aB (gV (lD (gN (aC 1 K12.cQ) (ai (af 0) ay))) (aJ 2) (aU 1 (gN Al (ai (af 1) (ai (gN (aC 1 Fr) (ai (af 2) ay)) ay)))))
 (aL (g2 bu (af 1) (gN Ak (ai (gN (aC 1 K12.dH) (ai (af 0) ay)) ay))))))
noncomputable def dF:Nat->List S->M R
 | 0,_=>.bad
 | k + 1,as=>fin (j4 (dF k) (aF wF as))
noncomputable def ql:List Str:=["_law_saying"]
noncomputable def qz:G O:=(aB (aX (bZ (aS (g2 (bx false) (g2 aK (af 0) (gC (.int 0))) (gC (.str "mark")))) (aS (g2 (bx false) (g2 aK (af 0) (gC (.int 0))) (gC (.str "arrow"))))) (aL (gN mz (ai (iV fY (af 0) (gm (gC (.int 2))) m8) ay))) bB)
 (aB (aX (aS (g2 (bx false) (g2 aK (af 0) (gC (.int 0))) (gC (.str "same")))) (aL (gN mz (ai (iV fY (af 0) (gm (gC (.int 1))) m8) ay))) bB)
 (aL (dB aO))))
noncomputable def gv (as:List S):M R:=fin (qz (aF ql as))
noncomputable def wG:List Str:=["_law_saying","_law_bound","_law_found","_law_part"]
noncomputable def j5 (Fr:List S->M R):G O:=(aB (aU 2 (bU 1 [1] (fj (gN (aC 1 K12.gv) (ai (af 0) ay))) (aJ 0) (aS (g2 (fO true) (af 0) (af 1))) (af 0)))
 (aB (aX (aS (gN (aC 1 K12.dH) (ai (af 0) ay))) (aU 1 (g2 gF (af 1) (dB (ao (g2 aK (af 0) (iU (gC (.int 2)))) aO)))) bB)
 (aB (gV (lD (gN (aC 1 K12.cQ) (ai (af 0) ay))) (aJ 3) (aU 2 (g2 gF (af 2) (gN (aC 2 Fr) (ai (af 3) (ai (af 1) ay))))))
 (aL (af 2)))))
noncomputable def cP:Nat->List S->M R
 | 0,_=>.bad
 | k + 1,as=>fin (j5 (cP k) (aF wG as))
noncomputable def kZ:List Str:=["_law_found","_law_some","_law_due"]
noncomputable def lH:G O:=(aB (aU 2 (bU 1 [1] (Ao (gC (.str "abcdefghijklmnopqrstuvwxyz"))) (aJ 0) (aS (g2 (fO false) (af 0) (af 1))) (af 0)))
 (aL (bD (cO "list" (af 0)) (bD (g2 (bx false) (af 0) (af 2)) (gN gU (ai (bU 1 [] (fj (af 0)) (aJ 0) cV (cO "str" (af 0))) ay))))))
noncomputable def dQ (as:List S):M R:=fin (lH (aF kZ as))
noncomputable def mY:List Str:=["_law_found","_law_due"]
noncomputable def nc:G O:=(aL (bD (cO "bool" (af 0)) (g2 (bx false) (af 0) (af 1))))
noncomputable def f_ (as:List S):M R:=fin (nc (aF mY as))
noncomputable def g8:List Str:=["_law_tongue_here","_law_number"]
noncomputable def g_:G O:=(aB (aX (aS (g2 (bx false) (g2 bw (af 1) (gC (.int 4))) (gC (.int 0)))) (aL (af 0)) bB)
 (aB (aX (aS (g2 (bx false) (g2 bw (af 1) (gC (.int 4))) (gC (.int 1)))) (aL (cF (ao (iV fY (g2 aK (af 0) (gC (.int 0))) (gm (gC (.int 1))) m8) (ao (g2 aK (af 0) (gC (.int 1))) aO)))) bB)
 (aB (aX (aS (g2 (bx false) (g2 bw (af 1) (gC (.int 4))) (gC (.int 2)))) (aL (cF (ao (g2 aK (af 0) (gC (.int 0))) (ao (iV fY (g2 aK (af 0) (gC (.int 1))) m8 (gm (iU (gC (.int 1))))) aO)))) bB)
 (aL (cF (ao (g2 aK (af 0) (gC (.int 1))) (ao (g2 aK (af 0) (gC (.int 0))) aO)))))))
noncomputable def dc (as:List S):M R:=fin (g_ (aF g8 as))
noncomputable def GD:List Str:=["_law_script","_law_tongue_here","_law_cells","_law_saying","_law_every","_law_letters_here","_law_part","_law_depth","_law_found","_law_free_here","_law_other","_law_due"]
noncomputable def Ec:G O:=(aB (aU 1 (gN (aC 1 K01.fL) (ai (gN (aC 2 K01.bT) (ai (af 0) (ai (gC (.int 1)) ay))) ay)))
 (aB (aU 2 (iV fY (af 0) (gm (gC (.int 6))) (gm (gC (.int 62)))))
 (aB (aX (aS (g2 (bx false) (g2 bw (gN (aC 2 K01.bT) (ai (af 0) (ai (gC (.int 3)) ay))) (gC (.int 3))) (gC (.int 1)))) (aU 2 (iV fY (af 0) (gm (gC (.int 6))) (gm (g2 bu (gC (.int 6)) (g2 bw (g2 cW (gN (aC 2 K01.bT) (ai (af 0) (ai (gC (.int 3)) ay))) (gC (.int 3))) (gC (.int 13))))))) bB)
 (aB (aU 3 (gN (aC 3 K12.f9) (ai (af 2) (ai (af 1) (ai (gN (aC 1 K12.gp) (ai (g2 bw (gN (aC 2 K01.bT) (ai (af 0) (ai (gC (.int 2)) ay))) (gC (.int 26))) ay)) ay)))))
 (aB (aU 4 (gN (aC 1 K12.g7) (ai (af 3) ay)))
 (aB (aU 5 (dB aO))
 (aB (pV 4 (gV (lD (af 4)) (aJ 6) (aB (aU 5 (g2 gF (af 5) (gN (aC 1 K12.gv) (ai (af 6) ay))))
 (aX (aS (gN (aC 1 K12.dH) (ai (af 6) ay))) (gG 5 (g2 aK (af 6) (iU (gC (.int 2))))) bB))))
 (aB (aU 7 (gN (aC 1 K12.jb) (ai (af 3) ay)))
 (aB (aX (bZ (bH (aS (cO "int" (af 7)))) (bZ (aS (cO "bool" (af 7))) (aS (g2 (bx true) (af 7) (gN (aC 1 (K12.dF 60)) (ai (af 3) ay)))))) (aL (gC (.bl false))) bB)
 (aB (aU 8 (gN (aC 1 K12.gf) (ai (af 3) ay)))
 (aB (aU 9 (gN (aC 1 (K12.fh 60)) (ai (af 3) ay)))
 (aB (aX (bZ (bH (aS (gN (aC 2 K12.dQ) (ai (af 8) (ai (af 5) ay))))) (bH (aS (gN (aC 2 K12.dQ) (ai (af 9) (ai (gN (aC 2 (K12.cP 60)) (ai (af 3) (ai (dB aO) ay))) ay)))))) (aL (gC (.bl false))) bB)
 (aB (gG 8 (gC (.str "zz")))
 (aB (gG 9 (gC (.str "zz")))
 (aB (aX (bZ (bH (aS (gN (aC 2 K12.dQ) (ai (gN (aC 1 K12.gf) (ai (af 3) ay)) (ai (af 5) ay))))) (bH (aS (gN (aC 2 K12.dQ) (ai (gN (aC 1 (K12.fh 60)) (ai (af 3) ay)) (ai (gN (aC 2 (K12.cP 60)) (ai (af 3) (ai (dB aO) ay))) ay)))))) (aL (gC (.bl false))) bB)
 (aB (aU 10 (gN (aC 2 K12.dc) (ai (af 1) (ai (gN (aC 2 K01.bT) (ai (af 0) (ai (gC (.int 4)) ay))) ay))))
 (aB (aU 11 (gN gU (ai (bU 1 [10] (fj (af 4)) (aJ 0) cV (lF (g2 (bx true) (g2 aK (af 0) (gC (.int 0))) (gC (.str "mark"))) (g2 (fO false) (g2 aK (af 0) (gC (.int 1))) (g2 aK (af 1) (gC (.int 0)))))) ay)))
 (aB (aU 11 (bD (af 11) (gN gU (ai (bU 1 [10] (fj (af 4)) (aJ 0) cV (lF (g2 (bx true) (g2 aK (af 0) (gC (.int 0))) (gC (.str "arrow"))) (g2 (fO false) (g2 aK (af 0) (gC (.int 1))) (g2 aK (af 1) (gC (.int 1)))))) ay))))
 (aB (aX (bZ (bH (aS (gN (aC 2 K12.f_) (ai (gN (aC 2 K12.jy) (ai (af 3) (ai (af 10) ay))) (ai (af 11) ay))))) (aS (g2 (D4 true) (gN (aC 2 K12.jy) (ai (af 3) (ai (af 1) ay))) (gC (.bl true))))) (aL (gC (.bl false))) bB)
 (aL (gN (aC 2 K12.f_) (ai (gN (aC 1 K12.jc) (ai (af 3) ay)) (ai (gN gU (ai (bU 1 [] (fj (af 4)) (aJ 0) cV (g2 (bx true) (g2 aK (af 0) (gC (.int 0))) (gC (.str "least")))) ay)) ay)))))))))))))))))))))))
noncomputable def pK (as:List S):M R:=fin (Ec (aF GD as))
end K12
namespace K12
open PySem PySem.Spec PyProof.Rows L2 DL DX
structure dY (w:K5) (K:Ke) (mg:Str->Option Kg):Prop where
 all:mg "all"=none
 bool:mg "bool"=none
 int:mg "int"=none
 isinstance:mg "isinstance"=none
 len:mg "len"=none
 list:mg "list"=none
 max:mg "max"=none
 range:mg "range"=none
 set:mg "set"=none
 sorted:mg "sorted"=none
 str:mg "str"=none
 tuple:mg "tuple"=none
 BINDERS:A_ K mg "BINDERS" (.tup [(.str "some"),(.str "every"),(.str "least")])
 INNER_PLACES:nV K w mg "INNER_PLACES" [("not",(.int 1)),("some",(.int 2)),("every",(.int 2)),("least",(.int 3))]
 LETTER_PLACES:nV K w mg "LETTER_PLACES" [("mark",(.tup [(.int 2)])),("arrow",(.tup [(.int 2),(.int 3)])),("same",(.tup [(.int 1),(.int 2)])),("not",(.tup [])),("and",(.tup [])),("or",(.tup [])),("some",(.tup [(.int 1)])),("every",(.tup [(.int 1)])),("least",(.tup [(.int 2)]))]
section
variable {P:KL}{w:K5}{K:Ke}{mg:Str->Option Kg}{base:L7}{f:KJ}{fd:K7}
noncomputable abbrev nu:Nc:=top 4
theorem rE (m:dY w K mg) (e:FB K mg "letters_at" nu):bq P w K mg base 1 1 "letters_at" K12.fD:=
 qc K12.ng K12.mZ 1 e (λnd _ cdv A outer s H E J T hr=>
 (ak (bg (bL hr.units (au (aa 0) ah) aW) (aA (aE (ku (aj (au (aa 0) ah) aq) m.list))) bf)
 (aA (aE (dS (iu ["place"] [0] (cI (uq m.LETTER_PLACES (au (aa 0) ah))) (λ_ _ _ _ _ hc=>⟨(aY 0 (d9 rfl)),bJ,(au (aa 1) (aa 0))⟩)))))))
noncomputable abbrev wc:Nc:=top 5
theorem yz (m:dY w K mg) (e:FB K mg "within" wc):bq P w K mg base 1 1 "within" K12.fR:=
 qc K12.vI K12.ve 1 e (λnd _ cdv A outer s H E J T hr=>
 (ak (aI 1 nd (au (aa 0) ah))
 (ak (bg (oZ hr.units (aa 1) (bG (av aW (av aW aQ)))) (aA (aE (au (aa 0) ah))) bf)
 (ak (bg (CQ m.INNER_PLACES (aa 1)) (aA (aE (bG (av (au (aa 0) (uq m.INNER_PLACES (aa 1))) aQ)))) bf)
 (aA (aE (bG aQ)))))))
noncomputable abbrev qU:Nc:=top 6
theorem uP (m:dY w K mg) (HU:bq P w K mg base 1 1 "within" K12.fR) (e:FB K mg "parts_of" qU):bq P w K mg base 2 1 "parts_of" K12.e_:=
 qc K12.qC K12.qp 1 e (λnd _ cdv A outer s H E J T hr=>
 (ak (aI 1 nd (bX aQ))
 (ak (aI 2 nd (bX (av (aa 0) aQ)))
 (ak (o4 2000 (CS (aa 2)) (ak (AU 3 2 nd)
 (ak (eF 1 (aa 3))
 (aA (uT 2 (CU (aM HU hr (aj (aa 3) aq)) F2))))))
 (aA (aE (aa 1)))))))
noncomputable abbrev ir:Nc:=top 7
theorem qa:c7 ["saying","earlier","deepest"] ["saying","earlier"] (aT ir):=⟨rfl,rfl,rfl,by decide +kernel,rfl,by decide +kernel,by decide +kernel⟩
theorem jg (m:dY w K mg) (HU:bq P w K mg base 1 1 "within" K12.fR) (F:gP K "depth_behind" "depth_behind" ir f fd) (hm:mg "depth_behind"=some (.ref f)):∀fu:Nat,bq P w K mg base (1 + fu) 2 "depth_behind" (K12.dz fu)
 | 0=>mh (ps:=["saying","earlier"]) F hm (λ_ _ _ _ _ _ us hl=>match us,hl with | [_,_],_=>rfl) (λ_=>rfl)
 | fu + 1=>
  have sc:=qa;have hself:=jg m HU F hm fu
  jM (k:=1 + fu) (gB:=K12.ig (K12.dz fu)) F hm sc (λ_ _ _ _ _ _ us hl=>match us,hl with | [_,_],_=>rfl) (λcdv A outer s H E J T hr=>
 (ak (bg (bL hr.units (au (aa 0) ah) aW) (aA (aE (au (aa 1) (au (aa 0) ah)))) bf)
 (ak (aI 2 sc.nd (nO (dS (iu ["part"] [1] (cI (aM HU hr (aj (aa 0) aq) (by omega))) (λ_ _ _ _ _ hc=>⟨(aY 0 (d9 rfl)),bJ,(aM hself hr (aj (aa 0) (aj (aa 1) aq)) (by omega))⟩))) m.max))
 (ak (bg (oZ hr.units (au (aa 0) ah) (qK m.BINDERS)) (aA (aE (br (aa 2) ah))) bf)
 (aA (aE (aa 2))))))) (λas r _ h=>h)
noncomputable abbrev qS:Nc:=top 8
theorem uL (m:dY w K mg) (Ih:bq P w K mg base 61 2 "depth_behind" (K12.dz 60)) (e:FB K mg "depth_of" qS):bq P w K mg base 62 1 "depth_of" K12.jb:=
 qc K12.qA K12.qm 1 e (λnd _ cdv A outer s H E J T hr=>
 (aA (aE (aM Ih hr (aj (aa 0) (aj (bG aQ) aq))))))
noncomputable abbrev nv:Nc:=top 9
theorem rG (m:dY w K mg) (HS:bq P w K mg base 2 1 "parts_of" K12.e_) (HV:bq P w K mg base 1 1 "letters_at" K12.fD) (e:FB K mg "letters_of" nv):bq P w K mg base 3 1 "letters_of" K12.gf:=
 qc K12.nh K12.m6 1 e (λnd _ cdv A outer s H E J T hr=>
 (aA (aE (kB (E3 ["part","letter"] [] (cI (aM HS hr (aj (aa 0) aq))) (λ_ _ _ _ _ hc=>⟨(aY 0 (d9 rfl)),bJ,(i7 (aM HV hr (aj (aa 0) aq))),(aY 1 (d9 rfl)),bJ,(aa 1)⟩)) m.sorted))))
noncomputable abbrev pg:Nc:=top 10
theorem sJ (m:dY w K mg) (HV:bq P w K mg base 1 1 "letters_at" K12.fD) (e:FB K mg "free_from" pg):bq P w K mg base 2 2 "free_from" K12.iy:=
 qc K12.oK K12.n5 2 e (λnd _ cdv A outer s H E J T hr=>
 (ak (aI 2 nd (aM HV hr (aj (aa 0) aq)))
 (ak (bg (oZ hr.units (au (aa 0) ah) (qK m.BINDERS)) (aA (aE (kB (E2 ["letter"] [2] (cI (aa 1)) (λ_ _ _ _ _ hc=>⟨(aY 0 (d9 rfl)),(lS (qJ hr.units (aa 0) (aa 1))),(aa 0)⟩)) m.sorted))) bf)
 (aA (aE (kB (CV (aj (kr (aa 2) (aa 1)) aq) m.set) m.sorted))))))
noncomputable abbrev nQ:Nc:=top 11
theorem zD:c7 ["saying"] ["saying"] (aT nQ):=⟨rfl,rfl,rfl,by decide +kernel,rfl,by decide +kernel,by decide +kernel⟩
theorem om (m:dY w K mg) (HU:bq P w K mg base 1 1 "within" K12.fR) (Ic:bq P w K mg base 2 2 "free_from" K12.iy) (F:gP K "free_of" "free_of" nQ f fd) (hm:mg "free_of"=some (.ref f)):∀fu:Nat,bq P w K mg base (2 + fu) 1 "free_of" (K12.fh fu)
 | 0=>mh (ps:=["saying"]) F hm (λ_ _ _ _ _ _ us hl=>match us,hl with | [_],_=>rfl) (λ_=>rfl)
 | fu + 1=>
  have sc:=zD;have hself:=om m HU Ic F hm fu
  jM (k:=2 + fu) (gB:=K12.nJ (K12.fh fu)) F hm sc (λ_ _ _ _ _ _ us hl=>match us,hl with | [_],_=>rfl) (λcdv A outer s H E J T hr=>
 (aA (aE (aM Ic hr (aj (aa 0) (aj (dS (GK ["part","letter"] [] (cI (aM HU hr (aj (aa 0) aq) (by omega))) (λ_ _ _ _ _ hc=>⟨(aY 0 (d9 rfl)),bJ,(i7 (aM hself hr (aj (aa 0) aq) (by omega))),(aY 1 (d9 rfl)),bJ,(aa 1)⟩))) aq)) (by omega))))) (λas r _ h=>h)
noncomputable abbrev qT:Nc:=top 12
theorem uM (m:dY w K mg) (HS:bq P w K mg base 2 1 "parts_of" K12.e_) (e:FB K mg "is_plain" qT):bq P w K mg base 3 1 "is_plain" K12.jc:=
 qc K12.qB K12.qo 1 e (λnd _ cdv A outer s H E J T hr=>
 (aA (aE (iJ (aj (dS (iu ["part"] [] (cI (aM HS hr (aj (aa 0) aq))) (λ_ _ _ _ _ hc=>⟨(aY 0 (d9 rfl)),bJ,(o6 hr.units (au (aa 0) ah) aW)⟩))) aq) m.all))))
noncomputable abbrev pq:Nc:=top 13
theorem sL (m:dY w K mg) (e:FB K mg "is_spoken" pq):bq P w K mg base 1 2 "is_spoken" K12.iz:=
 qc K12.oM K12.n6 2 e (λnd _ cdv A outer s H E J T hr=>
 (ak (uo (aa 1) (ur (gJ (aY 2 nd) (gJ (aY 3 nd) qL))))
 (ak (bg (bL hr.units (au (aa 0) ah) aW) (aA (aE (o5 hr.units (au (aa 0) ah) (aa 2)))) bf)
 (ak (bg (bL hr.units (au (aa 0) ah) aW) (aA (aE (o5 hr.units (au (aa 0) ah) (aa 3)))) bf)
 (aA (aE jN))))))
noncomputable abbrev v7:Nc:=top 14
theorem yy (m:dY w K mg) (HS:bq P w K mg base 2 1 "parts_of" K12.e_) (Ip:bq P w K mg base 1 2 "is_spoken" K12.iz) (e:FB K mg "speaks" v7):bq P w K mg base 3 2 "speaks" K12.jy:=
 qc K12.vH K12.vd 2 e (λnd _ cdv A outer s H E J T hr=>
 (aA (aE (iJ (aj (dS (iu ["part"] [1] (cI (aM HS hr (aj (aa 0) aq))) (λ_ _ _ _ _ hc=>⟨(aY 0 (d9 rfl)),bJ,(aM Ip hr (aj (aa 0) (aj (aa 1) aq)))⟩))) aq) m.all))))
noncomputable abbrev o_:Nc:=top 16
theorem sH (m:dY w K mg) (e:FB K mg "_law_cell" o_):bq P w K mg base 1 2 "_law_cell" K01.bT:=
 qc K01.j3 K01.iA 2 e (λnd _ cdv A outer s H E J T hr=>
 (ak (bg (iH xO (je λ_ _ _=>.bl _) (aa 1) (gz (aj (aa 0) aq) m.len)) (aA (aE (aZ (au (aa 0) (aa 1)) (vX ah ah)))) bf)
 (aA (aE ah))))
noncomputable abbrev nq:Nc:=top 17
theorem rB (m:dY w K mg) (e:FB K mg "_law_names" nq):bq P w K mg base 1 2 "_law_names" K01.eE:=
 qc K01.ju K01.mW 2 e (λnd _ cdv A outer s H E J T hr=>
 (ak (aI 2 nd (aZ (eB (aa 0) ah) ah))
 (ak (aI 3 nd (au aW (aZ (aa 2) ah)))
 (ak (aI 4 nd (br ah (aZ (bW (aa 2) ah) ah)))
 (ak (bg (bL hr.units (aZ (bW (aa 2) ah) ah) ah) (aA (aE (dS (iu ["_law_k"] [3] (kj (gn (aj (aa 1) aq) m.range)) (λ_ _ _ _ _ hc=>⟨(aY 0 (d9 rfl)),bJ,(eB (aa 1) (br ah (aa 0)))⟩))))) bf)
 (ak (bg (bL hr.units (aZ (bW (aa 2) ah) ah) ah) (ak (aI 5 nd (bX (av aW (av aW (av aW (av aW (av aW (av aW (av aW (av aW aQ))))))))))
 (ak (aI 6 nd (aZ (bW (aa 2) ah) ah))
 (ak (aI 7 nd aW)
 (aA (aE (o8 (aj (dS (iu ["_law_k"] [5,6,7,2] (kj (gn (aj (aa 1) aq) m.range)) (λ_ _ _ _ _ hc=>⟨(aY 0 (d9 rfl)),bJ,(br (au (br (aa 1) (aa 1)) (br (aa 2) (aa 0))) (au (aa 3) (aZ (bW (aa 4) ah) ah)))⟩))) aq) m.sorted)))))) bf)
 (ak (aI 8 nd (aZ (bW (aa 2) ah) (aa 4)))
 (ak (aI 9 nd (bX aQ))
 (ak (i6 (gn (aj (aa 1) aq) m.range) (aY 10 nd) (ak (aI 11 nd (au aW (aZ (br (bW (aa 2) ah) (eB ah (aa 10))) ah)))
 (aA (eF 9 (br (br (eB (aa 3) (aa 8)) (aa 11)) (eB (aa 3) (vY (vY (aa 4) ah) (aa 8))))))))
 (aA (aE (o8 (aj (aa 9) aq) m.sorted))))))))))))
noncomputable abbrev lY:Nc:=top 18
theorem pP (m:dY w K mg) (Ik:bq P w K mg base 1 2 "_law_names" K01.eE) (e:FB K mg "_law_tongue" lY):bq P w K mg base 2 1 "_law_tongue" K01.fL:=
 qc K01.iW K01.k6 1 e (λnd _ cdv A outer s H E J T hr=>
 (ak (aI 1 nd (aM Ik hr (aj (aa 0) (aj ah aq))))
 (ak (aI 2 nd (aZ (eB (aa 0) ah) ah))
 (ak (aI 3 nd (aZ (bW (aa 2) ah) ah))
 (aA (aE (bG (av (lR (aj (eY (aa 1) ff (cD (aZ (aa 2) ah))) aq) m.tuple) (av (lR (aj (eY (aa 1) (cD (aa 3)) (cD (br (aa 3) (aZ (bW (aa 2) ah) ah)))) aq) m.tuple) aQ)))))))))
noncomputable abbrev kR:Nc:=top 19
theorem oi (m:dY w K mg) (e:FB K mg "_law_letters" kR):bq P w K mg base 1 1 "_law_letters" K12.gp:=
 qc K12.kM K12.kI 1 e (λnd _ cdv A outer s H E J T hr=>
 (aA (aE (dS (iu ["_law_k"] [0] (kj (gn (aj ah aq) m.range)) (λ_ _ _ _ _ hc=>⟨(aY 0 (d9 rfl)),bJ,(au aW (aZ (br (aa 1) (eB ah (aa 0))) ah))⟩))))))
noncomputable abbrev pe:Nc:=top 20
theorem sI (m:dY w K mg) (e:FB K mg "_law_leaf" pe):bq P w K mg base 1 3 "_law_leaf" K12.fQ:=
 qc K12.oJ K12.nZ 3 e (λnd _ cdv A outer s H E J T hr=>
 (ak (aI 3 nd (au (aa 2) (aZ (bW (aa 0) ah) ah)))
 (ak (aI 4 nd (au (aa 2) (aZ (bW (aa 0) ah) ah)))
 (ak (bg (dP (mJ (bL hr.units (aZ (aa 0) ah) ah) (kq (um hr.units (au (aa 1) ah) (bG aQ))))) (aA (aE (bG (av aW (av (au (au (aa 1) ah) (aZ (bW (aa 0) ah) (gz (aj (au (aa 1) ah) aq) m.len))) (av (aa 3) aQ)))))) bf)
 (ak (bg (dP (mJ (bL hr.units (aZ (aa 0) ah) ah) (kq (um hr.units (au (aa 1) ah) (bG aQ))))) (aA (aE (bG (av aW (av (au (au (aa 1) ah) (aZ (bW (aa 0) ah) (gz (aj (au (aa 1) ah) aq) m.len))) (av (aa 3) (av (aa 4) aQ))))))) bf)
 (aA (aE (bG (av aW (av (aa 3) (av (aa 4) aQ)))))))))))
noncomputable abbrev kT:Nc:=top 21
theorem oj (m:dY w K mg) (e:FB K mg "_law_wrapped" kT):bq P w K mg base 1 3 "_law_wrapped" K12.fz:=
 qc K12.kN K12.kJ 3 e (λnd _ cdv A outer s H E J T hr=>
 (ak (uo (aa 2) (ur (gJ (aY 3 nd) (gJ (aY 4 nd) (gJ (aY 5 nd) qL)))))
 (ak (aI 6 nd (au (aa 1) (aZ (bW (aa 0) ah) ah)))
 (ak (bg (dP (fC (bL hr.units (aZ (aa 0) ah) ah) (fS (iH xN (je λ_ _ _=>.bl _) (aa 4) ah)))) (aA (aE (bG (av (bG (av aW (av (aa 3) aQ))) (av (aa 4) (av (br (aa 5) ah) aQ)))))) bf)
 (ak (bg (bL hr.units (aZ (aa 0) ah) ah) (aA (aE (bG (av (bG (av aW (av (br ah (aZ (bW (aa 0) ah) (au (bX (av ah (av ah aQ))) (aZ (bW (aa 0) ah) ah)))) (av (aa 6) (av (aa 3) aQ))))) (av (br (aa 4) ah) (av (br (aa 5) ah) aQ)))))) bf)
 (aA (aE (bG (av (bG (av (au (bX (av aW (av aW aQ))) (aZ (aa 0) ah)) (av (aa 6) (av (aa 3) aQ)))) (av (br (aa 4) ah) (av (br (aa 5) ah) aQ)))))))))))
noncomputable abbrev lV:Nc:=top 22
theorem pN (m:dY w K mg) (e:FB K mg "_law_joined" lV):bq P w K mg base 1 2 "_law_joined" K12.eT:=
 qc K12.lG K12.kY 2 e (λnd _ cdv A outer s H E J T hr=>
 (ak (aI 2 nd (lR (aj (dS (iu ["_law_one"] [] (cI (aa 1)) (λ_ _ _ _ _ hc=>⟨(aY 0 (d9 rfl)),bJ,(au (aa 0) ah)⟩))) aq) m.tuple))
 (ak (aI 3 nd (nO (dS (iu ["_law_one"] [] (cI (aa 1)) (λ_ _ _ _ _ hc=>⟨(aY 0 (d9 rfl)),bJ,(au (aa 0) ah)⟩))) m.max))
 (ak (aI 4 nd (nO (dS (iu ["_law_one"] [] (cI (aa 1)) (λ_ _ _ _ _ hc=>⟨(aY 0 (d9 rfl)),bJ,(au (aa 0) ah)⟩))) m.max))
 (ak (bg (bL hr.units (gz (aj (aa 1) aq) m.len) ah) (aA (aE (au (aa 1) ah))) bf)
 (aA (aE (bG (av (bG (av (au (bX (av aW (av aW aQ))) (aZ (aa 0) ah)) (av (aa 2) aQ))) (av (aa 3) (av (br (aa 4) ah) aQ)))))))))))
noncomputable abbrev nk:Nc:=top 23
theorem rA (m:dY w K mg) (Io:bq P w K mg base 1 3 "_law_leaf" K12.fQ) (HY:bq P w K mg base 1 2 "_law_joined" K12.eT) (Ig:bq P w K mg base 1 3 "_law_wrapped" K12.fz) (e:FB K mg "_law_grown" nk):bq P w K mg base 2 3 "_law_grown" K12.f9:=
 qc K12.m_ K12.mV 3 e (λnd _ cdv A outer s H E J T hr=>
 (ak (aI 3 nd (bX aQ))
 (ak (i6 (gn (aj (gz (aj (aa 0) aq) m.len) aq) m.range) (aY 4 nd) (ak (aI 5 nd (aZ (eB (br (aZ (au (aa 0) (aa 4)) (vX ah ah)) (eB ah (aa 4))) ah) ah))
 (ak (aI 6 nd (aZ (aa 5) ah))
 (ak (aI 7 nd (bW (aa 5) ah))
 (aA (bg (dP (fC (bL hr.units (aa 3) (bX aQ)) (fC (iH xO (je λ_ _ _=>.bl _) (aa 6) ah) (fS (iH xN (je λ_ _ _=>.bl _) (au (au (aa 3) (fU ah)) ah) ah))))) (aA (eF 3 (bG (av (aM Io hr (aj (aa 7) (aj (aa 1) (aj (aa 2) aq)))) (av ah (av ah aQ)))))) (aA (bg (dP (mJ (bL hr.units (aa 6) ah) (kq (iH xN (je λ_ _ _=>.bl _) (gz (aj (aa 3) aq) m.len) ah)))) (ak (aI 8 nd (br ah (aZ (bW (aa 7) ah) ah)))
 (aA (aI 3 nd (br (eY (aa 3) ff (cD (fU (aa 8)))) (bX (av (aM HY hr (aj (aa 7) (aj (eY (aa 3) (cD (fU (aa 8))) ff) aq))) aQ)))))) (aA (bg (dP (mJ (bL hr.units (aa 6) ah) (kq (bL hr.units (aZ (aa 7) ah) ah)))) (aA (eF 3 (bG (av (bG (av (au (bX (av aW (av aW aQ))) (aZ (bW (aa 7) ah) ah)) (av (bG aQ) aQ))) (av ah (av ah aQ)))))) (aA (aI 3 nd (br (eY (aa 3) ff (cD (fU ah))) (bX (av (aM Ig hr (aj (aa 7) (aj (aa 2) (aj (au (aa 3) (fU ah)) aq)))) aQ)))))))))))))))
 (aA (aE (au (aM HY hr (aj (gz (aj (aa 0) aq) m.len) (aj (aa 3) aq))) ah))))))
noncomputable abbrev lZ:Nc:=top 24
theorem pQ (m:dY w K mg) (e:FB K mg "_law_within" lZ):bq P w K mg base 1 1 "_law_within" K12.cQ:=
 qc K12.lI K12.k7 1 e (λnd _ cdv A outer s H E J T hr=>
 (ak (bg (dP (fC (bL hr.units (au (aa 0) ah) aW) (fS (bL hr.units (au (aa 0) ah) aW)))) (aA (aE (ku (aj (au (aa 0) ah) aq) m.list))) bf)
 (ak (bg (dP (fC (bL hr.units (au (aa 0) ah) aW) (fC (bL hr.units (au (aa 0) ah) aW) (fS (bL hr.units (au (aa 0) ah) aW))))) (aA (aE (bX aQ))) bf)
 (aA (aE (bX (av (au (aa 0) (fU ah)) aQ)))))))
noncomputable abbrev nj:Nc:=top 25
theorem rq (m:dY w K mg) (e:FB K mg "_law_binds" nj):bq P w K mg base 1 1 "_law_binds" K12.dH:=
 qc K12.m9 K12.mU 1 e (λnd _ cdv A outer s H E J T hr=>
 (aA (aE (o7 (lQ hr.units (au (aa 0) ah) aW) (o7 (lQ hr.units (au (aa 0) ah) aW) (gY (lQ hr.units (au (aa 0) ah) aW)))))))
noncomputable abbrev qQ:Nc:=top 26
theorem uJ (m:dY w K mg) (HM:bq P w K mg base 1 1 "_law_within" K12.cQ) (e:FB K mg "_law_all" qQ):bq P w K mg base 2 1 "_law_all" K12.g7:=
 qc K12.qy K12.qk 1 e (λnd _ cdv A outer s H E J T hr=>
 (ak (aI 1 nd (bX (av (aa 0) aQ)))
 (ak (aI 2 nd ah)
 (ak (o4 2000 (iH xO (je λ_ _ _=>.bl _) (aa 2) (gz (aj (aa 1) aq) m.len)) (ak (aI 1 nd (br (aa 1) (aM HM hr (aj (au (aa 1) (aa 2)) aq))))
 (aA (aI 2 nd (br (aa 2) ah)))))
 (aA (aE (aa 1)))))))
noncomputable abbrev kC:Nc:=top 27
theorem uX:c7 ["_law_saying","_law_deep_here","_law_part"] ["_law_saying"] (aT kC):=⟨rfl,rfl,rfl,by decide +kernel,rfl,by decide +kernel,by decide +kernel⟩
theorem lq (m:dY w K mg) (HM:bq P w K mg base 1 1 "_law_within" K12.cQ) (HN:bq P w K mg base 1 1 "_law_binds" K12.dH) (F:gP K "_law_deep" "_law_deep" kC f fd) (hm:mg "_law_deep"=some (.ref f)):∀fu:Nat,bq P w K mg base (1 + fu) 1 "_law_deep" (K12.dF fu)
 | 0=>mh (ps:=["_law_saying"]) F hm (λ_ _ _ _ _ _ us hl=>match us,hl with | [_],_=>rfl) (λ_=>rfl)
 | fu + 1=>
  have sc:=uX;have hself:=lq m HM HN F hm fu
  jM (k:=1 + fu) (gB:=K12.j4 (K12.dF fu)) F hm sc (λ_ _ _ _ _ _ us hl=>match us,hl with | [_],_=>rfl) (λcdv A outer s H E J T hr=>
 (ak (aI 1 sc.nd ah)
 (ak (i6 (i7 (aM HM hr (aj (aa 0) aq) (by omega))) (aY 2 sc.nd) (aA (aI 1 sc.nd (CT (aj (aa 1) (aj (aM hself hr (aj (aa 2) aq) (by omega)) aq)) m.max))))
 (aA (aE (br (aa 1) (zx (aj (aM HN hr (aj (aa 0) aq) (by omega)) aq) m.int))))))) (λas r _ h=>h)
noncomputable abbrev qR:Nc:=top 28
theorem uK (m:dY w K mg) (e:FB K mg "_law_own" qR):bq P w K mg base 1 1 "_law_own" K12.gv:=
 qc K12.qz K12.ql 1 e (λnd _ cdv A outer s H E J T hr=>
 (ak (bg (dP (fC (bL hr.units (au (aa 0) ah) aW) (fS (bL hr.units (au (aa 0) ah) aW)))) (aA (aE (ku (aj (eY (aa 0) (cD ah) ff) aq) m.list))) bf)
 (ak (bg (bL hr.units (au (aa 0) ah) aW) (aA (aE (ku (aj (eY (aa 0) (cD ah) ff) aq) m.list))) bf)
 (aA (aE (bX aQ))))))
noncomputable abbrev kD:Nc:=top 29
theorem uY:c7 ["_law_saying","_law_bound","_law_found","_law_part"] ["_law_saying","_law_bound"] (aT kD):=⟨rfl,rfl,rfl,by decide +kernel,rfl,by decide +kernel,by decide +kernel⟩
theorem ly (m:dY w K mg) (HW:bq P w K mg base 1 1 "_law_own" K12.gv) (HN:bq P w K mg base 1 1 "_law_binds" K12.dH) (HM:bq P w K mg base 1 1 "_law_within" K12.cQ) (F:gP K "_law_free" "_law_free" kD f fd) (hm:mg "_law_free"=some (.ref f)):∀fu:Nat,bq P w K mg base (1 + fu) 2 "_law_free" (K12.cP fu)
 | 0=>mh (ps:=["_law_saying","_law_bound"]) F hm (λ_ _ _ _ _ _ us hl=>match us,hl with | [_,_],_=>rfl) (λ_=>rfl)
 | fu + 1=>
  have sc:=uY;have hself:=ly m HW HN HM F hm fu
  jM (k:=1 + fu) (gB:=K12.j5 (K12.cP fu)) F hm sc (λ_ _ _ _ _ _ us hl=>match us,hl with | [_,_],_=>rfl) (λcdv A outer s H E J T hr=>
 (ak (vW 2 sc.nd (iu ["_law_letter"] [1] (cI (aM HW hr (aj (aa 0) aq) (by omega))) (λ_ _ _ _ _ hc=>⟨(aY 0 (d9 rfl)),(lS (qJ hr.units (aa 0) (aa 1))),(aa 0)⟩)))
 (ak (bg (fT (aM HN hr (aj (aa 0) aq) (by omega))) (aA (aI 1 sc.nd (kr (aa 1) (bX (av (au (aa 0) (fU ah)) aQ))))) bf)
 (ak (i6 (i7 (aM HM hr (aj (aa 0) aq) (by omega))) (aY 3 sc.nd) (aA (aI 2 sc.nd (kr (aa 2) (aM hself hr (aj (aa 3) (aj (aa 1) aq)) (by omega))))))
 (aA (aE (aa 2))))))) (λas r _ h=>h)
noncomputable abbrev lW:Nc:=top 30
theorem pO (m:dY w K mg) (e:FB K mg "_law_listed" lW):bq P w K mg base 1 2 "_law_listed" K12.dQ:=
 qc K12.lH K12.kZ 2 e (λnd _ cdv A outer s H E J T hr=>
 (ak (vW 2 nd (iu ["_law_letter"] [1] (kj (AV aW)) (λ_ _ _ _ _ hc=>⟨(aY 0 (d9 rfl)),(lS (oZ hr.units (aa 0) (aa 1))),(aa 0)⟩)))
 (aA (aE (mK (gI Ax wY m.list (aa 0) m.isinstance) (mK (lQ hr.units (aa 0) (aa 2)) (gY (iJ (aj (dS (iu ["_law_one"] [] (cI (aa 0)) (λ_ _ _ _ _ hc=>⟨(aY 0 (d9 rfl)),bJ,(gI Cm yq m.str (aa 0) m.isinstance)⟩))) aq) m.all))))))))
noncomputable abbrev nt:Nc:=top 31
theorem rC (m:dY w K mg) (e:FB K mg "_law_truth" nt):bq P w K mg base 1 2 "_law_truth" K12.f_:=
 qc K12.nc K12.mY 2 e (λnd _ cdv A outer s H E J T hr=>
 (aA (aE (mK (gI tN oh m.bool (aa 0) m.isinstance) (gY (lQ hr.units (aa 0) (aa 1)))))))
noncomputable abbrev ic:Nc:=top 32
theorem jV (m:dY w K mg) (e:FB K mg "_law_other_tongue" ic):bq P w K mg base 1 2 "_law_other_tongue" K12.dc:=
 qc K12.g_ K12.g8 2 e (λnd _ cdv A outer s H E J T hr=>
 (ak (bg (bL hr.units (aZ (aa 1) ah) ah) (aA (aE (aa 0))) bf)
 (ak (bg (bL hr.units (aZ (aa 1) ah) ah) (aA (aE (bG (av (eY (au (aa 0) ah) (cD ah) ff) (av (au (aa 0) ah) aQ))))) bf)
 (ak (bg (bL hr.units (aZ (aa 1) ah) ah) (aA (aE (bG (av (au (aa 0) ah) (av (eY (au (aa 0) ah) ff (cD (fU ah))) aQ))))) bf)
 (aA (aE (bG (av (au (aa 0) ah) (av (au (aa 0) ah) aQ)))))))))
noncomputable abbrev kG:Nc:=top 33
theorem Ga:c7 ["_law_script","_law_tongue_here","_law_cells","_law_saying","_law_every","_law_letters_here","_law_part","_law_depth","_law_found","_law_free_here","_law_other","_law_due"] ["_law_script"] (aT kG):=⟨rfl,rfl,rfl,by decide +kernel,rfl,by decide +kernel,by decide +kernel⟩
theorem FW (m:dY w K mg) (HR:bq P w K mg base 1 2 "_law_cell" K01.bT) (Ii:bq P w K mg base 2 1 "_law_tongue" K01.fL) (Ie:bq P w K mg base 1 1 "_law_letters" K12.gp) (Ij:bq P w K mg base 2 3 "_law_grown" K12.f9) (Iu:bq P w K mg base 2 1 "_law_all" K12.g7) (HW:bq P w K mg base 1 1 "_law_own" K12.gv) (HN:bq P w K mg base 1 1 "_law_binds" K12.dH) (Iv:bq P w K mg base 62 1 "depth_of" K12.jb) (Im:bq P w K mg base 61 1 "_law_deep" (K12.dF 60)) (Ia:bq P w K mg base 3 1 "letters_of" K12.gf) (Il:bq P w K mg base 62 1 "free_of" (K12.fh 60)) (HQ:bq P w K mg base 1 2 "_law_listed" K12.dQ) (Ib:bq P w K mg base 61 2 "_law_free" (K12.cP 60)) (HX:bq P w K mg base 1 2 "_law_other_tongue" K12.dc) (Ir:bq P w K mg base 3 2 "speaks" K12.jy) (H_:bq P w K mg base 1 2 "_law_truth" K12.f_) (Iw:bq P w K mg base 3 1 "is_plain" K12.jc) (F:gP K "law" "law" kG f fd):gA P w K mg base jx 63 f fd ["_law_script"] (kU K 1 K12.pK):=
 have sc:=Ga
 CP (k:=62) (gB:=K12.Ec) F sc (λcdv A outer s H E J T hr=>
 (ak (aI 1 sc.nd (aM Ii hr (aj (aM HR hr (aj (aa 0) (aj ah aq))) aq)))
 (ak (aI 2 sc.nd (eY (aa 0) (cD ah) (cD ah)))
 (ak (bg (bL hr.units (aZ (aM HR hr (aj (aa 0) (aj ah aq))) ah) ah) (aA (aI 2 sc.nd (eY (aa 0) (cD ah) (cD (br ah (aZ (bW (aM HR hr (aj (aa 0) (aj ah aq))) ah) ah)))))) bf)
 (ak (aI 3 sc.nd (aM Ij hr (aj (aa 2) (aj (aa 1) (aj (aM Ie hr (aj (aZ (aM HR hr (aj (aa 0) (aj ah aq))) ah) aq)) aq)))))
 (ak (aI 4 sc.nd (aM Iu hr (aj (aa 3) aq)))
 (ak (aI 5 sc.nd (bX aQ))
 (ak (AS 4 (i6 (i7 (aa 4)) (aY 6 sc.nd) (ak (aI 5 sc.nd (kr (aa 5) (aM HW hr (aj (aa 6) aq))))
 (aA (bg (fT (aM HN hr (aj (aa 6) aq))) (aA (eF 5 (au (aa 6) (fU ah)))) bf)))))
 (ak (aI 7 sc.nd (aM Iv hr (aj (aa 3) aq)))
 (ak (bg (dP (fC (iI (fT (gI Ck yo m.int (aa 7) m.isinstance))) (fC (fT (gI tN oh m.bool (aa 7) m.isinstance)) (fS (um hr.units (aa 7) (aM Im hr (aj (aa 3) aq))))))) (aA (aE jN)) bf)
 (ak (aI 8 sc.nd (aM Ia hr (aj (aa 3) aq)))
 (ak (aI 9 sc.nd (aM Il hr (aj (aa 3) aq)))
 (ak (bg (dP (fC (iI (fT (aM HQ hr (aj (aa 8) (aj (aa 5) aq))))) (fS (iI (fT (aM HQ hr (aj (aa 9) (aj (aM Ib hr (aj (aa 3) (aj (bX aQ) aq))) aq)))))))) (aA (aE jN)) bf)
 (ak (eF 8 aW)
 (ak (eF 9 aW)
 (ak (bg (dP (fC (iI (fT (aM HQ hr (aj (aM Ia hr (aj (aa 3) aq)) (aj (aa 5) aq))))) (fS (iI (fT (aM HQ hr (aj (aM Il hr (aj (aa 3) aq)) (aj (aM Ib hr (aj (aa 3) (aj (bX aQ) aq))) aq)))))))) (aA (aE jN)) bf)
 (ak (aI 10 sc.nd (aM HX hr (aj (aa 1) (aj (aM HR hr (aj (aa 0) (aj ah aq))) aq))))
 (ak (aI 11 sc.nd (iJ (aj (dS (iu ["_law_part"] [10] (cI (aa 4)) (λ_ _ _ _ _ hc=>⟨(aY 0 (d9 rfl)),bJ,(o7 (o6 hr.units (au (aa 0) ah) aW) (gY (o5 hr.units (au (aa 0) ah) (au (aa 1) ah))))⟩))) aq) m.all))
 (ak (aI 11 sc.nd (mK (aa 11) (gY (iJ (aj (dS (iu ["_law_part"] [10] (cI (aa 4)) (λ_ _ _ _ _ hc=>⟨(aY 0 (d9 rfl)),bJ,(o7 (o6 hr.units (au (aa 0) ah) aW) (gY (o5 hr.units (au (aa 0) ah) (au (aa 1) ah))))⟩))) aq) m.all))))
 (ak (bg (dP (fC (iI (fT (aM H_ hr (aj (aM Ir hr (aj (aa 3) (aj (aa 10) aq))) (aj (aa 11) aq))))) (fS (zw (aM Ir hr (aj (aa 3) (aj (aa 1) aq))) jN)))) (aA (aE jN)) bf)
 (aA (aE (aM H_ hr (aj (aM Iw hr (aj (aa 3) aq)) (aj (iJ (aj (dS (iu ["_law_part"] [] (cI (aa 4)) (λ_ _ _ _ _ hc=>⟨(aY 0 (d9 rfl)),bJ,(o6 hr.units (au (aa 0) ah) aW)⟩))) aq) m.all) aq))))))))))))))))))))))))) (λas r _ h=>h)
end
end K12
set_option maxHeartbeats 1000000
namespace K12
open PySem PySem.Spec PyProof.Rows DL K01 WP
inductive Sy (A B L:List Str):Nat->D->Prop
 | mark {k:Nat}{n a:Str}:n∈A->a∈L->Sy A B L (k + 1) (.tup [.str "mark",.str n,.str a])
 | arrow {k:Nat}{n a b:Str}:n∈B->a∈L->b∈L->Sy A B L (k + 1) (.tup [.str "arrow",.str n,.str a,.str b])
 | same {k:Nat}{a b:Str}:a∈L->b∈L->Sy A B L (k + 1) (.tup [.str "same",.str a,.str b])
 | not {k:Nat}{xs:List D}:Sy A B L k (.tup xs)->Sy A B L (k + 1) (.tup [.str "not",.tup xs])
 | and {k:Nat}{ss:List D}:(∀s∈ss,Sy A B L k s)->ss.length<=100->Sy A B L (k + 1) (.tup [.str "and",.tup ss])
 | or {k:Nat}{ss:List D}:(∀s∈ss,Sy A B L k s)->ss.length<=100->Sy A B L (k + 1) (.tup [.str "or",.tup ss])
 | some {k:Nat}{a:Str}{xs:List D}:a∈L->Sy A B L k (.tup xs)->Sy A B L (k + 1) (.tup [.str "some",.str a,.tup xs])
 | every {k:Nat}{a:Str}{xs:List D}:a∈L->Sy A B L k (.tup xs)->Sy A B L (k + 1) (.tup [.str "every",.str a,.tup xs])
 | least {k:Nat}{i:Int}{a:Str}{xs:List D}:a∈L->Sy A B L k (.tup xs)->Sy A B L (k + 1) (.tup [.str "least",.int i,.str a,.tup xs])
variable {A B L:List Str}{k:Nat}{d:D}
theorem Sy.tup (h:Sy A B L k d):∃xs,d=.tup xs:=by cases h <;> exact ⟨_,rfl⟩
theorem Sy.up (h:Sy A B L k d):∀{j:Nat},k<=j->Sy A B L j d:=by
 induction h with
 | mark h1 h2=>intro j hj;obtain ⟨j,rfl⟩:∃i,j=i + 1:=⟨j - 1,by omega⟩;exact .mark h1 h2
 | arrow h1 h2 h3=>intro j hj;obtain ⟨j,rfl⟩:∃i,j=i + 1:=⟨j - 1,by omega⟩;exact .arrow h1 h2 h3
 | same h1 h2=>intro j hj;obtain ⟨j,rfl⟩:∃i,j=i + 1:=⟨j - 1,by omega⟩;exact .same h1 h2
 | not _ ih=>intro j hj;obtain ⟨j,rfl⟩:∃i,j=i + 1:=⟨j - 1,by omega⟩;exact .not (ih (by omega))
 | and _ h ih=>intro j hj;obtain ⟨j,rfl⟩:∃i,j=i + 1:=⟨j - 1,by omega⟩;exact .and (λs hs=>ih s hs (by omega)) h
 | or _ h ih=>intro j hj;obtain ⟨j,rfl⟩:∃i,j=i + 1:=⟨j - 1,by omega⟩;exact .or (λs hs=>ih s hs (by omega)) h
 | some h _ ih=>intro j hj;obtain ⟨j,rfl⟩:∃i,j=i + 1:=⟨j - 1,by omega⟩;exact .some h (ih (by omega))
 | every h _ ih=>intro j hj;obtain ⟨j,rfl⟩:∃i,j=i + 1:=⟨j - 1,by omega⟩;exact .every h (ih (by omega))
 | least h _ ih=>intro j hj;obtain ⟨j,rfl⟩:∃i,j=i + 1:=⟨j - 1,by omega⟩;exact .least h (ih (by omega))
noncomputable def wd:D->Str
 | .tup (.str w::_)=>w
 | _=>TL
noncomputable def wit:D->List D
 | .tup [.str w,x]=>if w == "not" then [x] else (match x with
  | .tup ss=>ss
  | _=>[])
 | .tup [.str _,.str _,.tup xs]=>[.tup xs]
 | .tup [.str _,.int _,.str _,.tup xs]=>[.tup xs]
 | _=>[]
noncomputable def bE:D->List Str
 | .tup [.str w,.str a,.str b]=>if w == "mark" then [b] else [a,b]
 | .tup [.str _,.str a,.tup _]=>[a]
 | .tup [.str _,.str _,.str a,.str b]=>[a,b]
 | .tup [.str _,.int _,.str a,.tup _]=>[a]
 | _=>[]
noncomputable def own:D->List Str
 | .tup [.str w,.str a,.str b]=>if w == "mark" then [b] else [a,b]
 | .tup [.str _,.str _,.str a,.str b]=>[a,b]
 | _=>[]
noncomputable def bnd:D->List Str
 | .tup [.str _,.str a,.tup _]=>[a]
 | .tup [.str _,.int _,.str a,.tup _]=>[a]
 | _=>[]
theorem nB (h:Sy A B L k d):fR [.d d]=.ok (.d (.tup (wit d))):=by cases h <;> rfl
theorem qi (h:Sy A B L k d):fD [.d d]=.ok (.l .fresh ((bE d).map .str)):=by cases h <;> rfl
theorem kW (h:Sy A B L k d):cQ [.d d]=.ok (.l .fresh (wit d)):=by cases h <;> rfl
theorem yd (h:Sy A B L k d):gv [.d d]=.ok (.l .fresh ((own d).map .str)):=by cases h <;> rfl
theorem nA (h:Sy A B L k d):dH [.d d]=.ok (.d (.bl (!(bnd d).isEmpty))):=by cases h <;> rfl
theorem tV (h:Sy A B L k d):bE d=own d++bnd d:=by cases h <;> rfl
theorem cK (h:Sy A B L (k + 1) d):∀s∈wit d,Sy A B L k s:=by
 intro s hs;cases h with
 | mark _ _=>cases hs
 | arrow _ _ _=>cases hs
 | same _ _=>cases hs
 | not h=>rw [Kw.mp (show s∈[_] from hs)];exact h
 | and h _=>exact h s hs
 | or h _=>exact h s hs
 | some _ h=>rw [Kw.mp (show s∈[_] from hs)];exact h
 | every _ h=>rw [Kw.mp (show s∈[_] from hs)];exact h
 | least _ h=>rw [Kw.mp (show s∈[_] from hs)];exact h
theorem mP (h:Sy A B L k d):(wit d).length<=100:=by
 cases h with
 | and _ h=>exact h
 | or _ h=>exact h
 | mark _ _=>exact K1 _
 | arrow _ _ _=>exact K1 _
 | same _ _=>exact K1 _
 | _=>exact N4 1 99
theorem Cp (h:Sy A B L k d):∀x∈bE d,x∈L:=by
 intro x hx;cases h with
 | mark _ h=>rw [Kw.mp (show x∈[_] from hx)];exact h
 | arrow _ h1 h2=>rcases KA.mp (show x∈[_,_] from hx) with e | e;exact e▸h1;exact (Kw.mp e)▸h2
 | same h1 h2=>rcases KA.mp (show x∈[_,_] from hx) with e | e;exact e▸h1;exact (Kw.mp e)▸h2
 | not _=>cases hx
 | and _ _=>cases hx
 | or _ _=>cases hx
 | some h _=>rw [Kw.mp (show x∈[_] from hx)];exact h
 | every h _=>rw [Kw.mp (show x∈[_] from hx)];exact h
 | least h _=>rw [Kw.mp (show x∈[_] from hx)];exact h
theorem cT (h:Sy A B L k d):∃j,k=j + 1:=by cases h <;> exact ⟨_,rfl⟩
theorem iT {α β:Type}{f g:α->List β}:∀{l:List α},(∀x∈l,f x=g x)->l.flatMap f=l.flatMap g
 | [],_=>rfl
 | x::l,h=>by rw [Lb,Lb,h x Ku,iT λy hy=>h y (Kq _ hy)]
noncomputable def aV:Nat->D->List D
 | 0,_=>[]
 | n + 1,d=>d::(wit d).flatMap (aV n)
theorem p_:∀{k:Nat}{d:D},Sy A B L k d->∀{j:Nat},k<=j->aV j d=aV k d
 | 0,d,h,j,hj=>by obtain ⟨_,e⟩:=cT h;cases e
 | k + 1,d,h,j,hj=>by obtain ⟨j,rfl⟩:∃i,j=i + 1:=⟨j - 1,by omega⟩;show d::(wit d).flatMap (aV j)=d::(wit d).flatMap (aV k);congr 1;exact iT λs hs=>p_ (cK h s hs) (by omega)
theorem eW:∀{k:Nat}{d:D},Sy A B L k d->∀p∈aV k d,Sy A B L k p
 | 0,d,h,p,_=>by obtain ⟨_,e⟩:=cT h;cases e
 | k + 1,d,h,p,hp=>by
  rcases KA.mp hp with rfl | hp
  ·exact h
  ·obtain ⟨s,hs,hp⟩:=Lc.mp hp;exact (eW (cK h s hs) p hp).up (MP _)
theorem vS {S:List D}:∀{k:Nat}{d:D},Sy A B L k d->d∈S->(∀p∈S,∀q∈wit p,q∈S)->∀p∈aV k d,p∈S
 | 0,d,h,_,_,p,_=>by obtain ⟨_,e⟩:=cT h;cases e
 | k + 1,d,h,hd,cl,p,hp=>by
  rcases KA.mp hp with rfl | hp
  ·exact hd
  ·obtain ⟨s,hs,hp⟩:=Lc.mp hp;exact vS (cK h s hs) (cl d hd s hs) cl p hp
theorem vR:∀{k:Nat}{d:D},Sy A B L k d->∀p∈aV k d,∀q∈wit p,q∈aV k d
 | 0,d,h,p,hp,q,hq=>by cases hp
 | k + 1,d,h,p,hp,q,hq=>by
  rcases KA.mp hp with rfl | hp
  ·refine Kq _ (Lc.mpr ⟨q,hq,?_⟩);obtain ⟨j,e⟩:=cT (cK h q hq);rw [e];exact Ku
  ·obtain ⟨s,hs,hp⟩:=Lc.mp hp;exact Kq _ (Lc.mpr ⟨s,hs,vR (cK h s hs) p hp q hq⟩)
end K12
namespace K51
open PySem DL
end K51
namespace K51
open PySem DL K01 WP
end K51
namespace K51
open PySem DL K01 WP
open PySem.W (kas_sort)
end K51
namespace K51
open PySem DL K01 WP
end K51
namespace K52
open PySem DL
end K52
namespace K52
open PySem DL K01 WP K51
variable {P:D->Prop}
end K52
namespace DL
open PySem PySem.Spec PyProof.Rows L2 DX
end DL
namespace K55
open PySem DL
end K55
namespace K55
open PySem DL K01 WP K51 K52
end K55
namespace K23
open PySem DL
end K23
namespace K23
open PySem DL K01 WP K51 K52 K55
section
variable {α β:Type}
theorem wZ {gts:G Bool}{act:Ev->M (List D×Ev)}{h':β->D}{rest:Ev}(p:β->Bool) (f:β->D):∀(ys:List β),(∀y∈ys,gts (a0::some (.d (h' y))::rest)=.ok (p y)/\(p y=true->act (a0::some (.d (h' y))::rest)=.ok ([f y],a0::some (.d (h' y))::rest)))->
  ∀z:Option S,∃z',bC (aJ 1) gts act (ys.map h') (a0::z::rest)=.ok ((ys.filter p).map f,a0::z'::rest)
 | [],_,z=>⟨z,rfl⟩
 | y::ys,H,z=>by
  obtain ⟨h1,h2⟩:=H y Ku;obtain ⟨z',ih⟩:=wZ p f ys (λy hy=>H y (Kq _ hy)) (some (.d (h' y)));refine ⟨z',?_⟩;rw [LN];unfold bC;show (gts (a0::some (.d (h' y))::rest) >>= λk=>if k=true then act (a0::some (.d (h' y))::rest) >>= λr=>bC (aJ 1) gts act (ys.map h') r.2 >>= λz=>.ok (r.1++z.1,z.2) else bC (aJ 1) gts act (ys.map h') (a0::some (.d (h' y))::rest))=_;rw [h1,aG];cases q:p y with
  | true=>
   rw [if_pos rfl,h2 q,aG];show (bC (aJ 1) gts act (ys.map h') (a0::some (.d (h' y))::rest) >>= _)=_;rw [ih,aG,Pp q];rfl
  | false=>
   rw [if_neg (by decide),ih,Pq (by simp [q])]
theorem oq {gi1:G (List D)}{gts:G Bool}{act:Ev->M (List D×Ev)}{h:α->D}{h':β->D}{rest:Ev}(ys:α->List β) (p:α->β->Bool) (f:α->β->D):∀(xs:List α),(∀x∈xs,(ys x).length<=1000/\(∀z:Option S,gi1 (some (.d (h x))::z::rest)=.ok ((ys x).map h'))/\∀y∈ys x,gts (some (.d (h x))::some (.d (h' y))::rest)=.ok (p x y)/\(p x y=true->act (some (.d (h x))::some (.d (h' y))::rest)=.ok ([f x y],some (.d (h x))::some (.d (h' y))::rest)))->
  ∀z0 z:Option S,∃z0' z',bC (aJ 0) cV (gg gi1 (aJ 1) gts act) (xs.map h) (z0::z::rest)=.ok (xs.flatMap λx=>((ys x).filter (p x)).map (f x),z0'::z'::rest)
 | [],_,z0,z=>⟨z0,z,rfl⟩
 | x::xs,H,z0,z=>by obtain ⟨h1,h2,h3⟩:=H x Ku;obtain ⟨z1,e1⟩:=wZ (a0:=some (.d (h x))) (p x) (f x) (ys x) h3 z;obtain ⟨z0',z',ih⟩:=oq ys p f xs (λy hy=>H y (Kq _ hy)) (some (.d (h x))) z1;refine ⟨z0',z',?_⟩;rw [LN];unfold bC;show (gg gi1 (aJ 1) gts act (some (.d (h x))::z::rest) >>= _)=_;unfold gg;rw [h2 z,aG,if_pos (by rw [Km];exact h1),e1,aG];show (bC (aJ 0) cV (gg gi1 (aJ 1) gts act) (xs.map h) (some (.d (h x))::z1::rest) >>= _)=_;rw [ih];rfl
theorem Bm {gi0 gi1:G (List D)}{gts:G Bool}{act:Ev->M (List D×Ev)}{fin:List D->M R}{h:α->D}{h':β->D}{xs:List α}(ys:α->List β) (p:α->β->Bool) (f:α->β->D) (hi:gi0 env=.ok (xs.map h)) (hl:xs.length<=10000)
 (H:∀x∈xs,(ys x).length<=1000/\(∀z:Option S,gi1 (some (.d (h x))::z::cE 0 cap env)=.ok ((ys x).map h'))/\∀y∈ys x,gts (some (.d (h x))::some (.d (h' y))::cE 0 cap env)=.ok (p x y)/\(p x y=true->act (some (.d (h x))::some (.d (h' y))::cE 0 cap env)=.ok ([f x y],some (.d (h x))::some (.d (h' y))::cE 0 cap env))):
  gk 10000 2 cap gi0 (aJ 0) cV (gg gi1 (aJ 1) gts act) fin env=fin (xs.flatMap λx=>((ys x).filter (p x)).map (f x)):=by unfold gk;rw [hi,aG,if_pos (by rw [Km];exact hl)];obtain ⟨z0',z',e⟩:=oq ys p f xs H none none;show (bC (aJ 0) cV (gg gi1 (aJ 1) gts act) (xs.map h) (none::none::cE 0 cap env) >>= _)=_;rw [e];rfl
theorem vh {ge:G R}(h:ge env=.ok r) (h2:toD r=.ok d):fN ge env=.ok ([d],env):=by unfold fN;rw [h,aG,h2];rfl
end
section
variable {env:Ev}{Q:O->Prop}{g:G R}{t:G O}{r:R}{i:Nat}
theorem FQ {xs ys:List D}(h0:env[i]?=some (some (.own xs))) (h:g env=.ok r) (h2:gQ r=.ok ys) (hl:xs.length + ys.length<=16777216) (k:Q (.nx (env.set i (some (.own (xs++ys)))))):Wp (s_ i g env) Q:=by refine ⟨_,?_,k⟩;unfold s_;rw [h0];show (g env >>= _)=_;rw [h,aG,h2,aG,if_pos (by rw [Ly];exact hl)]
end
end K23
namespace K12
open PySem PySem.Spec PyProof.Rows DL K01 WP
variable {A B L:List Str}{k:Nat}{d:D}
theorem jH {env:Ev}{i:Nat}{g:G R}{r:R}{Q:O->Prop}{xs:List D}{d:D}(h0:env[i]?=some (some (.own xs))) (h:g env=.ok r) (h2:toD r=.ok d) (hl:xs.length<=1000000) (k:Q (.nx (env.set i (some (.own (xs++[d])))))):Wp (gG i g env) Q:=by refine ⟨_,?_,k⟩;unfold gG;rw [h0];show (g env >>= _)=_;rw [h,aG,h2,aG,if_pos (by rw [Ly];omega)]
theorem FT {env:Ev}{i j:Nat}{Q:O->Prop}{xs:List D}{d:D}(h0:env[j]?=some (some (.own (xs++[d])))) (k:Q (.nx ((env.set j (some (.own xs))).set i (some (.d d))))):Wp (tu i j env) Q:=by
 refine ⟨_,?_,k⟩;unfold tu;rw [h0];have e:(xs++[d])[(xs++[d]).length - 1]?=some d:=by simp
 simp only [e];rw [List.dropLast_concat]
theorem AN (h:Sy A B L k d):1<=(aV k d).length:=by obtain ⟨j,rfl⟩:=cT h;exact N4 1 _
theorem y_ {l:List D}(h:∀d∈l,Sy A B L k d):l.length<=(l.flatMap (aV k)).length:=by
 induction l with
 | nil=>exact K1 _
 | cons d l ih=>
  have:=ih λx hx=>h x (Kq _ hx);have:=AN (h d Ku);rw [Lb,Ko,L3];omega
theorem mC (h:Sy A B L k d):aV k d=d::(wit d).flatMap (aV k):=by obtain ⟨j,rfl⟩:=cT h;show d::(wit d).flatMap (aV j)=_;congr 1;exact iT λs hs=>(p_ (cK h s hs) (MP j)).symm
theorem Dr (h:Sy A B L k d):∀s∈wit d,Sy A B L k s:=λs hs=>by obtain ⟨j,rfl⟩:=cT h;exact (cK h s hs).up (MP j)
theorem pJ (h:Sy A B L k d) (hN:(aV k d).length < 2000):e_ [.d d]=.ok (.l .fresh (aV k d)):=by
 refine dR (bK (r:=.l .fresh []) (x:=.own []) (eu bA (K1 _)) rfl (bK (r:=.l .fresh [d]) (x:=.own [d]) (eu (aH rfl rfl bA) (N4 1 999)) rfl ?_));refine vZ (λm env=>∃done left x,env=[some (.d d),some (.own done),some (.own left),x]/\(∀s∈left,Sy A B L k s)/\done++left.reverse.flatMap (aV k)=aV k d/\m=(left.reverse.flatMap (aV k)).length) (aV k d).length hN ⟨[],[d],none,rfl,λs hs=>by rw [Kw.mp hs];exact h,by simp,by simp⟩ ?_;rintro m env ⟨done,left,x,rfl,h1,h2,h3⟩;rcases Qv left with rfl | ⟨l,s,rfl⟩
 ·refine .inl ⟨rfl,bM (r:=.l .own done) rfl rfl ?_⟩;have:done=aV k d:=by simpa using h2
  rw [this]
 ·rw [Qw] at h1 h2 h3 ⊢;have hs:Sy A B L k s:=h1 s (by simp);refine .inr ⟨?_,?_⟩
  ·show M.ok (!(l++[s]).isEmpty)=_;simp
  have tot:=congrArg QS h2;rw [Ko,<-h3] at tot;rw [NH,PZ,Om,Lb,mC hs,List.cons_append,L3] at h3;rw [NH,PZ,Om,Lb,mC hs] at h2;have hw:=mP hs;have ll:l.length<=(l.reverse.flatMap (aV k)).length:=by
   have:=y_ (l:=l.reverse) (A:=A) (B:=B) (L:=L) (k:=k) λz hz=>h1 z (LQ _ (RV.mp hz))
   rwa [QY] at this
  rw [Ko] at h3;refine bN (FT (xs:=l) (d:=s) rfl (bN (jH (d:=s) rfl rfl rfl (by omega) (K23.FQ (xs:=l) (ys:=(wit s).reverse) rfl (r:=.d (.tup (wit s).reverse)) ?_ rfl (by rw [QY];omega) ?_))))
  ·show (gN _ _ _ >>= _)=_;rw [c1 (x:=.d s) (z:=.d (.tup (wit s))) rfl (nB hs)];rfl
  ·refine ⟨_,?_,done++[s],l++(wit s).reverse,some (.d s),rfl,λz hz=>?_,?_,rfl⟩
   ·rw [NH,QH,L6,Ko];omega
   ·rcases K3.mp hz with hz | hz
    ·exact h1 z (LQ _ hz)
    ·exact Dr hs z (RV.mp hz)
   ·rw [NH,QH,L6,<-h2];simp
theorem FE (h:Sy A B L k d) (hN:(aV k d).length < 2000):∃ev,g7 [.d d]=.ok (.l .fresh ev)/\(∀p,p∈ev↔p∈aV k d)/\ev.length<=(aV k d).length:=by
 have key:Wp (g7 [.d d]) λr=>∃ev,r=.l .fresh ev/\(∀p,p∈ev↔p∈aV k d)/\ev.length<=(aV k d).length:=by
  refine mO (bK (r:=.l .fresh [d]) (x:=.own [d]) (eu (aH rfl rfl bA) (N4 1 999)) rfl (bK (r:=.d (.int 0)) (x:=.d (.int 0)) rfl rfl ?_));have d0:d∈aV k d:=by rw [mC h];exact Ku
  refine vZ (λm env=>∃(ev:List D) (a:Nat),env=[some (.d d),some (.own ev),some (.d (.int a))]/\a<=ev.length/\d∈ev/\(∀p∈ev,p∈aV k d)/\(∀i (hi:i < ev.length),i < a->∀q∈wit ev[i],q∈ev)/\m=((ev.drop a).flatMap (aV k)).length/\a + m=(aV k d).length) (aV k d).length hN ⟨[d],0,rfl,K1 _,by simp,λp hp=>by rw [Kw.mp hp];exact d0,λi _ hi=>absurd hi (Mt _),by simp,by omega⟩ ?_;rintro m env ⟨ev,a,rfl,h1,h2,h3,h4,h5,h6⟩;have sy:∀p∈ev,Sy A B L k p:=λp hp=>eW h p (h3 p hp);have le:ev.length<=(aV k d).length:=by have:=y_ (l:=ev.drop a) (A:=A) (B:=B) (L:=L) (k:=k) λz hz=>sy z (QI hz);rw [<-h5,LX] at this;omega
  have tst:aS (g2 (cJ λi j=>.bl (decide (i < j))) (af 2) (gN dG (ai (af 1) ay))) [some (.d d),some (.own ev),some (.d (.int a))]=.ok (decide ((a:Int) < ev.length)):=rfl;by_cases c:a < ev.length
  ·refine .inr ⟨by rw [tst,decide_eq_true (by omega)],?_⟩;have hs:=sy ev[a] (LJ c);have hw:=mP hs;have e5:(ev.drop a).flatMap (aV k)=aV k ev[a]++(ev.drop (a + 1)).flatMap (aV k):=by rw [Mj c,Lb]
   rw [e5,mC hs,Ko,L3] at h5;refine bK (r:=.l .fresh (ev++wit ev[a])) (x:=.own (ev++wit ev[a])) (two (x:=.l .own ev) (y:=.l .fresh (wit ev[a])) rfl (c1 (x:=.d ev[a]) (z:=.l .fresh (wit ev[a])) (two rfl rfl (oz (k:=a) (KG c))) (kW hs)) ?_) rfl ?_
   ·show (if ev.length + (wit ev[a]).length<=sizeLine then _ else _)=_;rw [if_pos (by rw [Ly];omega)]
   refine jj (r:=.d (.int ((a:Int) + 1))) (x:=.d (.int ((a + 1:Nat):Int))) (two rfl rfl (dj _ _)) (by rw [Int.natCast_add];rfl) ?_;have dr:(ev++wit ev[a]).drop (a + 1)=ev.drop (a + 1)++wit ev[a]:=List.drop_append_of_le_length (by omega);refine ⟨_,?_,ev++wit ev[a],a + 1,rfl,by rw [Ko];omega,LQ _ h2,λp hp=>?_,λi hi hi2 q hq=>?_,rfl,?_⟩
   ·rw [dr,L6,Ko];omega
   ·rcases K3.mp hp with hp | hp
    ·exact h3 p hp
    ·exact vR h _ (h3 _ (LJ c)) p hp
   ·have Jr:i < ev.length:=by omega
    rw [NN Jr] at hq;by_cases z:i=a
    ·subst z;exact La _ hq
    ·exact LQ _ (h4 i Jr (by omega) q hq)
   ·rw [dr,L6,Ko];omega
  ·refine .inl ⟨by rw [tst,decide_eq_false (by omega)],bM (r:=.l .own ev) rfl rfl ⟨_,rfl,ev,rfl,λp=>⟨h3 p,vS h h2 (λp hp q hq=>?_) p⟩,le⟩⟩;obtain ⟨i,hi,rfl⟩:=List.getElem_of_mem hp;exact h4 i hi (by omega) q hq
 obtain ⟨_,h1,ev,rfl,h2⟩:=key;exact ⟨ev,h1,h2⟩
variable {A B L:List Str}{k:Nat}{d:D}
noncomputable def mx (l:List Int):Int:=l.foldl (λa b=>if b > a then b else a) 0
noncomputable def dp:Nat->D->Int
 | 0,_=>0
 | n + 1,d=>mx ((wit d).map (dp n)) + (if (bnd d).isEmpty then 0 else 1)
theorem vF:∀(l:List Int) (a:Int),a<=l.foldl (λa b=>if b > a then b else a) a
 | [],a=>Uh a
 | x::l,a=>by
  have:=vF l (if x > a then x else a);rw [Nj];by_cases q:x > a
  ·rw [if_pos q] at this ⊢;omega
  ·rw [if_neg q] at this ⊢;omega
theorem DW:∀(n:Nat) (d:D),0<=dp n d
 | 0,_=>Uh 0
 | n + 1,d=>by have:=vF ((wit d).map (dp n)) 0;show 0<=mx _ + _;unfold mx;split <;> omega
theorem Eu:∀l:List Int,(∀x∈l,0<=x)->gX 0 l=mx l
 | [],_=>rfl
 | x::l,h=>by have hx:=h x Ku;unfold mx;rw [Nj];show l.foldl (λa b=>if b > a then b else a) x=_;congr 1;split <;> omega
theorem Ef (f:D->Int) (l:List D):intsOf (l.map λx=>.int (f x))=some (l.map f):=by
 induction l with
 | nil=>rfl
 | cons x l ih=>
  show (intsOf (l.map λx=>.int (f x))).map (f x::·)=_;rw [ih];rfl
theorem yk (h:Sy A B L k d):aS (g2 (fO false) (g2 aK (af 0) (gC (.int 0))) (gC (.tup [(.str "some"),(.str "every"),(.str "least")]))) (some (.d d)::tl)=.ok (!(bnd d).isEmpty):=by cases h <;> rfl
theorem E_ (h:Sy A B L k d):aS (g2 (bx false) (g2 aK (af 0) (gC (.int 0))) (gC (.str "row"))) (some (.d d)::tl)=.ok false:=by cases h <;> rfl
theorem rZ:∀(n:Nat){k:Nat}{d:D},Sy A B L k d->k<=n->dz n [.d d,.d (.tup [])]=.ok (.d (.int (dp k d)))
 | 0,k,d,h,hk=>by obtain ⟨_,e⟩:=cT h;omega
 | n + 1,k,d,h,hk=>by
  obtain ⟨j,rfl⟩:=cT h;have hw:=mP h;show fin (ig (dz n) [some (.d d),some (.d (.tup [])),none])=_;refine dR (bN (nM (E_ h) (fm (bK (r:=.d (.int (mx ((wit d).map (dp j))))) (x:=.d (.int (mx ((wit d).map (dp j))))) ?_ rfl ?_))))
  ·show (bU _ _ _ _ _ _ _ >>= _)=_;rw [iS (xs:=wit d) (h:=id) (λs=>.int (dp j s)) (by rw [Nl];show (gN _ _ _ >>= _)=_;rw [c1 (x:=.d d) (z:=.d (.tup (wit d))) rfl (nB h)];rfl) (by omega) λs hs=>⟨_,c2 (z:=.d (.int (dp j s))) rfl rfl (rZ n (cK h s hs) (by omega)),rfl⟩];show (match intsOf ((wit d).map λs=>.int (dp j s)) with
    | some ns=>M.ok (R.d (.int (gX 0 ns)))
    | none=>.bad)=_
   rw [Ef];show M.ok (R.d (.int (gX 0 ((wit d).map (dp j)))))=_;rw [Eu _ λx hx=>by obtain ⟨s,_,rfl⟩:=K0.mp hx;exact DW _ _]
  ·have e:dp (j + 1) d=mx ((wit d).map (dp j)) + (if (bnd d).isEmpty then 0 else 1):=rfl;rw [e];refine bN (fZ (yk h) (λq=>?_) λq=>fm ?_)
   ·have q:(bnd d).isEmpty=false:=by simpa using q
    rw [q];exact bM (r:=.d (.int (mx ((wit d).map (dp j)) + 1))) (two rfl rfl rfl) rfl rfl
   ·have q:(bnd d).isEmpty=true:=by simpa using q
    rw [q];refine bM (r:=.d (.int (mx ((wit d).map (dp j))))) rfl rfl ?_;simp
theorem BJ (h:Sy A B L k d) (hk:k<=60):jb [.d d]=.ok (.d (.int (dp k d))):=
 dR (bM (r:=.d (.int (dp k d))) (c2 (y:=.d (.tup [])) (z:=.d (.int (dp k d))) rfl rfl (rZ 60 h hk)) rfl rfl)
theorem u7:∀(n:Nat){k:Nat}{d:D},Sy A B L k d->k<=n->dF n [.d d]=.ok (.d (.int (dp k d)))
 | 0,k,d,h,hk=>by obtain ⟨_,e⟩:=cT h;omega
 | n + 1,k,d,h,hk=>by
  obtain ⟨j,rfl⟩:=cT h;show fin (j4 (dF n) [some (.d d),none,none])=_;refine dR (bK (r:=.d (.int 0)) (x:=.d (.int 0)) rfl rfl (xR (ds:=wit d) ?_ (pG (λi e=>∃x,e=[some (.d d),some (.d (.int ((((wit d).take i).map (dp j)).foldl (λa b=>if b > a then b else a) 0))),x]) _ ⟨none,rfl⟩ ?_ ?_)))
  ·show (gN _ _ _ >>= _)=_;rw [c1 (x:=.d d) (z:=.l .fresh (wit d)) rfl (kW h)];rfl
  ·rintro i hi e ⟨x,rfl⟩;refine ⟨[some (.d d),some (.d (.int ((((wit d).take i).map (dp j)).foldl (λa b=>if b > a then b else a) 0))),some (.d (wit d)[i])],rfl,?_⟩;refine jj (r:=.d (.int (if dp j (wit d)[i] > (((wit d).take i).map (dp j)).foldl (λa b=>if b > a then b else a) 0 then dp j (wit d)[i] else (((wit d).take i).map (dp j)).foldl (λa b=>if b > a then b else a) 0))) (x:=.d (.int (if dp j (wit d)[i] > (((wit d).take i).map (dp j)).foldl (λa b=>if b > a then b else a) 0 then dp j (wit d)[i] else (((wit d).take i).map (dp j)).foldl (λa b=>if b > a then b else a) 0))) ?_ rfl ⟨_,rfl,some (.d (wit d)[i]),?_⟩
   ·show (ai _ _ _ >>= _)=_;show ((af 1 _ >>= _) >>= _)=_;show ((ai (gN (aC 1 (dF n)) (ai (af 2) ay)) ay _ >>= _) >>= _)=_;rw [lC (c1 (x:=.d (wit d)[i]) (z:=.d (.int (dp j (wit d)[i]))) rfl (u7 n (cK h _ (LJ hi)) (by omega)))];rfl
   ·rw [MR hi,Le,List.foldl_append];rfl
  ·rintro e ⟨x,rfl⟩;rw [PJ];refine bM (r:=.d (.int (dp (j + 1) d))) (two (x:=.d (.int (mx ((wit d).map (dp j))))) (y:=.d (.int (if (!(bnd d).isEmpty)=true then 1 else 0))) rfl (n1 (c1 (x:=.d d) (z:=.d (.bl (!(bnd d).isEmpty))) rfl (nA h)) rfl) ?_) rfl rfl;show M.ok (R.d (.int (mx ((wit d).map (dp j)) + (if (!(bnd d).isEmpty)=true then 1 else 0))))=M.ok (R.d (.int (mx ((wit d).map (dp j)) + (if (bnd d).isEmpty=true then 0 else 1))));cases (bnd d).isEmpty <;> rfl
end K12
namespace K12
open PySem PySem.Spec PyProof.Rows DL K01 WP
open K23 (oq wZ Bm vh)
variable {A B L:List Str}{k:Nat}{d:D}
theorem sX (l:List Str):deps (l.map .str)=0:=by
 induction l with
 | nil=>rfl
 | cons x l ih=>show max 0 (deps (l.map .str))=0;rw [ih];rfl
theorem strs_map (l:List Str):strsOf (l.map .str)=some l:=by
 induction l with
 | nil=>rfl
 | cons x l ih=>show (strsOf (l.map .str)).map (x::·)=_;rw [ih];rfl
theorem B_ (x:Str) (fs:List Str):inD (.str x) (fs.map .str)=fs.any λw=>w == x:=by unfold inD;rw [Tz];congr 1
theorem nK (neg:Bool) (x:Str) (l:List Str){r:R}(hr:gQ r=.ok (l.map .str)):fO neg (.d (.str x)) r=.ok (.d (.bl (if neg then !(l.any λw=>w == x) else l.any λw=>w == x))):=by unfold fO;rw [hr,aG,if_pos ⟨by rw [sX];omega,K1 _⟩];show M.ok (R.d (.bl (if neg=true then !inD (.str x) (l.map .str) else inD (.str x) (l.map .str))))=_;rw [B_]
theorem cB {g:G R}{env:Ev}{b:Bool}(h:g env=.ok (.d (.bl b))):aS g env=.ok b:=by show (g env >>= _)=_;rw [h];rfl
theorem iD (x:Str) (l:List Str):(l.any λw=>w == x)=true↔x∈l:=by
 rw [Ot];constructor
 ·rintro ⟨w,h1,h2⟩;rw [<-beq_iff_eq.mp h2];exact h1
 ·exact λh=>⟨x,h,beq_self_eq_true x⟩
theorem vj {ge:G R}{env:Ev}{x:Str}(h:ge env=.ok (.d (.str x))) (hx:isLet x=true):jT ge env=.ok ([.str x],env):=by unfold jT;rw [h,aG];show (if isLet x=true then M.ok ([D.str x],env) else .bad)=_;rw [if_pos hx]
theorem G2 {env:Ev}{cap:List Nat}{gi0 gi1:G (List D)}{xs:List D}(ys:D->List Str) (hi:gi0 env=.ok xs) (hl:xs.length<=10000)
  (H:∀x∈xs,(ys x).length<=1000/\(∀z:Option S,gi1 (some (.d x)::z::cE 0 cap env)=.ok ((ys x).map .str))/\∀y∈ys x,isLet y=true):rR 2 cap gi0 (aJ 0) cV gi1 (aJ 1) cV (af 1) env=.ok (xs.flatMap ys):=by
 obtain ⟨z0,z,e⟩:=oq (α:=D) (β:=Str) (gi1:=gi1) (gts:=cV) (act:=jT (af 1)) (h:=id) (h':=D.str) (rest:=cE 0 cap env) ys (λ_ _=>true) (λ_ y=>.str y) xs (λx hx=>⟨(H x hx).1,(H x hx).2.1,λy hy=>⟨rfl,λ_=>vj rfl ((H x hx).2.2 y hy)⟩⟩) none none;rw [Nl] at e;unfold rR gk;rw [hi,aG,if_pos hl];show (bC (aJ 0) cV (gg gi1 (aJ 1) cV (jT (af 1))) xs (none::none::cE 0 cap env) >>= _)=_;rw [e];show M.ok (nT (xs.flatMap λx=>((ys x).filter λ_=>true).map D.str))=_;have:(xs.flatMap λx=>((ys x).filter λ_=>true).map D.str)=(xs.flatMap ys).map .str:=by rw [RW];exact iT λx _=>by rw [OU.mpr λ_ _=>rfl]
 rw [this,nU]
theorem DT {act:Ev->M (List D×Ev)}{gts:G Bool}{α:Type}{p:α->Bool}{h f:α->D}{rest:Ev}:∀(ys:List α),(∀y∈ys,gts (some (.d (h y))::rest)=.ok (p y)/\(p y=true->act (some (.d (h y))::rest)=.ok ([f y],some (.d (h y))::rest)))->∀z:Option S,∃z',bC (aJ 0) gts act (ys.map h) (z::rest)=.ok ((ys.filter p).map f,z'::rest)
 | [],_,z=>⟨z,rfl⟩
 | y::ys,H,z=>by
  obtain ⟨z',ih⟩:=DT ys (λy hy=>H y (Kq _ hy)) (some (.d (h y)));obtain ⟨h1,h2⟩:=H y Ku;refine ⟨z',?_⟩;rw [LN];unfold bC;show (gts (some (.d (h y))::rest) >>= _)=_;rw [h1,aG,List.filter_cons];cases q:p y with
  | false=>exact ih
  | true=>
   show (act (some (.d (h y))::rest) >>= _)=_;rw [h2 q,aG];show (bC (aJ 0) gts act (ys.map h) (some (.d (h y))::rest) >>= _)=_;rw [ih];rfl
theorem G1 {env:Ev}{cap:List Nat}{gi:G (List D)}{gts:G Bool}{xs:List Str}(p:Str->Bool) (hi:gi env=.ok (xs.map .str)) (hl:xs.length<=10000)
  (H:∀x∈xs,gts (some (.d (.str x))::cE 0 cap env)=.ok (p x)/\isLet x=true):rQ 1 cap gi (aJ 0) gts (af 0) env=.ok (xs.filter p):=by obtain ⟨z,e⟩:=DT (α:=Str) (gts:=gts) (p:=p) (act:=jT (af 0)) (h:=D.str) (f:=D.str) (rest:=cE 0 cap env) xs (λx hx=>⟨(H x hx).1,λ_=>vj rfl (H x hx).2⟩) none;unfold rQ gk;rw [hi,aG,if_pos (by rw [Km];exact hl)];show (bC (aJ 0) gts (jT (af 0)) (xs.map .str) (none::cE 0 cap env) >>= _)=_;rw [e];show M.ok (nT ((xs.filter p).map .str))=_;rw [nU]
noncomputable def bO (l:List Str):List Str:=dX (eU l)
theorem jK {x:Str}{l:List Str}:x∈bO l↔x∈l:=(fq _).mem_iff.trans (gx l x)
theorem sW {l:List Str}(h:∀x∈l,isLet x=true):(eU l).length<=26:=vK (lz l) λx hx=>h x ((gx l x).mp hx)
theorem jQ {l:List Str}(h:∀x∈l,isLet x=true):(bO l).length<=26:=by have:=sW h;unfold bO;rw [(fq _).length_eq];exact this
theorem qb {g:G (List Str)}{env:Ev}{l:List Str}(h:g env=.ok l) (hl:∀x∈l,isLet x=true):iF g env=.ok (.l .fresh ((bO l).map .str)):=by unfold iF;rw [h,aG,if_pos (N2 (sW hl) (by decide))];rfl
noncomputable def dZ:Nat->D->List Str
 | 0,_=>[]
 | n + 1,d=>if (bnd d).isEmpty then bO (bE d++(wit d).flatMap (dZ n)) else bO (((wit d).flatMap (dZ n)).filter λx=>!((bE d).any λw=>w == x))
theorem pX (h:Sy A B L k d):(bE d).length<=2:=by cases h <;> exact Ks rfl
theorem p7 (h:Sy A B L k d):(own d).length<=2:=by cases h <;> exact Ks rfl
variable (hL:∀x∈L,isLet x=true)
include hL
theorem iG (h:Sy A B L k d):∀x∈bE d,isLet x=true:=λx hx=>hL x (Cp h x hx)
theorem mD:∀(n:Nat){k:Nat}{d:D},Sy A B L k d->∀x∈dZ n d,isLet x=true
 | 0,_,_,_,x,hx=>by cases hx
 | n + 1,k,d,h,x,hx=>by
  obtain ⟨j,rfl⟩:=cT h;have inner:∀x∈(wit d).flatMap (dZ n),isLet x=true:=λx hx=>by obtain ⟨s,hs,hx⟩:=Lc.mp hx;exact mD n (cK h s hs) x hx
  unfold dZ at hx;split at hx
  ·rcases K3.mp (jK.mp hx) with hx | hx
   ·exact iG hL h x hx
   ·exact inner x hx
  ·exact inner x ((Mm.mp (jK.mp hx)).1)
theorem vG (n:Nat) (h:Sy A B L k d):(dZ n d).length<=26:=by
 cases n with
 | zero=>exact K1 _
 | succ n=>
  obtain ⟨j,rfl⟩:=cT h;have inner:∀x∈(wit d).flatMap (dZ n),isLet x=true:=λx hx=>by obtain ⟨s,hs,hx⟩:=Lc.mp hx;exact mD hL n (cK h s hs) x hx
  unfold dZ;split
  ·exact jQ λx hx=>(K3.mp hx).elim (iG hL h x) (inner x)
  ·exact jQ λx hx=>inner x (Mm.mp hx).1
theorem D7 {l:List D}(n:Nat) (h:∀s∈l,Sy A B L k s):(l.flatMap (dZ n)).length<=26 * l.length:=by
 induction l with
 | nil=>exact K1 _
 | cons s l ih=>
  have h1:=ih λx hx=>h x (Kq _ hx);have h2:=vG hL n (h s Ku);rw [Lb,Ko,L3];omega
theorem Dw {inner:List Str}(h:Sy A B L k d) (hi:∀x∈inner,isLet x=true) (hn:inner.length<=2600):
  iy [.d d,.bor (inner.map .str)]=.ok (.l .fresh ((if (bnd d).isEmpty then bO (bE d++inner) else bO (inner.filter λx=>!((bE d).any λw=>w == x))).map .str)):=by
 have h2:=pX h;refine dR (bK (r:=.l .fresh ((bE d).map .str)) (x:=.own ((bE d).map .str)) (c1 (x:=.d d) (z:=.l .fresh ((bE d).map .str)) rfl (qi h)) rfl ?_);refine bN (fZ (yk h) (λq=>?_) λq=>fm ?_)
 ·have q:(bnd d).isEmpty=false:=by simpa using q
  rw [q];refine bM (r:=.l .fresh ((bO (inner.filter λx=>!((bE d).any λw=>w == x))).map .str)) (qb (G1 (xs:=inner) _ rfl (by omega) λx hx=>⟨cB (two (x:=.d (.str x)) (y:=.l .own ((bE d).map .str)) rfl rfl (nK true x (bE d) rfl)),hi x hx⟩) λx hx=>hi x (Mm.mp hx).1) rfl ?_;rfl
 ·have q:(bnd d).isEmpty=true:=by simpa using q
  rw [q];have hc:gF (.l .own ((bE d).map .str)) (.l .bor (inner.map .str))=.ok (.l .fresh ((bE d++inner).map .str)):=by show (if ((bE d).map D.str).length + (inner.map D.str).length<=sizeLine then M.ok (R.l .fresh ((bE d).map D.str++inner.map D.str)) else .bad)=_;rw [if_pos (by rw [Ly,Km,Km];omega),Le]
  have hall:∀x∈bE d++inner,isLet x=true:=λx hx=>(K3.mp hx).elim (iG hL h x) (hi x);refine bM (r:=.l .fresh ((bO (bE d++inner)).map .str)) (qb (l:=bE d++inner) ?_ hall) rfl rfl;show (ai _ ay _ >>= _)=_;rw [lC (two (x:=.l .own ((bE d).map .str)) (y:=.l .bor (inner.map .str)) rfl rfl hc),aG];show (gj (.l .fresh ((bE d++inner).map .str)) >>= λxs=>(match strsOf xs with
   | some ss=>if (eU ss).length < 64 then M.ok ss else .bad
   | none=>.bad))=_
  show (match strsOf ((bE d++inner).map .str) with
   | some ss=>if (eU ss).length < 64 then M.ok ss else .bad
   | none=>.bad)=_
  rw [strs_map];show (if (eU (bE d++inner)).length < 64 then M.ok (bE d++inner) else .bad)=_;rw [if_pos (N2 (sW hall) (by decide))]
theorem yc:∀(n:Nat){k:Nat}{d:D},Sy A B L k d->k<=n->fh n [.d d]=.ok (.l .fresh ((dZ k d).map .str))
 | 0,k,d,h,hk=>by obtain ⟨_,e⟩:=cT h;omega
 | n + 1,k,d,h,hk=>by
  obtain ⟨j,rfl⟩:=cT h;have hw:=mP h;have inner:∀x∈(wit d).flatMap (dZ j),isLet x=true:=λx hx=>by obtain ⟨s,hs,hx⟩:=Lc.mp hx;exact mD hL j (cK h s hs) x hx
  have hn:=D7 hL j (cK h);show fin (nJ (fh n) [some (.d d)])=_;have hc:oG 2 [] (fj (gN (aC 1 K12.fR) (ai (af 0) ay))) (aJ 0) cV (lD (gN (aC 1 (fh n)) (ai (af 0) ay))) (aJ 1) cV (af 1) [some (.d d)]=.ok (.l .fresh (((wit d).flatMap (dZ j)).map .str)):=by
   unfold oG;refine (Bm (α:=D) (β:=Str) (xs:=wit d) (h:=id) (h':=D.str) (dZ j) (λ_ _=>true) (λ_ y=>.str y) (by rw [Nl];show (gN _ _ _ >>= _)=_;rw [c1 (x:=.d d) (z:=.d (.tup (wit d))) rfl (nB h)];rfl) (by omega) λs hs=>⟨Lg (vG hL j (cK h s hs)) (by decide),λz=>?_,λy hy=>⟨rfl,λ_=>vh rfl rfl⟩⟩).trans ?_
   ·show (gN _ _ _ >>= _)=_;rw [c1 (x:=.d s) (z:=.l .fresh ((dZ j s).map .str)) rfl (yc n (cK h s hs) (by omega))];rfl
   ·have:((wit d).flatMap λx=>((dZ j x).filter λ_=>true).map D.str)=((wit d).flatMap (dZ j)).map .str:=by rw [RW];exact iT λx _=>by rw [OU.mpr λ_ _=>rfl]
    rw [this]
  exact dR (bM (r:=.l .fresh ((dZ (j + 1) d).map .str)) (c2 (x:=.d d) (y:=.l .fresh (((wit d).flatMap (dZ j)).map .str)) (z:=.l .fresh ((dZ (j + 1) d).map .str)) rfl hc (Dw hL h inner (by omega))) rfl rfl)
end K12
namespace K12
open PySem PySem.Spec PyProof.Rows DL K01 WP
variable {A B L:List Str}{k:Nat}{d:D}
theorem sG (h:Sy A B L k d) (q:(bnd d).isEmpty=false){tl:Ev}:∃a,bnd d=[a]/\own d=[]/\g2 aK (af 0) (iU (gC (.int 2))) (some (.d d)::tl)=.ok (.d (.str a)):=by
 cases h with
 | some _ _=>exact ⟨_,rfl,rfl,rfl⟩
 | every _ _=>exact ⟨_,rfl,rfl,rfl⟩
 | least _ _=>exact ⟨_,rfl,rfl,rfl⟩
 | _=>exact absurd (show true=false from q) (by decide)
noncomputable def eV:Nat->D->List Str->List Str
 | 0,_,_=>[]
 | n + 1,d,b=>((own d).filter λx=>!(b.any λw=>w == x))++(wit d).flatMap λs=>eV n s (b++bnd d)
theorem pS:∀{k:Nat}{d:D},Sy A B L k d->∀b,(eV k d b).length<=2 * (aV k d).length
 | 0,d,h,_=>K1 _
 | k + 1,d,h,b=>by
  have h1:((own d).filter λx=>!(b.any λw=>w == x)).length<=2:=Lg (Qj _ _) (p7 h);have h2:∀l:List D,(∀s∈l,Sy A B L k s)->(l.flatMap λs=>eV k s (b++bnd d)).length<=2 * (l.flatMap (aV k)).length:=by
   intro l
   induction l with
   | nil=>exact λ_=>K1 _
   | cons s l ih=>
    intro hl;have e1:=ih λx hx=>hl x (Kq _ hx);have e2:=pS (hl s Ku) (b++bnd d);rw [Lb,Lb,Ko,Ko];omega
  have h3:=h2 (wit d) (cK h);show (_++_:List Str).length<=2 * (d::(wit d).flatMap (aV k)).length;rw [Ko,L3];omega
theorem u9:∀(n:Nat){k:Nat}{d:D},Sy A B L k d->k<=n->(aV k d).length < 2000->∀b:List Str,b.length + k<=1000->cP n [.d d,.bor (b.map .str)]=.ok (.l .fresh ((eV k d b).map .str))
 | 0,k,d,h,hk,_,_,_=>by obtain ⟨_,e⟩:=cT h;omega
 | n + 1,k,d,h,hk,hN,b,hb=>by
  obtain ⟨j,rfl⟩:=cT h;have ho:=p7 h;have hf:=pS h b;show fin (j5 (cP n) [some (.d d),some (.bor (b.map .str)),none,none])=_;refine dR (bK (r:=.l .fresh (((own d).filter λx=>!(b.any λw=>w == x)).map .str)) (x:=.own (((own d).filter λx=>!(b.any λw=>w == x)).map .str)) ?_ rfl ?_)
  ·exact w4 (α:=Str) (h:=D.str) _ D.str (by show (gN _ _ _ >>= _)=_;rw [c1 (x:=.d d) (z:=.l .fresh ((own d).map .str)) rfl (yd h)];rfl) (by omega) λx hx=>⟨cB (two (x:=.d (.str x)) (y:=.l .bor (b.map .str)) rfl rfl (nK true x b rfl)),λ_=>⟨_,rfl,rfl⟩⟩
  have go:∀(bS:S) (bR:R),(∀a c e,af 1 [a,some bS,c,e]=.ok bR)->cU bR=.bor ((b++bnd d).map .str)->
    Wp (aB (gV (lD (gN (aC 1 K12.cQ) (ai (af 0) ay))) (aJ 3) (aU 2 (g2 gF (af 2) (gN (aC 2 (cP n)) (ai (af 3) (ai (af 1) ay)))))) (aL (af 2)) [some (.d d),some bS,some (.own (((own d).filter λx=>!(b.any λw=>w == x)).map .str)),none]) λo=>o=.rt (.l .fresh ((eV (j + 1) d b).map .str)):=by
   intro bS bR hv ha;refine xR (ds:=wit d) ?_ (pG (λi e=>∃x,e=[some (.d d),some bS,some (.own ((((own d).filter λx=>!(b.any λw=>w == x))++((wit d).take i).flatMap λs=>eV j s (b++bnd d)).map .str)),x]) _ ⟨none,by simp⟩ ?_ ?_)
   ·show (gN _ _ _ >>= _)=_;rw [c1 (x:=.d d) (z:=.l .fresh (wit d)) rfl (kW h)];rfl
   ·rintro i hi e ⟨x,rfl⟩;refine ⟨[some (.d d),some bS,some (.own ((((own d).filter λx=>!(b.any λw=>w == x))++((wit d).take i).flatMap λs=>eV j s (b++bnd d)).map .str)),some (.d (wit d)[i])],rfl,?_⟩;have hs:=cK h _ (LJ hi);have hbd:(bnd d).length<=1:=by cases h <;> exact Ks rfl
    have hp:(aV j (wit d)[i]).length < 2000:=by
     have:(aV j (wit d)[i]).length<=((wit d).flatMap (aV j)).length:=by
      obtain ⟨l1,l2,e⟩:=List.append_of_mem (LJ hi);have:((wit d).flatMap (aV j)).length=(l1.flatMap (aV j)).length + ((aV j (wit d)[i]).length + (l2.flatMap (aV j)).length):=by
       conv=>lhs;rw [e]
       rw [L6,Lb,Ko,Ko]
      omega
     have e:(aV (j + 1) d).length=((wit d).flatMap (aV j)).length + 1:=rfl;omega
    have ec:gN (aC 2 (cP n)) (ai (af 3) (ai (af 1) ay)) [some (.d d),some bS,some (.own ((((own d).filter λx=>!(b.any λw=>w == x))++((wit d).take i).flatMap λs=>eV j s (b++bnd d)).map .str)),some (.d (wit d)[i])]=.ok (.l .fresh ((eV j (wit d)[i] (b++bnd d)).map .str)):=
     c2 (x:=.d (wit d)[i]) (y:=bR) (z:=.l .fresh ((eV j (wit d)[i] (b++bnd d)).map .str)) rfl (hv _ _ _) (by rw [ha];exact u9 n hs (by omega) hp (b++bnd d) (by rw [Ko];omega))
    have et:((wit d).take (i + 1)).flatMap (λs=>eV j s (b++bnd d))=((wit d).take i).flatMap (λs=>eV j s (b++bnd d))++eV j (wit d)[i] (b++bnd d):=by rw [MR hi,L6];simp
    refine jj (r:=.l .fresh ((((own d).filter λx=>!(b.any λw=>w == x))++((wit d).take (i + 1)).flatMap λs=>eV j s (b++bnd d)).map .str)) (x:=.own ((((own d).filter λx=>!(b.any λw=>w == x))++((wit d).take (i + 1)).flatMap λs=>eV j s (b++bnd d)).map .str)) (two (x:=.l .own ((((own d).filter λx=>!(b.any λw=>w == x))++((wit d).take i).flatMap λs=>eV j s (b++bnd d)).map .str)) rfl ec ?_) rfl ⟨_,rfl,some (.d (wit d)[i]),rfl⟩;have hle:(((wit d).take i).flatMap λs=>eV j s (b++bnd d)).length<=((wit d).flatMap λs=>eV j s (b++bnd d)).length:=by
     conv=>rhs;rw [<-MN i (wit d)]
     rw [L6,Ko];omega
    have h4:=pS hs (b++bnd d);have h5:(eV (j + 1) d b).length=((own d).filter λx=>!(b.any λw=>w == x)).length + ((wit d).flatMap λs=>eV j s (b++bnd d)).length:=Ko;unfold gF;show (if (O1 D.str _).length + (O1 D.str _).length<=sizeLine then M.ok (R.l .fresh (O1 D.str _++O1 D.str _)) else .bad)=_;rw [if_pos (by rw [Ly,Km,Km,Ko];omega),<-Le,Nq,et]
   ·rintro e ⟨x,rfl⟩;rw [PJ];exact bM (r:=.l .own ((eV (j + 1) d b).map .str)) rfl rfl rfl
  refine bN (fZ (c:=!(bnd d).isEmpty) (cB (c1 (x:=.d d) (z:=.d (.bl (!(bnd d).isEmpty))) rfl (nA h))) (λq=>?_) λq=>fm ?_)
  ·obtain ⟨a,e1,e2,e3⟩:=sG h (by simpa using q) (tl:=[some (.bor (b.map .str)),some (.own (((own d).filter λx=>!(b.any λw=>w == x)).map .str)),none]);refine jj (r:=.l .fresh ((b++bnd d).map .str)) (x:=.own ((b++bnd d).map .str)) (two (x:=.l .bor (b.map .str)) (y:=.l .fresh [.str a]) rfl (eu (aH e3 rfl bA) (N4 1 999)) ?_) rfl (go (.own ((b++bnd d).map .str)) (.l .own ((b++bnd d).map .str)) (λ_ _ _=>rfl) rfl);unfold gF;show (if (b.map D.str).length + 1<=sizeLine then M.ok (R.l .fresh (b.map D.str++[.str a])) else .bad)=_;rw [if_pos (by rw [Ly,Km];omega),e1,Le];rfl
  ·have e:bnd d=[]:=by
    have q:(bnd d).isEmpty=true:=by simpa using q
    simpa using q
   exact go (.bor (b.map .str)) (.l .bor (b.map .str)) (λ_ _ _=>rfl) (by rw [e,Mc];rfl)
theorem Cs (h:Sy A B L (k + 1) d) (x:Str):x∈dZ (k + 1) d↔x∉bnd d/\(x∈own d\/∃s∈wit d,x∈dZ k s):=by
 have E:dZ (k + 1) d=if (bnd d).isEmpty then bO (bE d++(wit d).flatMap (dZ k)) else bO (((wit d).flatMap (dZ k)).filter λx=>!((bE d).any λw=>w == x)):=rfl
 rw [E];by_cases q:(bnd d).isEmpty=true
 ·rw [if_pos q];have e:bnd d=[]:=by simpa using q
  rw [jK,tV h,e,Mc,K3,Lc];simp
 ·rw [if_neg q];obtain ⟨a,e1,e2,_⟩:=sG h (by simpa using q) (tl:=[]);rw [jK,Mm,tV h,e1,e2,R9,Lc];constructor
  ·rintro ⟨h1,h2⟩;refine ⟨λhx=>?_,.inr h1⟩;rw [(iD x [a]).mpr hx] at h2;cases h2
  ·rintro ⟨h1,h2⟩;refine ⟨h2.elim (λz=>by cases z) id,?_⟩;have:¬([a].any λw=>w == x)=true:=λz=>h1 ((iD x [a]).mp z);rw [RX] at this;rw [this];rfl
theorem pZ:∀{k:Nat}{d:D},Sy A B L k d->∀(b:List Str) (x:Str),x∈eV k d b↔x∈dZ k d/\x∉b
 | 0,d,h,b,x=>by obtain ⟨_,e⟩:=cT h;cases e
 | k + 1,d,h,b,x=>by
  rw [Cs h];show x∈_++_↔_;rw [K3,Mm,Lc];have e:(!(b.any λw=>w == x))=true↔x∉b:=by rw [RA,<-RX,iD]
  rw [e];constructor
  ·rintro (⟨h1,h2⟩ | ⟨s,hs,h3⟩)
   ·refine ⟨⟨λhx=>?_,.inl h1⟩,h2⟩;by_cases q:(bnd d).isEmpty=true
    ·have e:bnd d=[]:=by simpa using q
     rw [e] at hx;cases hx
    ·obtain ⟨a,e1,e2,_⟩:=sG h (by simpa using q) (tl:=[]);rw [e2] at h1;cases h1
   ·have h4:=(pZ (cK h s hs) _ x).mp h3;rw [K3,not_or] at h4;exact ⟨⟨h4.2.2,.inr ⟨s,hs,h4.1⟩⟩,h4.2.1⟩
  ·rintro ⟨⟨h1,h2 | ⟨s,hs,h2⟩⟩,h3⟩
   ·exact .inl ⟨h2,h3⟩
   ·exact .inr ⟨s,hs,(pZ (cK h s hs) _ x).mpr ⟨h2,by rw [K3,not_or];exact ⟨h3,h1⟩⟩⟩
theorem DO:jS.Pairwise λx y=>gH x y=true:=by decide +kernel
theorem DN:jS.Nodup:=by decide +kernel
theorem De {l m:List Str}(hl:∀x∈l,isLet x=true) (hm:∀x,x∈m↔x∈l):(jS.filter λx=>m.any λw=>w == x)=bO l:=by
 have hp:(jS.filter λx=>m.any λw=>w == x).Perm (eU l):=by refine (MI (DN.filter _) (lz l)).mpr λx=>?_;rw [Mm,iD,hm,gx];exact ⟨λz=>z.2,λz=>⟨qD (hl x z),z⟩⟩
 exact (hp.trans (fq _).symm).eq_of_pairwise (λx y _ _ h1 h2=>tQ h1 h2) (DO.filter _) (i_ _)
theorem yi:DL.signs "abcdefghijklmnopqrstuvwxyz"=jS.map .str:=by rfl
theorem BY {α:Type}(f:α->Bool) (l:List α):jf (l.map λx=>.bl (f x))=some (l.map f):=by
 induction l with
 | nil=>rfl
 | cons x l ih=>show (jf (l.map λx=>.bl (f x))).map (f x::·)=_;rw [ih];rfl
theorem all_map {α:Type}(f:α->Bool) (l:List α):gU [.l .fresh (l.map λx=>.bl (f x))]=.ok (.d (.bl (l.all f))):=by
 show (match jf (l.map λx=>.bl (f x)) with
  | some ks=>M.ok (R.d (.bl (ks.all id)))
  | none=>.bad)=_
 rw [BY];show M.ok (R.d (.bl ((l.map f).all id)))=_;rw [RM];rfl
theorem r9 {l m:List Str}{r:S}(hl:∀x∈l,isLet x=true) (hm:∀x,x∈m↔x∈l):dQ [.bor ((bO l).map .str),.bor (m.map .str)]=.ok (.d (.bl true)):=by
 have JS:=jQ hl;refine dR (bK (r:=.l .fresh ((bO l).map .str)) (x:=.own ((bO l).map .str)) ?_ rfl ?_)
 ·rw [<-De hl hm];exact w4 (α:=Str) (h:=D.str) _ D.str (by show M.ok (DL.signs "abcdefghijklmnopqrstuvwxyz")=_;rw [yi]) (Ks rfl) λx hx=>⟨cB (two (x:=.d (.str x)) (y:=.l .bor (m.map .str)) rfl rfl (nK false x m rfl)),λ_=>⟨_,rfl,rfl⟩⟩
 ·refine bM (r:=.d (.bl true)) ?_ rfl rfl;have e1:bx false (.l .bor ((bO l).map .str)) (.l .own ((bO l).map .str))=.ok (.d (.bl true)):=by
   unfold bx;have hd:dep (.lst ((bO l).map .str))<=60:=by show deps ((bO l).map .str) + 1<=60;rw [sX];decide
   show (if dep (.lst ((bO l).map .str))<=60/\dep (.lst ((bO l).map .str))<=60 then M.ok (R.d (.bl (dh (.lst ((bO l).map .str)) (.lst ((bO l).map .str))))) else .bad)=_;rw [if_pos ⟨hd,hd⟩,jX]
  have e2:gN gU (ai (bU 1 [] (fj (af 0)) (aJ 0) cV (cO "str" (af 0))) ay) [some (.bor ((bO l).map .str)),some (.bor (m.map .str)),some (.own ((bO l).map .str))]=.ok (.d (.bl true)):=by refine n1 (iS (α:=Str) (xs:=bO l) (h:=D.str) (λ_=>.bl true) rfl (by omega) λx hx=>⟨_,rfl,rfl⟩) ?_;rw [all_map (λ_=>true)];simp
  show (cO "list" (af 0) _ >>= _)=_;show bD (g2 (bx false) (af 0) (af 2)) (gN gU _) [some (.bor ((bO l).map .str)),some (.bor (m.map .str)),some (.own ((bO l).map .str))]=_;unfold bD;rw [two (x:=.l .bor ((bO l).map .str)) (y:=.l .own ((bO l).map .str)) rfl rfl e1,aG];exact e2
variable {A B L:List Str}{k:Nat}{d:D}
theorem oE (hL:∀x∈L,isLet x=true){l:List D}(h:∀p∈l,Sy A B L k p):∀x∈l.flatMap bE,isLet x=true:=λx hx=>by obtain ⟨p,hp,hx⟩:=Lc.mp hx;exact iG hL (h p hp) x hx
theorem uF (hL:∀x∈L,isLet x=true) (h:Sy A B L k d) (hN:(aV k d).length < 2000):gf [.d d]=.ok (.l .fresh ((bO ((aV k d).flatMap bE)).map .str)):=by
 refine dR (bM (r:=.l .fresh ((bO ((aV k d).flatMap bE)).map .str)) (qb (G2 (xs:=aV k d) bE ?_ (by omega) λp hp=>⟨Lg (pX (eW h p hp)) (by decide),λz=>?_,iG hL (eW h p hp)⟩) (oE hL (eW h))) rfl rfl)
 ·show (gN _ _ _ >>= _)=_;rw [c1 (x:=.d d) (z:=.l .fresh (aV k d)) rfl (pJ h hN)];rfl
 ·show (gN _ _ _ >>= _)=_;rw [c1 (x:=.d p) (z:=.l .fresh ((bE p).map .str)) rfl (qi (eW h p hp))];rfl
noncomputable def lP (d:D):Bool:=!dh (.str (wd d)) (.str "least")
theorem zp (h:Sy A B L k d){tl:Ev}:g2 (bx true) (g2 aK (af 0) (gC (.int 0))) (gC (.str "least")) (some (.d d)::tl)=.ok (.d (.bl (lP d))):=by cases h <;> rfl
theorem sD {l m:List D}(f:D->Bool) (h:∀p,p∈l↔p∈m):l.all f=m.all f:=by rw [Bool.eq_iff_iff,LG,LG];exact ⟨λz p hp=>z p ((h p).mpr hp),λz p hp=>z p ((h p).mp hp)⟩
theorem BO (h:Sy A B L k d) (hN:(aV k d).length < 2000):jc [.d d]=.ok (.d (.bl ((aV k d).all lP))):=by refine dR (bM (r:=.d (.bl ((aV k d).all lP))) (n1 (iS (α:=D) (xs:=aV k d) (h:=id) (λp=>.bl (lP p)) ?_ (by omega) λp hp=>⟨_,zp (eW h p hp),rfl⟩) (all_map lP _)) rfl rfl);rw [Nl];show (gN _ _ _ >>= _)=_;rw [c1 (x:=.d d) (z:=.l .fresh (aV k d)) rfl (pJ h hN)];rfl
noncomputable def cu (A B:List Str):D:=.tup [.tup (A.map .str),.tup (B.map .str)]
noncomputable def Ey:D->Str
 | .tup (.str _::.str n::_)=>n
 | _=>TL
noncomputable def fW (P:List Str) (d:D):Bool:=!dh (.str (wd d)) (.str "mark") || P.any λw=>w == Ey d
noncomputable def gR (Q:List Str) (d:D):Bool:=!dh (.str (wd d)) (.str "arrow") || Q.any λw=>w == Ey d
theorem zU (h:Sy A B L k d) (P Q:List Str):iz [.d d,.d (cu P Q)]=.ok (.d (.bl (fW P d && gR Q d))):=by
 cases h with
 | mark h1 h2=>
  rename_i n a;refine dR (bN (xC (r:=.d (cu P Q)) rfl rfl rfl (bN (rT rfl (bM (two (x:=.d (.str n)) (y:=.d (.tup (P.map .str))) rfl rfl (nK false n P rfl)) rfl ?_)))));show O.rt (R.d (.bl (P.any λw=>w == n)))=.rt (.d (.bl ((P.any λw=>w == n) && true)));rw [Bool.and_true]
 | arrow h1 h2 h3=>
  rename_i n a b;exact dR (bN (xC (r:=.d (cu P Q)) rfl rfl rfl (bN (nM rfl (fm (bN (rT rfl (bM (two (x:=.d (.str n)) (y:=.d (.tup (Q.map .str))) rfl rfl (nK false n Q rfl)) rfl rfl))))))))
 | _=>rfl
theorem r_ (h:Sy A B L k d) (hN:(aV k d).length < 2000) (P Q:List Str):jy [.d d,.d (cu P Q)]=.ok (.d (.bl ((aV k d).all λp=>fW P p && gR Q p))):=by refine dR (bM (r:=.d (.bl ((aV k d).all λp=>fW P p && gR Q p))) (n1 (iS (α:=D) (xs:=aV k d) (h:=id) (λp=>.bl (fW P p && gR Q p)) ?_ (by omega) λp hp=>⟨.d (.bl (fW P p && gR Q p)),c2 (x:=.d p) (y:=.d (cu P Q)) (z:=.d (.bl (fW P p && gR Q p))) rfl rfl (zU (eW h p hp) P Q),rfl⟩) (all_map _ _)) rfl rfl);rw [Nl];show (gN _ _ _ >>= _)=_;rw [c1 (x:=.d d) (z:=.l .fresh (aV k d)) rfl (pJ h hN)];rfl
theorem xU (h:Sy A B L k d):(fW A d && gR B d)=true:=by
 cases h with
 | mark h1 h2=>exact congrArg (· && true) ((iD _ A).mpr h1)
 | arrow h1 h2 h3=>exact (iD _ B).mpr h1
 | _=>rfl
theorem BU (h:Sy A B L k d):((aV k d).all λp=>fW A p && gR B p)=true:=LG.mpr λp hp=>xU (eW h p hp)
theorem Dd (h:Sy A B L k d) (P Q:List Str):lF (g2 (bx true) (g2 aK (af 0) (gC (.int 0))) (gC (.str "mark"))) (g2 (fO false) (g2 aK (af 0) (gC (.int 1))) (g2 aK (af 1) (gC (.int 0)))) [some (.d d),some (.d (cu P Q))]=.ok (.d (.bl (fW P d))):=by
 cases h with
 | mark h1 h2=>
  rename_i n a;show g2 (fO false) (g2 aK (af 0) (gC (.int 1))) (g2 aK (af 1) (gC (.int 0))) [some (.d (.tup [.str "mark",.str n,.str a])),some (.d (cu P Q))]=_;exact WP.two (x:=.d (.str n)) (y:=.d (.tup (P.map .str))) rfl rfl (nK false n P rfl)
 | _=>rfl
theorem A2 (h:Sy A B L k d) (P Q:List Str):lF (g2 (bx true) (g2 aK (af 0) (gC (.int 0))) (gC (.str "arrow"))) (g2 (fO false) (g2 aK (af 0) (gC (.int 1))) (g2 aK (af 1) (gC (.int 1)))) [some (.d d),some (.d (cu P Q))]=.ok (.d (.bl (gR Q d))):=by
 cases h with
 | arrow h1 h2 h3=>
  rename_i n a b;show g2 (fO false) (g2 aK (af 0) (gC (.int 1))) (g2 aK (af 1) (gC (.int 1))) [some (.d (.tup [.str "arrow",.str n,.str a,.str b])),some (.d (cu P Q))]=_;exact WP.two (x:=.d (.str n)) (y:=.d (.tup (Q.map .str))) rfl rfl (nK false n Q rfl)
 | _=>rfl
theorem u_ (b:Bool):f_ [.d (.bl b),.d (.bl b)]=.ok (.d (.bl true)):=by cases b <;> rfl
variable {A B L:List Str}{k:Nat}{d:D}
theorem n9 {g h:G Bool}{env:Ev}{a b:Bool}(h1:g env=.ok a) (h2:a=true->h env=.ok b):bY g h env=.ok (a && b):=by
 unfold bY;rw [h1,aG];cases a with
 | true=>exact h2 rfl
 | false=>rfl
theorem jl {g h:G Bool}{env:Ev}{a b:Bool}(h1:g env=.ok a) (h2:a=false->h env=.ok b):bZ g h env=.ok (a || b):=by
 unfold bZ;rw [h1,aG];cases a with
 | false=>exact h2 rfl
 | true=>rfl
theorem Dz (c:Int):∃L:List Str,gp [.d (.int c)]=.ok (.l .fresh (L.map .str))/\L.length=4/\∀x∈L,isLet x=true:=by
 refine ⟨(Ky 4).map λ(k:Nat)=>⟨#[97 + ((c + 7 * (k:Int)) % 26).toNat]⟩,dR (bM (r:=.l .fresh (((Ky 4).map λ(k:Nat)=>(⟨#[97 + ((c + 7 * (k:Int)) % 26).toNat]⟩:Str)).map .str)) ?_ rfl rfl),by simp,λx hx=>?_⟩
 ·rw [M4];exact iS (α:=Nat) (h:=dN) (λ(k:Nat)=>.str ⟨#[97 + ((c + 7 * (k:Int)) % 26).toNat]⟩) (E8 rfl (by decide)) (by simp) λk hk=>⟨_,WP.two rfl (WP.two (WP.two rfl (WP.two rfl rfl (nS 7 k (by decide) (by decide))) (dj _ _)) rfl (bz _ 26 (by decide))) (tK _ (by omega) (by omega)),rfl⟩
 ·obtain ⟨k,_,rfl⟩:=K0.mp hx;unfold isLet;show (decide (97<=97 + ((c + 7 * (k:Int)) % 26).toNat) && decide (97 + ((c + 7 * (k:Int)) % 26).toNat < 123))=true;rw [KU,decide_eq_true_eq,decide_eq_true_eq];omega
theorem h_ {m:Md}{L:List Str}(i:Int) (h0:0<=i) (hi:i < L.length):∃x∈L,aK (.l m (L.map .str)) (.d (.int i))=.ok (.d (.str x)):=oS (h:=D.str) _ rfl i h0 hi
theorem vN (A:List Str):bx true (.d (.tup (A.map .str))) (.d (.tup []))=.ok (.d (.bl (!A.isEmpty))):=by unfold bx;rw [if_pos ⟨by show deps (A.map .str) + 1<=60;rw [sX];decide,by show 0 + 1<=60;decide⟩];cases A <;> rfl
theorem Dy (n:Int) (h4:L.length=4) (hA:A.length<=1000) (hB:B.length<=1000):∃s,fQ [.d (.int n),.d (cu A B),.bor (L.map .str)]=.ok (.d s)/\Sy A B L 1 s/\dep s<=2/\(aV 1 s).length<=1:=by
 obtain ⟨a,ha,ea⟩:=h_ (m:=.bor) (L:=L) (n / 3 % 4) (by omega) (by omega);obtain ⟨b,hb,eb⟩:=h_ (m:=.bor) (L:=L) (n / 12 % 4) (by omega) (by omega);have key:Wp (fQ [.d (.int n),.d (cu A B),.bor (L.map .str)]) λr=>∃s,r=.d s/\Sy A B L 1 s/\dep s<=2/\(aV 1 s).length<=1:=by
  refine mO (bK (WP.two rfl (WP.two (WP.two rfl rfl (cY n 3 (by decide) (by decide))) rfl (bz _ 4 (by decide))) ea) rfl (bK (WP.two rfl (WP.two (WP.two rfl rfl (cY n 12 (by decide) (by decide))) rfl (bz _ 4 (by decide))) eb) rfl ?_));refine bN (fZ (c:=(n % 3 == 0) && !A.isEmpty) (n9 (cB (WP.two (WP.two rfl rfl (bz n 3 (by decide))) rfl (eq_int false _ _))) λ_=>cB (WP.two rfl rfl (vN A))) (λq=>?_) λ_=>fm (bN (fZ (c:=(n % 3 == 1) && !B.isEmpty) (n9 (cB (WP.two (WP.two rfl rfl (bz n 3 (by decide))) rfl (eq_int false _ _))) λ_=>cB (WP.two rfl rfl (vN B))) (λq=>?_) λ_=>fm ?_)))
  ·have hp:0 < A.length:=by
    rw [KU] at q;cases A with
    | nil=>exact absurd q.2 (by decide)
    | cons x l=>exact Qh _
   obtain ⟨x,hx,ex⟩:=oS (xs:=A) (h:=D.str) (.d (.tup (A.map .str))) rfl (n / 48 % A.length) (MD _ (by omega)) (MM _ (by omega));have el:dG [.d (.tup (A.map .str))]=.ok (.d (.int A.length)):=by show M.ok (R.d (.int ((A.map D.str).length:Nat)))=_;rw [Km]
   exact bM (r:=.d (.tup [.str "mark",.str x,.str a])) (c5 (aH rfl rfl (aH (WP.two rfl (WP.two (WP.two rfl rfl (cY n 48 (by decide) (by decide))) (n1 rfl el) (bz _ _ (by omega))) ex) rfl (aH rfl rfl bA))) (Ks rfl)) rfl ⟨_,rfl,.tup [.str "mark",.str x,.str a],rfl,.mark hx ha,by show 0 + 1<=2;decide,Kr 1⟩
  ·have hp:0 < B.length:=by
    rw [KU] at q;cases B with
    | nil=>exact absurd q.2 (by decide)
    | cons x l=>exact Qh _
   obtain ⟨x,hx,ex⟩:=oS (xs:=B) (h:=D.str) (.d (.tup (B.map .str))) rfl (n / 48 % B.length) (MD _ (by omega)) (MM _ (by omega));have el:dG [.d (.tup (B.map .str))]=.ok (.d (.int B.length)):=by show M.ok (R.d (.int ((B.map D.str).length:Nat)))=_;rw [Km]
   exact bM (r:=.d (.tup [.str "arrow",.str x,.str a,.str b])) (c5 (aH rfl rfl (aH (WP.two rfl (WP.two (WP.two rfl rfl (cY n 48 (by decide) (by decide))) (n1 rfl el) (bz _ _ (by omega))) ex) rfl (aH rfl rfl (aH rfl rfl bA)))) (Ks rfl)) rfl ⟨_,rfl,.tup [.str "arrow",.str x,.str a,.str b],rfl,.arrow hx ha hb,by show 0 + 1<=2;decide,Kr 1⟩
  ·exact bM (r:=.d (.tup [.str "same",.str a,.str b])) (c5 (aH rfl rfl (aH rfl rfl (aH rfl rfl bA))) (Ks rfl)) rfl ⟨_,rfl,.tup [.str "same",.str a,.str b],rfl,.same ha hb,by show 0 + 1<=2;decide,Kr 1⟩
 obtain ⟨r,e,s,rfl,h⟩:=key;exact ⟨s,e,h⟩
variable {A B L:List Str}
noncomputable abbrev Ent:=Nat×D×Int×Int
noncomputable abbrev ent (p:Ent):D:=.tup [p.2.1,.int p.2.2.1,.int p.2.2.2]
structure fV (A B L:List Str) (n:Nat) (s:D):Prop where
 pos:1<=n
 sy:Sy A B L n s
 dp:dep s<=n + 1
 len:(aV n s).length<=n
theorem fV.wrap {n:Nat}{s d:D}(h:fV A B L n s) (hw:wit d=[s]) (hy:Sy A B L (n + 1) d) (hd:dep d<=dep s + 1):fV A B L (n + 1) d where
 pos:=by omega
 sy:=hy
 dp:=by have:=h.dp;omega
 len:=by show (d::(wit d).flatMap (aV n)).length<=n + 1;rw [hw,L3,Lb,RY,Mc];have:=h.len;omega
theorem B4 (a b:D) (ha:dep a=0):dep (.tup [a,b])<=dep b + 1:=by simp [dep,deps,ha]
theorem yH (a b c:D) (ha:dep a=0) (hb:dep b=0):dep (.tup [a,b,c])<=dep c + 1:=by simp [dep,deps,ha,hb]
theorem Ag (a b c e:D) (ha:dep a=0) (hb:dep b=0) (hc:dep c=0):dep (.tup [a,b,c,e])<=dep e + 1:=by simp [dep,deps,ha,hb,hc]
theorem ye (n:Int) (h4:L.length=4){p:Ent}(hp:fV A B L p.1 p.2.1):∃q:Ent,fz [.d (.int n),.bor (L.map .str),.d (ent p)]=.ok (.d (ent q))/\fV A B L q.1 q.2.1/\q.1=p.1 + 1:=by
 obtain ⟨m,s,a,b⟩:=p;obtain ⟨x,hx,ex⟩:=h_ (m:=.bor) (L:=L) (n / 5 % 4) (by omega) (by omega);have hp:fV A B L m s:=hp;have hy:=hp.sy;obtain ⟨xs,rfl⟩:=hy.tup;have key:Wp (fz [.d (.int n),.bor (L.map .str),.d (ent (m,.tup xs,a,b))]) λr=>∃q:Ent,r=.d (ent q)/\fV A B L q.1 q.2.1/\q.1=m + 1:=by
  refine mO (F_ (d:=ent (m,.tup xs,a,b)) rfl rfl rfl (bK (WP.two rfl (WP.two (WP.two rfl rfl (cY n 5 (by decide) (by decide))) rfl (bz _ 4 (by decide))) ex) rfl (bN (fZ (c:=(n % 5 == 0) || decide (2 < a)) (jl (cB (WP.two (WP.two rfl rfl (bz n 5 (by decide))) rfl (eq_int false _ _))) λ_=>rfl) (λ_=>?_) λ_=>fm (bN (fZ (c:=n % 5 == 4) (cB (WP.two (WP.two rfl rfl (bz n 5 (by decide))) rfl (eq_int false _ _))) (λ_=>?_) λ_=>fm ?_))))))
  ·exact bM (r:=.d (ent (m + 1,.tup [.str "not",.tup xs],a,b + 1))) (c5 (aH (c5 (aH rfl rfl (aH rfl rfl bA)) (Ks rfl)) rfl (aH rfl rfl (aH (WP.two rfl rfl (dj _ _)) rfl bA))) (Ks rfl)) rfl ⟨_,rfl,(m + 1,.tup [.str "not",.tup xs],a,b + 1),rfl,hp.wrap rfl (.not hy) (B4 _ _ rfl),rfl⟩
  ·obtain ⟨v,hv,ev⟩:=oS (xs:=[(9:Int),3]) (h:=D.int) (.l .fresh [.int 9,.int 3]) rfl (n / 200 % 2) (by omega) (by show _ < 2;omega);have v0:0 < v:=by
    rcases KA.mp hv with rfl | hv
    ·decide
    ·rw [Kw.mp hv];decide
   exact bM (r:=.d (ent (m + 1,.tup [.str "least",.int (1 + n / 20 % v),.str x,.tup xs],a + 1,b + 1))) (c5 (aH (c5 (aH rfl rfl (aH (WP.two rfl (WP.two (WP.two rfl rfl (cY n 20 (by decide) (by decide))) (WP.two (eu (aH rfl rfl (aH rfl rfl bA)) (Ks rfl)) (WP.two (WP.two rfl rfl (cY n 200 (by decide) (by decide))) rfl (bz _ 2 (by decide))) ev) (bz _ v v0)) (dj _ _)) rfl (aH rfl rfl (aH rfl rfl bA)))) (Ks rfl)) rfl (aH (WP.two rfl rfl (dj _ _)) rfl (aH (WP.two rfl rfl (dj _ _)) rfl bA))) (Ks rfl)) rfl ⟨_,rfl,(m + 1,.tup [.str "least",.int (1 + n / 20 % v),.str x,.tup xs],a + 1,b + 1),rfl,hp.wrap rfl (.least hx hy) (Ag _ _ _ _ rfl rfl rfl),rfl⟩
  ·obtain ⟨v,hv,ev⟩:=h_ (m:=.fresh) (L:=["some","every"]) (n % 2) (by omega) (by show _ < 2;omega);refine bM (r:=.d (ent (m + 1,.tup [.str v,.str x,.tup xs],a + 1,b + 1))) (c5 (aH (c5 (aH (WP.two (eu (aH rfl rfl (aH rfl rfl bA)) (Ks rfl)) (WP.two rfl rfl (bz n 2 (by decide))) ev) rfl (aH rfl rfl (aH rfl rfl bA))) (Ks rfl)) rfl (aH (WP.two rfl rfl (dj _ _)) rfl (aH (WP.two rfl rfl (dj _ _)) rfl bA))) (Ks rfl)) rfl ⟨_,rfl,(m + 1,.tup [.str v,.str x,.tup xs],a + 1,b + 1),rfl,hp.wrap rfl ?_ (yH _ _ _ rfl rfl),rfl⟩;rcases KA.mp hv with rfl | hv
   ·exact .some hx hy
   ·rw [Kw.mp hv];exact .every hx hy
 obtain ⟨r,e,q,rfl,h⟩:=key;exact ⟨q,e,h⟩
noncomputable def cM:List Ent->Nat
 | []=>0
 | p::l=>p.1 + cM l
theorem qd (l m:List Ent):cM (l++m)=cM l + cM m:=by
 induction l with
 | nil=>exact (Qm _).symm
 | cons p l ih=>show p.1 + cM (l++m)=p.1 + cM l + cM m;rw [ih];omega
theorem v_ {st:List Ent}(h:∀p∈st,fV A B L p.1 p.2.1):st.length<=cM st:=by
 induction st with
 | nil=>exact Kr _
 | cons p l ih=>
  have h1:=ih λx hx=>h x (Kq _ hx);have h2:=(h p Ku).pos;show l.length + 1<=p.1 + cM l;omega
theorem vM {st:List Ent}(h:∀p∈st,fV A B L p.1 p.2.1):∀p∈st,p.1 + st.length<=cM st + 1:=by
 induction st with
 | nil=>exact λp hp=>by cases hp
 | cons q l ih=>
  intro p hp;have hl:∀p∈l,fV A B L p.1 p.2.1:=λx hx=>h x (Kq _ hx);have h2:=(h q Ku).pos;show p.1 + (l.length + 1)<=q.1 + cM l + 1;rcases KA.mp hp with rfl | hp
  ·have:=v_ hl;omega
  ·have:=ih hl p hp;omega
theorem Eg (f:Ent->Int) (l:List Ent):intsOf (l.map λx=>.int (f x))=some (l.map f):=by
 induction l with
 | nil=>rfl
 | cons x l ih=>
  show (intsOf (l.map λx=>.int (f x))).map (f x::·)=_;rw [ih];rfl
theorem vL {g:G R}{env:Ev}{st:List Ent}{f:Ent->Int}(h:g env=.ok (.l .fresh (st.map λp=>.int (f p)))):mG 0 g env=.ok (.d (.int (gX 0 (st.map f)))):=by
 unfold mG;rw [h,aG];show (match intsOf (st.map λp=>.int (f p)) with
  | some ns=>M.ok (R.d (.int (gX 0 ns)))
  | none=>.bad)=_
 rw [Eg]
theorem vC {l:List D}{n:Nat}(h:∀d∈l,dep d<=n):deps l<=n:=by
 induction l with
 | nil=>exact K1 _
 | cons d l ih=>
  show max (dep d) (deps l)<=n;exact Nat.max_le.mpr ⟨h d Ku,ih λx hx=>h x (Kq _ hx)⟩
theorem AB {st:List Ent}(h:∀p∈st,fV A B L p.1 p.2.1){N:Nat}(hN:∀p∈st,p.1<=N):((st.map λp=>p.2.1).flatMap (aV N)).length<=cM st:=by
 induction st with
 | nil=>exact K1 _
 | cons p l ih=>
  have h1:=ih (λx hx=>h x (Kq _ hx)) λx hx=>hN x (Kq _ hx);have h2:=h p Ku;have h3:=p_ h2.sy (hN p Ku);have h4:=h2.len;show ((p.2.1::l.map λp=>p.2.1).flatMap (aV N)).length<=p.1 + cM l;rw [Lb,Ko,h3];omega
theorem qE {st:List Ent}(h:∀p∈st,fV A B L p.1 p.2.1) (h1:st.length≠1) (hl:st.length<=100){v:Str}(hv:v="and"\/v="or"):fV A B L (cM st + 1) (.tup [.str v,.tup (st.map λp=>p.2.1)]):=by
 have hm:∀p∈st,p.1 + 1<=cM st:=λp hp=>by have:=vM h p hp;have:0 < st.length:=List.length_pos_of_mem hp;omega
 have Jt:∀s∈st.map λp=>p.2.1,Sy A B L (cM st) s:=λs hs=>by obtain ⟨p,hp,rfl⟩:=K0.mp hs;exact (h p hp).sy.up (by have:=hm p hp;omega)
 have hw:wit (.tup [.str v,.tup (st.map λp=>p.2.1)])=st.map λp=>p.2.1:=by rcases hv with rfl | rfl <;> rfl
 refine ⟨by omega,?_,?_,?_⟩
 ·rcases hv with rfl | rfl
  ·exact .and Jt (by rw [Km];exact hl)
  ·exact .or Jt (by rw [Km];exact hl)
 ·have:deps (st.map λp=>p.2.1)<=cM st:=vC λs hs=>by obtain ⟨p,hp,rfl⟩:=K0.mp hs;have:=(h p hp).dp;have:=hm p hp;omega
  simp [dep,deps];omega
 ·show (_::(wit _).flatMap (aV (cM st))).length<=_;rw [hw,L3];have:=AB h (N:=cM st) λp hp=>by have:=hm p hp;omega
  omega
theorem r6 (n:Int){st:List Ent}(h:∀p∈st,fV A B L p.1 p.2.1) (hl:st.length<=100):∃q:Ent,eT [.d (.int n),.bor (st.map ent)]=.ok (.d (ent q))/\fV A B L q.1 q.2.1/\q.1<=cM st + 1:=by
 have key:Wp (eT [.d (.int n),.bor (st.map ent)]) λr=>∃q:Ent,r=.d (ent q)/\fV A B L q.1 q.2.1/\q.1<=cM st + 1:=by
  refine mO (bK (r:=.d (.tup (st.map λp=>p.2.1))) (n1 (iS (α:=Ent) (xs:=st) (h:=ent) (λp=>p.2.1) rfl (by omega) λp hp=>⟨_,rfl,rfl⟩) rfl) rfl ?_);refine bK (vL (f:=λp=>p.2.2.1) (iS (α:=Ent) (xs:=st) (h:=ent) (λp=>.int p.2.2.1) rfl (by omega) λp hp=>⟨_,rfl,rfl⟩)) rfl ?_;refine bK (vL (f:=λp=>p.2.2.2) (iS (α:=Ent) (xs:=st) (h:=ent) (λp=>.int p.2.2.2) rfl (by omega) λp hp=>⟨_,rfl,rfl⟩)) rfl ?_;have el:dG [.l .bor (st.map ent)]=.ok (.d (.int st.length)):=by show M.ok (R.d (.int ((st.map ent).length:Nat)))=_;rw [Km]
  refine bN (fZ (c:=((st.length:Int) == 1)) (cB (WP.two (n1 rfl el) rfl (eq_int false _ _))) (λq=>?_) λq=>fm ?_)
  ·have q:st.length=1:=by have:=beq_iff_eq.mp q;omega
   match st,q,h with
   | [p],_,h=>exact bM (r:=.d (ent p)) (WP.two (x:=.l .bor [ent p]) rfl rfl rfl) rfl ⟨_,rfl,p,rfl,h p Ku,by show p.1<=p.1 + 0 + 1;omega⟩
  ·have q:st.length≠1:=λz=>by rw [z] at q;cases q
   obtain ⟨v,hv,ev⟩:=h_ (m:=.fresh) (L:=["and","or"]) (n % 2) (by omega) (by show _ < 2;omega);have hv:v="and"\/v="or":=by
    rcases KA.mp hv with rfl | hv
    ·exact .inl rfl
    ·exact .inr (Kw.mp hv)
   exact bM (r:=.d (ent (cM st + 1,.tup [.str v,.tup (st.map λp=>p.2.1)],gX 0 (st.map λp=>p.2.2.1),gX 0 (st.map λp=>p.2.2.2) + 1))) (c5 (aH (c5 (aH (WP.two (eu (aH rfl rfl (aH rfl rfl bA)) (Ks rfl)) (WP.two rfl rfl (bz n 2 (by decide))) ev) rfl (aH rfl rfl bA)) (Ks rfl)) rfl (aH rfl rfl (aH (WP.two rfl rfl (dj _ _)) rfl bA))) (Ks rfl)) rfl ⟨_,rfl,(cM st + 1,.tup [.str v,.tup (st.map λp=>p.2.1)],gX 0 (st.map λp=>p.2.2.1),gX 0 (st.map λp=>p.2.2.2) + 1),rfl,qE h q hl hv,Kr _⟩
 obtain ⟨r,e,q,rfl,h⟩:=key;exact ⟨q,e,h⟩
variable {A B L:List Str}
theorem Ac (xs:List D) (m:Nat) (hm:0 < m):cutD xs none (some (-(m:Int)))=xs.take (xs.length - m):=by
 unfold DL.cutD;rw [HT.nP];have e:HT.bh xs.length xs.length (some (-(m:Int)))=xs.length - m:=by show (if -(m:Int) < 0 then (-(m:Int) + (xs.length:Int)).toNat else min (-(m:Int)).toNat xs.length)=_;rw [if_pos (by omega)];omega
 rw [e,QN,Nat.sub_zero]
theorem Ae (xs:List D) (m:Nat) (hm:0 < m):cutD xs (some (-(m:Int))) none=xs.drop (xs.length - m):=by
 unfold DL.cutD;rw [HT.nP];have e:HT.bh xs.length 0 (some (-(m:Int)))=xs.length - m:=by show (if -(m:Int) < 0 then (-(m:Int) + (xs.length:Int)).toNat else min (-(m:Int)).toNat xs.length)=_;rw [if_pos (by omega)];omega
 rw [e];exact PX (by rw [LX];omega)
theorem Ce (m:Md) (ys:List D) (z:D):aK (.l m (ys++[z])) (.d (.int (-1)))=.ok (.d z):=by
 have e:L2.iR (ys++[z]) (-1)=some z:=by unfold L2.iR L2.tH;simp;rw [if_pos (by omega),show (-1 + ((ys.length:Int) + 1)).toNat=ys.length by omega];simp
 show (match L2.iR (ys++[z]) (-1) with
  | some d=>M.ok (R.d d)
  | none=>.bad)=_
 rw [e]
theorem sQ (xs ys:List D) (h:xs.length + ys.length<=1000):bu (.l .fresh xs) (.l .fresh ys)=.ok (.l .fresh (xs++ys)):=by show (if xs.length + ys.length<=sizeLine then M.ok (R.l .fresh (xs++ys)) else .bad)=_;rw [if_pos (by rw [Ly];omega)]
structure iQ (A B L:List Str) (k:Nat) (st:List Ent):Prop where
 ok:∀p∈st,fV A B L p.1 p.2.1
 sum:cM st<=k
theorem iQ.len {k:Nat}{st:List Ent}(h:iQ A B L k st):st.length<=k:=Lg (v_ h.ok) h.sum
theorem iQ.push {k:Nat}{st:List Ent}(h:iQ A B L k st){q:Ent}(hq:fV A B L q.1 q.2.1) (h1:q.1<=1):iQ A B L (k + 1) (st++[q]) where
 ok p hp:=by
  rcases K3.mp hp with hp | hp
  ·exact h.ok p hp
  ·rw [Kw.mp hp];exact hq
 sum:=by rw [qd];have:=h.sum;show cM st + (q.1 + 0)<=k + 1;omega
theorem iQ.swap {k c:Nat}{st:List Ent}(h:iQ A B L k st){q:Ent}(hq:fV A B L q.1 q.2.1) (h1:q.1<=cM (st.drop c) + 1):iQ A B L (k + 1) (st.take c++[q]) where
 ok p hp:=by
  rcases K3.mp hp with hp | hp
  ·exact h.ok p (QJ hp)
  ·rw [Kw.mp hp];exact hq
 sum:=by
  have e:cM st=cM (st.take c) + cM (st.drop c):=by rw [<-qd,MN]
  rw [qd];have:=h.sum;show cM (st.take c) + (q.1 + 0)<=k + 1;omega
theorem ne_nil {k:Nat}{l:List Ent}{p:Ent}(h:iQ A B L k (l++[p])) (hk:k<=56):bx false (.l .own ((l++[p]).map ent)) (.l .fresh [])=.ok (.d (.bl false)):=by
 have hd:dep (.lst ((l++[p]).map ent))<=60:=by
  have:deps ((l++[p]).map ent)<=59:=vC λd hd=>by
   obtain ⟨q,hq,rfl⟩:=K0.mp hd;have h1:=(h.ok q hq).dp;have h2:=vM h.ok q hq;have h3:=h.sum;have:dep (ent q)<=dep q.2.1 + 1:=by simp [dep,deps]
   rw [Ko] at h2;have:[p].length=1:=rfl;omega
  show deps ((l++[p]).map ent) + 1<=60;omega
 unfold bx;rw [if_pos ⟨hd,by show 0 + 1<=60;decide⟩];cases l <;> rfl
theorem Dm {v:Str}(hv:v="and"\/v="or"):fV A B L 1 (.tup [.str v,.tup []]):=qE (st:=[]) (λp hp=>by cases hp) (by decide) (by decide) hv
theorem BK {cs:List Int}(hc:cs.length<=56) (h4:L.length=4) (hA:A.length<=1000) (hB:B.length<=1000):∃q:Ent,f9 [.bor (cs.map .int),.d (cu A B),.bor (L.map .str)]=.ok (.d q.2.1)/\fV A B L q.1 q.2.1/\q.1<=57:=by
 have key:Wp (f9 [.bor (cs.map .int),.d (cu A B),.bor (L.map .str)]) λr=>∃q:Ent,r=.d q.2.1/\fV A B L q.1 q.2.1/\q.1<=57:=by
  have el:dG [.l .bor (cs.map .int)]=.ok (.d (.int cs.length)):=by show M.ok (R.d (.int ((cs.map D.int).length:Nat)))=_;rw [Km]
  refine mO (bK (r:=.l .fresh []) (x:=.own []) (eu bA (K1 _)) rfl (xR (E8 (n:=cs.length) (lC (n1 rfl el)) (by omega)) (pG (λk e=>∃st y4 y5 y6 y7 y8,e=[some (.bor (cs.map .int)),some (.d (cu A B)),some (.bor (L.map .str)),some (.own (st.map ent)),y4,y5,y6,y7,y8]/\iQ A B L k st) _ ⟨[],none,none,none,none,none,rfl,⟨(λp hp=>by cases hp),Kr 0⟩⟩ ?_ ?_)))
  ·rintro k hk e ⟨st,y4,y5,y6,y7,y8,rfl,ok⟩;rw [Km,LB] at hk;refine ⟨[some (.bor (cs.map .int)),some (.d (cu A B)),some (.bor (L.map .str)),some (.own (st.map ent)),some (.d (dN k)),y5,y6,y7,y8],by rw [List.getElem_map,List.getElem_range];rfl,?_⟩;have ec:aK (.l .bor (cs.map .int)) (.d (dN k))=.ok (.d (.int cs[k])):=oz (by rw [KQ,KG hk];rfl);generalize hN:(cs[k] % 18446744073709551616 + 613 * (k:Int)) * 71993 % 998244353=N;have sl:=ok.len;refine bK (r:=.d (.int N)) (x:=.d (.int N)) (hN▸WP.two (WP.two (WP.two (WP.two (WP.two rfl rfl ec) (WP.two rfl rfl we) (bz _ _ (by decide))) (WP.two rfl rfl (nS 613 k (by decide) (by decide))) (dj _ _)) rfl (qe _ 71993 (by decide) (by decide))) rfl (bz _ 998244353 (by decide))) rfl ?_;refine bK (r:=.d (.int (N % 7))) (x:=.d (.int (N % 7))) (WP.two rfl rfl (bz N 7 (by decide))) rfl (bK (r:=.d (.int (N / 7))) (x:=.d (.int (N / 7))) (WP.two rfl rfl (cY N 7 (by decide) (by decide))) rfl ?_);generalize N % 7=w;generalize N / 7=r;have push:∀y8:Option S,Wp (gG 3 (cF (ao (gN (aC 3 K12.fQ) (ai (af 7) (ai (af 1) (ai (af 2) ay)))) (ao (gC (.int 0)) (ao (gC (.int 0)) aO)))) [some (.bor (cs.map .int)),some (.d (cu A B)),some (.bor (L.map .str)),some (.own (st.map ent)),some (.d (dN k)),some (.d (.int N)),some (.d (.int w)),some (.d (.int r)),y8]) λo=>∃e,o=.nx e/\∃st y4 y5 y6 y7 y8,e=[some (.bor (cs.map .int)),some (.d (cu A B)),some (.bor (L.map .str)),some (.own (st.map ent)),y4,y5,y6,y7,y8]/\iQ A B L (k + 1) st:=λy8=>by obtain ⟨s,es,h1,h2,h3⟩:=Dy (A:=A) (B:=B) (L:=L) r h4 hA hB;refine jH (xs:=st.map ent) (d:=ent (1,s,0,0)) rfl (c5 (aH (c3 (x:=.d (.int r)) (y:=.d (cu A B)) (w:=.l .bor (L.map .str)) (z:=.d s) rfl rfl rfl es) rfl (aH rfl rfl (aH rfl rfl bA))) (Ks rfl)) rfl (by rw [Km];omega) ⟨_,rfl,st++[(1,s,0,0)],some (.d (dN k)),some (.d (.int N)),some (.d (.int w)),some (.d (.int r)),y8,?_,ok.push (q:=(1,s,0,0)) ⟨Kr 1,h1,h2,h3⟩ (Kr 1)⟩;rw [Le];rfl
   rcases Qv st with rfl | ⟨l,p,rfl⟩
   ·exact rT rfl (push y8)
   rw [Qw] at ok sl push ⊢;have e0:=ne_nil ok (by omega);have hp:=ok.ok p (by simp);have mp:(l++[p]).map ent=l.map ent++[ent p]:=by rw [Le];rfl
   have lp:(l++[p]).length=l.length + 1:=by rw [Ko];rfl
   have ei:aK (.l .own ((l++[p]).map ent)) (.d (.int (-1)))=.ok (.d (ent p)):=by rw [mp];exact Ce _ _ _
   refine fZ (c:=false || (decide (w < 3) || decide (11 < p.2.2.2))) (jl (cB (WP.two rfl (eu bA (K1 _)) e0)) λ_=>jl rfl λ_=>cB (WP.two (WP.two (WP.two rfl rfl ei) rfl rfl) rfl rfl)) (λ_=>push y8) λ_=>?_;have eL:dG [.l .own ((l++[p]).map ent)]=.ok (.d (.int ((l++[p]).length:Nat))):=by show M.ok (R.d (.int (((l++[p]).map ent).length:Nat)))=_;rw [Km]
   refine fZ (c:=(w == 3) && decide (1 < (((l++[p]).length:Nat):Int))) (n9 (cB (WP.two rfl rfl (eq_int false _ _))) λ_=>cB (WP.two (n1 rfl eL) rfl rfl)) (λ_=>?_) λ_=>?_
   ·obtain ⟨m,hm,em⟩:∃m:Nat,0 < m/\(2:Int) + r / 2 % 2=m:=⟨(2 + r / 2 % 2).toNat,by omega,by omega⟩;refine bK (r:=.d (.int m)) (x:=.d (.int m)) (em▸WP.two rfl (WP.two (WP.two rfl rfl (cY r 2 (by decide) (by decide))) rfl (bz _ 2 (by decide))) (dj _ _)) rfl ?_;have hdr:((l++[p]).map ent).drop (((l++[p]).map ent).length - m)=((l++[p]).drop ((l++[p]).length - m)).map ent:=by rw [Km,OA]
    have htk:((l++[p]).map ent).take (((l++[p]).map ent).length - m)=((l++[p]).take ((l++[p]).length - m)).map ent:=by rw [Km,Oz]
    obtain ⟨q,eq,h1,h2⟩:=r6 (A:=A) (B:=B) (L:=L) r (st:=(l++[p]).drop ((l++[p]).length - m)) (λx hx=>ok.ok x (QI hx)) (by rw [LX];omega);refine jj (r:=.l .fresh (((l++[p]).take ((l++[p]).length - m)++[q]).map ent)) (x:=.own (((l++[p]).take ((l++[p]).length - m)++[q]).map ent)) (WP.two (x:=.l .fresh (((l++[p]).take ((l++[p]).length - m)).map ent)) (y:=.l .fresh [ent q]) ?_ (eu (aH (c2 (x:=.d (.int r)) (y:=.l .fresh (((l++[p]).drop ((l++[p]).length - m)).map ent)) (z:=.d (ent q)) rfl ?_ eq) rfl bA) (Ks rfl)) ?_) rfl ⟨_,rfl,_,_,_,_,_,_,rfl,ok.swap h1 h2⟩
    ·show M.ok (R.l .fresh (cutD ((l++[p]).map ent) none (some (-(m:Int)))))=_;rw [Ac _ m hm,htk]
    ·show M.ok (R.l .fresh (cutD ((l++[p]).map ent) (some (-(m:Int))) none))=_;rw [Ae _ m hm,hdr]
    ·rw [sQ _ _ (by rw [Km,Me];show _ + 1<=1000;omega),Le];rfl
   refine fZ (c:=(w == 4) && (r % 4 == 0)) (n9 (cB (WP.two rfl rfl (eq_int false _ _))) λ_=>cB (WP.two (WP.two rfl rfl (bz r 4 (by decide))) rfl (eq_int false _ _))) (λ_=>?_) λ_=>?_
   ·obtain ⟨v,hv,ev⟩:=h_ (m:=.fresh) (L:=["and","or"]) (r / 4 % 2) (by omega) (by show _ < 2;omega);have hv:v="and"\/v="or":=by
     rcases KA.mp hv with rfl | hv
     ·exact .inl rfl
     ·exact .inr (Kw.mp hv)
    refine jH (xs:=(l++[p]).map ent) (d:=ent (1,.tup [.str v,.tup []],0,0)) rfl (c5 (aH (c5 (aH (WP.two (eu (aH rfl rfl (aH rfl rfl bA)) (Ks rfl)) (WP.two (WP.two rfl rfl (cY r 4 (by decide) (by decide))) rfl (bz _ 2 (by decide))) ev) rfl (aH (c5 bA (K1 _)) rfl bA)) (Ks rfl)) rfl (aH rfl rfl (aH rfl rfl bA))) (Ks rfl)) rfl (by rw [Km];omega) ⟨_,rfl,(l++[p])++[(1,.tup [.str v,.tup []],0,0)],some (.d (dN k)),some (.d (.int N)),some (.d (.int w)),some (.d (.int r)),y8,?_,ok.push (q:=(1,.tup [.str v,.tup []],0,0)) (Dm hv) (Kr 1)⟩;rw [Le (l₁:=l++[p])];rfl
   ·obtain ⟨q,eq,h1,h2⟩:=ye (A:=A) (B:=B) (L:=L) r h4 hp;have sw:=ok.swap (c:=l.length) (q:=q) h1 (by rw [List.drop_left];show q.1<=p.1 + 0 + 1;omega);rw [List.take_left] at sw;refine jj (r:=.l .fresh ((l++[q]).map ent)) (x:=.own ((l++[q]).map ent)) (WP.two (x:=.l .fresh (l.map ent)) (y:=.l .fresh [ent q]) ?_ (eu (aH (c3 (x:=.d (.int r)) (y:=.l .bor (L.map .str)) (w:=.d (ent p)) (z:=.d (ent q)) rfl rfl (WP.two rfl rfl ei) eq) rfl bA) (Ks rfl)) ?_) rfl ⟨_,rfl,_,_,_,_,_,_,rfl,sw⟩
    ·show M.ok (R.l .fresh (cutD ((l++[p]).map ent) none (some (-1))))=_;rw [mp,Ad]
    ·rw [sQ _ _ (by rw [Km];show _ + 1<=1000;omega),Le];rfl
  ·rintro e ⟨st,y4,y5,y6,y7,y8,rfl,ok⟩;rw [Km,LB] at ok;have sl:=ok.len;obtain ⟨q,eq,h1,h2⟩:=r6 (A:=A) (B:=B) (L:=L) (cs.length:Int) ok.ok (by omega);have:=ok.sum;exact bM (r:=.d q.2.1) (WP.two (c2 (x:=.d (.int cs.length)) (y:=.l .own (st.map ent)) (z:=.d (ent q)) (n1 rfl el) rfl eq) rfl rfl) rfl ⟨_,rfl,q,rfl,h1,by omega⟩
 obtain ⟨r,e,q,rfl,h⟩:=key;exact ⟨q,e,h⟩
variable {A B L:List Str}
theorem BN (n:Int):∃P Q:List Str,dc [.d (cu A B),.d (.int n)]=.ok (.d (cu P Q)):=by
 obtain ⟨P1,e1,_⟩:=jC D.str A (some 1) none;obtain ⟨Q1,e2,_⟩:=jC D.str B none (some (-1));have key:Wp (dc [.d (cu A B),.d (.int n)]) λr=>∃P Q:List Str,r=.d (cu P Q):=by
  have hc:∀j:Int,aS (g2 (bx false) (g2 bw (af 1) (gC (.int 4))) (gC (.int j))) [some (.d (cu A B)),some (.d (.int n))]=.ok (n % 4 == j):=λj=>cB (WP.two (WP.two rfl rfl (bz n 4 (by decide))) rfl (eq_int false _ _));refine mO (bN (fZ (hc 0) (λ_=>bM (r:=.d (cu A B)) rfl rfl ⟨_,rfl,A,B,rfl⟩) λ_=>fm (bN (fZ (hc 1) (λ_=>bM (r:=.d (cu P1 B)) (c5 (aH (r:=.d (.tup (P1.map .str))) ?_ rfl (aH rfl rfl bA)) (Ks rfl)) rfl ⟨_,rfl,P1,B,rfl⟩) λ_=>fm (bN (fZ (hc 2) (λ_=>bM (r:=.d (cu A Q1)) (c5 (aH rfl rfl (aH (r:=.d (.tup (Q1.map .str))) ?_ rfl bA)) (Ks rfl)) rfl ⟨_,rfl,A,Q1,rfl⟩) λ_=>fm (bM (r:=.d (cu B A)) (c5 (aH rfl rfl (aH rfl rfl bA)) (Ks rfl)) rfl ⟨_,rfl,B,A,rfl⟩)))))))
  ·show M.ok (R.d (.tup (DL.cutD (A.map .str) (some 1) none)))=_;rw [e1]
  ·show M.ok (R.d (.tup (DL.cutD (B.map .str) none (some (-1)))))=_;rw [e2]
 obtain ⟨r,e,P,Q,rfl⟩:=key;exact ⟨P,Q,e⟩
theorem vz (ns:List Int) (j:Nat) (hj:j<=62):∃cs:List Int,DL.cutD (ns.map D.int) (some 6) (some (j:Int))=cs.map .int/\cs.length<=56:=by obtain ⟨cs,e1,e2⟩:=jC D.int ns (some ((6:Nat):Int)) (some (j:Int));refine ⟨cs,e1,?_⟩;rw [e2,HT.jP,HT.jP,Me,LX];omega
theorem DR {k:Nat}{d:D}(h:Sy A B L k d) (q:(bnd d).isEmpty=false):∃a,bnd d=[a]/\aK (.d d) (.d (.int (-2)))=.ok (.d (.str a)):=by
 cases h with
 | some _ _=>exact ⟨_,rfl,rfl⟩
 | every _ _=>exact ⟨_,rfl,rfl⟩
 | least _ _=>exact ⟨_,rfl,rfl⟩
 | _=>exact absurd (show true=false from q) (by decide)
theorem lM {g:G Bool}{env:Ev}{b:Bool}(h:g env=.ok b):bH g env=.ok (!b):=by unfold bH;rw [h];rfl
theorem BV {l:List D}(f g:D->Bool):(l.all λp=>f p && g p)=(l.all f && l.all g):=by
 induction l with
 | nil=>rfl
 | cons x l ih=>
  rw [NW,NW,NW,ih];cases f x <;> cases g x <;> cases l.all f <;> cases l.all g <;> rfl
theorem Cq (ns:List Int) (hl:ns.length<=63):pK [.bor (ns.map D.int)]=.ok (.d (.bl true)):=by
 obtain ⟨A,B,hT,tA,tB⟩:=zV (eK ns 1);obtain ⟨L,JA,h4,hL⟩:=Dz (eK ns 2 % 26);obtain ⟨P,Q,hO⟩:=BN (A:=A) (B:=B) (eK ns 4);have cel:∀(k:Nat) (tl:Ev),gN (aC 2 K01.bT) (ai (af 0) (ai (gC (.int k)) ay)) (some (.bor (ns.map D.int))::tl)=.ok (.d (.int (eK ns k))):=λk tl=>c2 (x:=.l .bor (ns.map .int)) (y:=.d (.int k)) (z:=.d (.int (eK ns k))) rfl rfl (Dv ns k);refine dR (bK (r:=.d (cu A B)) (x:=.d (cu A B)) (c1 (x:=.d (.int (eK ns 1))) (z:=.d (cu A B)) (cel 1 _) hT) rfl ?_);obtain ⟨c0,e0,l0⟩:=vz ns 62 (Kr _);refine bK (r:=.l .fresh (c0.map .int)) (x:=.own (c0.map .int)) (by show M.ok (R.l .fresh (DL.cutD (ns.map .int) (some 6) (some 62)))=_;exact congrArg (λz=>M.ok (R.l .fresh z)) e0) rfl ?_;have h2:Wp (aX (aS (g2 (bx false) (g2 bw (gN (aC 2 K01.bT) (ai (af 0) (ai (gC (.int 3)) ay))) (gC (.int 3))) (gC (.int 1)))) (aU 2 (iV fY (af 0) (gm (gC (.int 6))) (gm (g2 bu (gC (.int 6)) (g2 bw (g2 cW (gN (aC 2 K01.bT) (ai (af 0) (ai (gC (.int 3)) ay))) (gC (.int 3))) (gC (.int 13))))))) bB [some (.bor (ns.map D.int)),some (.d (cu A B)),some (.own (c0.map .int)),none,none,none,none,none,none,none,none,none]) λo=>∃cs:List Int,o=.nx [some (.bor (ns.map D.int)),some (.d (cu A B)),some (.own (cs.map .int)),none,none,none,none,none,none,none,none,none]/\cs.length<=56:=by
  refine fZ (c:=eK ns 3 % 3 == 1) (cB (WP.two (WP.two (cel 3 _) rfl (bz _ 3 (by decide))) rfl (eq_int false _ _))) (λ_=>?_) λ_=>fm ⟨c0,rfl,l0⟩;obtain ⟨j,hj⟩:∃j:Nat,(6:Int) + eK ns 3 / 3 % 13=j:=⟨(6 + eK ns 3 / 3 % 13).toNat,by omega⟩;obtain ⟨c1',e1,l1⟩:=vz ns j (by omega);refine jj (r:=.l .fresh (c1'.map .int)) (x:=.own (c1'.map .int)) ?_ rfl ⟨c1',rfl,l1⟩;have hp:g2 bu (gC (.int 6)) (g2 bw (g2 cW (gN (aC 2 K01.bT) (ai (af 0) (ai (gC (.int 3)) ay))) (gC (.int 3))) (gC (.int 13))) [some (.bor (ns.map D.int)),some (.d (cu A B)),some (.own (c0.map .int)),none,none,none,none,none,none,none,none,none]=.ok (.d (.int j)):=hj▸WP.two rfl (WP.two (WP.two (cel 3 _) rfl (cY _ 3 (by decide) (by decide))) rfl (bz _ 13 (by decide))) (dj _ _);have hq:gm (g2 bu (gC (.int 6)) (g2 bw (g2 cW (gN (aC 2 K01.bT) (ai (af 0) (ai (gC (.int 3)) ay))) (gC (.int 3))) (gC (.int 13)))) [some (.bor (ns.map D.int)),some (.d (cu A B)),some (.own (c0.map .int)),none,none,none,none,none,none,none,none,none]=.ok (some (j:Int)):=by unfold gm;rw [hp];rfl
  show (gm (g2 bu _ _) _ >>= λu=>fY (.l .bor (ns.map .int)) (some 6) u)=_;rw [hq,aG];show M.ok (R.l .fresh (DL.cutD (ns.map .int) (some 6) (some (j:Int))))=_;rw [e1]
 refine bN (h2.mono ?_);rintro o ⟨cs,rfl,hcs⟩;obtain ⟨q,hG,ok,q57⟩:=BK (A:=A) (B:=B) (L:=L) hcs h4 (by have:=tA.1;omega) (by have:=tB.1;omega);generalize q.1=n at ok q57;generalize q.2.1=s at ok hG;have hs:=ok.sy;have hN:(aV n s).length < 2000:=by have:=ok.len;omega
 obtain ⟨ev,hE,mE,lE⟩:=FE hs hN;have evs:∀p∈ev,Sy A B L n p:=λp hp=>eW hs p ((mE p).mp hp);refine bK (r:=.d s) (x:=.d s) (c3 (x:=.l .own (cs.map .int)) (y:=.d (cu A B)) (w:=.l .fresh (L.map .str)) (z:=.d s) rfl rfl (c1 (x:=.d (.int (eK ns 2 % 26))) (z:=.l .fresh (L.map .str)) (WP.two (cel 2 _) rfl (bz _ 26 (by decide))) JA) hG) rfl ?_;refine bK (r:=.l .fresh ev) (x:=.own ev) (c1 (x:=.d s) (z:=.l .fresh ev) rfl hE) rfl ?_;refine bK (r:=.l .fresh []) (x:=.own []) (eu bA (K1 _)) rfl ?_;refine bN (Gm (xs:=ev) rfl (Bt (ds:=ev) rfl (pG (λi e=>∃x,e=[some (.bor (ns.map D.int)),some (.d (cu A B)),some (.own (cs.map .int)),some (.d s),some (.d (.lst ev)),some (.own (((ev.take i).flatMap bE).map .str)),x,none,none,none,none,none]) _ ⟨none,rfl⟩ ?_ ?_)))
 ·rintro i hi e ⟨x,rfl⟩;refine ⟨[some (.bor (ns.map D.int)),some (.d (cu A B)),some (.own (cs.map .int)),some (.d s),some (.d (.lst ev)),some (.own (((ev.take i).flatMap bE).map .str)),some (.d ev[i]),none,none,none,none,none],rfl,?_⟩;have hp:=evs _ (LJ hi);have hlen:((ev.take i).flatMap bE).length<=2 * i:=by
   have:∀l:List D,(∀p∈l,Sy A B L n p)->(l.flatMap bE).length<=2 * l.length:=by
    intro l
    induction l with
    | nil=>exact λ_=>K1 _
    | cons p l ih=>
     intro h;have h1:=ih λx hx=>h x (Kq _ hx);have h2:=pX (h p Ku);rw [Lb,Ko,L3];omega
   have:=this (ev.take i) λp hp=>evs p (QJ hp);rw [Me] at this;omega
  have ho:=p7 hp;have et:(ev.take (i + 1)).flatMap bE=(ev.take i).flatMap bE++own ev[i]++bnd ev[i]:=by rw [MR hi,L6,Lb,RY,Mc,tV hp,Nq]
  refine bK (r:=.l .fresh (((ev.take i).flatMap bE++own ev[i]).map .str)) (x:=.own (((ev.take i).flatMap bE++own ev[i]).map .str)) (WP.two (x:=.l .own (((ev.take i).flatMap bE).map .str)) (y:=.l .fresh ((own ev[i]).map .str)) rfl (c1 (x:=.d ev[i]) (z:=.l .fresh ((own ev[i]).map .str)) rfl (yd hp)) ?_) rfl ?_
  ·unfold gF;show (if (O1 D.str _).length + (O1 D.str _).length<=sizeLine then M.ok (R.l .fresh (O1 D.str _++O1 D.str _)) else .bad)=_;rw [if_pos (by rw [Ly,Km,Km];omega),<-Le]
  refine fZ (c:=!(bnd ev[i]).isEmpty) (cB (c1 (x:=.d ev[i]) (z:=.d (.bl (!(bnd ev[i]).isEmpty))) rfl (nA hp))) (λz=>?_) λz=>fm ⟨_,rfl,some (.d ev[i]),?_⟩
  ·obtain ⟨a,e1,e2⟩:=DR hp (by simpa using z);refine jH (xs:=((ev.take i).flatMap bE++own ev[i]).map .str) (d:=.str a) rfl (WP.two (x:=.d ev[i]) (y:=.d (.int (-2))) rfl rfl e2) rfl (by rw [Km,Ko];omega) ⟨_,rfl,some (.d ev[i]),?_⟩;rw [et,e1,Le (l₂:=[a])];rfl
  ·have z:bnd ev[i]=[]:=by simpa using z
   rw [et,z,Mc];rfl
 rintro e ⟨x,rfl⟩;rw [PJ];have mL:∀x,x∈ev.flatMap bE↔x∈(aV n s).flatMap bE:=λx=>by rw [Lc,Lc];exact ⟨λ⟨p,h1,h2⟩=>⟨p,(mE p).mp h1,h2⟩,λ⟨p,h1,h2⟩=>⟨p,(mE p).mpr h1,h2⟩⟩
 have lets:=oE hL (eW hs);have listA:=r9 (r:=.d .non) lets mL;obtain ⟨X,eX,lX⟩:∃X,dZ n s=bO X/\∀x∈X,isLet x=true:=by
  obtain ⟨j,rfl⟩:=cT hs;have inner:∀x∈(wit s).flatMap (dZ j),isLet x=true:=λx hx=>by obtain ⟨p,hp,hx⟩:=Lc.mp hx;exact mD hL j (cK hs p hp) x hx
  have E:dZ (j + 1) s=if (bnd s).isEmpty then bO (bE s++(wit s).flatMap (dZ j)) else bO (((wit s).flatMap (dZ j)).filter λx=>!((bE s).any λw=>w == x)):=rfl
  rw [E];split
  ·exact ⟨_,rfl,λx hx=>(K3.mp hx).elim (iG hL hs x) (inner x)⟩
  ·exact ⟨_,rfl,λx hx=>inner x (Mm.mp hx).1⟩
 have IY:=yc hL 60 hs (by omega);rw [eX] at IY;have mF:∀x,x∈eV n s []↔x∈X:=λx=>by rw [pZ hs,eX,jK];exact ⟨λz=>z.1,λz=>⟨z,λz=>by cases z⟩⟩
 have listB:=r9 (r:=.d .non) lX mF;have hLf:=u9 60 hs (by omega) hN [] (by show 0 + n<=1000;omega);have Jw:=BJ hs (by omega);have Jz:=u7 60 hs (by omega);have Jo:=uF hL hs hN;have Iz:=r_ hs hN P Q;have IM:=r_ hs hN A B;rw [BU hs] at IM;have Jp:=BO hs hN;refine bK (r:=.d (.int (dp n s))) (x:=.d (.int (dp n s))) (c1 (x:=.d s) (z:=.d (.int (dp n s))) rfl Jw) rfl ?_;refine bN (nM ?_ (fm ?_))
 ·have:=jl (a:=false) (b:=false || !(dp n s == dp n s)) (g:=bH (aS (cO "int" (af 7)))) (h:=bZ (aS (cO "bool" (af 7))) (aS (g2 (bx true) (af 7) (gN (aC 1 (K12.dF 60)) (ai (af 3) ay))))) (env:=[some (.bor (ns.map D.int)),some (.d (cu A B)),some (.own (cs.map .int)),some (.d s),some (.d (.lst ev)),some (.own ((ev.flatMap bE).map .str)),x,some (.d (.int (dp n s))),none,none,none,none]) rfl λ_=>jl rfl λ_=>cB (WP.two rfl (c1 (x:=.d s) (z:=.d (.int (dp n s))) rfl Jz) (eq_int true _ _));rw [beq_self_eq_true] at this;exact this
 refine bK (r:=.l .fresh ((bO ((aV n s).flatMap bE)).map .str)) (x:=.own ((bO ((aV n s).flatMap bE)).map .str)) (c1 (x:=.d s) (z:=.l .fresh ((bO ((aV n s).flatMap bE)).map .str)) rfl Jo) rfl ?_;refine bK (r:=.l .fresh ((bO X).map .str)) (x:=.own ((bO X).map .str)) (c1 (x:=.d s) (z:=.l .fresh ((bO X).map .str)) rfl IY) rfl ?_;have free:∀(a b c a2 b2 b7 b8 b9 b10 b11:Option S),gN (aC 2 (K12.cP 60)) (ai (af 3) (ai (dB aO) ay)) [a,b,c,some (.d s),a2,b2,x,b7,b8,b9,b10,b11]=.ok (.l .fresh ((eV n s []).map .str)):=λa b c a2 b2 b7 b8 b9 b10 b11=>c2 (x:=.d s) (y:=.l .fresh []) (z:=.l .fresh ((eV n s []).map .str)) rfl (eu bA (K1 _)) hLf;have l1:=jQ lets;have l2:=jQ lX;refine bN (nM (jl (a:=false) (b:=false) (lM (b:=true) (cB (c2 (x:=.l .own ((bO ((aV n s).flatMap bE)).map .str)) (y:=.l .own ((ev.flatMap bE).map .str)) (z:=.d (.bl true)) rfl rfl listA))) λ_=>lM (b:=true) (cB (c2 (x:=.l .own ((bO X).map .str)) (y:=.l .fresh ((eV n s []).map .str)) (z:=.d (.bl true)) rfl (free _ _ _ _ _ _ _ _ _ _) listB))) (fm ?_));refine bN (jH (xs:=(bO ((aV n s).flatMap bE)).map .str) (d:=.str "zz") rfl rfl rfl (by rw [Km];omega) ?_);refine bN (jH (xs:=(bO X).map .str) (d:=.str "zz") rfl rfl rfl (by rw [Km];omega) ?_);refine bN (nM (jl (a:=false) (b:=false) (lM (b:=true) (cB (c2 (x:=.l .fresh ((bO ((aV n s).flatMap bE)).map .str)) (y:=.l .own ((ev.flatMap bE).map .str)) (z:=.d (.bl true)) (c1 (x:=.d s) (z:=.l .fresh ((bO ((aV n s).flatMap bE)).map .str)) rfl Jo) rfl listA))) λ_=>lM (b:=true) (cB (c2 (x:=.l .fresh ((bO X).map .str)) (y:=.l .fresh ((eV n s []).map .str)) (z:=.d (.bl true)) (c1 (x:=.d s) (z:=.l .fresh ((bO X).map .str)) rfl IY) (free _ _ _ _ _ _ _ _ _ _) listB))) (fm ?_));refine bK (r:=.d (cu P Q)) (x:=.d (cu P Q)) (c2 (x:=.d (cu A B)) (y:=.d (.int (eK ns 4))) (z:=.d (cu P Q)) rfl (cel 4 _) hO) rfl ?_;refine bK (r:=.d (.bl (ev.all (fW P)))) (x:=.d (.bl (ev.all (fW P)))) (n1 (iS (α:=D) (xs:=ev) (h:=id) (λp=>.bl (fW P p)) (by rw [Nl];rfl) (by omega) λp hp=>⟨_,Dd (evs p hp) P Q,rfl⟩) (all_map _ _)) rfl ?_;refine bK (r:=.d (.bl (ev.all (fW P) && ev.all (gR Q)))) (x:=.d (.bl (ev.all (fW P) && ev.all (gR Q)))) ?_ rfl ?_
 ·have ha:gN gU (ai (bU 1 [10] (fj (af 4)) (aJ 0) cV (lF (g2 (bx true) (g2 aK (af 0) (gC (.int 0))) (gC (.str "arrow"))) (g2 (fO false) (g2 aK (af 0) (gC (.int 1))) (g2 aK (af 1) (gC (.int 1)))))) ay) [some (.bor (ns.map D.int)),some (.d (cu A B)),some (.own (cs.map .int)),some (.d s),some (.d (.lst ev)),some (.own ((ev.flatMap bE).map .str)),x,some (.d (.int (dp n s))),some (.own ((bO ((aV n s).flatMap bE)).map .str++[.str "zz"])),some (.own ((bO X).map .str++[.str "zz"])),some (.d (cu P Q)),some (.d (.bl (ev.all (fW P))))]=.ok (.d (.bl (ev.all (gR Q)))):=n1 (iS (α:=D) (xs:=ev) (h:=id) (λp=>.bl (gR Q p)) (by rw [Nl];rfl) (by omega) λp hp=>⟨_,A2 (evs p hp) P Q,rfl⟩) (all_map _ _);unfold bD;show (M.ok (R.d (.bl (ev.all (fW P)))) >>= _)=_;rw [aG];cases z:ev.all (fW P) with
  | false=>rfl
  | true=>rw [z] at ha;exact ha
 have eS:((aV n s).all λp=>fW P p && gR Q p)=(ev.all (fW P) && ev.all (gR Q)):=by rw [<-BV];exact (sD _ mE).symm
 rw [eS] at Iz;refine bN (nM (jl (a:=false) (b:=false) (lM (b:=true) (cB (c2 (x:=.d (.bl (ev.all (fW P) && ev.all (gR Q)))) (y:=.d (.bl (ev.all (fW P) && ev.all (gR Q)))) (z:=.d (.bl true)) (c2 (x:=.d s) (y:=.d (cu P Q)) (z:=.d (.bl (ev.all (fW P) && ev.all (gR Q)))) rfl rfl Iz) rfl (u_ _)))) λ_=>cB (WP.two (x:=.d (.bl true)) (c2 (x:=.d s) (y:=.d (cu A B)) (z:=.d (.bl true)) rfl rfl IM) rfl rfl)) (fm ?_));have eP:(aV n s).all lP=ev.all lP:=(sD _ mE).symm;rw [eP] at Jp;exact bM (r:=.d (.bl true)) (c2 (x:=.d (.bl (ev.all lP))) (y:=.d (.bl (ev.all lP))) (z:=.d (.bl true)) (c1 (x:=.d s) (z:=.d (.bl (ev.all lP))) rfl Jp) (n1 (iS (α:=D) (xs:=ev) (h:=id) (λp=>.bl (lP p)) (by rw [Nl];rfl) (by omega) λp hp=>⟨_,zp (evs p hp),rfl⟩) (all_map _ _)) (u_ _)) rfl rfl
end K12
namespace K12
open PySem PySem.Spec PyProof.Rows L2 DL DX
theorem all_mk {l:P_}{w:K5}{K:Ke}{h:L7}{mg:Str->Option Kg}{fa:KJ}(X:K.In h) (G:h.Ns KW mg) (JG:mg "law"=some (.ref fa))
  {f28:KJ}{o28 n28:Option KJ}{s28:Array (Option Kg)}{u28 v28 d28 p28 q28 r28:Kg}
  {f1c:KJ}{sl1c:Array (Option Kg)}{n1c:Nat}{t2:Tok}{t3:Tok}{t4:Tok}
  {fINNER_PLACES:KJ}{epINNER_PLACES:Nat}{ktINNER_PLACES0:Tok}{ktINNER_PLACES1:Tok}{ktINNER_PLACES2:Tok}{ktINNER_PLACES3:Tok}{t5:Tok}{t6:Tok}{t7:Tok}{t8:Tok}
  {fLETTER_PLACES:KJ}{epLETTER_PLACES:Nat}{ktLETTER_PLACES0:Tok}{ktLETTER_PLACES1:Tok}{ktLETTER_PLACES2:Tok}{ktLETTER_PLACES3:Tok}{ktLETTER_PLACES4:Tok}{ktLETTER_PLACES5:Tok}{ktLETTER_PLACES6:Tok}{ktLETTER_PLACES7:Tok}{ktLETTER_PLACES8:Tok}{f9c:KJ}{sl9c:Array (Option Kg)}{n9c:Nat}{t10:Tok}{f11c:KJ}{sl11c:Array (Option Kg)}{n11c:Nat}{t12:Tok}{t13:Tok}{f14c:KJ}{sl14c:Array (Option Kg)}{n14c:Nat}{t15:Tok}{t16:Tok}{f17c:KJ}{sl17c:Array (Option Kg)}{n17c:Nat}{f18c:KJ}{sl18c:Array (Option Kg)}{n18c:Nat}{f19c:KJ}{sl19c:Array (Option Kg)}{n19c:Nat}{f20c:KJ}{sl20c:Array (Option Kg)}{n20c:Nat}{t21:Tok}{f22c:KJ}{sl22c:Array (Option Kg)}{n22c:Nat}{t23:Tok}{f24c:KJ}{sl24c:Array (Option Kg)}{n24c:Nat}{t25:Tok}
  (e0:FA K "letters_at" nu)
  (e1:FA K "within" wc)
  (e2:FA K "parts_of" qU)
  (e3:FA K "depth_behind" ir)
  (e4:FA K "depth_of" qS)
  (e5:FA K "letters_of" nv)
  (e6:FA K "free_from" pg)
  (e7:FA K "free_of" nQ)
  (e8:FA K "is_plain" qT)
  (e9:FA K "is_spoken" pq)
  (e10:FA K "speaks" v7)
  (e11:FA K "_law_cell" o_)
  (e12:FA K "_law_names" nq)
  (e13:FA K "_law_tongue" lY)
  (e14:FA K "_law_letters" kR)
  (e15:FA K "_law_leaf" pe)
  (e16:FA K "_law_wrapped" kT)
  (e17:FA K "_law_joined" lV)
  (e18:FA K "_law_grown" nk)
  (e19:FA K "_law_within" lZ)
  (e20:FA K "_law_binds" nj)
  (e21:FA K "_law_all" qQ)
  (e22:FA K "_law_deep" kC)
  (e23:FA K "_law_own" qR)
  (e24:FA K "_law_free" kD)
  (e25:FA K "_law_listed" lW)
  (e26:FA K "_law_truth" nt)
  (e27:FA K "_law_other_tongue" ic)
  (a28:K9 K KW "law"=some (some (.ref f28)))
  (l28:K.lookup f28=some ⟨u28,o28,.func (LR "law" "law" (dO kG) (bQ kG) (aT kG) .none v28 d28 p28 n28 q28 r28),s28⟩)
  (c28:Oe K q28 "law"=true)
  (k28:Na K (.ref f28)=true)
  (z0:K9 K KW "all"=some none)
  (z1:K9 K KW "bool"=some none)
  (z2:K9 K KW "int"=some none)
  (z3:K9 K KW "isinstance"=some none)
  (z4:K9 K KW "len"=some none)
  (z5:K9 K KW "list"=some none)
  (z6:K9 K KW "max"=some none)
  (z7:K9 K KW "range"=some none)
  (z8:K9 K KW "set"=some none)
  (z9:K9 K KW "sorted"=some none)
  (z10:K9 K KW "str"=some none)
  (z11:K9 K KW "tuple"=some none)
  (gBINDERS:K9 K KW "BINDERS"=some (some (.ref f1c)))
  (lc1:K.lookup f1c=some ⟨.type "tuple",none,.seq #[(.str "some" t2),(.str "every" t3),(.str "least" t4)] n1c,sl1c⟩)
  (gINNER_PLACES:K9 K KW "INNER_PLACES"=some (some (.ref fINNER_PLACES)))
  (lINNER_PLACES:K.lookup fINNER_PLACES=some {cls:=.type "dict",data:=.dict #[⟨Lv w.params "not",.str "not" ktINNER_PLACES0,(.int 1 t5)⟩,⟨Lv w.params "some",.str "some" ktINNER_PLACES1,(.int 2 t6)⟩,⟨Lv w.params "every",.str "every" ktINNER_PLACES2,(.int 2 t7)⟩,⟨Lv w.params "least",.str "least" ktINNER_PLACES3,(.int 3 t8)⟩] epINNER_PLACES})
  (gLETTER_PLACES:K9 K KW "LETTER_PLACES"=some (some (.ref fLETTER_PLACES)))
  (lLETTER_PLACES:K.lookup fLETTER_PLACES=some {cls:=.type "dict",data:=.dict #[⟨Lv w.params "mark",.str "mark" ktLETTER_PLACES0,(.ref f9c)⟩,⟨Lv w.params "arrow",.str "arrow" ktLETTER_PLACES1,(.ref f11c)⟩,⟨Lv w.params "same",.str "same" ktLETTER_PLACES2,(.ref f14c)⟩,⟨Lv w.params "not",.str "not" ktLETTER_PLACES3,(.ref f17c)⟩,⟨Lv w.params "and",.str "and" ktLETTER_PLACES4,(.ref f18c)⟩,⟨Lv w.params "or",.str "or" ktLETTER_PLACES5,(.ref f19c)⟩,⟨Lv w.params "some",.str "some" ktLETTER_PLACES6,(.ref f20c)⟩,⟨Lv w.params "every",.str "every" ktLETTER_PLACES7,(.ref f22c)⟩,⟨Lv w.params "least",.str "least" ktLETTER_PLACES8,(.ref f24c)⟩] epLETTER_PLACES})
  (lc9:K.lookup f9c=some ⟨.type "tuple",none,.seq #[(.int 2 t10)] n9c,sl9c⟩)
  (lc11:K.lookup f11c=some ⟨.type "tuple",none,.seq #[(.int 2 t12),(.int 3 t13)] n11c,sl11c⟩)
  (lc14:K.lookup f14c=some ⟨.type "tuple",none,.seq #[(.int 1 t15),(.int 2 t16)] n14c,sl14c⟩)
  (lc17:K.lookup f17c=some ⟨.type "tuple",none,.seq #[] n17c,sl17c⟩)
  (lc18:K.lookup f18c=some ⟨.type "tuple",none,.seq #[] n18c,sl18c⟩)
  (lc19:K.lookup f19c=some ⟨.type "tuple",none,.seq #[] n19c,sl19c⟩)
  (lc20:K.lookup f20c=some ⟨.type "tuple",none,.seq #[(.int 1 t21)] n20c,sl20c⟩)
  (lc22:K.lookup f22c=some ⟨.type "tuple",none,.seq #[(.int 1 t23)] n22c,sl22c⟩)
  (lc24:K.lookup f24c=some ⟨.type "tuple",none,.seq #[(.int 2 t25)] n24c,sl24c⟩)
  (dINNER_PLACES:(fINNER_PLACES == MT)=false)
  (dLETTER_PLACES:(fLETTER_PLACES == MT)=false):
  ∃fd:K7,(∀(s:Kh) (v:Kg),R3 s fd ⟨[v],[]⟩ [("_law_script",v)])/\∀base:L7,K.In base->base.Ns KW mg->gA l.prog w K mg base jx 63 fa fd ["_law_script"] (kU K 1 K12.pK):=by
 have e:=JG.symm.trans (M7 X G a28);cases e;obtain ⟨f3,d3,a3,F3⟩:=e3;obtain ⟨f7,d7,a7,F7⟩:=e7;obtain ⟨f22,d22,a22,F22⟩:=e22;obtain ⟨f24,d24,a24,F24⟩:=e24;have F28:=yQ (st:=kG) l28 c28 k28;have m:dY w K mg:=⟨Lk X G z0,
   Lk X G z1,
   Lk X G z2,
   Lk X G z3,
   Lk X G z4,
   Lk X G z5,
   Lk X G z6,
   Lk X G z7,
   Lk X G z8,
   Lk X G z9,
   Lk X G z10,
   Lk X G z11,
   ⟨_,(.ref f1c),M7 X G gBINDERS,rfl,λ_=>(.tup (vs:=[(L2.V.str "some"),(L2.V.str "every"),(L2.V.str "least")]) (.inr ⟨_,_,n1c,lc1,rfl,rfl,rfl,(by show 3<=sizeLine;decide),.cons ⟨_,rfl⟩ (.cons ⟨_,rfl⟩ (.cons ⟨_,rfl⟩ (.nil)))⟩) (.cons (.str _) (.cons (.str _) (.cons (.str _) (.nil)))))⟩,
   sR [("not",ktINNER_PLACES0,(.int 1 t5)),("some",ktINNER_PLACES1,(.int 2 t6)),("every",ktINNER_PLACES2,(.int 2 t7)),("least",ktINNER_PLACES3,(.int 3 t8))] X G gINNER_PLACES lINNER_PLACES (show (["not","some","every","least"]:List Str).Nodup by decide +kernel) dINNER_PLACES (.cons (v:=(.int 1)) ⟨_,rfl⟩ (λ_=>(.int _)) (.cons (v:=(.int 2)) ⟨_,rfl⟩ (λ_=>(.int _)) (.cons (v:=(.int 2)) ⟨_,rfl⟩ (λ_=>(.int _)) (.cons (v:=(.int 3)) ⟨_,rfl⟩ (λ_=>(.int _)) (.nil))))),
   sR [("mark",ktLETTER_PLACES0,(.ref f9c)),("arrow",ktLETTER_PLACES1,(.ref f11c)),("same",ktLETTER_PLACES2,(.ref f14c)),("not",ktLETTER_PLACES3,(.ref f17c)),("and",ktLETTER_PLACES4,(.ref f18c)),("or",ktLETTER_PLACES5,(.ref f19c)),("some",ktLETTER_PLACES6,(.ref f20c)),("every",ktLETTER_PLACES7,(.ref f22c)),("least",ktLETTER_PLACES8,(.ref f24c))] X G gLETTER_PLACES lLETTER_PLACES (show (["mark","arrow","same","not","and","or","some","every","least"]:List Str).Nodup by decide +kernel) dLETTER_PLACES (.cons (v:=(.ref f9c)) rfl (λ_=>(.tup (vs:=[(L2.V.int 2)]) (.inr ⟨_,_,n9c,lc9,rfl,rfl,rfl,(by show 1<=sizeLine;decide),.cons ⟨_,rfl⟩ (.nil)⟩) (.cons (.int _) (.nil)))) (.cons (v:=(.ref f11c)) rfl (λ_=>(.tup (vs:=[(L2.V.int 2),(L2.V.int 3)]) (.inr ⟨_,_,n11c,lc11,rfl,rfl,rfl,(by show 2<=sizeLine;decide),.cons ⟨_,rfl⟩ (.cons ⟨_,rfl⟩ (.nil))⟩) (.cons (.int _) (.cons (.int _) (.nil))))) (.cons (v:=(.ref f14c)) rfl (λ_=>(.tup (vs:=[(L2.V.int 1),(L2.V.int 2)]) (.inr ⟨_,_,n14c,lc14,rfl,rfl,rfl,(by show 2<=sizeLine;decide),.cons ⟨_,rfl⟩ (.cons ⟨_,rfl⟩ (.nil))⟩) (.cons (.int _) (.cons (.int _) (.nil))))) (.cons (v:=(.ref f17c)) rfl (λ_=>(.tup (vs:=[]) (.inr ⟨_,_,n17c,lc17,rfl,rfl,rfl,(by show 0<=sizeLine;decide),.nil⟩) (.nil))) (.cons (v:=(.ref f18c)) rfl (λ_=>(.tup (vs:=[]) (.inr ⟨_,_,n18c,lc18,rfl,rfl,rfl,(by show 0<=sizeLine;decide),.nil⟩) (.nil))) (.cons (v:=(.ref f19c)) rfl (λ_=>(.tup (vs:=[]) (.inr ⟨_,_,n19c,lc19,rfl,rfl,rfl,(by show 0<=sizeLine;decide),.nil⟩) (.nil))) (.cons (v:=(.ref f20c)) rfl (λ_=>(.tup (vs:=[(L2.V.int 1)]) (.inr ⟨_,_,n20c,lc20,rfl,rfl,rfl,(by show 1<=sizeLine;decide),.cons ⟨_,rfl⟩ (.nil)⟩) (.cons (.int _) (.nil)))) (.cons (v:=(.ref f22c)) rfl (λ_=>(.tup (vs:=[(L2.V.int 1)]) (.inr ⟨_,_,n22c,lc22,rfl,rfl,rfl,(by show 1<=sizeLine;decide),.cons ⟨_,rfl⟩ (.nil)⟩) (.cons (.int _) (.nil)))) (.cons (v:=(.ref f24c)) rfl (λ_=>(.tup (vs:=[(L2.V.int 2)]) (.inr ⟨_,_,n24c,lc24,rfl,rfl,rfl,(by show 1<=sizeLine;decide),.cons ⟨_,rfl⟩ (.nil)⟩) (.cons (.int _) (.nil)))) (.nil))))))))))⟩
 refine ⟨LR "law" "law" (dO kG) (bQ kG) (aT kG) .none v28 d28 p28 n28 q28 r28,λs v=>.of_eq rfl,λbase _ _=>?_⟩;have C0:=rE (P:=l.prog) (base:=base) m (cL X G e0);have C1:=yz (P:=l.prog) (base:=base) m (cL X G e1);have C2:=uP (P:=l.prog) (base:=base) m C1 (cL X G e2);have C3:=jg (P:=l.prog) (base:=base) m C1 F3 (M7 X G a3) 60;have C4:=uL (P:=l.prog) (base:=base) m C3 (cL X G e4);have C5:=rG (P:=l.prog) (base:=base) m C2 C0 (cL X G e5);have C6:=sJ (P:=l.prog) (base:=base) m C0 (cL X G e6);have C7:=om (P:=l.prog) (base:=base) m C1 C6 F7 (M7 X G a7) 60;have C8:=uM (P:=l.prog) (base:=base) m C2 (cL X G e8);have C9:=sL (P:=l.prog) (base:=base) m (cL X G e9);have C10:=yy (P:=l.prog) (base:=base) m C2 C9 (cL X G e10);have C11:=sH (P:=l.prog) (base:=base) m (cL X G e11);have C12:=rB (P:=l.prog) (base:=base) m (cL X G e12);have C13:=pP (P:=l.prog) (base:=base) m C12 (cL X G e13);have C14:=oi (P:=l.prog) (base:=base) m (cL X G e14);have C15:=sI (P:=l.prog) (base:=base) m (cL X G e15);have C16:=oj (P:=l.prog) (base:=base) m (cL X G e16);have C17:=pN (P:=l.prog) (base:=base) m (cL X G e17);have C18:=rA (P:=l.prog) (base:=base) m C15 C17 C16 (cL X G e18);have C19:=pQ (P:=l.prog) (base:=base) m (cL X G e19);have C20:=rq (P:=l.prog) (base:=base) m (cL X G e20);have C21:=uJ (P:=l.prog) (base:=base) m C19 (cL X G e21);have C22:=lq (P:=l.prog) (base:=base) m C19 C20 F22 (M7 X G a22) 60;have C23:=uK (P:=l.prog) (base:=base) m (cL X G e23);have C24:=ly (P:=l.prog) (base:=base) m C23 C20 C19 F24 (M7 X G a24) 60;have C25:=pO (P:=l.prog) (base:=base) m (cL X G e25);have C26:=rC (P:=l.prog) (base:=base) m (cL X G e26);have C27:=jV (P:=l.prog) (base:=base) m (cL X G e27);exact FW m C11 C13 C14 C18 C21 C23 C20 C4 C22 C5 C7 C25 C24 C27 C10 C26 C8 F28
theorem Dc (K:Ke) (H:Hp) (a:KJ) (ns:List Int) (hl:ns.length<=63) (hO:wJ H) (hS:bV K H a (ns.map V.int)):kU K 1 K12.pK [.ref a] H (λv _=>v=.bl true) λ_ _ _=>False:=by
 refine ⟨λ_=>none,[.bor (ns.map D.int)],λ_ _ z=>(by cases z),rfl,⟨_,[],rfl,⟨a,_,rfl,hS,?_⟩,rfl⟩,?_⟩
 ·exact K01.qO ns
 ·rw [Cq ns hl];intro v J H2 _ r;cases r;rfl
theorem walk {l:P_}{q:KL}{loose:List Str}{XP:(Str->Option Kg)->L7->Prop}{YP:K5->L7->Prop}{d:DefRec}{K:Um->Ke}(hn:l.most=some 63) (hdf:d.params.defaults=[])
  (hY:∀(w:K5) (h:L7),YP w h->(K w.params).In h)
  (F:∀(w:K5) (mg:Str->Option Kg) (fa:KJ) (h:L7),(K w.params).In h->h.Ns KW mg->mg d.name=some (.ref fa)->
   ∃fd:K7,(∀(s:Kh) (u:Kg),R3 s fd ⟨[u],[]⟩ [("_law_script",u)])/\∀base:L7,(K w.params).In base->base.Ns KW mg->gA l.prog w (K w.params) mg base jx 63 fa fd ["_law_script"] (kU (K w.params) 1 K12.pK)):
  S9 q loose XP YP l.row.toRowW d [] (λf vs=>SH f vs):=
 L2.Dq (n:=63) (k:=63) (x:="_law_script") (CX:=λ_=>jx) (sp:=λw=>kU (K w.params) 1 K12.pK) hn (by decide) hdf ⟨rfl,by decide,by decide⟩ hY F (λw H a ns hl hO hS=>Dc _ H a ns hl hO hS) λ_ _ _ _ _ z=>z
end K12
open PySem PySem.W PyProof.Rows
set_option maxRecDepth 100000 in
set_option maxHeartbeats 0 in
theorem PySem.Challenge.cw_pickalike_k12_depths_and_letters_holds : PySem.Challenge.rw_pickalike_k12_depths_and_letters.Holds := by
 refine holds_law K12.look λsaid=>?_;refine holds_open (q:=K12.VW) (XP:=XL K12.VW []) (YP:=Hook.says K12.HK) K12.left (Hook.of K12.HK) (Hook.keeps K12.HK) (λs e=>xl_of s (QK.mp e).1) XL.keeps (by rfl) (by rfl) (by rfl) (λs e=>recFacts_of (QK.mp e).2) (by rfl) said (by decide +kernel) ⟨rfl,rfl,rfl,rfl,rfl,by decide +kernel⟩ ?hw ?hc
 (case hw=>w_witness2)
 delta K12.HK
 k_fill
 refine K12.walk (l:=Ld) rfl rfl (K:=K12.KF) (λw h Y=>PySem.W.kIn_of Y) ?F
 case F=>
  intro w mg fa h KX G hmg;refine' K12.all_mk KX G hmg ..
  all_goals try first | k_is | (refine' DL.FI ?a ?l ?c ?k;case a | l | c | k=>k_is) | rfl | (refine' DL.Gp ?a ?l ?c ?k;case a | l | c | k=>k_is) | (refine' DL.FN ?y0 ?y1 ?y2 ?y3 ?y4 ?y5;(case y0=>k_is);(case y1=>k_is);(case y2 | y3=>rfl);case y4 | y5=>k_is)
  all_goals decide
