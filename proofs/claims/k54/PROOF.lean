import PyProof.Rows.All
import Wide.All
import OpenK.AllK
import Wide.FinOn
import Lean
import PyProof.EqAt
import PyProof.EqKinds
import PyProof.TupleCall
import KE.KIsAll
import PyProof.ExcAttrAll.ValueError
import PyProof.NeKinds
import PyProof.InstStoreFacts
import KE.KUnpackStar
import KE.KSortTup
import PyProof.EnumFor
import PyProof.EnumStmt
import PyProof.ListRange
import PyProof.TupleKey
import PyProof.SetKind
import PyProof.Rows.SetFrom
import PyProof.SetRoads
import PyProof.CollectWalk
import PyProof.WalksMore
import PyProof.Rows.SortWalk
import PyProof.DictKinds
import PyProof.DictCompW
import PyProof.DictRoadsH
import PyProof.DictWalks
import PySem.Challenge.RW_pickalike_k54_whole_kinds_and_layers
noncomputable section
open And renaming intro->YV
open Array renaming length_toList->Sa,getElem?_eq_some_iff->Tn,getElem?_toList->TH,getD->Ux,getElem?_eq_getElem->Vi,mem_toList_iff->V1,forIn_toList->Ws,getD_eq_getD_getElem?->Xj,toList->YI,size_append->Z5,toList_push->aac
open Array.Perm renaming mem_iff->U_,refl->acW
open Bool renaming and_eq_true->R8,false_eq_true->Sk,false_ne_true->SN,eq_iff_iff->S8,not_true->UR,or_eq_true->Vq,true_and->VB,and_false->VF,not_false->WK,and_eq_true_iff->Zd,or_false->abF,and_self->abH,false_or->abM
open Classical renaming byContradiction->UE,propDecidable->abU
open False renaming elim->VR
open ForInStep renaming yield->U0
open Function renaming comp_def->X8
open Iff renaming rfl->acZ
open Int renaming toNat_natCast->Uv,emod_lt_of_pos->Vb,emod_nonneg->VO
open List renaming mem_cons_of_mem->R0,mem_cons_self->R1,length_map->R3,mem_map->R4,range->R7,mem_singleton->R9,size_toArray->Sf,getElem?_eq_getElem->Sg,mem_cons->Sh,map_cons->Sj,mem_range->Sq,getElem?_map->Ss,map_map->Sw,length_append->Sy,mem_append->Sz,map_append->SA,getElem?_eq_some_iff->SI,all_eq_true->SQ,mem_filter->SY,getElem?_set_ne->S0,mem_append_right->S5,getD_eq_getElem?_getD->S9,pairwise_map->S_,not_mem_nil->Tf,idxOf_lt_length_of_mem->Ti,length_cons->Tq,replicate->Tu,length_filter_le->TJ,getElem?_append_right->TR,mem_of_getElem?->TV,getElem?_set_self->TX,pairwise_iff_getElem->TY,lookup_cons->T6,getElem_mem->T7,eq_nil_or_concat->T_,concat_eq_append->Ua,pairwise_cons->Uk,zip_cons_cons->Ul,pairwise_singleton->Um,pairwise_append->Uq,length_range->Uz,map_congr_left->UA,getElem?_append_left->UD,nodup_cons->UG,length_replicate->UH,length_take->UM,any_eq_true->UN,mem_append_left->UP,mem_iff_getElem->UQ,length_eq_zero_iff->UU,append_nil->UZ,nodup_range->U7,nodup_nil->Vg,getLast?_eq_none_iff->Vh,getLast?_concat->Vk,of_mem_zip->Vo,length_nil->Vs,eraseIdx_eq_take_drop_succ->Vt,all_cons->Vy,replicate_succ->Vz,length_drop->VD,pairwise_lt_range->VH,getElem_idxOf->VI,foldl_cons->VL,take_append_drop->VP,append_assoc->VY,drop_eq_getElem_cons->V5,ext_getElem->V9,length->V_,getElem?_range->Wc,mem_filterMap->Wi,getElem?_replicate->Wk,range_succ_eq_map->Wz,getElem_cons_drop->WB,nodup_append->WH,map_nil->WQ,singleton_append->WR,eq_nil_of_length_eq_zero->WU,take_length->WX,mem_flatMap->W0,map_flatMap->W2,mem_of_mem_take->W5,any_cons->W8,map_take->W9,map_drop->W_,filterMap_cons->Xc,range_succ->Xk,filter_eq_self->Xo,perm_ext_iff_of_nodup->Xr,zip_nil_right->Xu,any_map->Xv,map_inj_right->Xx,take_succ->XA,getElem?_zip_eq_some->XH,getElem_append_left->XZ,filter_cons_of_pos->Yj,filter_cons_of_neg->Yk,pairwise_filterMap->Yl,getElem_inj->Yp,getElem_map->Yu,perm_middle->Yv,drop_eq_nil_of_le->Yz,take_of_length_le->YC,length_singleton->YK,all_map->YM,mem_iff_getElem?->YQ,getD->YU,pairwise_flatMap->YX,dropLast_concat->Y_,length_eraseIdx->Zb,mem_of_mem_drop->Zc,drop_zero->Zg,getD_cons_zero->Zo,filterMap_map->ZA,contains_cons->ZG,map_singleton->ZL,find?_eq_none->ZN,take_sublist->ZX,eraseIdx_nil->Z7,foldl_append->Z_,getElem_drop->aaa,idxOf_append->aab,filter_congr->aag,le_antisymm->aas,filter_map->aa1,length_zip->aa2,filterMap->abb,lookup->acv,map->acI
open List.Nodup renaming length_le_of_subset->SS
open List.Pairwise renaming nil->UW,and_mem->Vc,imp->WE,filter->Za,of_map->acf,and->acP,map->acQ
open List.Perm renaming of_eq->aaR,append_left->ab8
open List.cons renaming injEq->T3,inj->ac3
open Nat renaming le_refl->R6,ne_of_lt->Sv,lt_of_lt_of_le->Sx,zero_le->SG,le_trans->SJ,not_lt_zero->Tr,le_succ->Uj,lt_succ_of_lt->Uy,lt_irrefl->UB,lt_succ_self->U5,pow_le_pow_right->Vl,le_of_succ_le->Vr,ne_of_gt->VJ,lt_trans->VM,lt_trichotomy->VU,mul_le_mul_right->V2,le_add_right->V8,le_of_lt_succ->WG,mul_le_mul->WJ,mod_lt->XY,div_div_eq_div_mul->YB,le_of_lt->YG,pow_succ->YN,zero_add->YO,lt_of_le_of_lt->ZK,lt_or_eq_of_le->ZM,div_add_mod->aaP,min_eq_left->aaV,add_mul->aaY,add_assoc->abO,le_of_eq->ab2,not_lt->acO
open Ne renaming symm->UX
open Option renaming isSome_iff_exists->TF,bind_some->Ys,getD_none->aaq,map_some->aaG,none->acu
open Option.some renaming inj->Tp,injEq->Uw
open Or renaming inr->Vu,inl->WA
open Prod renaming fst->TQ,ext->ac1,snd->ac4
open PyProof.Rows renaming slot_tuple_getitem->Th,seqObj->Uu,IntsAre->Wa,subscriptTail_builtinR->Wx,callWith_type1->Xe,entry_list_sort->Xi,slot_list_sort->Xy,args_list_sort->Xz,envOfC->XQ,AllBare->Yb,listUpdate_at->Yi,entry_tuple_getitem->Zl,seqEpoch_at->Zq,args_tuple_getitem->ZC,sortedAll->ZI,sortedAll_old->ZJ,callWith_builtin1->aah,sortedAll_at->aaj,plain_sorted->aal,entry_sorted->aam,args_sorted1->aan,get?_update_seq->aaK,list_sort_plain->aaL,kind_sorted->aaM,slicePart_none->aa6,keyLt'_oneType->aba,sortedHeap->abu,tupleItemsOf_->abC,subscriptTail->abE,SortKind->abJ,keyKind'->abK,oneType'->abN,sortedHeap_at->abR,IsTup->abX,oneLt_int->ab7,lt_int->acz,lt_str->acA,tuples'->acB,le_int->acE
open PyProof.Rows.F renaming plain_set_update_loop->SK,entry_set_update_loop->TZ
open PyProof.Rows.IsTup renaming new->ab0
open PySem renaming wpAny_bind->RU,Value->RX,wpAny_pure->RY,Shared->RZ,starEach->R_,Addr->Se,foldedSetIterable->Sl,Program->Sm,wpAny->So,model->Su,wpAny_holding->SD,mainGlobals->SE,FuncData->SH,Expr->SM,World->SO,Around->SW,wpAny_newObj_type->SX,sizeLine_eq->S4,wpAny_call_entry->S6,wpAny_mono->Tc,cellsFrom->Td,SetTable->Te,assignEach->Tg,bootBuiltins->Tj,wpAny_truthy_bool->Tt,behindInMarks->TN,Heap->TU,wpAny_standAt->T5,wpAny_setState_of->Ub,compareOp->Ug,cLine->Uh,wpAny_callSpecial?_slot->Ui,backTo->Us,NameKind->UC,codeAny_builtin->UJ,wpAny_typeNameOfWhole_keyiter->UO,letOwnedTupleGo->UY,wpAny_loadPart'->U1,Scope->U3,codeAny->U4,wpAny_forIn_list->U6,wpAny_askSetting->U8,codeAny_mono->U9,Stmt->Vj,wpAny_passesOwn->Vn,standAt->Vv,swapsWithSole->Vw,mem_of_lookup->Vx,swapsWith->VC,sysModules->VE,wpAny_specialOf->VN,binaryOp->VS,plainId_quiet->VX,hashInt->V0,Builtin->Wb,wpAny_of_eq->We,wpAny_Call_Name_kw->Wj,wpAny_attempt->Wm,wpAny_newList->Wq,mem_of_lookup->Wr,codeAny_of_tree->Wu,pyNext->Wv,sliceBounds->WC,wpAny_storeSet_of->WI,compTurn->WM,wpAny_typeOf->WO,builtinLookup_eq_fast->WS,wpAny_isInstance->WY,codeAny_call_builtin->W4,swappedStores->W6,attributeBase->W7,wpAny_execs_nil->Xd,wpAny_updateSeq->Xh,wpAny_setEntries_of->Xl,wpAny_pyIter_tuple->Xs,wpAny_setField_rec->Xw,isSubtype_type->XC,wpAny_fieldsOf->XD,firstArgMember->XG,Paired->XI,inplaceOp->XM,pyIter->XN,wpAny_pyIter_list->XR,wpAny_rule->XS,searchCouldBeSeen->X0,wpAny_pyIter_slot->X4,arm_evalThenUse_ListComp->X6,wpAny_dictEntries->X_,keywordEach->Yd,Keyword->Ye,Comprehension->Ym,wpAny_pyHash_int->Yo,noFill_tuple_add->Yq,checkBuiltinCall->Yr,richCompare_meets_room->YA,codeAny_compStart_list->YE,codeAny_compStart_dict->YF,wpAny_isTrue_Compare1->YH,setAddHashed->YR,typeLookup_type->YS,weight_type_call_type->YT,arm_exec_Assign->YW,wpAny_dictEpoch->YZ,wpAny_isOneOf_keyiter->Y0,bindArgs->Y3,wpAny_call->Y4,wpAny_loadName_local->Y6,isTrue->Ze,wpAny_seqItems->Zh,wpAny_runValue->Zi,wpAny_bindName->Zj,wpAny_loadName_cell->Zk,GenState->Zu,Operator->Zv,seq_tuple_add->Zy,IsPart->Zz,seqIndex?->ZD,DictEntry->ZF,compPost->ZR,slot_dict_contains->ZS,intKind->ZW,getItem->ZY,wpAny_sequenceKey->ZZ,slot_list_getitem->Z0,call_meets->Z1,callerA->Z2,ofAClassStatement->aad,concat_meets->aai,wpAny_execs_cons->aap,check_set_init_1->aav,backToKw->aay,PassesOwn->aaA,Result->aaB,BindsTo->aaC,wpAny_field->aaD,pushCells->aaN,pushCells_keeps->aaO,pickOrder->aaS,noteFrame->aaW,theTreesLotGoes->aaX,compStart->aaZ,theWindowsPlace->aa0,recursionLimit->aa5,wpAny_newTuple->aa9,newFunctionEnv->aa_,setAddHashedIn->abe,entryFor_alias->abf,isSubtype_stop->abg,wpAny_setField->abi,entryOfKey->abj,builtinsNs->abk,wpAny_Name->abl,rawInt->abm,call->abo,isInstance->abq,reduceHash->abr,checkCount->abv,setsByText->abw,intKind_is->aby,rangeSize_one->abA,intBits_le_64->abB,evalPart_none->abD,setSearchFrom->abP,wpAny_handled->abQ,wpAny_notedAt->abS,eval_ListComp->abT,atKey->abV,storeName->abY,CmpOp->abZ,Params->ab1,seqItems?->ab5,Model->acg,bindL->aci,bindC->acj,newList->acy,CellsOk->acC,entryFor->acJ,bindName->acK,Fin->acX
open PySem.Around renaming under_plainId->Ur,under_plain->ZQ
open PySem.AutoSeq1 renaming sub_tuple_tuple->Wg
open PySem.Builtin.Dict renaming showsAll->YY,dictSlotNone->abh
open PySem.Builtin.Dict_items renaming ownsTuple->Xb
open PySem.Builtin.Frozenset renaming updateFrom->Xa,sizeOf->X5,newClass->aa4
open PySem.Builtin.List renaming listTooLong->UL,listLengthHint->Xm,listExtendWith->Xn,listSameRef->abx
open PySem.Builtin.Range renaming rangeSize->Yc
open PySem.Builtin.Slice renaming slicePlaces->Ve,sliceAdjust->V3,sliceApplied->Xq,slicePartIndex->aax,sliceFields->aa7
open PySem.Builtin.Str renaming occurrences->Yh,tooLong->Zn
open PySem.Builtin.Tuple renaming tupleHashOf->Tv,tupleExact->Vp,tupleItemsOf->VZ,tupleCompareSizes->WD,tupleIsExact->aa3
open PySem.Calls renaming call_function_entry->V6,Name_function_global->Xp
open PySem.CmpOp renaming NotIn->ach,In->ac0
open PySem.Code renaming quiet_builtin->ZP
open PySem.Env renaming kindOf->acM
open PySem.Expr renaming Call->acY
open PySem.F renaming called_set->TL,slot_dict_keyiterator_next->Ue,plainAttrs_list->VA,slot_tuple_hash->VV,args_tuple_add_2->Wf,entry_tuple_add->Wl,slot_tuple_add->Ww,args_dict_keyiterator_next_1->WT,entry_dict_keyiterator_next->W3,attrBase_ValueError->Xg,slot_list_append->XU,type_list_append->XX,typeCall_set_1->YD,args_list_extend_2->Y7,entry_list_extend->Zm,slot_list_extend->ZE,plain_list_iadd->aae,entry_type_call->aaf,entry_set_init->aau,slot_dict_iter->aaw,slot_set_iter->aaT,plain_set_new->aaU
open PySem.Heap renaming get?_push_of_some->R5,get?_push_size->Sd,lt_size->Si,SameBut->Tw,get?_update_self->Uc,size_push->VG,get?_update_other->Wy,size_update->Yt,get?_update_ne->Zp,get?_push_ne->Z9,ExtBut->acD
open PySem.Heap.IsList renaming push->aat
open PySem.Heap.IsSliceOf renaming new->acF
open PySem.Heap.SameBut renaming update->T8,refl->X7
open PySem.IsL renaming update->acR
open PySem.Moved renaming trans->Zr
open PySem.NameKind renaming free->Tz,cell->Wo
open PySem.Obj renaming mapSeq->T9,putSet->X3,data_mapFields->ZT,mapFields->abW
open PySem.Paired renaming length->abz
open PySem.PassesOwn renaming leaving->Z8,never->aaH
open PySem.SeqAt renaming EqAt->UK,ne_of_list_tuple->Yy
open PySem.SeqAt.EqAt renaming same->YJ,int_str->Zs,str_int->Zt,int_int->Zx,of_refs->ZH,tuple_list->ab3,list_tuple->ab4,none_bool->ab9,bool_none->ab_,bool_bool->acd,none_int->ack,none_str->acm,bool_int->acn,bool_str->aco,int_none->acp,int_bool->acq,str_none->acr,str_bool->acs,str_str->acG
open PySem.SeqAt.RcAt renaming tuples->Z4,lists->aar,lists_lengths->abt
open PySem.SeqAt.RcNeAt renaming tuples->acw,lists->acH
open PySem.SetTable renaming insertAt->Ud,sizeAbove->Uo,below->V7,grown->WL,tooFull->WZ,advance->Yw,fill->ZO,runEnd->aaQ,turns->abd
open PySem.Shared renaming TypeIs->Wt
open PySem.Str renaming ofString->WN,length->abn
open PySem.Value renaming none->S3,bool->Vm,type->VQ,ref->Wh,builtin->Yg,notImplemented->Y9,int->aaz,str->acU
open PySem.Value.ref renaming inj->ac2
open PySem.W renaming Frag->RV,fnOf->Sb,mg_of->Sn,nsIn->SV,mg_none_of->S7,keepIn->TM,kia_one->UI,kas_desc->US,kas_sort->UT,kas_place->Va,codeIn->Vd,findIn->Vf,mroIn->VT,InstAt->V4,clsIn->Wn,kas_rev->WV,kas_asc->WW,findObj->Xf,methodObj->XJ,cellsFrom_some->Yx,OpenLaw->YL,looks_findIn->Y8,kitOne->Zf,callWith_K->Zw,specialIn->Z3,kitx_dict->Z6,kas_descPart->aak,takesIn->aaE,kitMeta->aaF,kas_count->aaJ,notCls->aa8,WalkO->abG,kas_bin->abI,kat_cons->abL,kas_tail3->ab6
open PySem.W.Hook renaming obs->acS,val->acT
open PySem.W.OpenLaw renaming wellSaid->abp
open PySem.W.RowW renaming records->ace
open PySem.W.WData renaming int->acV
open PySem.W.WShape renaming has->acL
open PySem.Walks renaming tuple->aaI,list->acN
open PySem.pickOrder renaming go->aao
open Subtype renaming ext->Yn
open Sum renaming inl->ZU,inr->ZV
open True renaming intro->Y5
set_option Elab.async false
set_option linter.all false
set_option maxRecDepth 100000
namespace L2
open PySem PySem.Spec PyProof.Rows
abbrev Key:=Sum Int Str
noncomputable def HX:Key->RX->Bool
 | .inl k,v=>Value.isInt k v
 | .inr x,v=>Value.isStrOf x v
noncomputable def OG (w:SO):Key->Int
 | .inl k=>V0 k
 | .inr x=>hashStr w x
theorem dO:∀{k:Key}{v:RX},HX k v=true->(∃i t,k=ZU i/\v=aaz i t)\/(∃x t,k=ZV x/\v=acU x t)
 | .inl i,v,h=>by
  obtain ⟨t,e⟩:=Value.isInt_shape (k:=i) (v:=v) h
  exact .inl ⟨i,t,rfl,e⟩
 | .inr x,v,h=>by
  obtain ⟨t,e⟩:=Value.isStrOf_shape (x:=x) (v:=v) h
  exact .inr ⟨x,t,rfl,e⟩
theorem LJ (a b:Int):decide ((ZU a:Key)=ZU b)=(a == b):=by
 by_cases e:a=b
 ·subst e;simp
 ·have h:¬(ZU a:Key)=ZU b:=λq=>e (Sum.inl.inj q)
  rw [decide_eq_false h]
  exact (beq_eq_false_iff_ne.mpr e).symm
theorem LM (a b:Str):decide ((ZV a:Key)=ZV b)=decide (a=b):=by
 by_cases e:a=b
 ·subst e;simp
 ·have h:¬(ZV a:Key)=ZV b:=λq=>e (Sum.inr.inj q)
  rw [decide_eq_false h,decide_eq_false e]
theorem LK (a:Int) (b:Str):decide ((ZU a:Key)=ZV b)=false:=decide_eq_false (λq=>nomatch q)
theorem LL (a:Str) (b:Int):decide ((ZV a:Key)=ZU b)=false:=decide_eq_false (λq=>nomatch q)
noncomputable def uS (prog:Sm) (w:SO):PySem.KeyKind prog w Key where
 is:=HX
 hash:=OG w
 inj:=λv a b ha hb=>by
  rcases dO ha with ⟨i,t,rfl,rfl⟩ | ⟨x,t,rfl,rfl⟩
  ·rcases dO hb with ⟨j,u,rfl,e⟩ | ⟨y,u,rfl,e⟩
   ·injection e with e1 _;rw [e1]
   ·exact nomatch e
  ·rcases dO hb with ⟨j,u,rfl,e⟩ | ⟨y,u,rfl,e⟩
   ·exact nomatch e
   ·injection e with e1 _;rw [e1]
 byValue:=λk v h=>by
  rcases dO h with ⟨i,t,rfl,rfl⟩ | ⟨x,t,rfl,rfl⟩ <;> rfl
 pyHash:=λhv h=>by
  rcases dO hv with ⟨i,t,rfl,rfl⟩ | ⟨x,t,rfl,rfl⟩
  ·exact Yo h
  ·exact wpAny_pyHash_str h
 eqBool:=λhu hv h=>by
  rcases dO hu with ⟨i,t,rfl,rfl⟩ | ⟨x,t,rfl,rfl⟩
  ·rcases dO hv with ⟨j,u,rfl,rfl⟩ | ⟨y,u,rfl,rfl⟩
   ·rw [LJ] at h;exact wpAny_eqBool_int h
   ·rw [LK] at h;exact Zs i t y u _ _ _ _ h
  ·rcases dO hv with ⟨j,u,rfl,rfl⟩ | ⟨y,u,rfl,rfl⟩
   ·rw [LL] at h;exact Zt x t j u _ _ _ _ h
   ·rw [LM] at h;exact wpAny_eqBool_str h
 «strs»:=λk x t v h=>by
  rcases dO h with ⟨i,u,rfl,e⟩ | ⟨y,u,rfl,e⟩
  ·exact nomatch e
  ·injection e with e1 _
   subst e1
   cases v <;> rfl
inductive V where
 | non | bl (b:Bool) | int (i:Int) | str (x:Str) | byt (b:Array UInt8) | flt (b:UInt64) | ref (a:Se) | ty (n:String)
 deriving DecidableEq
noncomputable def RelV:V->RX->Prop
 | .non,u=>u=S3
 | .bl b,u=>u=Vm b
 | .int i,u=>∃t,u=aaz i t
 | .str x,u=>∃t,u=acU x t
 | .byt b,u=>∃t,u=Value.bytes b t
 | .flt b,u=>∃t,u=Value.float b t
 | .ref a,u=>u=Wh a
 | .ty n,u=>u=VQ n
abbrev Vals:List V->List RX->Prop:=XI RelV
theorem Vals.length {xs:List V}{us:List RX}(r:Vals xs us):xs.length=us.length:=abz r
theorem Vals.get:∀{xs:List V}{us:List RX}{i:Nat}{x:V},Vals xs us->xs[i]?=some x->∃u,us[i]?=some u/\RelV x u
 | _,_,_,_,.nil,e=>by simp at e
 | _,_,0,_,.cons r _,e=>by simp at e;subst e;exact ⟨_,rfl,r⟩
 | _,_,i + 1,x,.cons _ t,e=>by
  obtain ⟨u,h1,h2⟩:=Vals.get (i:=i) (x:=x) t (by simpa using e)
  exact ⟨u,by simpa using h1,h2⟩
theorem Vals.set {x:V}{u:RX}(r:RelV x u):∀{xs:List V}{us:List RX}(i:Nat),Vals xs us->Vals (xs.set i x) (us.set i u)
 | _,_,_,.nil=>.nil
 | _,_,0,.cons _ t=>.cons r t
 | _,_,i + 1,.cons q t=>.cons q (Vals.set r i t)
theorem Vals.append:∀{xs ys:List V}{us ws:List RX},Vals xs us->Vals ys ws->Vals (xs++ys) (us++ws)
 | _,_,_,_,.nil,s=>s
 | _,_,_,_,.cons r t,s=>.cons r (Vals.append t s)
theorem Vals.take:∀{xs:List V}{us:List RX}(n:Nat),Vals xs us->Vals (xs.take n) (us.take n)
 | _,_,0,_=>.nil
 | _,_,_ + 1,.nil=>.nil
 | _,_,n + 1,.cons r t=>.cons r (Vals.take n t)
theorem Vals.drop:∀{xs:List V}{us:List RX}(n:Nat),Vals xs us->Vals (xs.drop n) (us.drop n)
 | _,_,0,r=>r
 | _,_,_ + 1,.nil=>.nil
 | _,_,n + 1,.cons _ t=>Vals.drop n t
noncomputable def K3:Option V->Option RX->Prop
 | some v,some u=>RelV v u
 | none,none=>True
 | _,_=>False
def KV {κ:Type}:List (κ×V)->List (κ×RX)->Prop:=XI λ(p:κ×V) (q:κ×RX)=>p.1=q.1/\RelV p.2 q.2
noncomputable def kV:Key->V
 | .inl i=>.int i
 | .inr x=>.str x
inductive HO where
  | lst (xs:List V)
  | tup (xs:List V)
  | dK (RS:List (Key×V)) | dT (RS:List (List Key×V))
  | set (S:Int->Bool) (n:Nat)
  | ins (C dx:Se) (fs:List (Str×V))
  | own (x:Se)
  | xd (fs:List (Str×V))
  | met (f x:Se)
  | rng (lo hi:Int)
  | frz (o:Obj) (u:HO)
  | tbl (ps:Array RX)
  | ext (φ:TU->Prop)
abbrev Hp:=Se->Option HO
def upd (H:Hp) (a:Se) (o:HO):Hp:=λb=>if b=a then some o else H b
theorem b8 {H:Hp}{a:Se}{o:HO}:upd H a o a=some o:=by unfold upd;rw [if_pos rfl]
theorem bE {H:Hp}{a b:Se}{o:HO}(h:b≠a):upd H a o b=H b:=by unfold upd;rw [if_neg h]
theorem fk {H:Hp}{a b:Se}{o:HO}(h:H a=some o) (h':H b=none):a≠b:=by
 intro e;subst e;rw [h] at h';cases h'
section
variable (P:Sm) (w:SO)
noncomputable def cj (H:Hp) (h:TU) (a:Se):HO->Prop
 | .lst xs=>xs.length<=sizeLine/\∃(RM:List RX) (n:Nat),Vals xs RM/\h.get? a=some {cls:=.type "list",data:=.seq RM.toArray n}
 | .tup xs=>xs.length<=sizeLine/\∃RM:List RX,Vals xs RM/\abX h a RM.toArray
 | .dK RS=>RS.length<=sizeLine/\(a == VE)=false/\∃vs,KV RS vs/\h.DictOf (uS P w) a vs
 | .dT RS=>RS.length<=sizeLine/\(a == VE)=false/\∃xs:List (List Key×Se×RX),
   XI (λ(p:List Key×V) (q:List Key×Se×RX)=>p.1=q.1/\H q.2.1=some (.tup (p.1.map kV))/\RelV p.2 q.2.2) RS xs/\
   ∃o es ep,h.get? a=some o/\o.ExactDict/\o.data=.dict es ep/\es.toList=xs.map (abj (tupleKind (uS P w)))/\(xs.map (·.1)).Nodup
 | .set S n=>h.SetOf (ZW P w) a S n
 | .ins C dx fs=>H dx=some (.own a)/\fs.length<=1000/\dx≠a/\h.get? a=some (W.instObj C dx)/\
   ∃mA,h.Ns1 dx mA/\(∀f,K3 (fs.lookup f) (mA f))/\PySem.Within mA (fs.map (·.1))
 | .own _=>∃o,h.get? a=some o
 | .xd fs=>∃mA,h.Ns1 a mA/\∀f,K3 (fs.lookup f) (mA f)
 | .rng lo hi=>∃t u v,h.get? a=some {cls:=.type "range",data:=.fields #[.int lo t,.int hi u,.int 1 v]}
 | .frz o u=>h.get? a=some o/\cj H h a u
 | .tbl ps=>h.get? a=some {cls:=.none,data:=.fields ps}
 | .met f x=>h.get? a=some (XJ (.ref f) (.ref x))
 | .ext φ=>φ h/\(∃o,h.get? a=some o)/\∀h1 h2:TU,φ h1->(∀o,h1.get? a=some o->h2.get? a=some o)->φ h2
def fO (H:Hp) (h:TU):Prop:=∀a o,H a=some o->cj P w H h a o
end
section
variable {P:Sm}{w:SO}{H H':Hp}{h h':TU}{a:Se}{o:HO}
theorem cj.lt (x:cj P w H h a o):a < h.objs.size:=by
 cases o with
 | lst xs=>obtain ⟨_,_,_,_,e⟩:=x;exact Si e
 | tup xs=>obtain ⟨_,_,_,p⟩:=x;exact p.lt
 | dK RS=>obtain ⟨_,_,_,_,o,_,_,e,_⟩:=x;exact Si e
 | dT RS=>obtain ⟨_,_,_,_,o,_,_,e,_⟩:=x;exact Si e
 | set S n=>obtain ⟨o,_,_,_,e,_⟩:=x;exact Si e
 | ins C dx fs=>obtain ⟨_,_,_,e,_⟩:=x;exact Si e
 | own y=>obtain ⟨_,e⟩:=x;exact Si e
 | xd fs=>obtain ⟨_,⟨_,_,_,e,_⟩,_⟩:=x;exact Si e
 | rng lo hi=>obtain ⟨_,_,_,e⟩:=x;exact Si e
 | frz ob u=>obtain ⟨e,_⟩:=x;exact Si e
 | tbl ps=>exact Si (show h.get? a=some _ from x)
 | met f y=>exact Si (show h.get? a=some _ from x)
 | ext φ=>obtain ⟨_,⟨_,e⟩,_⟩:=x;exact Si e
theorem XI.mapP {α β:Type}{F G:α->β->Prop}:∀{l₁:List α}{l₂:List β},XI F l₁ l₂->(∀a b,F a b->G a b)->XI G l₁ l₂
 | _,_,.nil,_=>.nil
 | _,_,.cons r t,f=>.cons (f _ _ r) (XI.mapP t f)
theorem cj.stay (x:cj P w H h a o) (k:∀b u,(b=a\/H b=some (.own a))->h.get? b=some u->h'.get? b=some u)
  (ho:∀b,H b=some (.own a)->H' b=some (.own a)) (ht:∀b xs,H b=some (.tup xs)->H' b=some (.tup xs)):cj P w H' h' a o:=by
 induction o with
 | lst xs=>obtain ⟨z,RM,n,r,e⟩:=x;exact ⟨z,RM,n,r,k _ _ (.inl rfl) e⟩
 | tup xs=>obtain ⟨z,RM,r,ob,e,c⟩:=x;exact ⟨z,RM,r,ob,k _ _ (.inl rfl) e,c⟩
 | dK RS=>obtain ⟨z,y,vs,r,ob,es,ep,e,c⟩:=x;exact ⟨z,y,vs,r,ob,es,ep,k _ _ (.inl rfl) e,c⟩
 | dT RS=>
  obtain ⟨z,y,xs,r,ob,es,ep,e,c⟩:=x
  exact ⟨z,y,xs,XI.mapP r λp q z=>⟨z.1,ht _ _ z.2.1,z.2.2⟩,ob,es,ep,k _ _ (.inl rfl) e,c⟩
 | set S n=>obtain ⟨ob,es,ep,t,e,c⟩:=x;exact ⟨ob,es,ep,t,k _ _ (.inl rfl) e,c⟩
 | ins C dx fs=>
  obtain ⟨d,z,ne,e,mA,⟨od,es,ep,e2,c⟩,r⟩:=x
  exact ⟨ho _ d,z,ne,k _ _ (.inl rfl) e,mA,⟨od,es,ep,k _ _ (.inr d) e2,c⟩,r⟩
 | own y=>obtain ⟨ob,e⟩:=x;exact ⟨ob,k _ _ (.inl rfl) e⟩
 | xd fs=>obtain ⟨mA,⟨od,es,ep,e,c⟩,r⟩:=x;exact ⟨mA,⟨od,es,ep,k _ _ (.inl rfl) e,c⟩,r⟩
 | rng lo hi=>obtain ⟨t,u,v,e⟩:=x;exact ⟨t,u,v,k _ _ (.inl rfl) e⟩
 | frz ob u ih=>obtain ⟨e,q⟩:=x;exact ⟨k _ _ (.inl rfl) e,ih q⟩
 | tbl ps=>
  have e:h.get? a=some {cls:=.none,data:=.fields ps}:=x
  show h'.get? a=some {cls:=.none,data:=.fields ps}
  exact k a _ (.inl rfl) e
 | met f y=>
  have e:h.get? a=some (XJ (.ref f) (.ref y)):=x
  show h'.get? a=some (XJ (.ref f) (.ref y))
  exact k a _ (.inl rfl) e
 | ext φ=>obtain ⟨p,⟨o,e⟩,st⟩:=x;exact ⟨st _ _ p λo q=>k _ _ (.inl rfl) q,⟨o,k _ _ (.inl rfl) e⟩,st⟩
theorem fO.lt (x:fO P w H h) (e:H a=some o):a < h.objs.size:=(x a o e).lt
theorem fO.fresh (x:fO P w H h) (e:h.objs.size<=a):H a=none:=by
 cases q:H a with
 | none=>rfl
 | some u=>exact absurd (Sx (x.lt q) e) (UB _)
theorem fO.kept (x:fO P w H h) (k:∀b u,h.get? b=some u->h'.get? b=some u):fO P w H h':=λa o e=>
 (x a o e).stay (λb u _ q=>k b u q) (λ_ q=>q) λ_ _ q=>q
theorem fO.laid (x:fO P w H h) (k:∀b u,h.get? b=some u->h'.get? b=some u) (hp:h.objs.size<=a) (new:cj P w (upd H a o) h' a o):fO P w (upd H a o) h':=λb u e=>by
 have hn:=x.fresh hp
 by_cases hb:b=a
 ·subst hb;rw [b8] at e;cases e;exact new
 ·rw [bE hb] at e
  exact (x b u e).stay (λc v _ q=>k c v q) (λc q=>by rw [bE (fk q hn)];exact q) λc xs q=>by rw [bE (fk q hn)];exact q
end
def Rd (H:Hp) (a:Se) (u:HO):Prop:=H a=some u\/∃o,H a=some (.frz o u)
theorem Rd.ok {P:Sm}{w:SO}{H:Hp}{h:TU}{a:Se}{u:HO}(r:Rd H a u) (x:fO P w H h):cj P w H h a u:=by
 rcases r with r | ⟨o,r⟩
 ·exact x a u r
 ·obtain ⟨_,q⟩:=x a _ r
  exact q
noncomputable def HC:Option HO->Prop
 | some (.lst _)=>True
 | some (.dK _)=>True
 | some (.dT _)=>True
 | some (.set _ _)=>True
 | some (.ins _ _ _)=>True
 | some (.ext _)=>True
 | _=>False
section
variable {P:Sm}{w:SO}{H:Hp}{h h':TU}{x e:Se}{o':HO}
theorem fO.write (ok:fO P w H h) (mu:HC (H x)) (he:e=x\/H e=some (.own x)) (k:∀b u,b≠e->h.get? b=some u->h'.get? b=some u) (Qw:∃u,h'.get? e=some u)
  (new:cj P w (upd H x o') h' x o'):fO P w (upd H x o') h':=λb u q=>by
 have nown:∀c y,H c=some (.own y)->c≠x:=λc y r z=>by subst z;rw [r] at mu;exact mu
 have ntup:∀c xs,H c=some (.tup xs)->c≠x:=λc xs r z=>by subst z;rw [r] at mu;exact mu
 by_cases hb:b=x
 ·subst hb;rw [b8] at q;cases q;exact new
 ·rw [bE hb] at q
  by_cases Qs:b=e
  ·have q':H b=some (.own x):=by
    rcases he with z | z
    ·exact absurd (Qs.trans z) hb
    ·rw [Qs];exact z
   rw [q] at q';cases q'
   obtain ⟨v,hv⟩:=Qw
   exact ⟨v,by rw [Qs];exact hv⟩
  ·refine (ok b u q).stay (λc v hc r=>k c v ?_ r) (λc r=>by rw [bE (nown c b r)];exact r) λc xs r=>by rw [bE (ntup c xs r)];exact r
   rcases hc with rfl | hc
   ·exact Qs
   ·rintro rfl
    rcases he with z | z
    ·exact nown c b hc z
    ·rw [hc] at z;cases z;exact hb rfl
end
structure Un (fs ex:List Se) (H H':Hp) (h h':TU):Prop where
 keep:∀b o,h.get? b=some o->H b=none->b∉fs->b∉ex->h'.get? b=some o
 slot:∀b o,h.get? b=some o->H b=none->b∈fs->b∉ex->∃sl,h'.get? b=some {o with slots:=sl}
 free:∀b o,h.get? b=some o->H b=none->b∉ex->H' b=none
 there:∀b o,h.get? b=some o->b∉ex->∃o',h'.get? b=some o'
 tups:∀b xs,H b=some (.tup xs)->H' b=some (.tup xs)
 frzs:∀b o u,H b=some (.frz o u)->H' b=some (.frz o u)
 tbls:∀b ps,H b=some (.tbl ps)->∃more,H' b=some (.tbl (ps++more))
section
variable {fs fs' ex ex':List Se}{H H1 H2:Hp}{h h1 h2 h':TU}{a x e:Se}{o:HO}
theorem Un.any (u:Un fs ex H H1 h h1){b:Se}{ob:Obj}(q:h.get? b=some ob) (n:H b=none) (hx:b∉ex):∃sl,h1.get? b=some {ob with slots:=sl}:=by
 by_cases hb:b∈fs
 ·exact u.slot b ob q n hb hx
 ·exact ⟨ob.slots,u.keep b ob q n hb hx⟩
theorem Un.kept (k:∀b u,h.get? b=some u->h'.get? b=some u):Un fs ex H H h h':=
 ⟨λb ob q _ _ _=>k b ob q,λb ob q _ _ _=>⟨ob.slots,k b ob q⟩,λ_ _ _ n _=>n,λb ob q _=>⟨ob,k b ob q⟩,λ_ _ q=>q,λ_ _ _ q=>q,λ_ ps q=>⟨#[],by rw [q];simp⟩⟩
theorem Un.refl:Un fs ex H H h h:=Un.kept λ_ _ q=>q
theorem Un.laid (k:∀b u,h.get? b=some u->h'.get? b=some u) (hp:h.objs.size<=a) (hn:H a=none):Un fs ex H (upd H a o) h h' where
 keep:=λb u q _ _ _=>k b u q
 slot:=λb u q _ _ _=>⟨u.slots,k b u q⟩
 free:=λb u q n _=>by rw [bE (Sv (Sx (Si q) hp))];exact n
 there:=λb u q _=>⟨u,k b u q⟩
 tups:=λb xs q=>by rw [bE (fk q hn)];exact q
 frzs:=λb u xs q=>by rw [bE (fk q hn)];exact q
 tbls:=λb ps q=>⟨#[],by rw [bE (fk q hn),q];simp⟩
theorem Un.write (mu:HC (H x)) (he:e=x\/H e=some (.own x)) (k:∀b u,b≠e->h.get? b=some u->h'.get? b=some u) (Qw:∃u,h'.get? e=some u):Un fs ex H (upd H x o) h h':=by
 have hx:∀b,H b=none->b≠x:=λb n z=>by subst z;rw [n] at mu;exact mu
 have hb:∀b,H b=none->b≠e:=λb n z=>by
  subst z
  rcases he with r | r
  ·exact hx b n r
  ·rw [n] at r;cases r
 have hm:∀b u,H b=some u->¬HC (some u)->b≠x:=λb u q nm z=>by subst z;rw [q] at mu;exact nm mu
 refine ⟨λb u q n _ _=>k b u (hb b n) q,λb u q n _ _=>⟨u.slots,k b u (hb b n) q⟩,λb u q n _=>by rw [bE (hx b n)];exact n,λb u q _=>?_,
  λb xs q=>by rw [bE (hm b _ q λz=>z)];exact q,λb u xs q=>by rw [bE (hm b _ q λz=>z)];exact q,λb ps q=>⟨#[],by rw [bE (hm b _ q λz=>z),q];simp⟩⟩
 by_cases Qs:b=e
 ·subst Qs;exact Qw
 ·exact ⟨u,k b u Qs q⟩
end
def E8 (h:TU) (H:Hp):List Se:=(R7 h.objs.size).filter λa=>(H a).isSome
def nU (h:TU) (H:Hp):TU:=W.hideAll h (E8 h H)
theorem Ei (h:TU) (H:Hp):(nU h H).objs.size=h.objs.size:=W.hideAll_size _ _
theorem Ga {h:TU}{H:Hp}{b:Se}{o:Obj}(e:h.get? b=some o) (n:H b=none):(nU h H).get? b=some o:=
 W.hideAll_get _ e λhm=>by
  have q:(H b).isSome=true:=(SY.mp hm).2
  rw [n] at q;simp at q
theorem Jz {h:TU}{H:Hp}{b:Se}{o:Obj}(e:(nU h H).get? b=some o):h.get? b=some o/\H b=none:=by
 have e':h.get? b=some o:=W.of_hideAll (E8 h H) e
 refine ⟨e',?_⟩
 cases q:H b with
 | none=>rfl
 | some x=>
  have hm:b∈E8 h H:=SY.mpr ⟨Sq.mpr (Si e'),by simp [q]⟩
  have z:(nU h H).get? b=none:=W.hideAll_none (E8 h H) hm
  rw [z] at e;cases e
def ID (g h:TU) (L:Se):List (Se×Obj):=(R7 h.objs.size).filterMap λa=>if a=L\/(g.get? a).isSome=true then none else (h.get? a).map λo=>(a,o)
def rest (g h:TU) (L d:Se):List (Se×Obj):=(ID g h L).filter λp=>decide (p.1≠d)
structure Mod (K:RV) (mg:Str->Option RX) (base:TU):Prop where
 kin:K.In base
 glob:base.Ns SE mg
 blt:∃mb,base.Ns abk mb/\∀x:Str,x≠"__name__"->mb x=Tj x
 nolimit:base.NoLimit
structure Cx where
 prog:Sm
 w:SO
 K:RV
 mg:Str->Option RX
 base:TU
 A:SW
 N:List Str
 s₀:RZ
 H₀:Hp
 env:Env
 outer:List Env
 stack:List Env
 ex:List Se
 fn:Str->Bool
 calm:Bool
 pn:List (Se×Obj)
 xe:RX->RZ->Prop
def frs (l:List Env):List Se:=l.filterMap (·.frame)
abbrev Cx.fs (X:Cx):List Se:=frs X.outer
def qM (sc:U3) (x:Str):Prop:=sc.names.lookup x=some .local\/sc.names.lookup x=some .cell\/sc.names.lookup x=some .free
def Loc (sc:U3) (x:Str):Prop:=sc.names.lookup x=some .local\/sc.names.lookup x=some .cell
noncomputable def Look (env:Env) (h:TU) (m:Str->Option RX) (x:Str) (u:RX):Prop:=
 (env.kindOf x=some .local/\m x=some u)\/((env.kindOf x=some .cell\/env.kindOf x=some .free)/\∃c,env.cells.lookup x=some c/\h.IsCell c (some u))
structure Cx.Ok (X:Cx):Prop where
 mod:Mod X.K X.mg X.base
 kind:X.env.scope.kind=.function
 glob:X.env.globals=SE
 blt:X.env.builtins=abk
 above:X.s₀.heap.objs.size<=X.env.locals
 inj:∀x y c,X.env.cells.lookup x=some c->X.env.cells.lookup y=some c->x=y
 has:∀x,(X.env.kindOf x=some .cell\/X.env.kindOf x=some .free)->∃c,X.env.cells.lookup x=some c
 cab:∀x c,X.fn x=true->X.env.cells.lookup x=some c->X.s₀.heap.objs.size<=c
 hd:X.calm=true->X.A.handled=none
 frames:X.A.frames=some X.stack
 stk:X.stack=X.outer\/(X.stack=X.env::X.outer/\X.env.frame=some X.env.locals)
 exf:∀b∈X.ex,b≠X.env.locals/\∀x c,X.env.cells.lookup x=some c->c≠b
 bs:∀b o,X.base.get? b=some o->X.s₀.heap.get? b=some o/\X.H₀ b=none
 bsz:X.base.objs.size<=X.s₀.heap.objs.size
 noex:∀b o,X.base.get? b=some o->b∉X.ex
 exfs:∀b∈X.ex,b∉X.fs
 funs:X.s₀.heap.FunFrames X.base X.outer
 frf:∀b∈X.fs,X.H₀ b=none
structure Inv (X:Cx) (RL:List (Se×Obj)) (σ:List (Option V)) (H:Hp) (s:RZ):Prop where
 ok:X.Ok
 os:s.os=X.s₀.os
 bare:Yb s.gens
 base:Un X.fs X.ex X.H₀ H X.s₀.heap s.heap
 loc:∃m,s.heap.Ns X.env.locals m/\∀(i:Nat) (x:Str) (v:V),X.N[i]?=some x->σ[i]?=some (some v)->qM X.env.scope x->∃u,RelV v u/\Look X.env s.heap m x u
 cell:∀x c,X.env.cells.lookup x=some c->∃v,s.heap.IsCell c v
 free:H X.env.locals=none
 freeC:∀x c,X.env.cells.lookup x=some c->H c=none
 pin:∀p∈X.pn++RL,s.heap.get? p.1=some p.2/\H p.1=none/\p.1≠X.env.locals/\p.1∉X.fs/\∀v,p.2.data≠.cell v
 hok:fO X.prog X.w H s.heap
 len:σ.length=X.N.length
section
variable {X:Cx}{RL:List (Se×Obj)}{σ:List (Option V)}{H H':Hp}{s:RZ}{h':TU}
theorem Cx.Ok.nofr (ok:X.Ok){b:Se}{o:Obj}(e:X.base.get? b=some o):b∉X.fs:=λhb=>by
 have:=(ok.funs.mem hb).1
 rw [e] at this;cases this
theorem Inv.bs (I:Inv X RL σ H s):∀b o,X.base.get? b=some o->s.heap.get? b=some o/\H b=none:=λb o e=>
 ⟨I.base.keep b o (I.ok.bs b o e).1 (I.ok.bs b o e).2 (I.ok.nofr e) (I.ok.noex b o e),I.base.free b o (I.ok.bs b o e).1 (I.ok.bs b o e).2 (I.ok.noex b o e)⟩
theorem Inv.bk (I:Inv X RL σ H s):∀b o,X.base.get? b=some o->s.heap.get? b=some o:=λb o e=>(I.bs b o e).1
theorem Inv.mod (I:Inv X RL σ H s):Mod X.K X.mg X.base:=I.ok.mod
theorem Inv.kIn (I:Inv X RL σ H s):X.K.In s.heap:=I.ok.mod.kin.keeps I.bk
theorem Inv.lt (I:Inv X RL σ H s):X.env.locals < s.heap.objs.size:=let ⟨_,hn,_⟩:=I.loc;hn.lt
theorem Inv.sz (I:Inv X RL σ H s):X.s₀.heap.objs.size<=s.heap.objs.size:=SJ I.ok.above (YG I.lt)
theorem Inv.nofs (I:Inv X RL σ H s){a:Se}(h:s.heap.objs.size<=a):a∉X.fs:=λhb=>by
 obtain ⟨_,o,ho,_⟩:=I.ok.funs.mem hb
 exact absurd (Sx (Si ho) (SJ I.sz h)) (UB _)
theorem Inv.cne (I:Inv X RL σ H s):∀x c,X.env.cells.lookup x=some c->c≠X.env.locals:=λx c e z=>by
 obtain ⟨v,o,ho,hd⟩:=I.cell x c e
 obtain ⟨m,⟨o',es,ep,ho',hd',_⟩,_⟩:=I.loc
 rw [z,ho'] at ho;cases ho;rw [hd'] at hd;cases hd
theorem Inv.funs (I:Inv X RL σ H s):s.heap.FunFrames X.base X.outer:=by
 have all:∀(l:List Env),(∀b∈frs l,b∈X.fs)->X.s₀.heap.FunFrames X.base l->s.heap.FunFrames X.base l:=by
  intro l
  induction l with
  | nil=>intro _ _;trivial
  | cons env r ih=>
   intro hs hl
   obtain ⟨hk,⟨L,o,hf,hn,ho,hd⟩,hr⟩:=hl
   have hL:L∈X.fs:=hs L (by unfold frs;rw [Xc,hf];exact R1)
   obtain ⟨sl,e⟩:=I.base.slot L o ho (I.ok.frf L hL) hL λz=>I.ok.exfs L z hL
   exact ⟨hk,⟨L,_,hf,hn,e,hd⟩,ih (λb hb=>hs b (by unfold frs;rw [Xc,hf];exact R0 _ hb)) hr⟩
 exact all X.outer (λ_ hb=>hb) I.ok.funs
theorem Inv.stack (I:Inv X RL σ H s):s.heap.FunFrames X.base X.stack:=by
 rcases I.ok.stk with e | ⟨e,hf⟩
 ·rw [e];exact I.funs
 ·rw [e]
  obtain ⟨m,hn,_⟩:=I.loc
  refine .cons (by rw [I.ok.kind];decide) hf hn ?_ I.funs
  exact Heap.get?_none_of_le (SJ I.ok.bsz I.ok.above)
theorem Inv.stkSub (I:Inv X RL σ H s):∀b∈frs X.stack,b∈X.env.locals::X.fs:=λb hb=>by
 rcases I.ok.stk with e | ⟨e,hf⟩
 ·rw [e] at hb;exact R0 _ hb
 ·rw [e] at hb
  unfold frs at hb
  rw [Xc,hf] at hb
  exact hb
theorem Inv.stkFree (I:Inv X RL σ H s):∀b∈frs X.stack,H b=none:=λb hb=>by
 rcases Sh.mp (I.stkSub b hb) with e | hb
 ·rw [e];exact I.free
 ·obtain ⟨_,o,ho,_⟩:=I.ok.funs.mem hb
  exact I.base.free b o ho (I.ok.frf b hb) λz=>I.ok.exfs b z hb
theorem Inv.step {g':Array Zu}{t':Nat}{d':Drawn}{ch:List Se}(I:Inv X RL σ H s)
  (hch:∀b∈ch,(b∈X.ex\/X.s₀.heap.objs.size<=b)/\b≠X.env.locals/\(∀x c,X.env.cells.lookup x=some c->c≠b)/\∀p∈X.pn++RL,p.1≠b)
  (keep:∀b o,b≠X.env.locals->b∉X.fs->b∉ch->s.heap.get? b=some o->H b=none->h'.get? b=some o)
  (slot:∀b o,b≠X.env.locals->b∈X.fs->b∉ch->s.heap.get? b=some o->H b=none->∃sl,h'.get? b=some {o with slots:=sl}) (free:∀b o,b∉ch->s.heap.get? b=some o->H b=none->H' b=none)
  (there:∀b o,b∉ch->s.heap.get? b=some o->∃o',h'.get? b=some o')
  (tups:∀b xs,H b=some (.tup xs)->H' b=some (.tup xs)) (frzs:∀b o u,H b=some (.frz o u)->H' b=some (.frz o u)) (tbls:∀b ps,H b=some (.tbl ps)->∃more,H' b=some (.tbl (ps++more)))
  (ns:∀m,s.heap.Ns X.env.locals m->h'.Ns X.env.locals m) (hok:fO X.prog X.w H' h') (hg:Yb g'):
  Inv X RL σ H' {s with heap:=h',gens:=g',drawn:=d',toks:=t'}:=by
 have neL:∀b o,X.s₀.heap.get? b=some o->b≠X.env.locals:=λb o e=>Sv (Sx (Si e) I.ok.above)
 have neC:∀b o,X.s₀.heap.get? b=some o->b∉X.ex->b∉ch:=λb o e hx hb=>by
  rcases (hch b hb).1 with z | z
  ·exact hx z
  ·exact absurd (Sx (Si e) z) (UB _)
 have cellK:∀x c,X.env.cells.lookup x=some c->∀v,s.heap.IsCell c v->h'.IsCell c v:=λx c e v ⟨o,ho,hd⟩=>by
  have nch:c∉ch:=λz=>(hch c z).2.2.1 x c e rfl
  by_cases hc:c∈X.fs
  ·obtain ⟨sl,q⟩:=slot c o (I.cne x c e) hc nch ho (I.freeC x c e)
   exact ⟨_,q,hd⟩
  ·exact ⟨o,keep c o (I.cne x c e) hc nch ho (I.freeC x c e),hd⟩
 refine ⟨I.ok,I.os,hg,⟨λb o e n hb hx=>?_,λb o e n hb hx=>?_,λb o e n hx=>?_,λb o e hx=>?_,λb xs e=>tups b xs (I.base.tups b xs e),λb o xs e=>frzs b o xs (I.base.frzs b o xs e),λb ps e=>?_⟩,?_,λx c e=>?_,?_,λx c e=>?_,λp hp=>?_,hok,I.len⟩
 ·exact keep b o (neL b o e) hb (neC b o e hx) (I.base.keep b o e n hb hx) (I.base.free b o e n hx)
 ·obtain ⟨sl,e1⟩:=I.base.slot b o e n hb hx
  obtain ⟨sl',e2⟩:=slot b _ (neL b o e) hb (neC b o e hx) e1 (I.base.free b o e n hx)
  exact ⟨sl',e2⟩
 ·obtain ⟨o',e1⟩:=I.base.there b o e hx
  exact free b o' (neC b o e hx) e1 (I.base.free b o e n hx)
 ·obtain ⟨o',e1⟩:=I.base.there b o e hx
  exact there b o' (neC b o e hx) e1
 ·obtain ⟨m1,e1⟩:=I.base.tbls b ps e
  obtain ⟨m2,e2⟩:=tbls b _ e1
  exact ⟨m1++m2,by rw [e2,Array.append_assoc]⟩
 ·obtain ⟨m,hn,hl⟩:=I.loc
  refine ⟨m,ns m hn,λi x v e1 e2 e3=>?_⟩
  obtain ⟨u,r,l⟩:=hl i x v e1 e2 e3
  refine ⟨u,r,?_⟩
  rcases l with l | ⟨k,c,e,z⟩
  ·exact .inl l
  ·exact .inr ⟨k,c,e,cellK x c e _ z⟩
 ·obtain ⟨v,z⟩:=I.cell x c e
  exact ⟨v,cellK x c e v z⟩
 ·obtain ⟨m,⟨o,_,_,ho,_⟩,_⟩:=I.loc
  exact free _ o (λz=>(hch _ z).2.1 rfl) ho I.free
 ·obtain ⟨v,o,ho,hd⟩:=I.cell x c e
  exact free c o (λz=>(hch c z).2.2.1 x c e rfl) ho (I.freeC x c e)
 ·obtain ⟨e,n,ne,nf,d⟩:=I.pin p hp
  have nch:p.1∉ch:=λz=>(hch p.1 z).2.2.2 p hp rfl
  exact ⟨keep p.1 p.2 ne nf nch e n,free p.1 p.2 nch e n,ne,nf,d⟩
theorem Inv.un {t':Nat}(I:Inv X RL σ H s) (u:Un X.fs [] H H' s.heap h') (hok:fO X.prog X.w H' h'):Inv X RL σ H' {s with heap:=h',toks:=t'}:=by
 obtain ⟨m,⟨o,es,ep,ho,r⟩,_⟩:=id I.loc
 obtain ⟨sl,hL⟩:=u.any ho I.free (by simp)
 exact I.step (g':=s.gens) (d':=s.drawn) (ch:=[]) (λ_ z=>nomatch z) (λb o _ hb _ e n=>u.keep b o e n hb (by simp)) (λb o _ hb _ e n=>u.slot b o e n hb (by simp)) (λb o _ e n=>u.free b o e n (by simp)) (λb o _ e=>u.there b o e (by simp)) u.tups u.frzs u.tbls (λm' hm=>by
  obtain ⟨o',es',ep',ho',r'⟩:=hm
  rw [ho] at ho';cases ho'
  exact ⟨_,es',ep',hL,r'⟩) hok I.bare
theorem Inv.call {g':Array Zu}{t':Nat}{d':Drawn}{ch:List Se}(I:Inv X RL σ H s) (u:Un (frs X.stack) ch H H' s.heap h') (hok:fO X.prog X.w H' h') (hg:Yb g')
  (hch:∀b∈ch,(b∈X.ex\/X.s₀.heap.objs.size<=b)/\b≠X.env.locals/\(∀x c,X.env.cells.lookup x=some c->c≠b)/\∀p∈X.pn++RL,p.1≠b):
  Inv X RL σ H' {s with heap:=h',gens:=g',drawn:=d',toks:=t'}:=by
 obtain ⟨m,⟨o,es,ep,ho,r⟩,_⟩:=id I.loc
 obtain ⟨sl,hL⟩:=u.any ho I.free λz=>(hch _ z).2.1 rfl
 exact I.step (ch:=ch) hch (λb o hL hb hc e n=>u.keep b o e n (λz=>(Sh.mp (I.stkSub b z)).elim hL hb) hc) (λb o _ _ hc e n=>u.any e n hc) (λb o hc e n=>u.free b o e n hc) (λb o hc e=>u.there b o e hc) u.tups u.frzs u.tbls (λm' hm=>by
  obtain ⟨o',es',ep',ho',r'⟩:=hm
  rw [ho] at ho';cases ho'
  exact ⟨_,es',ep',hL,r'⟩) hok hg
theorem Inv.turned {t':Nat}{it:Se}(I:Inv X RL σ H s) (k:∀b o,b≠it->s.heap.get? b=some o->h'.get? b=some o) (hn:H it=none) (hL:it≠X.env.locals)
  (h1:it∈X.ex\/X.s₀.heap.objs.size<=it) (h2:∀x c,X.env.cells.lookup x=some c->c≠it) (h3:∀p∈X.pn++RL,p.1≠it):Inv X RL σ H {s with heap:=h',toks:=t'}:=by
 have nit:∀b u,H b=some u->b≠it:=λb u e z=>by rw [z,hn] at e;cases e
 refine I.step (g':=s.gens) (d':=s.drawn) (ch:=[it]) (λb hb=>?_) (λb o _ _ hc e _=>k b o (λz=>hc (by simp [z])) e) (λb o _ _ hc e _=>⟨o.slots,k b o (λz=>hc (by simp [z])) e⟩) (λ_ _ _ _ n=>n)
  (λb o hc e=>⟨o,k b o (λz=>hc (by simp [z])) e⟩) (λ_ _ e=>e) (λ_ _ _ e=>e) (λb ps e=>⟨#[],by rw [e];simp⟩) (λm hm=>?_) (λb u e=>?_) I.bare
 ·have e:b=it:=by simpa using hb
  subst e
  exact ⟨h1,hL,h2,h3⟩
 ·obtain ⟨o,es,ep,ho,r⟩:=hm
  exact ⟨o,es,ep,k _ o (UX hL) ho,r⟩
 ·refine (I.hok b u e).stay (λc v hc q=>k c v ?_ q) (λ_ q=>q) λ_ _ q=>q
  rcases hc with z | z
  ·rw [z];exact nit b u e
  ·exact nit c _ z
theorem Inv.tok (I:Inv X RL σ H s) (t:Nat):Inv X RL σ H {s with toks:=t}:=I.un (h':=s.heap) (t':=t) Un.refl I.hok
theorem Inv.kept {t':Nat}(I:Inv X RL σ H s) (k:∀b u,s.heap.get? b=some u->h'.get? b=some u):Inv X RL σ H {s with heap:=h',toks:=t'}:=I.un (Un.kept k) (I.hok.kept k)
theorem Inv.laid {a:Se}{o:HO}{t':Nat}(I:Inv X RL σ H s) (k:∀b u,s.heap.get? b=some u->h'.get? b=some u) (hp:s.heap.objs.size<=a) (new:cj X.prog X.w (upd H a o) h' a o):
  Inv X RL σ (upd H a o) {s with heap:=h',toks:=t'}:=I.un (Un.laid k hp (I.hok.fresh hp)) (I.hok.laid k hp new)
theorem Inv.write {x e:Se}{o:HO}{t':Nat}(I:Inv X RL σ H s) (mu:HC (H x)) (he:e=x\/H e=some (.own x)) (k:∀b u,b≠e->s.heap.get? b=some u->h'.get? b=some u) (Qw:∃u,h'.get? e=some u)
  (new:cj X.prog X.w (upd H x o) h' x o):Inv X RL σ (upd H x o) {s with heap:=h',toks:=t'}:=I.un (Un.write mu he k Qw) (I.hok.write mu he k Qw new)
theorem Inv.pins_of {pins':List (Se×Obj)}(I:Inv X RL σ H s) (h:∀p∈pins',s.heap.get? p.1=some p.2/\H p.1=none/\p.1≠X.env.locals/\p.1∉X.fs/\∀v,p.2.data≠.cell v):Inv X pins' σ H s:=
 ⟨I.ok,I.os,I.bare,I.base,I.loc,I.cell,I.free,I.freeC,λp hp=>(Sz.mp hp).elim (λz=>I.pin p (UP _ z)) (h p),I.hok,I.len⟩
theorem yY {N:List Str}(hN:N.Nodup){i j:Nat}{x:Str}(a:N[i]?=some x) (b:N[j]?=some x):i=j:=by
 obtain ⟨h1,e1⟩:=SI.mp a
 obtain ⟨h2,e2⟩:=SI.mp b
 exact (Yp hN).mp (e1.trans e2.symm)
theorem lW {M:acg}{A:SW}{E:RX->RZ->Prop}{i:Nat}{x:Str}{v:V}{u:RX}{Q:Unit->RZ->Prop}(I:Inv X RL σ H s) (hN:X.N.Nodup) (hi:X.N[i]?=some x) (hx:Loc X.env.scope x) (r:RelV v u)
  (h:∀s',Inv X RL (σ.set i (some v)) H s'->(∃a,Tw a s.heap s'.heap/\(a=X.env.locals\/X.env.cells.lookup x=some a))->Q () s') (hf:X.fn x=true\/X.env.scope.names.lookup x=some .local:=by first | exact .inl rfl | exact .inr rfl | assumption):So M A (abY X.env x u) Q E s:=by
 obtain ⟨m,hn,hl⟩:=id I.loc
 have hcls:(X.env.scope.kind == .class || (X.env.scope.kind == .module && X.env.locals != X.env.globals))=false:=by rw [I.ok.kind];rfl
 have hiσ:i < σ.length:=by rw [I.len];exact (SI.mp hi).1
 have cne:=I.cne
 have tracked:∀{a:Se}{h':TU},(∃o,s.heap.get? a=some o/\H a=none)->Tw a s.heap h'->fO X.prog X.w H h':=fun {a h'} ha hs b ob e=>by
  obtain ⟨_,_,hfree⟩:=ha
  refine (I.hok b ob e).stay (λc w' hc q=>(hs.2 c ?_).trans q) (λ_ q=>q) λ_ _ q=>q
  rintro rfl
  rcases hc with rfl | hc
  ·rw [hfree] at e;cases e
  ·rw [hfree] at hc;cases hc
 rcases hx with hk | hk
 ·refine wpAny_storeName_local hk hn (λh' hn' hs=>?_) hcls
  obtain ⟨oL,_,_,Rz,_⟩:=id hn
  refine h _ ⟨I.ok,I.os,I.bare,⟨λb o e n hb hx=>?_,λb o e n hb hx=>?_,I.base.free,λb o e hx=>?_,I.base.tups,I.base.frzs,I.base.tbls⟩,⟨_,hn',λj y v' e1 e2 e3=>?_⟩,λy c e=>?_,I.free,I.freeC,λp hp=>?_,tracked ⟨oL,Rz,I.free⟩ hs,by simpa using I.len⟩ ⟨_,hs,.inl rfl⟩
  ·exact (hs.2 b (Sv (Sx (Si e) I.ok.above))).trans (I.base.keep b o e n hb hx)
  ·obtain ⟨sl,e1⟩:=I.base.slot b o e n hb hx
   exact ⟨sl,(hs.2 b (Sv (Sx (Si e) I.ok.above))).trans e1⟩
  ·obtain ⟨o',e1⟩:=I.base.there b o e hx
   exact ⟨o',(hs.2 b (Sv (Sx (Si e) I.ok.above))).trans e1⟩
  ·by_cases hj:j=i
   ·subst hj
    rw [hi] at e1;cases e1
    rw [TX hiσ] at e2
    cases e2
    exact ⟨u,r,.inl ⟨hk,by simp⟩⟩
   ·rw [S0 (UX hj)] at e2
    obtain ⟨u',r',q⟩:=hl j y v' e1 e2 e3
    refine ⟨u',r',?_⟩
    rcases q with ⟨k,e⟩ | ⟨k,c,e,z⟩
    ·refine .inl ⟨k,?_⟩
     have:y≠x:=λe=>hj (yY hN e1 (e▸hi))
     simp [this,e]
    ·exact .inr ⟨k,c,e,z.sameBut hs (cne y c e)⟩
  ·obtain ⟨w',z⟩:=I.cell y c e
   exact ⟨w',z.sameBut hs (cne y c e)⟩
  ·obtain ⟨e,n,ne,nf,d⟩:=I.pin p hp
   exact ⟨(hs.2 p.1 ne).trans e,n,ne,nf,d⟩
 ·have hfn:X.fn x=true:=by
   rcases hf with z | z
   ·exact z
   ·rw [z] at hk;cases hk
  obtain ⟨c,hc⟩:=I.ok.has x (.inl hk)
  obtain ⟨w',z⟩:=I.cell x c hc
  refine wpAny_storeName_cell I.ok.kind hk hc z (λh' hc' hs=>?_)
  obtain ⟨oc,hoc,Q5⟩:=id z
  refine h {s with heap:=h'} ⟨I.ok,I.os,I.bare,⟨λb o e n hb hx=>?_,λb o e n hb hx=>?_,I.base.free,λb o e hx=>?_,I.base.tups,I.base.frzs,I.base.tbls⟩,⟨m,hn.sameBut hs (UX (cne x c hc)),λj y v' e1 e2 e3=>?_⟩,λy c' e=>?_,I.free,I.freeC,λp hp=>?_,tracked ⟨oc,hoc,I.freeC x c hc⟩ hs,by simpa using I.len⟩ ⟨c,hs,.inr hc⟩
  ·exact (hs.2 b (Sv (Sx (Si e) (I.ok.cab x c hfn hc)))).trans (I.base.keep b o e n hb hx)
  ·obtain ⟨sl,e1⟩:=I.base.slot b o e n hb hx
   exact ⟨sl,(hs.2 b (Sv (Sx (Si e) (I.ok.cab x c hfn hc)))).trans e1⟩
  ·obtain ⟨o',e1⟩:=I.base.there b o e hx
   exact ⟨o',(hs.2 b (Sv (Sx (Si e) (I.ok.cab x c hfn hc)))).trans e1⟩
  ·by_cases hj:j=i
   ·subst hj
    rw [hi] at e1;cases e1
    rw [TX hiσ] at e2
    cases e2
    exact ⟨u,r,.inr ⟨.inl hk,c,hc,hc'⟩⟩
   ·rw [S0 (UX hj)] at e2
    obtain ⟨u',r',q⟩:=hl j y v' e1 e2 e3
    refine ⟨u',r',?_⟩
    rcases q with q | ⟨k,c',e,z'⟩
    ·exact .inl q
    ·refine .inr ⟨k,c',e,z'.sameBut hs ?_⟩
     rintro rfl
     exact hj (yY hN e1 (I.ok.inj _ _ _ e hc▸hi))
  ·by_cases hcc:c'=c
   ·subst hcc;exact ⟨_,hc'⟩
   ·obtain ⟨w2,z2⟩:=I.cell y c' e
    exact ⟨w2,z2.sameBut hs hcc⟩
  ·obtain ⟨e,n,ne,nf,d⟩:=I.pin p hp
   refine ⟨(hs.2 p.1 ?_).trans e,n,ne,nf,d⟩
   intro q
   rw [q,hoc] at e
   have q':oc=p.2:=Tp e
   exact d w' (by rw [<-q'];exact Q5)
theorem rV {M:acg}{A:SW}{E:RX->RZ->Prop}{i:Nat}{x:Str}{v:V}{u:RX}{Q:Unit->RZ->Prop}(I:Inv X RL σ H s) (hN:X.N.Nodup) (hi:X.N[i]?=some x) (hx:Loc X.env.scope x) (r:RelV v u)
  (h:∀s',Inv X RL (σ.set i (some v)) H s'->Q () s') (hf:X.fn x=true\/X.env.scope.names.lookup x=some .local:=by first | exact .inl rfl | exact .inr rfl | assumption):So M A (abY X.env x u) Q E s:=
 lW I hN hi hx r (λs' I' _=>h s' I') hf
theorem Inv.call' {s':RZ}{ch:List Se}(I:Inv X RL σ H s) (ho:s'.os=s.os) (u:Un (frs X.stack) ch H H' s.heap s'.heap) (hok:fO X.prog X.w H' s'.heap) (hg:Yb s'.gens)
  (hch:∀b∈ch,(b∈X.ex\/X.s₀.heap.objs.size<=b)/\b≠X.env.locals/\(∀x c,X.env.cells.lookup x=some c->c≠b)/\∀p∈X.pn++RL,p.1≠b):Inv X RL σ H' s':=by
 obtain ⟨h',g',d',t',o'⟩:=s'
 have e:o'=s.os:=ho
 subst e
 exact I.call (g':=g') (t':=t') (d':=d') u hok hg hch
end
abbrev XK:=RX->Option Se->Hp->Prop
abbrev St:=List (Option V)
abbrev VK:=V->Hp->Prop
abbrev TE:=St->Hp->VK->Prop
abbrev TT:=St->Hp->(Bool->Hp->Prop)->Prop
abbrev TA:=St->Hp->(List V->Hp->Prop)->Prop
structure Ends where
 nx:St->Hp->Prop
 rt:VK
 bk:St->Hp->Prop:=λ_ _=>False
 ct:St->Hp->Prop:=λ_ _=>False
abbrev TS:=Ends->St->Hp->Prop
def EP (X:Cx) (RL:List (Se×Obj)) (σ:St) (Q:VK) (u:RX) (s':RZ):Prop:=∃v H',Inv X RL σ H' s'/\RelV v u/\Q v H'
def TP (X:Cx) (RL:List (Se×Obj)) (σ:St) (Q:Bool->Hp->Prop) (b:Bool) (s':RZ):Prop:=∃H',Inv X RL σ H' s'/\Q b H'
def AP (X:Cx) (RL:List (Se×Obj)) (σ:St) (Q:List V->Hp->Prop) (us:List RX) (s':RZ):Prop:=∃vs H',Inv X RL σ H' s'/\Vals vs us/\Q vs H'
noncomputable def SP (X:Cx) (RL:List (Se×Obj)) (D:Ends) (f:Flow) (s':RZ):Prop:=
 match f with
 | .next=>∃σ' H',Inv X RL σ' H' s'/\D.nx σ' H'
 | .brk=>∃σ' H',Inv X RL σ' H' s'/\D.bk σ' H'
 | .cont=>∃σ' H',Inv X RL σ' H' s'/\D.ct σ' H'
 | .ret u=>∃v σ' H',Inv X RL σ' H' s'/\RelV v u/\D.rt v H'
noncomputable def PE (X:Cx) (e:SM) (t:TE):Prop:=
 ∀(RL:List (Se×Obj)) (s:RZ) (σ:St) (H:Hp) (Q:VK),Inv X RL σ H s->t σ H Q->So (Su X.prog X.w) X.A (eval e X.env) (EP X RL σ Q) X.xe s
noncomputable def PT (X:Cx) (e:SM) (t:TT):Prop:=
 ∀(RL:List (Se×Obj)) (s:RZ) (σ:St) (H:Hp) (Q:Bool->Hp->Prop),Inv X RL σ H s->t σ H Q->So (Su X.prog X.w) X.A (Ze e X.env (eval e X.env)) (TP X RL σ Q) X.xe s
noncomputable def PW (X:Cx) (e:SM) (t:TT):Prop:=
 ∀(whole:Sem RX) (RL:List (Se×Obj)) (s:RZ) (σ:St) (H:Hp) (Q:Bool->Hp->Prop),Inv X RL σ H s->t σ H Q->So (Su X.prog X.w) X.A (Ze e X.env whole) (TP X RL σ Q) X.xe s
theorem PW.pt {X:Cx}{e:SM}{t:TT}(h:PW X e t):PT X e t:=h _
noncomputable def PA (X:Cx) (es:List SM) (t:TA):Prop:=
 ∀(pos:Pos) (RL:List (Se×Obj)) (s:RZ) (σ:St) (H:Hp) (Q:List V->Hp->Prop),Inv X RL σ H s->t σ H Q->So (Su X.prog X.w) X.A (spliced (Us pos (R_ es X.env))) (AP X RL σ Q) X.xe s
noncomputable def PS (X:Cx) (st:Vj) (t:TS):Prop:=
 ∀(RL:List (Se×Obj)) (s:RZ) (σ:St) (H:Hp) (D:Ends),Inv X RL σ H s->t D σ H->So (Su X.prog X.w) X.A (exec st X.env) (SP X RL D) X.xe s
noncomputable def jP (X:Cx) (st:List Vj) (t:TS):Prop:=
 ∀(RL:List (Se×Obj)) (s:RZ) (σ:St) (H:Hp) (D:Ends),Inv X RL σ H s->t D σ H->So (Su X.prog X.w) X.A (execs st X.env) (SP X RL D) X.xe s
theorem bS {α:Type}{t:Sem α}{Q Q':α->RZ->Prop}{M:acg}{A:SW}{E:RX->RZ->Prop}{s:RZ}(h:So M A t Q E s) (hQ:∀a s,Q a s->Q' a s):So M A t Q' E s:=Tc h hQ λ_ _ x=>x
section
variable {X:Cx}
theorem bin {a b:SM}{ta tb:TE}(ha:PE X a ta) (hb:PE X b tb){RL:List (Se×Obj)}{s:RZ}{σ:St}{H:Hp}{R:V->V->Hp->Prop}(I:Inv X RL σ H s) (h:ta σ H λx H1=>tb σ H1 λy H2=>R x y H2)
  {α:Type}{Q:α->RZ->Prop}{f:RX->RX->Sem α}
  (hf:∀v u s2 x y H2,Inv X RL σ H2 s2->RelV x v->RelV y u->R x y H2->So (Su X.prog X.w) X.A (f v u) Q X.xe s2):
  So (Su X.prog X.w) X.A (eval a X.env) (λv s₁=>So (Su X.prog X.w) X.A (eval b X.env) (λu s₂=>So (Su X.prog X.w) X.A (f v u) Q X.xe s₂) X.xe s₁) X.xe s:=by
 refine bS (ha RL s σ H _ I h) λv s1 ⟨x,H1,I1,r1,q1⟩=>?_
 refine bS (hb RL s1 σ H1 _ I1 q1) λu s2 ⟨y,H2,I2,r2,q2⟩=>?_
 exact hf v u s2 x y H2 I2 r1 r2 q2
def M0 (i:Nat):TE:=λσ H Q=>∃v,σ[i]?=some (some v)/\Q v H
def tC (v:V):TE:=λ_ H Q=>Q v H
theorem kN {i:Nat}{x:Str}{pos:Pos}(hN:X.N[i]?=some x) (hv:qM X.env.scope x) (hd:(x == ("__debug__":Str))=false:=by decide) (hcd:(x == ("__classdict__":Str))=false:=by decide):PE X (.Name x pos) (M0 i):=by
 intro RL s σ H Q I h
 obtain ⟨v,e,h⟩:=h
 obtain ⟨m,hn,hl⟩:=I.loc
 obtain ⟨u,r,l⟩:=hl i x v hN e hv
 have fin:EP X RL σ Q u s:=⟨v,H,I,r,h⟩
 rcases l with ⟨hk,hm⟩ | ⟨hk,c,hc,hcell⟩
 ·exact abl (Y6 I.ok.kind hk hn hm fin) hd
 ·rcases hk with hk | hk
  ·exact abl (Zk I.ok.kind hk hc hcell fin) hd
  ·exact abl (wpAny_loadName_free I.ok.kind hk hc hcell fin hcd) hd
theorem Mc {i j pos}:PE X (.Constant (.int i) j pos) (tC (.int i)):=λ_ _ _ H _ I h=>wpAny_Constant_int ⟨.int i,H,I.tok _,⟨_,rfl⟩,h⟩
theorem NK {b j pos}:PE X (.Constant (.bool b) j pos) (tC (.bl b)):=λ_ _ _ H _ I h=>Constant_bool ⟨.bl b,H,I,rfl,h⟩
theorem Mf {j pos}:PE X (.Constant .none j pos) (tC .non):=λ_ _ _ H _ I h=>Constant_none ⟨.non,H,I,rfl,h⟩
theorem Mi {x j pos}:PE X (.Constant (.str x) j pos) (tC (.str x)):=λ_ _ _ H _ I h=>Calls.Constant_str ⟨.str x,H,I.tok _,⟨_,rfl⟩,h⟩
def Gl (X:Cx) (x:Str):Prop:=X.env.kindOf x=some .globalImplicit
theorem A6 {E:RX->RZ->Prop}{RL:List (Se×Obj)}{s:RZ}{σ:St}{H:Hp}{x:Str}{u:RX}{pos:Pos}{Q:RX->RZ->Prop}(I:Inv X RL σ H s) (hg:Gl X x) (hm:X.mg x=some u) (h:Q u s)
  (hd:(x == ("__debug__":Str))=false:=by decide):So (Su X.prog X.w) X.A (eval (.Name x pos) X.env) Q E s:=
 Xp I.ok.kind hg (Calls.loadGlobal_global (by rw [I.ok.glob];exact I.mod.glob.keeps I.bk) hm h) hd
theorem tH {E:RX->RZ->Prop}{RL:List (Se×Obj)}{s:RZ}{σ:St}{H:Hp}{x:Str}{u:RX}{pos:Pos}{Q:RX->RZ->Prop}(I:Inv X RL σ H s) (hg:Gl X x) (hm:X.mg x=none) (hv:Tj x=some u) (h:Q u s)
  (hn:x≠"__name__":=by decide) (hd:(x == ("__debug__":Str))=false:=by decide):So (Su X.prog X.w) X.A (eval (.Name x pos) X.env) Q E s:=by
 obtain ⟨mb,h1,h2⟩:=I.mod.blt
 exact Xp I.ok.kind hg (Calls.loadGlobal_builtin (by rw [I.ok.glob];exact I.mod.glob.keeps I.bk) hm (by rw [I.ok.blt];exact h1.keeps I.bk) ((h2 x hn).trans hv) h) hd
theorem Bd {x:Str}{v:V}{u:RX}{pos:Pos}(hg:Gl X x) (hm:X.mg x=some u) (r:RelV v u) (hd:(x == ("__debug__":Str))=false:=by decide):PE X (.Name x pos) (tC v):=
 λ_ _ _ H _ I h=>A6 I hg hm ⟨v,H,I,r,h⟩ hd
theorem JK {x:Str}{v:V}{u:RX}{pos:Pos}(hg:Gl X x) (hm:X.mg x=none) (hv:Tj x=some u) (r:RelV v u) (hn:x≠"__name__":=by decide) (hd:(x == ("__debug__":Str))=false:=by decide):PE X (.Name x pos) (tC v):=
 λ_ _ _ H _ I h=>tH I hg hm hv ⟨v,H,I,r,h⟩ hn hd
variable {a b:SM}{ta tb:TE}{pos:Pos}
noncomputable def PC (X:Cx) (op:abZ) (a b:SM) (t:TE):Prop:=
 ∀(RL:List (Se×Obj)) (s:RZ) (σ:St) (H:Hp) (Q:VK),Inv X RL σ H s->t σ H Q->
  So (Su X.prog X.w) X.A (eval a X.env) (λv s₁=>So (Su X.prog X.w) X.A (eval b X.env) (λu s₂=>So (Su X.prog X.w) X.A (Ug op v u) (EP X RL σ Q) X.xe s₂) X.xe s₁) X.xe s
theorem Gy (b:SM){op:abZ}(h:op≠.In) (h2:op≠.NotIn):TN op b=false:=by
 have e1:(op == ac0)=false:=by cases op <;> first | rfl | exact absurd rfl h
 have e2:(op == ach)=false:=by cases op <;> first | rfl | exact absurd rfl h2
 cases b <;> simp [TN,e1,e2]
def tB (t:TE):TT:=λσ H Q=>t σ H λx H1=>∃c,x=.bl c/\Q c H1
theorem Pq {op:abZ}{t:TE}(h:PC X op a b t) (h1:TN op b=false:=by first | exact Gy _ (by decide) (by decide) | rfl):PT X (.Compare a [op] [b] pos) (tB t):=by
 intro RL s σ H Q I hw
 refine YH (bS (h RL s σ H _ I hw) λv s1 h1=>bS h1 λu s2 h2=>bS h2 λc s3 ⟨x,H1,I1,r1,q1⟩=>?_) h1
 obtain ⟨d,rfl,q⟩:=q1
 cases r1
 exact Tt ⟨H1,I1,q⟩
theorem Mw {e:SM}{t:TE}(h:PE X e t) (he:∀whole,Ze e X.env whole=(do let v <-whole;Vv e.pos;holding [v] (truthy v)):=by intro _;rfl):PT X e (tB t):=by
 intro RL s σ H Q I hw
 refine isTrue_plain (bS (h RL s σ H _ I hw) λv s1 ⟨x,H1,I1,r1,q1⟩=>?_) (he _)
 obtain ⟨d,rfl,q⟩:=q1
 cases r1
 exact Tt ⟨H1,I1,q⟩
variable {tA tB':TT}{rest:List SM}
def O0 (t u:TT):TT:=λσ H Q=>t σ H λc H1=>if c=true then u σ H1 Q else Q false H1
def PF (t u:TT):TT:=λσ H Q=>t σ H λc H1=>if c=true then Q true H1 else u σ H1 Q
def O6 (t:TT):TT:=λσ H Q=>t σ H λc H1=>Q (!c) H1
theorem JU (ha:PT X a tA):PW X (.BoolOp .And [a] pos) tA:=by
 intro wh RL s σ H Q I h
 refine isTrue_and (bS (ha RL s σ H Q I h) λc s1 e=>?_)
 cases c with
 | true=>exact isTrue_and_nil e
 | false=>exact e
theorem Mz (ha:PT X a tA):PW X (.BoolOp .Or [a] pos) tA:=by
 intro wh RL s σ H Q I h
 refine isTrue_or (bS (ha RL s σ H Q I h) λc s1 e=>?_)
 cases c with
 | false=>exact isTrue_or_nil e
 | true=>exact e
theorem My (ha:PT X a tA) (hb:PW X (.BoolOp .And (b::rest) pos) tB'):PW X (.BoolOp .And (a::b::rest) pos) (O0 tA tB'):=by
 intro wh RL s σ H Q I h
 refine isTrue_and (bS (ha RL s σ H _ I h) λc s1 ⟨H1,I1,q1⟩=>?_)
 cases c with
 | true=>exact hb wh RL s1 σ H1 Q I1 q1
 | false=>exact ⟨H1,I1,q1⟩
theorem NR (ha:PT X a tA) (hb:PW X (.BoolOp .Or (b::rest) pos) tB'):PW X (.BoolOp .Or (a::b::rest) pos) (PF tA tB'):=by
 intro wh RL s σ H Q I h
 refine isTrue_or (bS (ha RL s σ H _ I h) λc s1 ⟨H1,I1,q1⟩=>?_)
 cases c with
 | true=>exact ⟨H1,I1,q1⟩
 | false=>exact hb wh RL s1 σ H1 Q I1 q1
theorem Mv (ha:PT X a tA):PT X (.UnaryOp .Not a pos) (O6 tA):=by
 intro RL s σ H Q I h
 exact isTrue_not (ha RL s σ H (λc H1=>Q (!c) H1) I h)
def N1 (ta tb:TE):TE:=λσ H Q=>ta σ H λx H1=>∃c,x=.bl c/\if c=true then tb σ H1 Q else Q (.bl false) H1
def O7 (ta tb:TE):TE:=λσ H Q=>ta σ H λx H1=>∃c,x=.bl c/\if c=true then Q (.bl true) H1 else tb σ H1 Q
def N5 (ta:TE):TE:=λσ H Q=>ta σ H λx H1=>∃c,x=.bl c/\Q (.bl (!c)) H1
theorem Mh {op}{t:TE}(h:PE X a t):PE X (.BoolOp op [a] pos) t:=λRL s σ H Q I hw=>BoolOp_one (h RL s σ H Q I hw)
theorem Mb (ha:PE X a ta) (hb:PE X (.BoolOp .And (b::rest) pos) tb):PE X (.BoolOp .And (a::b::rest) pos) (N1 ta tb):=by
 intro RL s σ H Q I h
 refine BoolOp_and (bS (ha RL s σ H _ I h) λv s1 ⟨x,H1,I1,r1,q1⟩=>?_)
 obtain ⟨c,rfl,q1⟩:=q1
 cases r1
 refine Tt ?_
 cases c with
 | true=>exact hb RL s1 σ H1 Q I1 q1
 | false=>exact ⟨.bl false,H1,I1,rfl,q1⟩
theorem NO (ha:PE X a ta) (hb:PE X (.BoolOp .Or (b::rest) pos) tb):PE X (.BoolOp .Or (a::b::rest) pos) (O7 ta tb):=by
 intro RL s σ H Q I h
 refine BoolOp_or (bS (ha RL s σ H _ I h) λv s1 ⟨x,H1,I1,r1,q1⟩=>?_)
 obtain ⟨c,rfl,q1⟩:=q1
 cases r1
 refine Tt ?_
 cases c with
 | false=>exact hb RL s1 σ H1 Q I1 q1
 | true=>exact ⟨.bl true,H1,I1,rfl,q1⟩
theorem Mg (ha:PE X a ta):PE X (.UnaryOp .Not a pos) (N5 ta):=by
 intro RL s σ H Q I h
 refine UnaryOp_ (bS (ha RL s σ H _ I h) λv s1 ⟨x,H1,I1,r1,q1⟩=>?_)
 obtain ⟨c,rfl,q1⟩:=q1
 cases r1
 exact not_of (Tt ⟨.bl (!c),H1,I1,rfl,q1⟩)
def Pz (t:TT) (ta tb:TE):TE:=λσ H Q=>t σ H λc H1=>if c=true then ta σ H1 Q else tb σ H1 Q
theorem GQ {c:SM}(hc:PT X c tA) (ha:PE X a ta) (hb:PE X b tb):PE X (.IfExp c a b pos) (Pz tA ta tb):=by
 intro RL s σ H Q I h
 refine wpAny_IfExp (bS (hc RL s σ H _ I h) λd s1 ⟨H1,I1,q1⟩=>?_)
 cases d with
 | true=>exact ha RL s1 σ H1 Q I1 q1
 | false=>exact hb RL s1 σ H1 Q I1 q1
end
noncomputable def cH (K:RV) (H:Hp) (a:Se) (xs:List V):Prop:=
 Rd H a (.lst xs)\/
  ∃(o:Obj) (RM:Array RX) (n:Nat),K.lookup a=some o/\o.cls=.type "list"/\o.dict=none/\o.data=.seq RM n/\RM.size<=sizeLine/\Vals xs RM.toList
noncomputable def cV (K:RV) (H:Hp) (a:Se) (xs:List V):Prop:=
 Rd H a (.tup xs)\/
  ∃(o:Obj) (RM:Array RX) (n:Nat),K.lookup a=some o/\o.cls=.type "tuple"/\o.data=.seq RM n/\RM.size<=sizeLine/\Vals xs RM.toList
noncomputable def OA:RX->Option V
 | .none=>some .non
 | .bool b=>some (.bl b)
 | .int i _=>some (.int i)
 | .str x _=>some (.str x)
 | .bytes b _=>some (.byt b)
 | .float b _=>some (.flt b)
 | .ref a=>some (.ref a)
 | .type n=>some (.ty n)
 | _=>none
theorem RelV.abs {x:V}{u:RX}(r:RelV x u):OA u=some x:=by
 cases x with
 | non=>cases r;rfl
 | bl _=>cases r;rfl
 | int _=>obtain ⟨t,rfl⟩:=r;rfl
 | str _=>obtain ⟨t,rfl⟩:=r;rfl
 | byt _=>obtain ⟨t,rfl⟩:=r;rfl
 | flt _=>obtain ⟨t,rfl⟩:=r;rfl
 | ref _=>cases r;rfl
 | ty _=>cases r;rfl
theorem RelV.inj {x y:V}{u:RX}(r:RelV x u) (q:RelV y u):x=y:=Tp (r.abs.symm.trans q.abs)
theorem Vals.inj:∀{xs ys:List V}{us:List RX},Vals xs us->Vals ys us->xs=ys
 | _,_,_,.nil,.nil=>rfl
 | _,_,_,.cons r t,.cons r' t'=>by rw [r.inj r',Vals.inj t t']
section
variable {X:Cx}{RL:List (Se×Obj)}{σ:St}{H:Hp}{s:RZ}{a:Se}{xs ys:List V}
theorem cH.of {K:RV}(h:H a=some (.lst xs)):cH K H a xs:=.inl (.inl h)
theorem Inv.list (I:Inv X RL σ H s) (h:cH X.K H a xs):∃RM:List RX,Vals xs RM/\PlainL s.heap a RM.toArray/\xs.length<=sizeLine:=by
 rcases h with h | ⟨o,RM,n,hk,hc,hd,hs,hz,r⟩
 ·obtain ⟨z,RM,n,r,e⟩:=h.ok I.hok
  exact ⟨RM,r,⟨_,n,e,rfl,rfl,rfl⟩,z⟩
 ·refine ⟨RM.toList,r,⟨o,n,I.kIn a o hk,hc,hd,by simpa using hs⟩,?_⟩
  have e:=r.length
  simp only [Sa] at e
  omega
theorem Inv.tuple (I:Inv X RL σ H s) (h:cV X.K H a xs):∃RM:List RX,Vals xs RM/\abX s.heap a RM.toArray/\xs.length<=sizeLine:=by
 rcases h with h | ⟨o,RM,n,hk,hc,hs,hz,r⟩
 ·obtain ⟨z,RM,r,p⟩:=h.ok I.hok
  exact ⟨RM,r,p,z⟩
 ·refine ⟨RM.toList,r,⟨o,I.kIn a o hk,hc,n,by simpa using hs⟩,?_⟩
  have e:=r.length
  simp only [Sa] at e
  omega
theorem Inv.list_inj (I:Inv X RL σ H s) (h:cH X.K H a xs) (h':cH X.K H a ys):xs=ys:=by
 obtain ⟨RM,r,⟨o,n,e,_,_,d⟩,_⟩:=I.list h
 obtain ⟨its',r',⟨o',n',e',_,_,d'⟩,_⟩:=I.list h'
 rw [e] at e';cases e'
 rw [d] at d'
 injection d' with d1 _
 have:RM=its':=by simpa using congrArg YI d1
 subst this
 exact r.inj r'
theorem Inv.tuple_inj (I:Inv X RL σ H s) (h:cV X.K H a xs) (h':cV X.K H a ys):xs=ys:=by
 obtain ⟨RM,r,⟨o,e,_,n,d⟩,_⟩:=I.tuple h
 obtain ⟨its',r',⟨o',e',_,n',d'⟩,_⟩:=I.tuple h'
 rw [e] at e';cases e'
 rw [d] at d'
 injection d' with d1 _
 have:RM=its':=by simpa using congrArg YI d1
 subst this
 exact r.inj r'
end
abbrev Cx.wish (X:Cx) (E:RX->RZ->Prop):Cx:={X with xe:=E}
abbrev Cx.nox (X:Cx):Cx:=X.wish λ_ _=>False
theorem Cx.Ok.wish {X:Cx}(ok:X.Ok) (E:RX->RZ->Prop):(X.wish E).Ok:=
 ⟨ok.mod,ok.kind,ok.glob,ok.blt,ok.above,ok.inj,ok.has,ok.cab,ok.hd,ok.frames,ok.stk,ok.exf,ok.bs,ok.bsz,ok.noex,ok.exfs,ok.funs,ok.frf⟩
theorem Cx.Ok.unwish {X:Cx}{E:RX->RZ->Prop}(ok:(X.wish E).Ok):X.Ok:=
 ⟨ok.mod,ok.kind,ok.glob,ok.blt,ok.above,ok.inj,ok.has,ok.cab,ok.hd,ok.frames,ok.stk,ok.exf,ok.bs,ok.bsz,ok.noex,ok.exfs,ok.funs,ok.frf⟩
section
variable {X:Cx}{RL:List (Se×Obj)}{σ:St}{H:Hp}{s:RZ}{E:RX->RZ->Prop}
theorem Inv.wish (I:Inv X RL σ H s) (E:RX->RZ->Prop):Inv (X.wish E) RL σ H s:=⟨I.ok.wish E,I.os,I.bare,I.base,I.loc,I.cell,I.free,I.freeC,I.pin,I.hok,I.len⟩
theorem Inv.unwish (I:Inv (X.wish E) RL σ H s):Inv X RL σ H s:=⟨I.ok.unwish,I.os,I.bare,I.base,I.loc,I.cell,I.free,I.freeC,I.pin,I.hok,I.len⟩
theorem SP.unwish {D:Ends}{f:Flow}{s':RZ}(h:SP (X.wish E) RL D f s'):SP X RL D f s':=by
 cases f with
 | next=>obtain ⟨σ',H',I,q⟩:=h;exact ⟨σ',H',I.unwish,q⟩
 | brk=>obtain ⟨σ',H',I,q⟩:=h;exact ⟨σ',H',I.unwish,q⟩
 | cont=>obtain ⟨σ',H',I,q⟩:=h;exact ⟨σ',H',I.unwish,q⟩
 | ret u=>obtain ⟨v,σ',H',I,r,q⟩:=h;exact ⟨v,σ',H',I.unwish,r,q⟩
theorem jP.nox {st:List Vj}{t:TS}(h:jP X.nox st t):jP X st t:=λRL s σ H D I hw=>
 Tc (h RL s σ H D (I.wish _) hw) (λ_ _ q=>q.unwish) λ_ _ z=>VR z
end
section
variable {X:Cx}{st:Vj}{rest:List Vj}{t u:TS}{e:SM}{te:TE}{pos:Pos}
def N4:TS:=λD σ H=>D.nx σ H
def O9 (t u:TS):TS:=λD σ H=>t {D with nx:=u D} σ H
theorem JR:jP X [] N4:=λ_ _ σ H _ I h=>Xd ⟨σ,H,I,h⟩
theorem GW (h1:PS X st t) (h2:jP X rest u):jP X (st::rest) (O9 t u):=by
 intro RL s σ H D I h
 refine aap (bS (h1 RL s σ H {D with nx:=u D} I h) λf s1 q=>?_)
 cases f with
 | next=>
  obtain ⟨σ',H',I',q⟩:=q
  exact h2 RL s1 σ' H' D I' q
 | ret v=>exact q
 | brk=>exact q
 | cont=>exact q
theorem JS (h1:PS X st t):jP X [st] t:=by
 intro RL s σ H D I h
 refine aap (bS (h1 RL s σ H D I h) λf s1 q=>?_)
 cases f with
 | next=>exact Xd q
 | ret v=>exact q
 | brk=>exact q
 | cont=>exact q
theorem Inv.quiet {RL:List (Se×Obj)}{σ:St}{H:Hp}{s:RZ}(I:Inv X RL σ H s):interactive X.env=false:=by simp [interactive,I.ok.kind]
def N3 (te:TE):TS:=λD σ H=>te σ H λ_ H1=>D.nx σ H1
theorem qC (he:PE X e te) (hs:VC e none pos.line X.env=pure false:=by rfl):PS X (.Expr e pos) (N3 te):=by
 intro RL s σ H D I h
 exact wpAny_Expr_any (bS (he RL s σ H _ I h) λv s1 ⟨x,H1,I1,r1,q1⟩=>⟨σ,H1,I1,q1⟩) I.quiet hs
def O8 (te:TE):TS:=λD σ H=>te σ H D.rt
theorem Mt (he:PE X e te):PS X (.Return (some e) pos) (O8 te):=by
 intro RL s σ H D I h
 exact wpAny_Return_some (bS (he RL s σ H _ I h) λv s1 ⟨x,H1,I1,r1,q1⟩=>⟨x,σ,H1,I1,r1,q1⟩)
def O4 (c:TT) (t u:TS):TS:=λD σ H=>c σ H λb H1=>if b=true then t D σ H1 else u D σ H1
theorem NQ {c:SM}{a b:List Vj}{tc:TT}(hc:PT X c tc) (ha:jP X a t) (hb:jP X b u):PS X (.If c a b pos) (O4 tc t u):=by
 intro RL s σ H D I h
 refine wpAny_If (bS (hc RL s σ H _ I h) λd s1 ⟨H1,I1,q1⟩=>?_)
 cases d with
 | true=>exact ha RL s1 σ H1 D I1 q1
 | false=>exact hb RL s1 σ H1 D I1 q1
end
abbrev TG:=V->St->Hp->(St->Hp->Prop)->Prop
abbrev o7:=List V->St->Hp->(St->Hp->Prop)->Prop
noncomputable def PG (X:Cx) (RN:SM) (t:TG):Prop:=
 ∀(RL:List (Se×Obj)) (s:RZ) (σ:St) (H:Hp) (v:V) (u:RX) (Q:St->Hp->Prop),Inv X RL σ H s->RelV v u->t v σ H Q->
  So (Su X.prog X.w) X.A (assign RN X.env u) (λ_ s'=>∃σ' H',Inv X RL σ' H' s'/\Q σ' H') X.xe s
noncomputable def vd (X:Cx) (ts:List SM) (t:o7):Prop:=
 ∀(RL:List (Se×Obj)) (s:RZ) (σ:St) (H:Hp) (vs:List V) (us:List RX) (Q:St->Hp->Prop),Inv X RL σ H s->Vals vs us->t vs σ H Q->
  So (Su X.prog X.w) X.A (assignInOrder ((Tg ts X.env).map (·.2)) us) (λ_ s'=>∃σ' H',Inv X RL σ' H' s'/\Q σ' H') X.xe s
abbrev BL:=V->V->V->Hp->(Hp->Prop)->Prop
noncomputable def K1 (X:Cx) (t:BL):Prop:=
 ∀(RL:List (Se×Obj)) (s:RZ) (σ:St) (H:Hp) (o i v:V) (ov iv u:RX) (Q:Hp->Prop),Inv X RL σ H s->RelV o ov->RelV i iv->RelV v u->t o i v H Q->
  So (Su X.prog X.w) X.A (setItem ov iv u) (λ_ s'=>∃H',Inv X RL σ H' s'/\Q H') X.xe s
abbrev K4:=V->V->Hp->VK->Prop
noncomputable def Pg (X:Cx) (op:Zv) (t:K4):Prop:=
 ∀(RL:List (Se×Obj)) (s:RZ) (σ:St) (H:Hp) (x y:V) (v u:RX) (Q:VK),Inv X RL σ H s->RelV x v->RelV y u->t x y H Q->
  So (Su X.prog X.w) X.A (XM op v u) (EP X RL σ Q) X.xe s
section
variable {X:Cx}{pos:Pos}
def HS (i:Nat):TG:=λv σ H Q=>Q (σ.set i (some v)) H
theorem JM {i:Nat}{x:Str}(hN:X.N.Nodup) (hi:X.N[i]?=some x) (hx:Loc X.env.scope x) (hf:X.fn x=true\/X.env.scope.names.lookup x=some .local:=by first | exact .inl rfl | exact .inr rfl | assumption):PG X (.Name x pos) (HS i):=by
 intro RL s σ H v u Q I r h
 exact wpAny_assign_Name (rV I hN hi hx r (λs' I'=>⟨_,H,I',h⟩) hf)
def aE:o7:=λvs σ H Q=>vs=[]/\Q σ H
def ao (t:TG) (u:o7):o7:=λvs σ H Q=>∃v r,vs=v::r/\t v σ H λσ' H'=>u r σ' H' Q
theorem JO:vd X [] aE:=by
 intro RL s σ H vs us Q I r h
 obtain ⟨e,h⟩:=h
 subst e
 cases r
 exact assignInOrder_nil ⟨σ,H,I,h⟩
theorem GS {e:SM}{es:List SM}{t:TG}{u:o7}(h1:PG X e t) (h2:vd X es u)
  (hs:(Tg (e::es) X.env).map (·.2)=assign e X.env::(Tg es X.env).map (·.2):=by rfl):vd X (e::es) (ao t u):=by
 intro RL s σ H vs us Q I r h
 obtain ⟨v,vr,e1,h⟩:=h
 subst e1
 cases r with
 | cons r rr=>
  rw [hs]
  refine assignInOrder_cons (bS (h1 RL s σ H _ _ _ I r h) λ_ s1 ⟨σ1,H1,I1,q1⟩=>?_)
  exact h2 RL s1 σ1 H1 _ _ Q I1 rr q1
def bI (K:RV) (n:Nat) (t:o7):TG:=λv σ H Q=>∃a xs,v=.ref a/\cV K H a xs/\xs.length=n/\t xs σ H Q
theorem Ml {es:List SM}{k:Nat}{t:o7}{n:Nat}(hc:X.calm=true) (h:vd X es t)
  (hn:(Tg es X.env).length=n:=by rfl) (hst:(Tg es X.env).findIdx? (·.1)=none:=by rfl):PG X (.Tuple es k pos) (bI X.K n t):=by
 intro RL s σ H v u Q I r hw
 obtain ⟨a,xs,e1,hq,hl,hw⟩:=hw
 subst e1
 cases r
 obtain ⟨RM,rv,ht,hz⟩:=I.tuple hq
 refine assign_Tuple_tuple (I.ok.hd hc) ht (by simp [hn,<-hl,rv.length]) hst λh' hx=>?_
 have I1:Inv X RL σ H {s with heap:=h'}:=I.kept (t':=s.toks) λb o e=>hx b o (Sv (Si e)) e
 exact h RL _ σ H xs _ Q I1 (by simpa using rv) hw
def OE (to ti:TE) (t:BL):TG:=λv σ H Q=>to σ H λo H1=>ti σ H1 λi H2=>t o i v H2 λH3=>Q σ H3
theorem Mk {o i:SM}{to ti:TE}{t:BL}(ho:PE X o to) (hi:PE X i ti) (hs:K1 X t)
  (ha:∀v,assign (.Subscript o i pos) X.env v=(do
   let ov <-holding [v] (eval o X.env)
   let iv <-holding [v,ov] (eval i X.env)
   Vv pos
   holding [v,ov,iv] (setItem ov iv v)
   release [v,ov,iv] []):=by intro _;rfl):PG X (.Subscript o i pos) (OE to ti t):=by
 intro RL s σ H v u Q I r h
 rw [ha]
 refine RU (SD (bS (ho RL s σ H _ I h) λov s1 ⟨x,H1,I1,r1,q1⟩=>?_))
 refine RU (SD (bS (hi RL s1 σ H1 _ I1 q1) λiv s2 ⟨y,H2,I2,r2,q2⟩=>?_))
 refine RU (T5 (RU (SD (bS (hs RL s2 σ H2 x y v ov iv u _ I2 r1 r2 r q2) λ_ s3 ⟨H3,I3,q3⟩=>?_))))
 exact wpAny_release ⟨σ,H3,I3,q3⟩
def Hq (te:TE) (g:TG):TS:=λD σ H=>te σ H λx H1=>g x σ H1 D.nx
theorem zd {tg e:SM}{te:TE}{g:TG}(he:PE X e te) (hg:PG X tg g) (hs:Vw [tg] e pos.line X.env=pure false:=by rfl) (hw:W6 [tg] e X.env=pure none:=by rfl)
  (h1:(Tg [tg] X.env).map (·.2)=[assign tg X.env]:=by rfl):PS X (.Assign [tg] e pos) (Hq te g):=by
 intro RL s σ H D I h
 refine wpAny_Assign_stores (bS (he RL s σ H _ I h) λv s1 ⟨x,H1,I1,r1,q1⟩=>?_) hs hw
 rw [h1]
 exact bS (hg RL s1 σ H1 x v _ I1 r1 q1) λ_ s2 q=>q
theorem Mu {i:Nat}{x:Str}{e:SM}{te:TE}{pos':Pos}(hN:X.N.Nodup) (hi:X.N[i]?=some x) (hx:Loc X.env.scope x) (he:PE X e te) (hs:VC e (some (.Name x pos')) pos.line X.env=pure false:=by rfl) (hf:X.fn x=true\/X.env.scope.names.lookup x=some .local:=by first | exact .inl rfl | exact .inr rfl | assumption):
  PS X (.Assign [.Name x pos'] e pos) (Hq te (HS i)):=by
 intro RL s σ H D I h
 refine wpAny_Assign_Name (bS (he RL s σ H _ I h) λv s1 ⟨y,H1,I1,r1,q1⟩=>?_) hs
 exact rV I1 hN hi hx r1 (λs2 I2=>⟨_,H1,I2,q1⟩) hf
def O1 (i:Nat) (te:TE) (ti:K4):TS:=λD σ H=>∃x,σ[i]?=some (some x)/\te σ H λy H1=>ti x y H1 λz H2=>D.nx (σ.set i (some z)) H2
theorem Mq {i:Nat}{x:Str}{e:SM}{te:TE}{op:Zv}{ti:K4}{pos':Pos}(hN:X.N.Nodup) (hi:X.N[i]?=some x) (hx:Loc X.env.scope x) (he:PE X e te) (ho:Pg X op ti) (hf:X.fn x=true\/X.env.scope.names.lookup x=some .local:=by first | exact .inl rfl | exact .inr rfl | assumption):
  PS X (.AugAssign (.Name x pos') op e pos) (O1 i te ti):=by
 intro RL s σ H D I h
 obtain ⟨v,e1,h⟩:=h
 obtain ⟨m,hn,hl⟩:=I.loc
 have vis:qM X.env.scope x:=by rcases hx with k | k;exact .inl k;exact .inr (.inl k)
 obtain ⟨u,r,l⟩:=hl i x v hi e1 vis
 refine wpAny_AugAssign_Name ?_
 have go:So (Su X.prog X.w) X.A (eval e X.env) (λw s₂=>So (Su X.prog X.w) X.A (XM op u w) (λr s₃=>So (Su X.prog X.w) X.A (abY X.env x r) (λ_=>SP X RL D .next) X.xe s₃) X.xe s₂) X.xe s:=by
  refine bS (he RL s σ H _ I h) λw s1 ⟨y,H1,I1,r1,q1⟩=>?_
  refine bS (ho RL s1 σ H1 v y u w _ I1 r r1 q1) λz s2 ⟨zv,H2,I2,r2,q2⟩=>?_
  exact rV I2 hN hi hx r2 (λs3 I3=>⟨_,H2,I3,q2⟩) hf
 rcases l with ⟨hk,hm⟩ | ⟨hk,c,hc,hcell⟩
 ·exact Y6 I.ok.kind hk hn hm go
 ·rcases hk with hk | hk
  ·exact Zk I.ok.kind hk hc hcell go
  ·rcases hx with k | k
   ·have:X.env.scope.names.lookup x=some .free:=hk
    rw [k] at this;cases this
   ·have:X.env.scope.names.lookup x=some .free:=hk
    rw [k] at this;cases this
noncomputable def M1 (c:TT) (tb:TS):TS:=λD σ H=>∃W:Nat->St->Hp->Prop,(∃m,W m σ H)/\∀m σ H,W m σ H->
 c σ H λb H1=>if b=true then ∃N:St->Hp->Prop,(∀σ' H',N σ' H'->∃m',m' < m/\W m' σ' H')/\tb {D with nx:=N,ct:=N,bk:=D.nx} σ H1 else D.nx σ H1
theorem GV {c:SM}{body:List Vj}{tc:TT}{tb:TS}(hp:aaA (Su X.prog X.w) X.A X.env X.xe) (hc:PT X c tc) (hb:jP X body tb):PS X (.While c body [] pos) (M1 tc tb):=by
 intro RL s σ H D I h
 obtain ⟨W,⟨m0,w0⟩,turn⟩:=h
 refine wpAny_While (codeAny_whileLoop (λn s'=>∃σ' H',Inv X RL σ' H' s'/\W n σ' H') ?_ m0 ⟨σ,H,I,w0⟩)
 rintro n s1 ⟨σ1,H1,I1,w1⟩
 refine Vn hp (bS (hc RL s1 σ1 H1 _ I1 (turn n σ1 H1 w1)) λb s2 ⟨H2,I2,q2⟩=>?_)
 cases b with
 | true=>
  obtain ⟨N,hN,q2⟩:=q2
  rw [if_pos rfl]
  refine Vn hp (bS (hb RL s2 σ1 H2 _ I2 q2) λf s3 q3=>?_)
  cases f with
  | next=>
   obtain ⟨σ3,H3,I3,n3⟩:=q3
   obtain ⟨m',hm,w3⟩:=hN σ3 H3 n3
   exact ⟨m',hm,σ3,H3,I3,w3⟩
  | cont=>
   obtain ⟨σ3,H3,I3,n3⟩:=q3
   obtain ⟨m',hm,w3⟩:=hN σ3 H3 n3
   exact ⟨m',hm,σ3,H3,I3,w3⟩
  | brk=>exact q3
  | ret v=>exact q3
 | false=>
  rw [if_neg SN]
  exact Xd ⟨σ1,H2,I2,q2⟩
end
structure It where
 go:Nat->Hp->Prop
 yld:Nat->Hp->V->Hp->Prop
 stop:Nat->Hp->Prop
noncomputable def jK (X:Cx) (RL:List (Se×Obj)) (H:Hp) (b:Se):Prop:=
 H b=none/\b≠X.env.locals/\b∉X.fs/\(b∈X.ex\/X.s₀.heap.objs.size<=b)/\(∀x c,X.env.cells.lookup x=some c->c≠b)/\∀p∈X.pn++RL,p.1≠b
theorem Inv.fpOk {X:Cx}{RL:List (Se×Obj)}{σ:St}{H H':Hp}{s:RZ}{b:Se}(I:Inv X RL σ H s) (hb:s.heap.objs.size<=b) (hn:H' b=none):jK X RL H' b:=by
 refine ⟨hn,VJ (Sx I.lt hb),I.nofs hb,.inr (SJ I.sz hb),λx c e z=>?_,λp hp z=>?_⟩
 ·obtain ⟨v,q⟩:=I.cell x c e
  exact absurd (Sx q.lt (by rw [z];exact hb)) (UB _)
 ·exact absurd (Sx (Si (I.pin p hp).1) (by rw [z];exact hb)) (UB _)
structure Turn (P:Sm) (w:SO) (K:RV) (tg:SM) (J:It) (fp:List Se) (it:Se) (tn:Nat->TU->Prop):Prop where
 mem:it∈fp
 obj:∀i h,tn i h->∀b∈fp,∃o,h.get? b=some o/\∀v,o.data≠.cell v
 keep:∀i h h',tn i h->(∀b∈fp,∀o,h.get? b=some o->h'.get? b=some o)->tn i h'
 item:∀(X:Cx),X.prog=P->X.w=w->X.K=K->X.calm=true->∀(i:Nat) (RL:List (Se×Obj)) (s:RZ) (σ:St) (H:Hp) (E:RX->RZ->Prop),Inv X RL σ H s->(∀b∈fp,jK X RL H b)->tn i s.heap->J.go i H->
  So (Su P w) X.A (Wv (.ref it)) (λr s1=>∃u,r=some u/\
   So (Su P w) X.A (UY tg (.ref it) u) (λ_ s2=>∃x H',Inv X RL σ H' s2/\RelV x u/\J.yld i H x H'/\tn (i + 1) s2.heap/\∀b∈fp,H' b=none) E s1) E s
 done:∀(X:Cx),X.prog=P->X.w=w->X.K=K->X.calm=true->∀(i:Nat) (RL:List (Se×Obj)) (s:RZ) (σ:St) (H:Hp) (E:RX->RZ->Prop),Inv X RL σ H s->(∀b∈fp,jK X RL H b)->tn i s.heap->J.stop i H->
  So (Su P w) X.A (Wv (.ref it)) (λr s1=>r=none/\Inv X RL σ H s1) E s
 self:∀(A:SW) (i:Nat) (s:RZ) (Q:RX->RZ->Prop) (E:RX->RZ->Prop),tn i s.heap->Q (.ref it) s->So (Su P w) A (XN (.ref it)) Q E s
abbrev TI:=St->Hp->(It->Hp->Prop)->Prop
noncomputable def Oe (X:Cx) (RL:List (Se×Obj)) (σ:St) (tg:SM) (R:It->Hp->Prop) (itv:RX) (s2:RZ):Prop:=
 ∃(it:Se) (fp:List Se) (tn:Nat->TU->Prop) (J:It) (H':Hp),itv=.ref it/\Inv X RL σ H' s2/\Turn X.prog X.w X.K tg J fp it tn/\tn 0 s2.heap/\(∀b∈fp,jK X RL H' b)/\R J H'
noncomputable def PI (X:Cx) (tg RO:SM) (wi:TI):Prop:=
 ∀(RL:List (Se×Obj)) (s:RZ) (σ:St) (H:Hp) (R:It->Hp->Prop),Inv X RL σ H s->wi σ H R->
  So (Su X.prog X.w) X.A (eval RO X.env) (λv s1=>So (Su X.prog X.w) X.A (XN v) (Oe X RL σ tg R) X.xe s1) X.xe s
theorem xA {M:acg}{A:SW}{E:RX->RZ->Prop}{s:RZ}{tg:SM}{it:Se}{u:RX}{o:Obj}{n:String}{vs:Array RX}{Q:Unit->RZ->Prop}(ho:s.heap.get? it=some o) (hc:o.cls=.type n) (hd:o.data=.fields vs)
  (hn:["enumerate","zip","dict_itemiterator","dict_reverseitemiterator","odict_iterator","itertools.zip_longest","itertools.pairwise"].contains n=false) (hQ:Q () s):So M A (UY tg (.ref it) u) Q E s:=by
 unfold UY
 cases tg <;> first
  | exact RY hQ
  | (cases u <;> first
    | exact RY hQ
    | (refine RU (wpAny_load ho ?_);rw [hc,hd];show So M A (if (["enumerate","zip","dict_itemiterator","dict_reverseitemiterator","odict_iterator","itertools.zip_longest","itertools.pairwise"].contains n && vs[0]? == some (abm _))=true then _ else _) Q E s;rw [if_neg (by intro h;rw [hn,Bool.false_and] at h;cases h)];exact RY hQ))
noncomputable def Hv (K:RV) (a:Se):It:=
 ⟨λi H=>∃xs x,cH K H a xs/\xs[i]?=some x,λi H x H'=>H'=H/\∀xs,cH K H a xs->xs[i]?=some x,λi H=>∃xs,cH K H a xs/\xs.length<=i⟩
noncomputable def Hx (K:RV) (a:Se):It:=
 ⟨λi H=>∃xs x,cV K H a xs/\xs[i]?=some x,λi H x H'=>H'=H/\∀xs,cV K H a xs->xs[i]?=some x,λi H=>∃xs,cV K H a xs/\xs.length<=i⟩
def Hw (lo:Int) (n:Nat):It:=⟨λi _=>i < n,λi H x H'=>H'=H/\x=.int (lo + i),λi _=>n<=i⟩
theorem E_ {P:Sm}{w:SO}{K:RV}{tg:SM}(a it:Se):Turn P w K tg (Hv K a) [it] it (λi h=>h.IsListIter it a i) where
 mem:=by simp
 obj:=λi h st b hb=>by
  have e:b=it:=by simpa using hb
  subst e
  obtain ⟨o,e,c,d⟩:=st
  exact ⟨o,e,λv z=>by rw [d] at z;cases z⟩
 keep:=λi h h' st k=>st.at λo e=>k it (by simp) o e
 item:=by
  intro X hP hw hK hc i RL s σ H E I hf st hg
  subst hP hw hK
  obtain ⟨xs,x,hq,hx⟩:=hg
  obtain ⟨RM,rv,p,hz⟩:=I.list hq
  obtain ⟨u,hu,ru⟩:=rv.get hx
  obtain ⟨f0,f1,f2,f3,f4,f5⟩:=hf it (by simp)
  refine wpAny_pyNext_list_item st p.isList (x:=u) (by simpa using hu) λh' st' sb=>?_
  have I1:Inv X RL σ H {s with heap:=h'}:=I.turned (t':=s.toks) (λb o hb e=>(sb.2 b hb).trans e) f0 f1 f3 f4 f5
  obtain ⟨o,e,c,d⟩:=id st'
  exact ⟨u,rfl,xA (s:={s with heap:=h'}) e c d (by decide) ⟨x,H,I1,ru,⟨rfl,λys hy=>by rw [I.list_inj hy hq];exact hx⟩,st',λb hb=>(hf b hb).1⟩⟩
 done:=by
  intro X hP hw hK hc i RL s σ H E I hf st hg
  subst hP hw hK
  obtain ⟨xs,hq,hx⟩:=hg
  obtain ⟨RM,rv,p,hz⟩:=I.list hq
  obtain ⟨f0,f1,f2,f3,f4,f5⟩:=hf it (by simp)
  have hl:=rv.length
  exact wpAny_pyNext_list_end (I.ok.hd hc) st p.isList (by simp;omega) λh' eb=>⟨rfl,I.turned (t':=s.toks) (λb o hb e=>eb b o hb e) f0 f1 f3 f4 f5⟩
 self:=λ_ _ _ _ _ st h=>wpAny_pyIter_listiter st h
theorem Dc {P:Sm}{w:SO}{K:RV}{tg:SM}(a it:Se):Turn P w K tg (Hx K a) [it] it (λi h=>h.IsTupleIter it a i) where
 mem:=by simp
 obj:=λi h st b hb=>by
  have e:b=it:=by simpa using hb
  subst e
  obtain ⟨o,e,c,d⟩:=st
  exact ⟨o,e,λv z=>by rw [d] at z;cases z⟩
 keep:=λi h h' st k=>st.at λo e=>k it (by simp) o e
 item:=by
  intro X hP hw hK hc i RL s σ H E I hf st hg
  subst hP hw hK
  obtain ⟨xs,x,hq,hx⟩:=hg
  obtain ⟨RM,rv,p,hz⟩:=I.tuple hq
  obtain ⟨u,hu,ru⟩:=rv.get hx
  obtain ⟨f0,f1,f2,f3,f4,f5⟩:=hf it (by simp)
  refine wpAny_pyNext_tuple_item st (show s.heap.IsTuple a RM.toArray from p) (x:=u) (by simpa using hu) λh' st' sb=>?_
  have I1:Inv X RL σ H {s with heap:=h'}:=I.turned (t':=s.toks) (λb o hb e=>(sb.2 b hb).trans e) f0 f1 f3 f4 f5
  obtain ⟨o,e,c,d⟩:=id st'
  exact ⟨u,rfl,xA (s:={s with heap:=h'}) e c d (by decide) ⟨x,H,I1,ru,⟨rfl,λys hy=>by rw [I.tuple_inj hy hq];exact hx⟩,st',λb hb=>(hf b hb).1⟩⟩
 done:=by
  intro X hP hw hK hc i RL s σ H E I hf st hg
  subst hP hw hK
  obtain ⟨xs,hq,hx⟩:=hg
  obtain ⟨RM,rv,p,hz⟩:=I.tuple hq
  obtain ⟨f0,f1,f2,f3,f4,f5⟩:=hf it (by simp)
  have hl:=rv.length
  exact wpAny_pyNext_tuple_end (I.ok.hd hc) st (show s.heap.IsTuple a RM.toArray from p) (by simp;omega) λh' eb=>⟨rfl,I.turned (t':=s.toks) (λb o hb e=>eb b o hb e) f0 f1 f3 f4 f5⟩
 self:=λ_ _ _ _ _ st h=>wpAny_pyIter_tupleiter st h
theorem C_ {P:Sm}{w:SO}{K:RV}{tg:SM}(it:Se) (lo:Int) (n:Nat):Turn P w K tg (Hw lo n) [it] it (λi h=>IsRangeIter h it (lo + (i:Nat) * 1) ((n:Int) - (i:Nat)) 1) where
 mem:=by simp
 obj:=λi h st b hb=>by
  have e:b=it:=by simpa using hb
  subst e
  exact ⟨_,st,λv z=>by
   have z':Data.fields _=Data.cell v:=z
   cases z'⟩
 keep:=λi h h' st k=>k it (by simp) _ st
 item:=by
  intro X hP hw hK hc i RL s σ H E I hf st hg
  subst hP hw hK
  obtain ⟨f0,f1,f2,f3,f4,f5⟩:=hf it (by simp)
  have W:=Walks.range (prog:=X.prog) (w:=X.w) (I.ok.hd hc) it lo 1 n
  refine W.item i s _ _ hg st λv h' tk hv st' kk=>?_
  obtain ⟨t,rfl⟩:=hv
  have I1:Inv X RL σ H {s with heap:=h',toks:=tk}:=I.turned (λb o hb e=>kk b o (by simpa using hb) e) f0 f1 f3 f4 f5
  refine ⟨_,rfl,xA (s:={s with heap:=h',toks:=tk}) (n:="range_iterator") st' rfl rfl (by decide) ⟨.int (lo + i),H,I1,⟨t,?_⟩,⟨rfl,rfl⟩,st',λb hb=>(hf b hb).1⟩⟩
  rw [Int.mul_one]
 done:=by
  intro X hP hw hK hc i RL s σ H E I hf st hg
  subst hP hw hK
  obtain ⟨f0,f1,f2,f3,f4,f5⟩:=hf it (by simp)
  exact wpAny_pyNext_range_end (I.ok.hd hc) st (by have:n<=i:=hg;omega) λh' eb=>⟨rfl,I.turned (t':=s.toks) (λb o hb e=>eb b o hb e) f0 f1 f3 f4 f5⟩
 self:=λ_ _ _ _ _ st h=>wpAny_pyIter_rangeiter st h
section
variable {X:Cx}{tg:SM}
theorem G5 {RL:List (Se×Obj)}{σ:St}{H:Hp}{s:RZ}{R:It->Hp->Prop}{E:RX->RZ->Prop}{lo hi:Int}{t u v:Tok}{tk:Nat}(I:Inv X RL σ H s) (h1:-(2 ^ 62)<=lo) (h2:lo < 2 ^ 62) (h3:-(2 ^ 62)<=hi) (h4:hi < 2 ^ 62)
  (q:R (Hw lo (hi - lo).toNat) H):So (Su X.prog X.w) X.A (XN (.ref s.heap.objs.size)) (Oe X RL σ tg R) E {s with heap:=s.heap.push {cls:=.type "range",data:=.fields #[.int lo t,.int hi u,.int 1 v]},toks:=tk}:=by
 refine wpAny_pyIter_range (IsRange.new ..) (small_one h1 h2 h3 h4) ?_
 have I1:Inv X RL σ H {s with heap:=s.heap.push {cls:=.type "range",data:=.fields #[.int lo t,.int hi u,.int 1 v]},toks:=tk}:=I.kept λb o e=>R5 _ e
 refine ⟨(s.heap.push {cls:=.type "range",data:=.fields #[.int lo t,.int hi u,.int 1 v]}).objs.size,[(s.heap.push {cls:=.type "range",data:=.fields #[.int lo t,.int hi u,.int 1 v]}).objs.size],_,_,H,rfl,
  I1.kept (t':=tk) λb o e=>R5 _ e,C_ _ lo (hi - lo).toNat,?_,λb hb=>?_,q⟩
 ·have e1:lo + ((0:Nat):Int) * 1=lo:=by simp
  have e2:(((hi - lo).toNat:Nat):Int) - ((0:Nat):Int)=Yc lo hi 1:=by rw [abA];split <;> omega
  show IsRangeIter _ _ (lo + ((0:Nat):Int) * 1) ((((hi - lo).toNat:Nat):Int) - ((0:Nat):Int)) 1
  rw [e1,e2]
  exact Sd _ rfl
 ·have e:b=(s.heap.push {cls:=.type "range",data:=.fields #[.int lo t,.int hi u,.int 1 v]}).objs.size:=by simpa using hb
  subst e
  exact I1.fpOk (R6 _) (I1.hok.fresh (R6 _))
def Nt (ta:TA):TI:=λσ H R=>ta σ H λvs H1=>∃j:Int,vs=[.int j]/\-(2 ^ 62)<=j/\j < 2 ^ 62/\R (Hw 0 j.toNat) H1
theorem EK {a:SM}{ta:TA}{p pos:Pos}(hg:Gl X "range") (hm:X.mg "range"=none) (ha:PA X [a] ta) (hs:R_ [a] X.env=[(false,eval a X.env)]:=by rfl):PI X tg (.Call (.Name "range" p) [a] [] pos) (Nt ta):=by
 intro RL s σ H R I h
 refine Call_ (tH I hg hm boot_range (Xe (bS (ha pos RL s σ H _ I h) λus s1 ⟨vs,H1,I1,r1,q1⟩=>?_) hs rfl))
 obtain ⟨j,e,q1,q2,q⟩:=q1
 subst e
 cases r1 with
 | cons r rr=>
  cases rr
  obtain ⟨t,rfl⟩:=r
  exact call_range_1 (G5 I1 (by omega) (by omega) q1 q2 (by simpa using q))
noncomputable def O3 (wi:TI) (g:TG) (tb:TS):TS:=λD σ H=>wi σ H λJ H1=>∃W:Nat->Nat->St->Hp->Prop,(∃m,W 0 m σ H1)/\∀i m σ H,W i m σ H->
 (J.stop i H/\D.nx σ H)\/(J.go i H/\∃N:St->Hp->Prop,(∀σ' H',N σ' H'->∃m',m' < m/\W (i + 1) m' σ' H')/\∀x H',J.yld i H x H'->g x σ H' λσ2 H2=>tb {D with nx:=N,ct:=N,bk:=D.nx} σ2 H2)
def pW (fp:List Se) (h:TU):List (Se×Obj):=fp.filterMap λb=>(h.get? b).map λo=>(b,o)
theorem jW {fp:List Se}{h:TU}{b:Se}{o:Obj}(hb:b∈fp) (e:h.get? b=some o):(b,o)∈pW fp h:=Wi.mpr ⟨b,hb,by rw [e];rfl⟩
theorem Et {fp:List Se}{h:TU}{p:Se×Obj}(hp:p∈pW fp h):p.1∈fp/\h.get? p.1=some p.2:=by
 obtain ⟨b,hb,e⟩:=Wi.mp hp
 cases q:h.get? b with
 | none=>rw [q] at e;cases e
 | some o=>
  rw [q] at e
  have e':(b,o)=p:=Tp e
  subst e'
  exact ⟨hb,q⟩
theorem Inv.pinned {RL:List (Se×Obj)}{σ:St}{H:Hp}{s:RZ}{fp:List Se}(I:Inv X RL σ H s) (hf:∀b∈fp,jK X RL H b) (ho:∀b∈fp,∃o,s.heap.get? b=some o/\∀v,o.data≠.cell v):Inv X (RL++pW fp s.heap) σ H s:=
 I.pins_of λp hp=>(Sz.mp hp).elim (λz=>I.pin p (S5 _ z)) λz=>by
  obtain ⟨hb,e⟩:=Et z
  obtain ⟨f0,f1,f2,_⟩:=hf p.1 hb
  obtain ⟨o,e',d⟩:=ho p.1 hb
  rw [e] at e';cases e'
  exact ⟨e,f0,f1,f2,d⟩
theorem Inv.unpinned {RL pl:List (Se×Obj)}{σ:St}{H:Hp}{s:RZ}(I:Inv X (RL++pl) σ H s):Inv X RL σ H s:=I.pins_of λp hp=>I.pin p (S5 _ (UP _ hp))
theorem Ms {RO:SM}{body:List Vj}{wi:TI}{g:TG}{tb:TS}{pos:Pos}(hp:aaA (Su X.prog X.w) X.A X.env X.xe) (hc:X.calm=true) (hi:PI X tg RO wi) (hg:PG X tg g) (hb:jP X body tb)
  (hs:∀x,Sl RO X.env x=pure x:=by intro _;rfl):PS X (.For tg RO body [] pos) (O3 wi g tb):=by
 intro RL s σ H D I h
 refine wpAny_For (bS (hi RL s σ H _ I h) λv s1 h1=>bS h1 λitv s2 h2=>?_) hs
 obtain ⟨it,fp,tn,J,H2,e,I2,T,st2,f2,W,⟨m0,w0⟩,turn⟩:=h2
 subst e
 have stat:∀{H':Hp},(∀b∈fp,H' b=none)->∀b∈fp,jK X RL H' b:=λhn b hb=>⟨hn b hb,(f2 b hb).2⟩
 refine codeAny_forLoop_any (λn s'=>∃i σ' H',Inv X RL σ' H' s'/\tn i s'.heap/\(∀b∈fp,H' b=none)/\W i n σ' H') ?_ m0 ⟨0,σ,H2,I2,st2,λb hb=>(f2 b hb).1,w0⟩
 rintro n s3 ⟨i,σ3,H3,I3,st3,fr3,w3⟩
 rcases turn i n σ3 H3 w3 with ⟨stop,qn⟩ | ⟨go,N,hN,step⟩
 ·refine Vn hp (bS (T.done X rfl rfl rfl hc i RL s3 σ3 H3 X.xe I3 (stat fr3) st3 stop) λr s4 ⟨hr,I4⟩=>?_)
  subst hr
  exact Xd ⟨σ3,H3,I4,qn⟩
 ·refine Vn hp (bS (T.item X rfl rfl rfl hc i RL s3 σ3 H3 X.xe I3 (stat fr3) st3 go) λr s4 ⟨u,hr,h4⟩=>?_)
  subst hr
  refine Vn hp (bS h4 λ_ s5 ⟨x,H5,I5,r5,y5,st5,fr5⟩=>?_)
  have I5':=I5.pinned (stat fr5) (T.obj _ _ st5)
  refine Vn hp (bS (hg _ s5 σ3 H5 x u _ I5' r5 (step x H5 y5)) λ_ s6 ⟨σ6,H6,I6,q6⟩=>?_)
  refine Vn hp (bS (hb _ s6 σ6 H6 _ I6 q6) λf s7 q7=>?_)
  have again:∀{σ7:St}{H7:Hp},Inv X (RL++pW fp s5.heap) σ7 H7 s7->N σ7 H7->∃m,m < n/\∃i σ' H',Inv X RL σ' H' s7/\tn i s7.heap/\(∀b∈fp,H' b=none)/\W i m σ' H':=fun {σ7 H7} I7 n7=>by
   obtain ⟨m',hm,w7⟩:=hN σ7 H7 n7
   refine ⟨m',hm,i + 1,σ7,H7,I7.unpinned,T.keep _ _ _ st5 λb hb o e=>(I7.pin (b,o) (S5 _ (S5 _ (jW hb e)))).1,λb hb=>?_,w7⟩
   obtain ⟨o,e,d⟩:=T.obj _ _ st5 b hb
   exact (I7.pin (b,o) (S5 _ (S5 _ (jW hb e)))).2.1
  cases f with
  | next=>obtain ⟨σ7,H7,I7,n7⟩:=q7;exact again I7 n7
  | cont=>obtain ⟨σ7,H7,I7,n7⟩:=q7;exact again I7 n7
  | brk=>obtain ⟨σ7,H7,I7,q7⟩:=q7;exact ⟨σ7,H7,I7.unpinned,q7⟩
  | ret v=>obtain ⟨x7,σ7,H7,I7,r7,q7⟩:=q7;exact ⟨x7,σ7,H7,I7.unpinned,r7,q7⟩
end
abbrev R2:=V->V->Hp->VK->Prop
noncomputable def dw (X:Cx) (f:RX->RX->Sem RX) (r:R2):Prop:=
 ∀(RL:List (Se×Obj)) (s:RZ) (σ:St) (H:Hp) (x y:V) (v u:RX) (Q:VK),Inv X RL σ H s->RelV x v->RelV y u->r x y H Q->
  So (Su X.prog X.w) X.A (f v u) (EP X RL σ Q) X.xe s
noncomputable def K5 (X:Cx) (f:RX->Sem RX) (r:V->Hp->VK->Prop):Prop:=
 ∀(RL:List (Se×Obj)) (s:RZ) (σ:St) (H:Hp) (x:V) (v:RX) (Q:VK),Inv X RL σ H s->RelV x v->r x H Q->
  So (Su X.prog X.w) X.A (f v) (EP X RL σ Q) X.xe s
noncomputable def bT (X:Cx) (f:RX) (r:List V->Hp->VK->Prop):Prop:=
 ∀(RL:List (Se×Obj)) (s:RZ) (σ:St) (H:Hp) (xs:List V) (us:List RX) (Q:VK),Inv X RL σ H s->Vals xs us->r xs H Q->
  So (Su X.prog X.w) X.A (call f us) (EP X RL σ Q) X.xe s
noncomputable def Ox (X:Cx) (r:V->Hp->(Bool->Hp->Prop)->Prop):Prop:=
 ∀(RL:List (Se×Obj)) (s:RZ) (σ:St) (H:Hp) (x:V) (v:RX) (Q:Bool->Hp->Prop),Inv X RL σ H s->RelV x v->r x H Q->
  So (Su X.prog X.w) X.A (truthy v) (TP X RL σ Q) X.xe s
def E6 (r:R2) (ta tb:TE):TE:=λσ H Q=>ta σ H λx H1=>tb σ H1 λy H2=>r x y H2 Q
def PL (r:V->Hp->VK->Prop) (ta:TE):TE:=λσ H Q=>ta σ H λx H1=>r x H1 Q
def rI (C:Int->Int->Prop) (g:Int->Int->V):R2:=λx y H Q=>∃i j,x=.int i/\y=.int j/\C i j/\Q (g i j) H
def pY (g:Int->Int->V):R2:=λx y H Q=>∃i j,x=.int i/\y=.int j/\Q (g i j) H
def rU (g:Int->V):V->Hp->VK->Prop:=λx H Q=>∃i,x=.int i/\Q (g i) H
section
variable {X:Cx}{a b c:SM}{ta tb tc:TE}{pos:Pos}
theorem Fx (ha:PE X a ta) (hb:PE X b tb){RL:List (Se×Obj)}{s:RZ}{σ:St}{H:Hp}{R:V->V->Hp->Prop}(I:Inv X RL σ H s)
  (h:ta σ H λx H1=>tb σ H1 λy H2=>R x y H2){Q:RX->RZ->Prop}{f:RX->RX->Sem RX}
  (hf:∀v u s2 x y H2,Inv X RL σ H2 s2->RelV x v->RelV y u->R x y H2->So (Su X.prog X.w) X.A (f v u) Q X.xe s2):
  So (Su X.prog X.w) X.A (eval a X.env) (λv s₁=>So (Su X.prog X.w) X.A (eval b X.env) (λu s₂=>So (Su X.prog X.w) X.A (f v u) Q X.xe s₂) X.xe s₁) X.xe s:=by
 refine bS (ha RL s σ H _ I h) λv s1 ⟨x,H1,I1,r1,q1⟩=>?_
 refine bS (hb RL s1 σ H1 _ I1 q1) λu s2 ⟨y,H2,I2,r2,q2⟩=>?_
 exact hf v u s2 x y H2 I2 r1 r2 q2
theorem NN {op:Zv}{r:R2}(ho:dw X (VS op) r) (ha:PE X a ta) (hb:PE X b tb):PE X (.BinOp a op b pos) (E6 r ta tb):=by
 intro RL s σ H Q I h
 exact wpAny_BinOp (Fx ha hb I h λv u s2 x y H2 I2 rx ry q=>ho RL s2 σ H2 x y v u Q I2 rx ry q)
theorem NP {op:UnaryOp}{r:V->Hp->VK->Prop}(ho:K5 X (unaryOp op) r) (ha:PE X a ta):PE X (.UnaryOp op a pos) (PL r ta):=by
 intro RL s σ H Q I h
 exact UnaryOp_ (bS (ha RL s σ H _ I h) λv s1 ⟨x,H1,I1,r1,q1⟩=>ho RL s1 σ H1 x v Q I1 r1 q1)
theorem OB {op:Zv}{r:R2}(ho:dw X (XM op) r){RL:List (Se×Obj)}{s:RZ}{σ:St}{H:Hp}{x y:V}{v u:RX}{Q:VK}(I:Inv X RL σ H s)
  (rx:RelV x v) (ry:RelV y u) (q:r x y H Q):So (Su X.prog X.w) X.A (XM op v u) (EP X RL σ Q) X.xe s:=ho RL s σ H x y v u Q I rx ry q
theorem Eu {f:RX->RX->Sem RX}{C:Int->Int->Prop}{g:Int->Int->Int}
  (rule:∀(i j:Int) (t u:Tok) (s:RZ) (Q:RX->RZ->Prop) (E:RX->RZ->Prop),C i j->Q (.int (g i j) s.toks) {s with toks:=s.toks + 1}->So (Su X.prog X.w) X.A (f (.int i t) (.int j u)) Q E s):
  dw X f (rI C λi j=>.int (g i j)):=by
 intro RL s σ H x y v u Q I rx ry h
 obtain ⟨i,j,rfl,rfl,hc,q⟩:=h
 obtain ⟨t,rfl⟩:=rx
 obtain ⟨t',rfl⟩:=ry
 exact rule i j t t' s _ _ hc ⟨.int (g i j),H,I.tok _,⟨_,rfl⟩,q⟩
theorem GG {f:RX->RX->Sem RX}{g:Int->Int->Int}
  (rule:∀(i j:Int) (t u:Tok) (s:RZ) (Q:RX->RZ->Prop) (E:RX->RZ->Prop),Q (.int (g i j) s.toks) {s with toks:=s.toks + 1}->So (Su X.prog X.w) X.A (f (.int i t) (.int j u)) Q E s):
  dw X f (pY λi j=>.int (g i j)):=by
 intro RL s σ H x y v u Q I rx ry h
 obtain ⟨i,j,rfl,rfl,q⟩:=h
 obtain ⟨t,rfl⟩:=rx
 obtain ⟨t',rfl⟩:=ry
 exact rule i j t t' s _ _ ⟨.int (g i j),H,I.tok _,⟨_,rfl⟩,q⟩
theorem GF {f:RX->RX->Sem RX}{g:Int->Int->Bool}
  (rule:∀(i j:Int) (t u:Tok) (s:RZ) (Q:RX->RZ->Prop) (E:RX->RZ->Prop),Q (.bool (g i j)) s->So (Su X.prog X.w) X.A (f (.int i t) (.int j u)) Q E s):
  dw X f (pY λi j=>.bl (g i j)):=by
 intro RL s σ H x y v u Q I rx ry h
 obtain ⟨i,j,rfl,rfl,q⟩:=h
 obtain ⟨t,rfl⟩:=rx
 obtain ⟨t',rfl⟩:=ry
 exact rule i j t t' s _ _ ⟨.bl (g i j),H,I,rfl,q⟩
def Ol (i j:Int):Prop:=0 < j/\j < 1073741824
def Om (i j:Int):Prop:=0<=j/\j<=1000000/\i.natAbs < 2 ^ 64
def xM (i j:Int):Prop:=(-(2 ^ 64) < i/\i < 2 ^ 64)\/(-(2 ^ 64) < j/\j < 2 ^ 64)
theorem xM.ok {i j:Int}(h:xM i j):IntMulOk i j:=by
 rcases h with ⟨h1,h2⟩ | ⟨h1,h2⟩
 ·exact .of_left (abB h1 h2)
 ·exact .of_right (abB h1 h2)
theorem Ew:dw X (VS .Add) (pY λi j=>.int (i + j)):=GG λ_ _ _ _ _ _ _ q=>add_int q
theorem L6:dw X (VS .Sub) (pY λi j=>.int (i - j)):=GG λ_ _ _ _ _ _ _ q=>sub_int q
theorem L3:dw X (VS .Mult) (rI xM λi j=>.int (i * j)):=Eu λ_ _ _ _ _ _ _ hc q=>mul_int q hc.ok
theorem JC:dw X (VS .FloorDiv) (rI Ol λi j=>.int (i / j)):=Eu λi j _ _ _ _ _ hc q=>by
 have h1:(0:Int) < j:=hc.1
 have h2:j < 1073741824:=hc.2
 exact floordiv_int (by omega) (by rw [Int.fdiv_eq_ediv_of_nonneg i (by omega)];exact q) (.inl (PyProof.noPylong_small (by omega)))
theorem LZ:dw X (VS .Mod) (rI (λ_ j=>0 < j) λi j=>.int (i % j)):=Eu λi j _ _ _ _ _ hc q=>by
 have h1:(0:Int) < j:=hc
 exact mod_int' (by omega) (by rw [Int.fmod_eq_emod_of_nonneg i (by omega)];exact q)
theorem L5:dw X (VS .Pow) (rI Om λi j=>.int (i ^ j.toNat)):=Eu λ_ _ _ _ _ _ _ hc q=>pow_int_small hc.1 hc.2.1 hc.2.2 q
theorem Jg:dw X (XM .Add) (pY λi j=>.int (i + j)):=GG λ_ _ _ _ _ _ _ q=>iadd_int q
theorem Jh:dw X (XM .Mult) (rI xM λi j=>.int (i * j)):=Eu λ_ _ _ _ _ _ _ hc q=>imul_int q hc.ok
theorem By {f:RX->Sem RX}{g:Int->Int}
  (rule:∀(i:Int) (t:Tok) (s:RZ) (Q:RX->RZ->Prop) (E:RX->RZ->Prop),Q (.int (g i) s.toks) {s with toks:=s.toks + 1}->So (Su X.prog X.w) X.A (f (.int i t)) Q E s):
  K5 X f (rU λi=>.int (g i)):=by
 intro RL s σ H x v Q I rx h
 obtain ⟨i,rfl,q⟩:=h
 obtain ⟨t,rfl⟩:=rx
 exact rule i t s _ _ ⟨.int (g i),H,I.tok _,⟨_,rfl⟩,q⟩
theorem Na:K5 X (unaryOp .USub) (rU λi=>.int (-i)):=By λ_ _ _ _ _ q=>neg_int q
theorem H_:dw X (Ug .Lt) (pY λi j=>.bl (decide (i < j))):=GF λ_ _ _ _ _ _ _ q=>lt_int q
theorem qA:dw X (Ug .Gt) (pY λi j=>.bl (decide (j < i))):=GF λ_ _ _ _ _ _ _ q=>gt_int q
theorem NI:dw X (Ug .GtE) (pY λi j=>.bl (decide (j<=i))):=GF λ_ _ _ _ _ _ _ q=>ge_int q
theorem dw.or {f:RX->RX->Sem RX}{r r':R2}(h:dw X f r) (h':dw X f r'):dw X f (λx y H Q=>r x y H Q\/r' x y H Q):=by
 intro RL s σ H x y v u Q I rx ry q
 rcases q with q | q
 ·exact h RL s σ H x y v u Q I rx ry q
 ·exact h' RL s σ H x y v u Q I rx ry q
theorem yZ (b:SM){op:abZ}(h:op≠.In:=by decide) (h2:op≠.NotIn:=by decide):TN op b=false:=by
 have e1:(op == ac0)=false:=by cases op <;> first | rfl | exact absurd rfl h
 have e2:(op == ach)=false:=by cases op <;> first | rfl | exact absurd rfl h2
 cases b <;> simp [TN,e1,e2]
theorem JL {op:abZ}{r:R2}(ho:dw X (Ug op) r) (ha:PE X a ta) (hb:PE X b tb) (hm:TN op b=false):PE X (.Compare a [op] [b] pos) (E6 r ta tb):=by
 intro RL s σ H Q I h
 exact wpAny_Compare1 (Fx ha hb I h λv u s2 x y H2 I2 rx ry q=>ho RL s2 σ H2 x y v u Q I2 rx ry q) hm
def N7 (t:TE):TT:=λσ H Q=>t σ H λx H'=>∃k,x=.bl k/\Q k H'
theorem JT {op:abZ}{r:R2}(ho:dw X (Ug op) r) (ha:PE X a ta) (hb:PE X b tb) (hm:TN op b=false):PT X (.Compare a [op] [b] pos) (N7 (E6 r ta tb)):=by
 intro RL s σ H Q I h
 refine YH (bS (ha RL s σ H _ I h) λv s1 ⟨x,H1,I1,r1,q1⟩=>bS (hb RL s1 σ H1 _ I1 q1) λu s2 ⟨y,H2,I2,r2,q2⟩=>
  bS (ho RL s2 σ H2 x y v u _ I2 r1 r2 q2) λc s3 ⟨z,H3,I3,r3,k,e,q3⟩=>?_) hm
 subst e
 cases r3
 exact Tt ⟨H3,I3,q3⟩
noncomputable def Fw (K:RV) (x:V) (H:Hp) (k:Bool):Prop:=
 match x with
 | .non=>k=false
 | .bl b=>k=b
 | .int i=>k=(i != 0)
 | .str y=>y.length<=sizeLine/\k=((y.length:Int) != 0)
 | .byt y=>y.size<=sizeLine/\k=((y.size:Int) != 0)
 | .ref p=>(∃xs,cH K H p xs/\k=!xs.isEmpty)\/(∃xs,cV K H p xs/\k=!xs.isEmpty)\/∃RS,H p=some (.dK RS)/\k=!RS.isEmpty
 | _=>False
theorem Cd {κ:Type}{RS:List (κ×V)}{vs:List (κ×RX)}(r:KV RS vs):(!vs.isEmpty)=!RS.isEmpty:=by
 cases r <;> rfl
theorem tG {xs:List V}{RM:List RX}(r:Vals xs RM):(!RM.toArray.isEmpty)=!xs.isEmpty:=by
 cases r <;> simp
theorem nh:(sizeLine:Nat) < 2 ^ 63:=by rw [S4];decide
theorem M3:Ox X (λx H Q=>∃k,Fw X.K x H k/\Q k H):=by
 intro RL s σ H x v Q I rx h
 obtain ⟨k,e,q⟩:=h
 have hl:=nh
 have hs:sizeLine=16777216:=S4
 cases x with
 | non=>
  cases rx
  have e':k=false:=e
  subst e'
  exact truthy_none ⟨H,I,q⟩
 | bl b=>
  cases rx
  have e':k=b:=e
  subst e'
  exact Tt ⟨H,I,q⟩
 | int i=>
  obtain ⟨t,rfl⟩:=rx
  have e':k=(i != 0):=e
  subst e'
  exact PySem.P.truthy_int ⟨H,I,q⟩
 | str y=>
  obtain ⟨t,rfl⟩:=rx
  obtain ⟨hy,e'⟩:y.length<=sizeLine/\k=((y.length:Int) != 0):=e
  subst e'
  exact PySem.P.truthy_str (by omega) ⟨H,I.tok _,q⟩
 | byt y=>
  obtain ⟨t,rfl⟩:=rx
  obtain ⟨hy,e'⟩:y.size<=sizeLine/\k=((y.size:Int) != 0):=e
  subst e'
  exact W.truthy_bytes (by omega) ⟨H,I.tok _,q⟩
 | ref p=>
  cases rx
  have e':(∃xs,cH X.K H p xs/\k=!xs.isEmpty)\/(∃xs,cV X.K H p xs/\k=!xs.isEmpty)\/∃RS,H p=some (.dK RS)/\k=!RS.isEmpty:=e
  rcases e' with ⟨xs,hx,e'⟩ | ⟨xs,hx,e'⟩ | ⟨RS,hx,e'⟩
  ·subst e'
   obtain ⟨RM,r,pl,hz⟩:=I.list hx
   have hlen:=r.length
   exact wpAny_truthy_list pl.isList (by simp only [Sf];omega) ⟨H,I.tok _,by rw [tG r];exact q⟩
  ·subst e'
   obtain ⟨RM,r,pl,hz⟩:=I.tuple hx
   have hlen:=r.length
   exact truthy_tuple pl (by simp only [Sf];omega) ⟨H,I.tok _,by rw [tG r];exact q⟩
  ·subst e'
   obtain ⟨hz,hS,vs,r,m⟩:RS.length<=sizeLine/\(p == VE)=false/\∃vs,KV RS vs/\s.heap.DictOf (uS X.prog X.w) p vs:=I.hok p _ hx
   have hlen:RS.length=vs.length:=abz r
   exact wpAny_truthy_dict hS m (by omega) ⟨H,I.tok _,by rw [Cd r];exact q⟩
 | _=>exact (show False from e).elim
theorem GY (ha:PE X a ta) (he:∀whole,Ze a X.env whole=(do let v <-whole;Vv a.pos;holding [v] (truthy v))):
  PT X a (λσ H Q=>ta σ H λx H'=>∃k,Fw X.K x H' k/\Q k H'):=by
 intro RL s σ H Q I h
 exact isTrue_plain (bS (ha RL s σ H _ I h) λv s1 ⟨x,H1,I1,r1,q1⟩=>M3 RL s1 σ H1 x v Q I1 r1 q1) (he _)
theorem tP:dw X (VS .Add) (λx y H Q=>∃i j,x=.str i/\y=.str j/\i.length + j.length<=sizeLine/\Q (.str (i++j)) H):=by
 intro RL s σ H x y v u Q I rx ry h
 obtain ⟨i,j,rfl,rfl,hz,q⟩:=h
 obtain ⟨t,rfl⟩:=rx
 obtain ⟨t',rfl⟩:=ry
 exact add_str (λt' tk=>⟨.str (i++j),H,I.tok _,⟨_,rfl⟩,q⟩) hz
theorem vals1 {x:V}{us:List RX}(r:Vals [x] us):∃u,us=[u]/\RelV x u:=by
 cases r with
 | cons r1 r2=>cases r2;exact ⟨_,rfl,r1⟩
theorem vals2 {x y:V}{us:List RX}(r:Vals [x,y] us):∃u w',us=[u,w']/\RelV x u/\RelV y w':=by
 cases r with
 | cons r1 r2=>
  cases r2 with
  | cons r3 r4=>cases r4;exact ⟨_,_,rfl,r1,r3⟩
theorem DG (hc:X.calm=true):bT X (.builtin "max") (λxs H Q=>∃i j,xs=[.int i,.int j]/\Q (.int (if j > i then j else i)) H):=by
 intro RL s σ H xs us Q I r h
 obtain ⟨i,j,rfl,q⟩:=h
 obtain ⟨u,w',rfl,⟨t,rfl⟩,⟨t',rfl⟩⟩:=vals2 r
 refine max_two_ints (I.ok.hd hc) λh' tk k=>⟨_,H,I.kept k,?_,q⟩
 by_cases hj:j > i
 ·rw [if_pos hj,if_pos hj];exact ⟨_,rfl⟩
 ·rw [if_neg hj,if_neg hj];exact ⟨_,rfl⟩
theorem DH (hc:X.calm=true):bT X (.builtin "min") (λxs H Q=>∃i j,xs=[.int i,.int j]/\Q (.int (if j < i then j else i)) H):=by
 intro RL s σ H xs us Q I r h
 obtain ⟨i,j,rfl,q⟩:=h
 obtain ⟨u,w',rfl,⟨t,rfl⟩,⟨t',rfl⟩⟩:=vals2 r
 refine min_two_ints (I.ok.hd hc) λh' tk k=>⟨_,H,I.kept k,?_,q⟩
 by_cases hj:j < i
 ·rw [if_pos hj,if_pos hj];exact ⟨_,rfl⟩
 ·rw [if_neg hj,if_neg hj];exact ⟨_,rfl⟩
end
structure dB (k:Nat) (A:SW):Prop where
 hd:A.handled=none
 dp:A.depth + 3 * k + 5 < aa5
 un:A.units + 16 * k + 200 < Uh
theorem dB.mono {j k:Nat}{A:SW}(r:dB k A) (h:j<=k):dB j A:=⟨r.hd,by have:=r.dp;omega,by have:=r.un;omega⟩
theorem dB.deeper {k:Nat}{A:SW}(r:dB (k + 1) A) (env:Env):dB k (A.deeper env):=
 ⟨r.hd,by have:=r.dp;show A.depth + 1 + 3 * k + 5 < _;omega,by have:=r.un;show A.units + 3 + 16 * k + 200 < _;omega⟩
theorem dB.depth {k:Nat}{A:SW}(r:dB k A):A.depth < aa5:=by have:=r.dp;omega
theorem dB.units {k:Nat}{A:SW}(r:dB k A):A.units + 64 < Uh:=by have:=r.un;omega
def CW:TA:=λ_ H Q=>Q [] H
def N2 (ta:TE) (tr:TA):TA:=λσ H Q=>ta σ H λx H1=>tr σ H1 λxs H2=>Q (x::xs) H2
section
variable {X:Cx}{e:SM}{es:List SM}{te:TE}{t:TA}{pos:Pos}
theorem g_:PA X [] CW:=λ_ _ _ _ H Q I h=>Calls.spliced_nil ⟨[],H,I,.nil,h⟩
theorem eW (ha:PE X e te) (hr:PA X es t) (hs:R_ (e::es) X.env=(false,eval e X.env)::R_ es X.env:=by rfl):PA X (e::es) (N2 te t):=by
 intro pos RL s σ H Q I h
 rw [hs]
 show So _ _ (spliced ((false,eval e X.env)::Us pos (R_ es X.env))) _ _ s
 refine Calls.spliced_cons (bS (ha RL s σ H _ I h) λu s1 ⟨x,H1,I1,r1,q1⟩=>?_)
 exact bS (hr pos RL s1 σ H1 _ I1 q1) λus s2 ⟨xs,H2,I2,r2,q2⟩=>⟨x::xs,H2,I2,.cons r1 r2,q2⟩
def O_ (t:TA):TE:=λσ H Q=>t σ H λxs H1=>xs.length<=sizeLine/\∀p,H1 p=none->Q (.ref p) (upd H1 p (.tup xs))
def O5 (t:TA):TE:=λσ H Q=>t σ H λxs H1=>xs.length<=sizeLine/\∀p,H1 p=none->Q (.ref p) (upd H1 p (.lst xs))
theorem Mj {x1}(h:PA X es t):PE X (.Tuple es x1 pos) (O_ t):=by
 intro RL s σ H Q I hq
 refine wpAny_Tuple_spliced (bS (h pos RL s σ H _ I hq) λus s1 ⟨xs,H1,I1,r,z,q⟩=>⟨by rw [<-r.length];exact z,?_⟩)
 have hf:H1 s1.heap.objs.size=none:=I1.hok.fresh (R6 _)
 refine ⟨.ref s1.heap.objs.size,upd H1 s1.heap.objs.size (.tup xs),I1.laid (t':=s1.toks) (λb u e=>R5 _ e) (R6 _) ?_,rfl,q _ hf⟩
 exact ⟨z,us,r,⟨_,Sd _ rfl,rfl,_,rfl⟩⟩
theorem Me (h:PA X es t):PE X (.List es pos) (O5 t):=by
 intro RL s σ H Q I hq
 refine wpAny_List_spliced (bS (h pos RL s σ H _ I hq) λus s1 ⟨xs,H1,I1,r,z,q⟩=>⟨by rw [<-r.length];exact z,?_⟩)
 have hf:H1 s1.heap.objs.size=none:=I1.hok.fresh (R6 _)
 refine ⟨.ref s1.heap.objs.size,upd H1 s1.heap.objs.size (.lst xs),I1.laid (t':=s1.toks) (λb u e=>R5 _ e) (R6 _) ?_,rfl,q _ hf⟩
 exact ⟨z,us,0,r,Sd _ rfl⟩
end
abbrev Sp:=List V->Hp->VK->XK->Prop
abbrev oU:=List Env->Hp->RZ->XK->RX->RZ->Prop
structure BC (P:Sm) (w:SO) (K:RV) (mg:Str->Option RX) (base:TU) (A:SW) (outer:List Env) (s:RZ) (H:Hp):Prop where
 frames:A.frames=some outer
 mod:Mod K mg base
 bs:∀b o,base.get? b=some o->s.heap.get? b=some o/\H b=none
 bsz:base.objs.size<=s.heap.objs.size
 funs:s.heap.FunFrames base outer
 frf:∀b∈frs outer,H b=none
 hok:fO P w H s.heap
 bare:Yb s.gens
noncomputable def CE (outer:List Env) (P:Sm) (w:SO) (H:Hp) (s:RZ) (Q:VK) (u:RX) (s':RZ):Prop:=
 ∃v H',s'.os=s.os/\Yb s'.gens/\Un (frs outer) [] H H' s.heap s'.heap/\fO P w H' s'.heap/\RelV v u/\Q v H'
noncomputable def CR (CX:oU) (outer:List Env) (P:Sm) (w:SO) (H:Hp) (s:RZ) (Q:VK) (E:XK) (r:aaB) (s':RZ):Prop:=
 match r with
 | .ok (.ret u)=>CE outer P w H s Q u s'
 | .ok _=>False
 | .error e=>CX outer H s E e s'
structure fH (P:Sm) (w:SO) (K:RV) (mg:Str->Option RX) (base:TU) (CX:oU) (k:Nat) (f:Se) (fd:SH) (ps:List Str) (sp:Sp):Prop where
 len:∀vs H Q E,sp vs H Q E->vs.length=ps.length
 run:∀(A:SW) (outer:List Env) (s:RZ) (H:Hp) (args:Args) (us:List RX) (vs:List V) (Q:VK) (E:XK),dB k A->BC P w K mg base A outer s H->aaC s fd args (ps.zip us)->Vals vs us->sp vs H Q E->
  U4 (Su P w) A (.call (.ref f) args) (CR CX outer P w H s Q E) s
section
variable {X:Cx}{RL:List (Se×Obj)}{σ:St}{H:Hp}{s s':RZ}
theorem Inv.env0 (I:Inv X RL σ H s):BC X.prog X.w X.K X.mg X.base X.A X.stack s H:=
 ⟨I.ok.frames,I.ok.mod,I.bs,SJ I.ok.bsz I.sz,I.stack,I.stkFree,I.hok,I.bare⟩
theorem Inv.after {Q:VK}{u:RX}(I:Inv X RL σ H s) (h:CE X.stack X.prog X.w H s Q u s'):EP X RL σ Q u s':=by
 obtain ⟨v,H',os,bare,un,hok,r,q⟩:=h
 obtain ⟨hh,g,d,t,os'⟩:=s'
 obtain rfl:os'=s.os:=os
 exact ⟨v,H',I.call (h':=hh) (g':=g) (d':=d) (t':=t) (ch:=[]) un hok bare (λb z=>absurd z (by simp)),r,q⟩
end
def Ij (sp:Sp) (dvs:List V) (E:XK) (t:TA):TE:=λσ H Q=>t σ H λvs H1=>sp (vs++dvs) H1 Q E
noncomputable def Binds (K:RV) (fd:SH) (ps:List Str) (ds:List RX):Prop:=
 ∀(s:RZ) (us:List RX),K.In s.heap->(us++ds).length=ps.length->aaC s fd ⟨us,[]⟩ (ps.zip (us++ds))
theorem Binds.all {K:RV}{fd:SH}{ps:List Str}(h:∀us:List RX,us.length=ps.length->Y3 fd ⟨us,[]⟩=pure (ps.zip us)):Binds K fd ps []:=λs us _ hl=>by
 rw [UZ] at hl ⊢
 exact .of_eq (h us hl)
def Passes (CX:oU) (X:Cx) (E:XK):Prop:=∀(RL:List (Se×Obj)) (σ:St) (H:Hp) (s:RZ) (e:RX) (s':RZ),Inv X RL σ H s->CX X.stack H s E e s'->X.xe e s'
section
variable {X:Cx}{CX:oU}{k:Nat}{f C:Se}{fd:SH}{ps:List Str}{sp:Sp}{dvs:List V}{ds:List RX}{E:XK}{x m:Str}{p pos apos:Pos}{e o:SM}{es:List SM}{ta:TE}{t:TA}
theorem EZ {RL:List (Se×Obj)}{σ:St}{H:Hp}{s:RZ}{Q:VK}{us:List RX}{vs:List V}(F:fH X.prog X.w X.K X.mg X.base CX k f fd ps sp) (hr:dB k X.A) (hb:Binds X.K fd ps ds) (hd:Vals dvs ds) (hx:Passes CX X E)
  (I:Inv X RL σ H s) (r:Vals vs us) (h:sp (vs++dvs) H Q E):So (Su X.prog X.w) X.A (call (.ref f) us) (EP X RL σ Q) X.xe s:=by
 have r2:Vals (vs++dvs) (us++ds):=r.append hd
 have hl:(us++ds).length=ps.length:=by rw [<-r2.length];exact F.len _ _ _ _ h
 refine Y4 (U9 (F.run X.A X.stack s H ⟨us,[]⟩ (us++ds) (vs++dvs) Q E hr I.env0 (hb s us I.kIn hl) r2 h) λr s' hq=>?_)
 cases r with
 | error e=>exact hx RL σ H s e s' I hq
 | ok fl=>
  cases fl with
  | ret u=>exact I.after hq
  | next=>exact VR hq
  | brk=>exact VR hq
  | cont=>exact VR hq
theorem uT (F:fH X.prog X.w X.K X.mg X.base CX k f fd ps sp) (hr:dB k X.A) (hg:Gl X x) (hm:X.mg x=some (.ref f)) (hk:TM X.K (.ref f)=true) (hb:Binds X.K fd ps ds) (hd:Vals dvs ds) (hx:Passes CX X E)
  (ha:PA X (e::es) t) (hdb:(x == ("__debug__":Str))=false:=by decide) (he:R_ (e::es) X.env=(false,eval e X.env)::R_ es X.env:=by rfl) (hpl:(Us pos (R_ es X.env)).any (·.1)=false:=by rfl):
  PE X (.Call (.Name x p) (e::es) [] pos) (Ij sp dvs E t):=by
 intro RL s σ H Q I h
 refine Wj (A6 I hg hm ?_ hdb)
 refine Zw (h₀:=X.base) I.ok.mod.kin hk (bS (ha pos RL s σ H _ I h) λus s1 ⟨vs,H1,I1,r,q⟩=>⟨I1.kIn,?_⟩) he hpl
 exact EZ F hr hb hd hx I1 r q
end
structure bq (N P:List Str) (sc:U3):Prop where
 kind:sc.kind=.function
 co:sc.isCoroutine=false
 gen:sc.isGenerator=false
 nd:N.Nodup
 pre:N.take P.length=P
 par:∀x∈P,sc.names.lookup x=some .local\/sc.names.lookup x=some .cell
 nofree:∀y∈sc.names,y.2≠.free
theorem vj {kindOf:Str->Option UC}{x:Str}:∀{binds:List (Str×RX)}{m:Str->Option RX},(∀v,(x,v)∉binds)->aci kindOf binds m x=m x
 | [],_,_=>rfl
 | (n,v)::r,m,h=>by
  unfold aci
  rw [vj λw hw=>h w (R0 _ hw)]
  split
  ·have:x≠n:=by rintro rfl;exact h v R1
   simp [this]
  ·rfl
theorem vg {kindOf:Str->Option UC}{x:Str}:∀{binds:List (Str×RX)}{m:Str->Option RX},(∀v,(x,v)∉binds)->acj kindOf binds m x=m x
 | [],_,_=>rfl
 | (n,v)::r,m,h=>by
  unfold acj
  rw [vg λw hw=>h w (R0 _ hw)]
  split
  ·rfl
  ·have:x≠n:=by rintro rfl;exact h v R1
   simp [this]
theorem vh {kindOf:Str->Option UC}{x:Str}{v:RX}:∀{P:List Str}{vs:List RX}{i:Nat}{m:Str->Option RX},P.Nodup->P[i]?=some x->vs[i]?=some v->kindOf x=some .local->
  aci kindOf (P.zip vs) m x=some v
 | [],_,_,_,_,h,_,_=>by simp at h
 | _::_,[],_,_,_,_,h,_=>by simp at h
 | p::P,w::vs,0,m,nd,h1,h2,hk=>by
  simp at h1 h2;subst h1;subst h2
  show aci kindOf ((p,w)::P.zip vs) m p=_
  unfold aci
  rw [vj λv hv=>(UG.mp nd).1 (Vo hv).1,if_pos hk]
  simp
 | p::P,w::vs,i + 1,m,nd,h1,h2,hk=>by
  show aci kindOf ((p,w)::P.zip vs) m x=_
  unfold aci
  exact vh (i:=i) (UG.mp nd).2 (by simpa using h1) (by simpa using h2) hk
theorem vf {kindOf:Str->Option UC}{x:Str}{v:RX}:∀{P:List Str}{vs:List RX}{i:Nat}{m:Str->Option RX},P.Nodup->P[i]?=some x->vs[i]?=some v->kindOf x≠some .local->
  acj kindOf (P.zip vs) m x=some v
 | [],_,_,_,_,h,_,_=>by simp at h
 | _::_,[],_,_,_,_,h,_=>by simp at h
 | p::P,w::vs,0,m,nd,h1,h2,hk=>by
  simp at h1 h2;subst h1;subst h2
  show acj kindOf ((p,w)::P.zip vs) m p=_
  unfold acj
  rw [vg λv hv=>(UG.mp nd).1 (Vo hv).1,if_neg hk]
  simp
 | p::P,w::vs,i + 1,m,nd,h1,h2,hk=>by
  show acj kindOf ((p,w)::P.zip vs) m x=_
  unfold acj
  exact vf (i:=i) (UG.mp nd).2 (by simpa using h1) (by simpa using h2) hk
def start (N:List Str) (vs:List V):St:=vs.map some++Tu (N.length - vs.length) none
noncomputable def pg (CX:oU) (P:Sm) (w:SO) (K:RV) (mg:Str->Option RX) (base:TU) (N:List Str) (RP:Str) (RK:U3) (f:Se) (cd:RX) (A:SW) (outer:List Env) (s:RZ) (H:Hp) (E:XK):Cx where
 prog:=P
 w:=w
 K:=K
 mg:=mg
 base:=base
 A:=A.deeper (XQ RP RK s.heap.objs.size f cd)
 N:=N
 s₀:=s
 H₀:=H
 env:=XQ RP RK s.heap.objs.size f cd
 outer:=outer
 stack:=XQ RP RK s.heap.objs.size f cd::outer
 ex:=[]
 calm:=true
 fn:=λ_=>true
 pn:=[]
 xe:=λe s'=>So (Su P w) (A.deeper (XQ RP RK s.heap.objs.size f cd)) (leaving (XQ RP RK s.heap.objs.size f cd) e) (λ_ s''=>CX outer H s E e s'') (λe' s''=>CX outer H s E e' s'') s'
theorem yr {sc:U3}{n:Nat}{x:Str}(h:sc.names.lookup x=some .cell):∃c,(Td n sc.names []).lookup x=some c:=by
 have q:=Yx sc.names n [] (.inl h)
 exact TF.mp q
theorem Ej {CX:oU}{P:Sm}{w:SO}{K:RV}{mg:Str->Option RX}{base:TU}{N ps:List Str}{RP:Str}{RK:U3}{f:Se}{cd:RX}{A:SW}{outer:List Env}{s s1:RZ}{H:Hp}{E:XK}{us:List RX}{vs:List V}
  (S:bq N ps RK) (hd:A.handled=none) (e0:BC P w K mg base A outer s H) (hl:vs.length=ps.length) (r:Vals vs us)
  (x:InCallC s s.heap.objs.size (aci (XQ RP RK s.heap.objs.size f cd).kindOf (ps.zip us) λ_=>none) (Td (s.heap.objs.size + 1) RK.names []) (acj (XQ RP RK s.heap.objs.size f cd).kindOf (ps.zip us) λ_=>none) s1):
  Inv (pg CX P w K mg base N RP RK f cd A outer s H E) [] (start N vs) H s1:=by
 have hpl:ps.length<=N.length:=by have:=congrArg V_ S.pre;rw [UM] at this;omega
 obtain ⟨h1,tk,rfl,hk⟩:=x.done
 have noA:∀b:Se,b∉(pg CX P w K mg base N RP RK f cd A outer s H E).ex:=λb z=>absurd (show b∈([]:List Se) from z) (by simp)
 refine ⟨⟨e0.mod,S.kind,rfl,rfl,R6 _,λy z c h1 h2=>?_,λy hy=>?_,λy c _ h=>?_,λ_=>hd,Around.frames_deeper e0.frames,.inr ⟨rfl,rfl⟩,λb z=>absurd z (noA b),e0.bs,e0.bsz,λb _ _=>noA b,λb z=>absurd z (noA b),e0.funs,e0.frf⟩,
  rfl,e0.bare,Un.kept hk,⟨_,x.toInCall.ns,λi y v h1 h2 h3=>?_⟩,λy c h=>⟨_,x.cell y c h⟩,e0.hok.fresh (R6 _),λy c h=>?_,λp hp=>absurd (show p∈([]:List (Se×Obj)) from hp) (by simp),e0.hok.kept hk,?_⟩
 ·exact name_of_addr x.apart (Vx h1) (Vx h2)
 ·have hy:RK.names.lookup y=some .cell\/RK.names.lookup y=some .free:=hy
  rcases hy with hy | hy
  ·exact yr hy
  ·exact absurd rfl (S.nofree _ (Vx hy))
 ·exact YG (x.above y c (Vx h))
 ·have hi:i < vs.length:=by
   unfold start at h2
   by_cases hi:i < vs.length
   ·exact hi
   ·rw [TR (by simpa using hi)] at h2
    rw [Wk] at h2
    split at h2 <;> cases h2
  have ha:vs[i]?=some v:=by
   unfold start at h2
   rw [UD (by simpa using hi),Ss] at h2
   cases e:vs[i]? with
   | none=>rw [e] at h2;cases h2
   | some a=>rw [e] at h2;cases h2;rfl
  obtain ⟨u,hu,rv⟩:=r.get ha
  have hp:ps[i]?=some y:=by
   rw [<-S.pre,List.getElem?_take_of_lt (by omega)];exact h1
  have ndP:ps.Nodup:=by rw [<-S.pre];exact S.nd.sublist (ZX _ _)
  refine ⟨u,rv,?_⟩
  rcases S.par y (TV hp) with k | k
  ·exact .inl ⟨k,vh ndP hp hu k⟩
  ·obtain ⟨c,e⟩:=yr (n:=s.heap.objs.size + 1) k
   refine .inr ⟨.inl k,c,e,?_⟩
   have q:=x.cell y c e
   rw [vf ndP hp hu (by show RK.names.lookup y≠_;rw [k];decide)] at q
   exact q
 ·exact e0.hok.fresh (YG (x.above y c (Vx h)))
 ·unfold start
  show _=N.length
  rw [Sy,R3,UH]
  omega
theorem HQ {CX:oU}{P:Sm}{w:SO}{K:RV}{mg:Str->Option RX}{base:TU}{k:Nat}{f:Se}{name RP:Str}{params:Arguments}{body:List Vj}{RK:U3}{dV kV doc pm cdv ct oc:RX}{an od:Option Se}
  {osl:Array (Option RX)}{N ps:List Str}{sp:Sp}(lk:K.lookup f=some ⟨oc,od,.func (Sb name RP params body RK dV kV doc pm an cdv ct),osl⟩) (hcd:Vd K cdv RP=true) (S:bq N ps RK)
  (len:∀vs H Q E,sp vs H Q E->vs.length=ps.length)
  (hbody:∀(A:SW) (outer:List Env) (s:RZ) (H:Hp) (vs:List V) (Q:VK) (E:XK),dB k (A.deeper (XQ RP RK s.heap.objs.size f cdv))->sp vs H Q E->
   ∃t,jP (pg CX P w K mg base N RP RK f cdv A outer s H E) body t/\t {nx:=λ_ H'=>Q .non H',rt:=Q} (start N vs) H):
  fH P w K mg base CX (k + 1) f (Sb name RP params body RK dV kV doc pm an cdv ct) ps sp:=by
 refine ⟨len,λA outer s H args us vs Q E hr e0 hb r Qi=>?_⟩
 have hl:=len _ _ _ _ Qi
 have KX:K.In s.heap:=e0.mod.kin.keeps λb o e=>(e0.bs b o e).1
 have lim:s.heap.NoLimit:=e0.mod.nolimit.keeps λb o e=>(e0.bs b o e).1
 have hkind:∀y∈ps.zip us,RK.names.lookup y.1=some .local\/(RK.names.lookup y.1=some .cell/\((Td (s.heap.objs.size + 1) RK.names []).lookup y.1).isSome=true):=λ⟨n,v⟩ hy=>by
  rcases S.par n (Vo hy).1 with q | q
  ·exact .inl q
  ·exact .inr ⟨q,Yx _ _ _ (.inl q)⟩
 refine codeAny_call_function hr.depth (KX _ _ lk) rfl S.co S.gen rfl (W.codeRec_of KX hcd) (hb _ _ _ _ ?_)
 refine wpAny_newFunctionEnv_cells S.kind hkind λenv he s1 x=>?_
 subst he
 refine ⟨lim.keeps x.toInCall.keep,codeAny_func ?_⟩
 obtain ⟨t,ht,hq⟩:=hbody A outer s H vs Q E (hr.deeper _) Qi
 have I:Inv (pg CX P w K mg base N RP RK f cdv A outer s H E) [] (start N vs) H s1:=Ej S hr.hd e0 hl r x
 refine Tc (ht [] s1 (start N vs) H _ I hq) (λfl s' hs=>?_) λe s' hs=>hs
 have fin:∀{σ':St}{H':Hp}{v:V}{u:RX},Inv (pg CX P w K mg base N RP RK f cdv A outer s H E) [] σ' H' s'->RelV v u->Q v H'->CE outer P w H s Q u s':=
  fun {σ' H' v u} J rv q=>⟨v,H',J.os,J.bare,J.base,J.hok,rv,q⟩
 cases fl with
 | ret u=>
  obtain ⟨v,σ',H',J,rv,q⟩:=hs
  exact fin J rv q
 | next=>
  obtain ⟨σ',H',J,q⟩:=hs
  exact fin (v:=V.non) (u:=S3) J rfl q
 | brk=>
  obtain ⟨_,_,_,q⟩:=hs
  exact VR q
 | cont=>
  obtain ⟨_,_,_,q⟩:=hs
  exact VR q
section
variable {X:Cx}{x:Str}{p pos:Pos}{e:SM}{es:List SM}{t:TA}{id T:String}{r:List V->Hp->VK->Prop}
def Oi (r:List V->Hp->VK->Prop) (t:TA):TE:=λσ H Q=>t σ H λvs H1=>r vs H1 Q
theorem rM (hc:bT X (.builtin id) r) (hg:Gl X x) (hm:X.mg x=none) (hv:Tj x=some (.builtin id)) (ha:PA X (e::es) t) (hn:x≠"__name__":=by decide) (hdb:(x == ("__debug__":Str))=false:=by decide)
  (he:R_ (e::es) X.env=(false,eval e X.env)::R_ es X.env:=by rfl) (hpl:(Us pos (R_ es X.env)).any (·.1)=false:=by rfl):PE X (.Call (.Name x p) (e::es) [] pos) (Oi r t):=by
 intro RL s σ H Q I h
 refine Wj (tH I hg hm hv ?_ hn hdb)
 exact aah (bS (ha pos RL s σ H _ I h) λus s1 ⟨vs,H1,I1,r1,q1⟩=>hc RL s1 σ H1 vs us Q I1 r1 q1) he hpl
theorem lS (hc:bT X (.type T) r) (hg:Gl X x) (hm:X.mg x=none) (hv:Tj x=some (.type T)) (ha:PA X (e::es) t) (hn:x≠"__name__":=by decide) (hdb:(x == ("__debug__":Str))=false:=by decide)
  (he:R_ (e::es) X.env=(false,eval e X.env)::R_ es X.env:=by rfl) (hpl:(Us pos (R_ es X.env)).any (·.1)=false:=by rfl):PE X (.Call (.Name x p) (e::es) [] pos) (Oi r t):=by
 intro RL s σ H Q I h
 refine Wj (tH I hg hm hv ?_ hn hdb)
 exact Xe (bS (ha pos RL s σ H _ I h) λus s1 ⟨vs,H1,I1,r1,q1⟩=>hc RL s1 σ H1 vs us Q I1 r1 q1) he hpl
end
end L2
namespace HT
open PySem PyProof.Rows
theorem FP (A:SW) (s:RZ) (a:Int) (t:Tok) (c:Int) (u:Tok):∃e,UK A s (.int a t) (.int c u) e/\(e=true↔a=c):=
 ⟨(a == c),Zx a t c u,by simp⟩
section
open PySem.SeqAt
open PySem.AutoSeq1 (wpAny_loadPart')
open PySem.MeetsSeq PySem.MeetsSeq2 PySem.MeetsSeq3
end
section
variable {prog:Sm}{w:SO}{A:SW}{E:RX->RZ->Prop}{s:RZ}
theorem IM {t b:Se}{vs ws:List RX}{Q:RX->RZ->Prop}(ht:abX s.heap t vs.toArray) (hb:abX s.heap b ws.toArray) (hv:vs≠[])
  (h1:ws=[]->Q (.ref t) s) (h2:ws≠[]->Q (.ref s.heap.objs.size) {s with heap:=s.heap.push {cls:=.type "tuple",data:=.seq (vs++ws).toArray}})
  (hsz:vs.length + ws.length<=sizeLine):So (Su prog w) A (VS .Add (.ref t) (.ref b)) Q E s:=by
 obtain ⟨⟨cls,dd,data,sl⟩,ho,hc,n,hd⟩:=id ht
 obtain ⟨⟨cls2,dd2,data2,sl2⟩,ho2,hc2,n2,hd2⟩:=id hb
 simp only at hc hd hc2 hd2
 subst hc hd hc2 hd2
 have e:vs.toArray++ws.toArray=(vs++ws).toArray:=by simp
 by_cases hw:ws=[]
 ·exact aai ⟨_,ho,rfl⟩ ⟨_,ho2,rfl⟩ Yq Zy Ww Wl (Wf _ _)
   (tuple_addW1 t b vs.toArray ws.toArray n n2 dd dd2 sl sl2 (by simpa using hv) (by simp [hw])) ⟨ho,ho2,h1 hw⟩
 ·refine aai ⟨_,ho,rfl⟩ ⟨_,ho2,rfl⟩ Yq Zy Ww Wl (Wf _ _)
   (tuple_addW2 t b vs.toArray ws.toArray n n2 dd dd2 sl sl2 (by simpa using hv) (by simpa using hw) (by rw [Sf,Sf];exact hsz)) ⟨ho,ho2,?_⟩
  rw [e]
  exact h2 hw
noncomputable def bN (n d:Nat):Option Int->Nat
 | none=>d
 | some v=>if v < 0 then (v + (n:Int)).toNat else min v.toNat n
theorem zm (n d:Nat):bN n d none=d:=rfl
theorem Bp (n d k:Nat):bN n d (some (k:Int))=min k n:=by
 show (if (k:Int) < 0 then ((k:Int) + (n:Int)).toNat else min (k:Int).toNat n)=min k n
 rw [if_neg (by omega),Uv]
theorem MP (n d:Nat) (hd:d<=n) (o:Option Int):bN n d o<=n:=by
 cases o with
 | none=>exact hd
 | some v=>
  show (if v < 0 then (v + (n:Int)).toNat else min v.toNat n)<=n
  by_cases hv:v < 0
  ·rw [if_pos hv];omega
  ·rw [if_neg hv];exact Nat.min_le_right _ _
theorem AR (v:Int) (n d:Nat):(if v < 0 then max (v + (n:Int)) 0 else min v (n:Int))=((bN n d (some v):Nat):Int):=by
 show (if v < 0 then max (v + (n:Int)) 0 else min v (n:Int))=(((if v < 0 then (v + (n:Int)).toNat else min v.toNat n):Nat):Int)
 by_cases hv:v < 0
 ·simp only [if_pos hv];omega
 ·simp only [if_neg hv];omega
theorem BQ (lo hi:Option Int) (n:Nat):V3 lo hi 1 (n:Int)=(((bN n 0 lo:Nat):Int),((bN n n hi:Nat):Int)):=by
 have h1:¬((1:Int) < 0):=by omega
 unfold V3
 simp only [h1,if_false]
 refine ac1 ?_ ?_
 ·cases lo with
  | none=>rfl
  | some v=>exact AR v n 0
 ·cases hi with
  | none=>rfl
  | some v=>exact AR v n n
theorem Cw (i j:Nat):Ve (i:Int) (j:Int) 1=j - i:=by
 unfold Ve
 have h1:(1:Int) > 0:=by omega
 simp only [h1,if_true,Int.ediv_one]
 split <;> omega
theorem t8 {v:RX}{o:Option Int}{Q:Option Int->RZ->Prop}(p:Zz v o) (h:Q o s):So (Su prog w) A (aax v) Q E s:=by
 cases p with
 | none=>exact aa6 h
 | int i t=>exact slicePart_int h
theorem kX {sl:Se}{vl vu:RX}{lo hi:Option Int}{n:Nat}{Q:Int×Int×Nat->RZ->Prop}(hs:s.heap.IsSliceOf sl vl vu .none) (pl:Zz vl lo) (pu:Zz vu hi)
  (h:Q (((bN n 0 lo:Nat):Int),1,bN n n hi - bN n 0 lo) s):So (Su prog w) A (Xq (.ref sl) (pure (n:Int))) Q E s:=by
 obtain ⟨os,hos,hcs,hds⟩:=id hs
 unfold Xq aa7
 refine RU (RU (aaD hos hds (x:=vl) rfl (RU (aaD hos hds (x:=vu) rfl (RU (aaD hos hds (x:=.none) rfl (RY ?_)))))))
 refine RU (aa6 ?_)
 show So _ _ (if ((1:Int) == 0)=true then _ else _) _ _ s
 rw [if_neg (by decide)]
 refine RU (t8 pl (RU (t8 pu (RU (RY ?_)))))
 show So _ _ (match V3 lo hi 1 (n:Int) with | (lo,hi)=>pure (lo,(1:Int),Ve lo hi 1)) _ _ s
 rw [BQ lo hi n]
 show So _ _ (pure (((bN n 0 lo:Nat):Int),(1:Int),Ve ((bN n 0 lo:Nat):Int) ((bN n n hi:Nat):Int) 1)) _ _ s
 rw [Cw]
 exact RY h
theorem GU (xs:Array RX) (i k:Nat):((R7 k).filterMap λ(m:Nat)=>xs[((i:Int) + (m:Int) * 1).toNat]?).toArray=((xs.toList.drop i).take k).toArray:=by
 have e:(λ(m:Nat)=>xs[((i:Int) + (m:Int) * 1).toNat]?)=λm=>xs[i + m]?:=by
  funext m
  have:((i:Int) + (m:Int) * 1).toNat=i + m:=by omega
  rw [this]
 rw [e]
 have:=pick_run xs i k
 rw [ZA] at this
 have e2:((λx=>xs[x]?) ∘ λx=>i + x)=λm=>xs[i + m]?:=rfl
 rw [e2] at this
 rw [this]
theorem qJ {t sl:Se}{items:Array RX}{vl vu:RX}{lo hi:Option Int}{Q:RX->RZ->Prop}(ht:abX s.heap t items) (hs:s.heap.IsSliceOf sl vl vu .none) (pl:Zz vl lo) (pu:Zz vu hi)
  (hw:¬(bN items.size 0 lo=0/\bN items.size items.size hi=items.size))
  (h:Q (.ref s.heap.objs.size) {s with heap:=s.heap.push {cls:=.type "tuple",data:=.seq ((items.toList.drop (bN items.size 0 lo)).take (bN items.size items.size hi - bN items.size 0 lo)).toArray}})
  (hsz:items.size<=sizeLine):So (Su prog w) A (ZY (.ref t) (.ref sl)) Q E s:=by
 have P7:sizeOk (.seq ((items.toList.drop (bN items.size 0 lo)).take (bN items.size items.size hi - bN items.size 0 lo)).toArray):=by
  show ((items.toList.drop (bN items.size 0 lo)).take (bN items.size items.size hi - bN items.size 0 lo)).toArray.size<=sizeLine
  rw [Sf,UM,VD,Sa]
  omega
 have hj:bN items.size items.size hi<=items.size:=MP _ _ (R6 _) hi
 obtain ⟨os,hos,hcs,hds⟩:=id hs
 have QO:s.TypeIs (.ref sl) "slice":=⟨os,hos,hcs⟩
 unfold ZY
 try with_reducible refine SD ?_
 first | refine RU (RY ?_) | skip
 refine RU (ZZ ht.typeIs (by decide) ?_)
 refine RU (Ui (name:=WN "__getitem__") ht.typeIs Th
  (S6 Th ht.typeIs Zl ?_ (ZC _ _)))
 show So _ _ (VZ (.ref t) >>= _) _ _ s
 refine RU (abC ht ?_)
 refine RU (WO QO ?_)
 rw [if_pos (by decide)]
 refine RU (kX hs pl pu ?_)
 have hno:¬((((bN items.size 0 lo:Nat):Int) == 0 && (1:Int) == 1 && (bN items.size items.size hi - bN items.size 0 lo) == items.size)=true):=by
  intro q
  rw [R8,R8] at q
  have q1:((bN items.size 0 lo:Nat):Int)=0:=eq_of_beq q.1.1
  have q2:bN items.size items.size hi - bN items.size 0 lo=items.size:=eq_of_beq q.2
  exact hw ⟨by omega,by omega⟩
 show So _ _ (if (((bN items.size 0 lo:Nat):Int) == 0 && (1:Int) == 1 && (bN items.size items.size hi - bN items.size 0 lo) == items.size)=true then _ else _) _ _ s
 rw [if_neg hno,GU]
 first
  | exact RU (m:=Vp _) (SX (RY ⟨_,rfl,RY h⟩) P7)
  | exact RU (m:=Vp _) (SX (RU (RY (RY ⟨_,rfl,RY h⟩))) P7)
  | exact RU (RU (m:=Vp _) (SX (RY (RY ⟨_,rfl,RY h⟩)) P7))
  | exact RU (RU (m:=Vp _) (SX (RY ⟨_,rfl,RY h⟩) P7))
end
end HT
namespace L2
open PySem PySem.Spec PyProof.Rows
abbrev TO:=St->Hp->(Option Int->Hp->Prop)->Prop
noncomputable def PO (X:Cx) (e:Option SM) (t:TO):Prop:=
 ∀(RL:List (Se×Obj)) (s:RZ) (σ:St) (H:Hp) (Q:Option Int->Hp->Prop),Inv X RL σ H s->t σ H Q->
  So (Su X.prog X.w) X.A (evalPart e X.env) (λu s'=>∃o H',Inv X RL σ H' s'/\Zz u o/\Q o H') X.xe s
def Ky:TO:=λ_ H Q=>Q none H
def N6 (t:TE):TO:=λσ H Q=>t σ H λx H1=>∃i,x=.int i/\Q (some i) H1
theorem intsAre_of {ns:List Int}:∀{us:List RX},Vals (ns.map V.int) us->Wa us ns:=by
 induction ns with
 | nil=>intro us r;rw [WQ] at r;cases r;exact .nil
 | cons n ns ih=>
  intro us r
  rw [Sj] at r
  cases r with
  | cons r1 r2=>
   obtain ⟨t,e⟩:=r1
   subst e
   exact .cons n t (ih r2)
section
variable {X:Cx}{e:SM}{te:TE}{lo hi:Option SM}{tl th:TO}{pos p2:Pos}
theorem JP:PO X none Ky:=by
 intro RL s σ H Q I h
 rw [abD]
 exact RY ⟨none,H,I,.none,h⟩
theorem JQ (h:PE X e te):PO X (some e) (N6 te):=by
 intro RL s σ H Q I hw
 rw [evalPart_some]
 refine bS (h RL s σ H _ I hw) λu s1 ⟨x,H1,I1,r1,q1⟩=>?_
 obtain ⟨i,rfl,q⟩:=q1
 obtain ⟨t,rfl⟩:=r1
 exact ⟨some i,H1,I1,.int i t,q⟩
noncomputable def sC (X:Cx) (r:V->Option Int->Option Int->Hp->VK->Prop):Prop:=
 ∀(RL:List (Se×Obj)) (s:RZ) (σ:St) (H:Hp) (x:V) (v vl vu:RX) (lo hi:Option Int) (sl:Se) (Q:VK),Inv X RL σ H s->RelV x v->s.heap.IsSliceOf sl vl vu .none->Zz vl lo->Zz vu hi->r x lo hi H Q->
  ∃T id,typeLookup (.type T) "__getitem__"=pure (some (.builtin id))/\s.TypeIs v T/\So (Su X.prog X.w) X.A (ZY v (.ref sl)) (EP X RL σ Q) X.xe s
theorem sC.or {r r':V->Option Int->Option Int->Hp->VK->Prop}(h:sC X r) (h':sC X r'):sC X (λx lo hi H Q=>r x lo hi H Q\/r' x lo hi H Q):=by
 intro RL s σ H x v vl vu lo hi sl Q I rx hs pl pu q
 rcases q with q | q
 ·exact h RL s σ H x v vl vu lo hi sl Q I rx hs pl pu q
 ·exact h' RL s σ H x v vl vu lo hi sl Q I rx hs pl pu q
def PJ (r:V->Option Int->Option Int->Hp->VK->Prop) (te:TE) (tl th:TO):TE:=λσ H Q=>te σ H λx H1=>tl σ H1 λl H2=>th σ H2 λu H3=>r x l u H3 Q
theorem GR {r:V->Option Int->Option Int->Hp->VK->Prop}(hr:sC X r) (he:PE X e te) (hl:PO X lo tl) (hu:PO X hi th):PE X (.Subscript e (.Slice lo hi none p2) pos) (PJ r te tl th):=by
 intro RL s σ H Q I h
 refine Subscript_ (bS (he RL s σ H _ I h) λv s1 ⟨x,H1,I1,r1,q1⟩=>?_)
 refine wpAny_Slice (bS (hl RL s1 σ H1 _ I1 q1) λvl s2 ⟨l,H2,I2,pl,q2⟩=>bS (hu RL s2 σ H2 _ I2 q2) λvu s3 ⟨u,H3,I3,pu,q3⟩=>?_)
 rw [abD]
 refine RY ?_
 have I4:Inv X RL σ H3 {s3 with heap:=s3.heap.push {cls:=.type "slice",data:=.fields #[vl,vu,.none]}}:=I3.kept (t':=s3.toks) λb ob q=>R5 _ q
 obtain ⟨T,id,hT,ht,hg⟩:=hr RL {s3 with heap:=s3.heap.push {cls:=.type "slice",data:=.fields #[vl,vu,.none]}} σ H3 x v vl vu l u s3.heap.objs.size Q I4 r1 (acF ..) pl pu q3
 show So (Su X.prog X.w) X.A (abE e (.Slice lo hi none p2) v (.ref s3.heap.objs.size)) (EP X RL σ Q) X.xe {s3 with heap:=s3.heap.push {cls:=.type "slice",data:=.fields #[vl,vu,.none]}}
 exact tail_any (ops:=[.ref s3.heap.objs.size,v]) ht hT hg (by with_unfolding_all rfl)
def mh (xs:List V) (lo hi:Option Int):List V:=(xs.drop (HT.bN xs.length 0 lo)).take (HT.bN xs.length xs.length hi - HT.bN xs.length 0 lo)
theorem qP (xs:List V) (lo hi:Option Int):(mh xs lo hi).length<=xs.length:=by
 unfold mh
 rw [UM,VD]
 omega
noncomputable def OO (K:RV):V->Option Int->Option Int->Hp->VK->Prop:=λx lo hi H Q=>∃a xs,x=.ref a/\cV K H a xs/\
 ¬(HT.bN xs.length 0 lo=0/\HT.bN xs.length xs.length hi=xs.length)/\∀p,H p=none->Q (.ref p) (upd H p (.tup (mh xs lo hi)))
theorem MU:sC X (OO X.K):=by
 intro RL s σ H x v vl vu lo hi sl Q I rx hs pl pu h
 obtain ⟨a,xs,rfl,hx,hw,q⟩:=h
 cases rx
 obtain ⟨RM,r,ht,hz⟩:=I.tuple hx
 have hlen:RM.toArray.size=xs.length:=by rw [Sf];exact r.length.symm
 refine ⟨"tuple",_,Th.lookup,ht.typeIs,?_⟩
 refine HT.qJ ht hs pl pu (by rw [hlen];exact hw) ?_ (by rw [hlen];exact hz)
 rw [hlen]
 refine ⟨.ref s.heap.objs.size,_,I.laid (t':=s.toks) (o:=.tup (mh xs lo hi)) (λb ob q=>R5 _ q) (R6 _) ?_,rfl,q _ (I.hok.fresh (R6 _))⟩
 exact ⟨SJ (qP xs lo hi) hz,_,(r.drop (HT.bN xs.length 0 lo)).take (HT.bN xs.length xs.length hi - HT.bN xs.length 0 lo),ab0 _ _⟩
noncomputable def NS (K:RV):R2:=λx y H Q=>∃a b xs ys,x=.ref a/\y=.ref b/\cV K H a xs/\cV K H b ys/\xs≠[]/\xs.length + ys.length<=sizeLine/\
 (ys=[]->Q (.ref a) H)/\(ys≠[]->∀p,H p=none->Q (.ref p) (upd H p (.tup (xs++ys))))
theorem Vals.nil_iff {xs:List V}{us:List RX}(r:Vals xs us):us=[]↔xs=[]:=by
 cases r with
 | nil=>simp
 | cons _ _=>simp
theorem JB:dw X (VS .Add) (NS X.K):=by
 intro RL s σ H x y v u Q I rx ry h
 obtain ⟨a,b,xs,ys,rfl,rfl,ha,hb,hx,hz,q1,q2⟩:=h
 cases rx
 cases ry
 obtain ⟨RM,r1,p1,_⟩:=I.tuple ha
 obtain ⟨its2,r2,p2,_⟩:=I.tuple hb
 refine HT.IM p1 p2 (λz=>hx (r1.nil_iff.mp z)) (λz=>⟨.ref a,H,I,rfl,q1 (r2.nil_iff.mp z)⟩) (λz=>?_) (by rw [<-r1.length,<-r2.length];exact hz)
 refine ⟨.ref s.heap.objs.size,_,I.laid (t':=s.toks) (o:=.tup (xs++ys)) (λb ob q=>R5 _ q) (R6 _) ?_,rfl,q2 (λw=>z (r2.nil_iff.mpr w)) _ (I.hok.fresh (R6 _))⟩
 exact ⟨by rw [Sy];exact hz,_,r1.append r2,ab0 _ _⟩
end
def yP (n:Nat) (i:Int):Option Nat:=if 0<=i then (if i < n then some i.toNat else none) else if -(n:Int)<=i then some (i + n).toNat else none
def lJ {α:Type}(xs:List α) (i:Int):Option α:=(yP xs.length i).bind λj=>xs[j]?
theorem Ji {n:Nat}{i:Int}{j:Nat}(h:yP n i=some j):ZD i n=some j/\j < n/\-(n:Int)<=i/\i < n:=by
 unfold yP at h
 by_cases h0:0<=i
 ·rw [if_pos h0] at h
  by_cases h1:i < n
  ·rw [if_pos h1] at h
   have e:i.toNat=j:=Tp h
   exact ⟨by rw [seqIndex_of h0 h1,e],by omega,by omega,h1⟩
  ·rw [if_neg h1] at h;cases h
 ·rw [if_neg h0] at h
  by_cases h1:-(n:Int)<=i
  ·rw [if_pos h1] at h
   have e:(i + n).toNat=j:=Tp h
   exact ⟨by rw [seqIndex_neg (by omega) h1,e],by omega,h1,by omega⟩
  ·rw [if_neg h1] at h;cases h
theorem ux {α:Type}{xs:List α}{i:Int}{v:α}(h:lJ xs i=some v):∃j,ZD i xs.length=some j/\xs[j]?=some v/\j < xs.length/\-(xs.length:Int)<=i/\i < xs.length:=by
 unfold lJ at h
 cases e:yP xs.length i with
 | none=>rw [e] at h;cases h
 | some j=>
  rw [e] at h
  obtain ⟨h1,h2,h3,h4⟩:=Ji e
  exact ⟨j,h1,h,h2,h3,h4⟩
def qu (b:SM):Prop:=∀o i,subscripted b false o i=operate [o,i] (ZY o i)
noncomputable def oZ (X:Cx) (r:R2):Prop:=
 ∀(value slice:SM) (RL:List (Se×Obj)) (s:RZ) (σ:St) (H:Hp) (x y:V) (v u:RX) (Q:VK),Inv X RL σ H s->RelV x v->RelV y u->r x y H Q->
  subscripted slice false v u=operate [v,u] (ZY v u)->So (Su X.prog X.w) X.A (abE value slice v u) (EP X RL σ Q) X.xe s
noncomputable def Pd (X:Cx) (id:String) (r:V->List V->Hp->VK->Prop):Prop:=
 ∀(RL:List (Se×Obj)) (s:RZ) (σ:St) (H:Hp) (x:V) (xs:List V) (v:RX) (us:List RX) (Q:VK),Inv X RL σ H s->RelV x v->Vals xs us->r x xs H Q->
  So (Su X.prog X.w) X.A (call (.builtin id) (v::us)) (EP X RL σ Q) X.xe s
section
variable {X:Cx}{a b:SM}{ta tb:TE}{pos:Pos}
theorem oZ.or {r r':R2}(h:oZ X r) (h':oZ X r'):oZ X (λx y H Q=>r x y H Q\/r' x y H Q):=by
 intro value slice RL s σ H x y v u Q I rx ry q hs
 rcases q with q | q
 ·exact h value slice RL s σ H x y v u Q I rx ry q hs
 ·exact h' value slice RL s σ H x y v u Q I rx ry q hs
theorem NL {r:R2}(hr:oZ X r) (ha:PE X a ta) (hb:PE X b tb) (hs:qu b):PE X (.Subscript a b pos) (E6 r ta tb):=by
 intro RL s σ H Q I h
 exact Subscript_ (Fx ha hb I h λv u s2 x y H2 I2 rx ry q=>hr a b RL s2 σ H2 x y v u Q I2 rx ry q (hs _ _))
def ME (K:RV):R2:=λx y H Q=>∃p xs i v,x=.ref p/\y=.int i/\cH K H p xs/\lJ xs i=some v/\Q v H
def MG (K:RV):R2:=λx y H Q=>∃p xs i v,x=.ref p/\y=.int i/\cV K H p xs/\lJ xs i=some v/\Q v H
def MF:R2:=λx y H Q=>∃z i c,x=.str z/\y=.int i/\z.length<=sizeLine/\lJ z.cps.toList i=some c/\Q (.str ⟨#[c]⟩) H
theorem Jj:oZ X (ME X.K):=by
 intro value slice RL s σ H x y v u Q I rx ry h hs
 obtain ⟨p,xs,i,z,rfl,rfl,hq,he,q⟩:=h
 cases rx
 obtain ⟨t,rfl⟩:=ry
 obtain ⟨RM,r,pl,hz⟩:=I.list hq
 obtain ⟨j,h1,h2,h3,h4,h5⟩:=ux he
 obtain ⟨w,ew,rw'⟩:=r.get h2
 have hl:=r.length
 have hn:=nh
 have fin:EP X RL σ Q w s:=⟨z,H,I,rw',q⟩
 by_cases h0:0<=i
 ·have hj:i.toNat=j:=by
   rw [seqIndex_of h0 h5] at h1
   exact Tp h1
  exact item_listR pl.isList h0 (by omega) (by rw [hj];simpa using ew) fin hs
 ·have hj:(i + (RM.toArray.size:Int)).toNat=j:=by
   rw [seqIndex_neg (by omega) h4] at h1
   rw [Sf,<-hl]
   exact Tp h1
  exact Wx (x:=w) pl.isList.typeIs Z0.lookup
   (wpAny_getItem_list_neg (Q:=λr s'=>r=w/\EP X RL σ Q r s') pl.isList (by omega) (by rw [Sf] <;> omega) (by omega) (by rw [hj];simpa using ew) ⟨rfl,fin⟩) hs
theorem LH:oZ X (MG X.K):=by
 intro value slice RL s σ H x y v u Q I rx ry h hs
 obtain ⟨p,xs,i,z,rfl,rfl,hq,he,q⟩:=h
 cases rx
 obtain ⟨t,rfl⟩:=ry
 obtain ⟨RM,r,pl,hz⟩:=I.tuple hq
 obtain ⟨j,h1,h2,h3,h4,h5⟩:=ux he
 obtain ⟨w,ew,rw'⟩:=r.get h2
 have hl:=r.length
 have hn:=nh
 have fin:EP X RL σ Q w s:=⟨z,H,I,rw',q⟩
 exact Wx (x:=w) pl.typeIs slot_tuple_getitem.lookup
  (getItem_tuple (j:=j) (Q:=λr s'=>r=w/\EP X RL σ Q r s') pl (by omega) (by omega) (by rw [Sf,<-hl];exact h1) (by simpa using ew) ⟨rfl,fin⟩) hs
theorem LF:oZ X MF:=by
 intro value slice RL s σ H x y v u Q I rx ry h hs
 obtain ⟨z,i,c,rfl,rfl,hz,he,q⟩:=h
 obtain ⟨t,rfl⟩:=rx
 obtain ⟨t',rfl⟩:=ry
 obtain ⟨j,h1,h2,h3,h4,h5⟩:=ux he
 have hl:z.cps.toList.length=z.length:=by simp [abn]
 rw [hl] at h1 h4 h5
 have hn:=nh
 exact tail_any (typeIs_str s z t) slot_str_getitem.lookup (getItem_str (c:=c) (by
  have e1:decide (i < -(2 ^ 63:Int))=false:=decide_eq_false (by omega)
  have e2:decide (i ≥ 2 ^ 63)=false:=decide_eq_false (by omega)
  rw [e1,e2,abF]) (by rw [h1];simpa using h2) ⟨.str ⟨#[c]⟩,H,I.tok _,⟨_,rfl⟩,q⟩) hs
def Pu (K:RV):R2:=λx y H Q=>ME K x y H Q\/MG K x y H Q\/MF x y H Q
theorem LD:oZ X (Pu X.K):=Jj.or (LH.or LF)
theorem Inv.lst {RL:List (Se×Obj)}{σ:St}{H:Hp}{s:RZ}{p:Se}{xs:List V}(I:Inv X RL σ H s) (h:H p=some (.lst xs)):
  ∃(RM:List RX) (n:Nat),Vals xs RM/\s.heap.get? p=some {cls:=.type "list",data:=.seq RM.toArray n}/\xs.length<=sizeLine:=by
 obtain ⟨z,RM,n,r,e⟩:=I.hok p _ h
 exact ⟨RM,n,r,e,z⟩
theorem zE (lo hi:Option Int) (n:Nat):(WC lo hi none n).1=((HT.bN n 0 lo:Nat):Int)/\(WC lo hi none n).2.1=((HT.bN n n hi:Nat):Int)/\(WC lo hi none n).2.2=1:=by
 refine ⟨?_,?_,rfl⟩
 ·cases lo with
  | none=>simp [WC,HT.bN]
  | some i=>
   simp only [WC,HT.bN,aaq,show (1:Int) > 0 by decide,if_true]
   by_cases h:i < 0
   ·simp only [h,if_true] <;> omega
   ·simp only [h,if_false] <;> omega
 ·cases hi with
  | none=>simp [WC,HT.bN]
  | some i=>
   simp only [WC,HT.bN,aaq,show (1:Int) > 0 by decide,if_true]
   by_cases h:i < 0
   ·simp only [h,if_true] <;> omega
   ·simp only [h,if_false] <;> omega
theorem w5 (RM:List RX) (lo hi:Option Int):slicePick RM.toArray lo hi none=((RM.drop (HT.bN RM.length 0 lo)).take (HT.bN RM.length RM.length hi - HT.bN RM.length 0 lo)).toArray:=by
 obtain ⟨h1,h2,h3⟩:=zE lo hi RM.toArray.size
 unfold slicePick
 rw [h1,h2,h3]
 simp only [sliceRange_one,pick_run,Sf] <;> rfl
noncomputable def ON (K:RV):V->Option Int->Option Int->Hp->VK->Prop:=λx lo hi H Q=>∃a xs,x=.ref a/\cH K H a xs/\∀p,H p=none->Q (.ref p) (upd H p (.lst (mh xs lo hi)))
theorem Kr:sC X (ON X.K):=by
 intro RL s σ H x v vl vu lo hi sl Q I rx hs pl pu h
 obtain ⟨a,xs,rfl,hx,q⟩:=h
 cases rx
 obtain ⟨RM,r,ht,hz⟩:=I.list hx
 have hlen:=r.length
 refine ⟨"list",_,Z0.lookup,ht.isList.typeIs,?_⟩
 refine wpAny_getItem_list_slice ht.isList hs pl pu .none (by simp) ?_ (by rw [Sf] <;> omega)
 rw [w5,<-hlen]
 refine ⟨.ref s.heap.objs.size,_,I.laid (t':=s.toks) (o:=.lst (mh xs lo hi)) (λb ob q=>R5 _ q) (R6 _) ?_,rfl,q _ (I.hok.fresh (R6 _))⟩
 exact ⟨SJ (qP xs lo hi) hz,_,0,(r.drop (HT.bN xs.length 0 lo)).take (HT.bN xs.length xs.length hi - HT.bN xs.length 0 lo),Sd _ rfl⟩
noncomputable def sR:V->Bool
 | .non=>true
 | .bl _=>true
 | .int _=>true
 | .str _=>true
 | _=>false
noncomputable def Lk:V->V->Bool
 | .non,.non=>true
 | .bl a,.bl b=>a == b
 | .bl a,.int b=>(if a then 1 else 0) == b
 | .int a,.bl b=>a == (if b then 1 else 0)
 | .int a,.int b=>a == b
 | .str a,.str b=>a == b
 | _,_=>false
theorem Lj {A:SW}{s:RZ}{y x:V}{u v:RX}(ry:RelV y u) (rx:RelV x v) (fy:sR y=true) (fx:sR x=true):UK A s u v (Lk y x):=by
 cases y with
 | non=>
  cases ry
  cases x with
  | non=>cases rx;exact YJ _
  | bl b=>cases rx;exact ab9 b
  | int b=>obtain ⟨t,rfl⟩:=rx;exact ack b t
  | str b=>obtain ⟨t,rfl⟩:=rx;exact acm b t
  | _=>exact absurd (show false=true from fx) SN
 | bl a=>
  cases ry
  cases x with
  | non=>cases rx;exact ab_ a
  | bl b=>cases rx;exact acd a b
  | int b=>obtain ⟨t,rfl⟩:=rx;exact acn a b t
  | str b=>obtain ⟨t,rfl⟩:=rx;exact aco a b t
  | _=>exact absurd (show false=true from fx) SN
 | int a=>
  obtain ⟨t',rfl⟩:=ry
  cases x with
  | non=>cases rx;exact acp a t'
  | bl b=>cases rx;exact acq a t' b
  | int b=>obtain ⟨t,rfl⟩:=rx;exact Zx a t' b t
  | str b=>obtain ⟨t,rfl⟩:=rx;exact Zs a t' b t
  | _=>exact absurd (show false=true from fx) SN
 | str a=>
  obtain ⟨t',rfl⟩:=ry
  cases x with
  | non=>cases rx;exact acr a t'
  | bl b=>cases rx;exact acs a t' b
  | int b=>obtain ⟨t,rfl⟩:=rx;exact Zt a t' b t
  | str b=>obtain ⟨t,rfl⟩:=rx;exact acG a t' b t
  | _=>exact absurd (show false=true from fx) SN
 | _=>exact absurd (show false=true from fy) SN
theorem yk:bT X (.builtin "len") (λxs H Q=>∃p ys,xs=[.ref p]/\(cH X.K H p ys\/cV X.K H p ys)/\Q (.int ys.length) H):=by
 intro RL s σ H xs us Q I r h
 obtain ⟨p,ys,rfl,hq,q⟩:=h
 obtain ⟨u,rfl,rx⟩:=vals1 r
 cases rx
 have hn:=nh
 rcases hq with hq | hq
 ·obtain ⟨RM,r',pl,hz⟩:=I.list hq
  have hlen:=r'.length
  exact Calls.call_len_list pl.isList (by simp only [Sf] <;> omega) ⟨.int ys.length,H,I.tok _,⟨s.toks + 1,by rw [Sf,hlen]⟩,q⟩
 ·obtain ⟨RM,r',pl,hz⟩:=I.tuple hq
  have hlen:=r'.length
  exact len_tuple pl (by simp only [Sf] <;> omega) ⟨.int ys.length,H,I.tok _,⟨s.toks + 1,by rw [Sf,hlen]⟩,q⟩
theorem yl:bT X (.builtin "len") (λxs H Q=>∃z,xs=[.str z]/\z.length<=sizeLine/\Q (.int z.length) H):=by
 intro RL s σ H xs us Q I r h
 obtain ⟨z,rfl,hz,q⟩:=h
 obtain ⟨u,rfl,t,rfl⟩:=vals1 r
 have hn:=nh
 exact len_str (by omega) ⟨.int z.length,H,I.tok _,⟨_,rfl⟩,q⟩
theorem bT.or {f:RX}{r r':List V->Hp->VK->Prop}(h:bT X f r) (h':bT X f r'):bT X f (λxs H Q=>r xs H Q\/r' xs H Q):=by
 intro RL s σ H xs us Q I rs q
 rcases q with q | q
 ·exact h RL s σ H xs us Q I rs q
 ·exact h' RL s σ H xs us Q I rs q
theorem wL:bT X (.type "tuple") (λxs H Q=>∃p ys,xs=[.ref p]/\((cH X.K H p ys/\∀l,H l=none->Q (.ref l) (upd H l (.tup ys)))\/(cV X.K H p ys/\Q (.ref p) H))):=by
 intro RL s σ H xs us Q I r h
 obtain ⟨p,ys,rfl,h⟩:=h
 obtain ⟨u,rfl,rx⟩:=vals1 r
 cases rx
 rcases h with ⟨hq,q⟩ | ⟨hq,q⟩
 ·obtain ⟨RM,r',pl,hz⟩:=I.list hq
  have hlen:=r'.length
  refine call_tuple_list pl.isList (λh' kp=>?_) (by simp only [Sf] <;> omega)
  have I1:Inv X RL σ H {s with heap:=h'}:=I.kept (t':=s.toks) kp
  have I2:Inv X RL σ (upd H h'.objs.size (.tup ys)) {s with heap:=h'.push {cls:=.type "tuple",data:=.seq RM.toArray}}:=
   I1.laid (t':=s.toks) (λb o e=>R5 _ e) (R6 _) (show cj X.prog X.w _ _ _ (.tup ys) from ⟨hz,RM,r',ab0 _ _⟩)
  exact ⟨.ref h'.objs.size,_,I2,rfl,q _ (I1.hok.fresh (R6 _))⟩
 ·obtain ⟨RM,r',pl,hz⟩:=I.tuple hq
  exact call_tuple_same pl ⟨.ref p,H,I,rfl,q⟩
noncomputable def Oj (K:RV) (T:String) (x:V) (H:Hp):Prop:=match x with
 | .str _=>T="str"
 | .int _=>T="int"
 | .ref p=>(T="list"/\∃xs,cH K H p xs)\/(T="tuple"/\∃o,K.lookup p=some o/\o.cls=.type "tuple"/\o.dict=none)\/
   (T="dict"/\((∃RS,H p=some (.dK RS))\/∃RS,H p=some (.dT RS)))\/(T="set"/\∃S n,H p=some (.set S n))
 | _=>False
theorem M9 {RL:List (Se×Obj)}{σ:St}{H:Hp}{s:RZ}{T:String}{x:V}{v:RX}(I:Inv X RL σ H s) (r:RelV x v) (ty:Oj X.K T x H):
  s.TypeIs v T/\∀a,v=.ref a->∃ob,s.heap.get? a=some ob/\ob.dict=none:=by
 cases x with
 | str z=>
  obtain ⟨t,rfl⟩:=r
  cases (show T="str" from ty)
  exact ⟨typeIs_str s z t,λ_ e=>nomatch e⟩
 | int i=>
  obtain ⟨t,rfl⟩:=r
  cases (show T="int" from ty)
  exact ⟨typeIs_int s i t,λ_ e=>nomatch e⟩
 | ref p=>
  cases r
  rcases ty with ⟨rfl,xs,hq⟩ | ⟨rfl,o,hk,hc,hd⟩ | ⟨rfl,hk⟩ | ⟨rfl,S,n,hk⟩
  ·obtain ⟨RM,_,pl,_⟩:=I.list hq
   refine ⟨pl.isList.typeIs,λa e=>?_⟩
   cases e
   obtain ⟨o,n,e,c,hd,_⟩:=pl
   exact ⟨o,e,hd⟩
  ·refine ⟨⟨o,I.kIn p o hk,hc⟩,λa e=>?_⟩
   cases e
   exact ⟨o,I.kIn _ o hk,hd⟩
  ·have z:∃o,s.heap.get? p=some o/\o.ExactDict:=by
    rcases hk with ⟨RS,hk⟩ | ⟨RS,hk⟩
    ·obtain ⟨_,_,_,_,o,_,_,e,ex,_⟩:=I.hok p _ hk
     exact ⟨o,e,ex⟩
    ·obtain ⟨_,_,_,_,o,_,_,e,ex,_⟩:=I.hok p _ hk
     exact ⟨o,e,ex⟩
   obtain ⟨o,e,ex⟩:=z
   refine ⟨⟨o,e,ex.1⟩,λa e2=>?_⟩
   cases e2
   exact ⟨o,e,ex.2.1⟩
  ·obtain ⟨o,_,_,_,e,ex,_⟩:=I.hok p _ hk
   refine ⟨⟨o,e,ex.1⟩,λa e2=>?_⟩
   cases e2
   exact ⟨o,e,ex.2.1⟩
 | _=>exact VR ty
def Px (K:RV) (T:String) (r:V->List V->Hp->VK->Prop) (to:TE) (t:TA):TE:=λσ H Q=>to σ H λx H1=>Oj K T x H1/\t σ H1 λxs H2=>r x xs H2 Q
variable {o e:SM}{es:List SM}{to:TE}{t:TA}{name:Str}{apos cpos:Pos}{T id:String}{r:V->List V->Hp->VK->Prop}
theorem xG (pa:PlainAttrs T) (slot:Slot T name id) (hty:typeOf (.builtin id)=pure (.type "method_descriptor")) (hm:Pd X id r) (ho:PE X o to) (ha:PA X (e::es) t)
  (hbase:W7 o name X.env (eval o X.env)=eval o X.env:=by rfl)
  (hfew:((Us cpos (R_ (e::es) X.env)).all (λx=>!x.1) && (aay cpos (Yd [] X.env)).all (λx=>x.1.isSome)
   && decide ((e::es).length + ([]:List Ye).length + (if ([]:List Ye).isEmpty then 0 else 1) < 30))=true:=by rfl)
  (hline:(apos.endLine == cpos.line)=true:=by rfl) (hs:R_ (e::es) X.env=(false,eval e X.env)::R_ es X.env:=by rfl) (hplain:(Us cpos (R_ es X.env)).any (·.1)=false:=by rfl):
  PE X (.Call (.Attribute o name apos) (e::es) [] cpos) (Px X.K T r to t):=by
 intro RL s σ H Q I h
 refine wpAny_Call_method_late hbase hfew hline rfl (bS (ho RL s σ H _ I h) λv s1 ⟨x,H1,I1,r1,ty,q1⟩=>?_)
 obtain ⟨h1,h2⟩:=M9 I1 r1 ty
 refine ⟨T,id,pa,slot,hty,h1,h2,?_⟩
 have hA:=ha cpos RL s1 σ H1 _ I1 q1
 rw [hs] at hA ⊢
 refine Calls.callWith_builtin (by show (false || (Us cpos (R_ es X.env)).any (·.1))=false;rw [hplain] <;> rfl) (Calls.evalArgs_plain ?_)
 exact bS hA λus s2 ⟨vs,H2,I2,r2,q2⟩=>hm RL s2 σ H2 x vs v us Q I2 r1 r2 q2
end
noncomputable def HB (X:Cx) (id:String) (r:V->List V->Hp->VK->Prop):Prop:=
 ∀(RL:List (Se×Obj)) (s:RZ) (σ:St) (H:Hp) (x:V) (xs:List V) (v:RX) (us:List RX) (Q:VK),Inv X RL σ H s->RelV x v->Vals xs us->r x xs H Q->
  So (Su X.prog X.w) X.A (call (.builtin id) (v::us)) (EP X RL σ Q) X.xe s
theorem Vals.one:∀{x:V}{us:List RX},Vals [x] us->∃u,us=[u]/\RelV x u
 | _,_,.cons r .nil=>⟨_,rfl,r⟩
theorem Vals.eraseIdx:∀{xs:List V}{us:List RX}(i:Nat),Vals xs us->Vals (xs.eraseIdx i) (us.eraseIdx i)
 | _,_,_,.nil=>.nil
 | _,_,0,.cons _ t=>t
 | _,_,i + 1,.cons r t=>.cons r (Vals.eraseIdx i t)
theorem vL {α:Type}:∀(l:List α) (i:Nat),(l.eraseIdx i).length<=l.length
 | [],_=>R6 _
 | _::_,0=>Uj _
 | _::r,i + 1=>Nat.succ_le_succ (vL r i)
section
variable {X:Cx}{RL:List (Se×Obj)}{σ:St}{H:Hp}{s:RZ}{l b:Se}{xs ys zs:List V}
theorem Inv.lset {RM its':List RX}{n:Nat}{f:Array RX->Array RX}{t':Nat}(I:Inv X RL σ H s) (hH:H l=some (.lst xs))
  (e:s.heap.get? l=some {cls:=.type "list",data:=.seq RM.toArray n}) (hf:f RM.toArray=its'.toArray) (hv:Vals ys its') (hz:ys.length<=sizeLine):
  Inv X RL σ (upd H l (.lst ys)) {s with heap:=s.heap.update l (T9 f),toks:=t'}:=by
 have q:=acR e f
 rw [hf] at q
 refine I.write (x:=l) (e:=l) (by rw [hH];exact trivial) (.inl rfl) (λb' u hb hu=>(Wy s.heap (T9 f) (UX hb)).trans hu) ⟨_,q⟩ ?_
 exact ⟨hz,its',_,hv,q⟩
theorem Inv.lnew {RM:List RX}{t':Nat}(I:Inv X RL σ H s) (hv:Vals ys RM) (hz:ys.length<=sizeLine):
  Inv X RL σ (upd H s.heap.objs.size (.lst ys)) {s with heap:=s.heap.push {cls:=.type "list",data:=.seq RM.toArray},toks:=t'}:=
 I.laid (λ_ _ q=>R5 _ q) (R6 _) ⟨hz,RM,0,hv,Sd _ rfl⟩
theorem Inv.fresh (I:Inv X RL σ H s):H s.heap.objs.size=none:=I.hok.fresh (R6 _)
theorem Inv.lstM (I:Inv X RL σ H s) (hH:H l=some (.lst xs)):xs.length<=sizeLine/\∃(RM:List RX) (n:Nat),Vals xs RM/\xs.length=RM.length/\s.heap.get? l=some {cls:=.type "list",data:=.seq RM.toArray n}:=by
 obtain ⟨z,RM,n,r,e⟩:=I.hok l _ hH
 exact ⟨z,RM,n,r,r.length,e⟩
theorem y9 {n:Nat}(h:n<=sizeLine):UL n=false:=by
 unfold UL
 exact decide_eq_false (by omega)
end
section
variable {X:Cx}
noncomputable def Ke:V->List V->Hp->VK->Prop:=λx vs H Q=>∃l xs y,x=.ref l/\vs=[y]/\H l=some (.lst xs)/\xs.length < sizeLine/\Q .non (upd H l (.lst (xs++[y])))
theorem pS:HB X "list.append" Ke:=by
 intro RL s σ H x vs v us Q I rx rv h
 obtain ⟨l,xs,y,rfl,rfl,hH,hz,q⟩:=h
 cases rx
 obtain ⟨u,rfl,ru⟩:=rv.one
 obtain ⟨z,RM,n,r,hl,e⟩:=I.lstM hH
 refine Z1 F.slot_list_append ⟨_,e,rfl⟩ F.entry_list_append (F.args_list_append_2 _ _) (PySem.list_append l RM.toArray n u (by rw [Sf];omega)) ⟨e,?_⟩
 refine ⟨.non,_,I.lset (its':=RM++[u]) hH e (by simp) (r.append (.cons ru .nil)) ?_,rfl,q⟩
 rw [Sy,YK]
 omega
noncomputable def Kf:V->List V->Hp->VK->Prop:=λx vs H Q=>∃l b xs zs,x=.ref l/\vs=[.ref b]/\H l=some (.lst xs)/\H b=some (.lst zs)/\xs.length + zs.length<=sizeLine/\Q .non (upd H l (.lst (xs++zs)))
theorem Oh:HB X "list.extend" Kf:=by
 intro RL s σ H x vs v us Q I rx rv h
 obtain ⟨l,b,xs,zs,rfl,rfl,hH,hB,hz,q⟩:=h
 cases rx
 obtain ⟨u,rfl,ru⟩:=rv.one
 cases ru
 obtain ⟨z,RM,n,r,hl,e⟩:=I.lstM hH
 obtain ⟨z2,its2,n2,r2,hl2,e2⟩:=I.lstM hB
 have hsz:RM.toArray.size + its2.toArray.size<=sizeLine:=by rw [Sf,Sf];omega
 have Qc:¬(!RM.toArray.isEmpty && UL (RM.toArray.size + its2.toArray.size))=true:=by
  rw [y9 hsz,VF]
  exact SN
 refine Z1 ZE ⟨_,e,rfl⟩ Zm (Y7 _ _)
  (AutoSeq1.list_extend_list_list_0 l RM.toArray n b its2.toArray n2 Qc (by rw [Sf];omega) (by omega)) ⟨e,e2,?_⟩
 refine ⟨.non,_,I.lset (its':=RM++its2) hH e (by simp) (r.append r2) ?_,rfl,q⟩
 rw [Sy]
 omega
noncomputable def MH:V->List V->Hp->VK->Prop:=λx vs H Q=>∃l xs i k y,x=.ref l/\vs=[.int i]/\H l=some (.lst xs)/\-(2 ^ 63)<=i/\i < 2 ^ 63/\ZD i xs.length=some k/\xs[k]?=some y/\Q y (upd H l (.lst (xs.eraseIdx k)))
theorem Gv:HB X "list.pop" MH:=by
 intro RL s σ H x vs v us Q I rx rv h
 obtain ⟨l,xs,i,k,y,rfl,rfl,hH,h1,h2,hk,hy,q⟩:=h
 cases rx
 obtain ⟨u,rfl,ru⟩:=rv.one
 obtain ⟨t,rfl⟩:=ru
 obtain ⟨z,RM,n,r,hl,e⟩:=I.lstM hH
 obtain ⟨w,hw,rw'⟩:=r.get hy
 refine Z1 F.slot_list_pop ⟨_,e,rfl⟩ F.entry_list_pop (F.args_list_pop_2 _ _)
  (MeetsSeq.list_pop_at l RM.toArray n i t k w (fitsIndex_both h1 h2) (by rw [Sf,<-hl];exact hk) (by rw [<-TH];exact hw) (by rw [Sf];omega)) ⟨e,?_⟩
 refine ⟨y,_,I.lset (its':=RM.eraseIdx k) hH e ?_ (r.eraseIdx k) ?_,rw',q⟩
 ·show RM.toArray.eraseIdxIfInBounds k=(RM.eraseIdx k).toArray
  rw [List.eraseIdxIfInBounds_toArray]
 ·have:=vL xs k
  omega
noncomputable def OL:R2:=λx y H Q=>∃l b xs zs,x=.ref l/\y=.ref b/\H l=some (.lst xs)/\H b=some (.lst zs)/\xs.length + zs.length<=sizeLine/\∀p,H p=none->Q (.ref p) (upd H p (.lst (xs++zs)))
theorem Ex:dw X (VS .Add) OL:=by
 intro RL s σ H x y v u Q I rx ry h
 obtain ⟨l,b,xs,zs,rfl,rfl,hH,hB,hz,q⟩:=h
 cases rx
 cases ry
 obtain ⟨z,RM,n,r,hl,e⟩:=I.lstM hH
 obtain ⟨z2,its2,n2,r2,hl2,e2⟩:=I.lstM hB
 refine PySem.P.add_list e e2 ?_ (by rw [Sf,Sf];omega)
 have ea:RM.toArray++its2.toArray=(RM++its2).toArray:=by simp
 rw [ea]
 exact ⟨.ref _,_,I.lnew (t':=s.toks) (r.append r2) (by rw [Sy];omega),rfl,q _ I.fresh⟩
end
end L2
namespace Att
open PySem PySem.W PySem.Calls PyProof.Rows
theorem tF {P:ab1}{h:TU}:∀(ns:List Int) (vs:List RX),WellAll P h vs (ns.map acV)->Wa vs ns:=by
 intro ns
 induction ns with
 | nil=>
  intro vs w
  rw [WQ] at w
  cases w
  exact .nil
 | cons n ns ih=>
  intro vs w
  rw [Sj] at w
  cases w with
  | cons a b=>
   cases a
   exact .cons _ _ (ih _ b)
theorem E3 {l:OpenLaw}{n:Nat}(hn:l.most=some n){P:ab1}{h:TU}{args:List WData}{vals:List RX}
  (hpre:l.row.toRowW.claim.pre args=true) (hwl:WellAll P h vals args):
  ∃a vs ns,vals=[Wh a]/\args=[WData.list (ns.map acV)]/\h.get? a=some {cls:=.type "list",data:=.seq vs.toArray}/\Wa vs ns/\ns.length<=n:=by
 have hsh:WShape.hasAll [] args [.list .int]=true:=(pre_splitW hpre).1
 have hc:l.pre.holds [] {args:=args}=true:=(pre_splitW hpre).2
 obtain ⟨d,r,rfl,h1,h2⟩:=hasAllW_cons hsh
 obtain rfl:=hasAllW_nil h2
 obtain ⟨xs,rfl,h3⟩:=hasW_list h1
 obtain ⟨ns,rfl⟩:=items_int h3
 have hlen:ns.length<=n:=by
  unfold OpenLaw.pre at hc
  have h4:(WTm.not (.lt (.lit (.int (n:Int))) (.len (.arg 0)))).holds [] {args:=[.list (ns.map .int)]}=true:=by
   have h4:=(holds_andW hc).1
   rw [hn] at h4
   exact h4
  have h5:=condW_of h4 (w_not (w_lt w_lit (w_len_list (w_arg rfl))))
  rw [R3] at h5
  refine Nat.le_of_not_lt λq=>?_
  have q':(n:Int) < ((ns.length:Nat):Int):=by omega
  first
   | (rw [decide_eq_true q'] at h5;exact absurd h5 (by decide))
   | (simp at h5;omega)
 cases hwl with
 | cons w1 w2=>
  cases w2
  cases w1 with
  | list ho hall=>exact ⟨_,_,ns,rfl,rfl,ho,tF ns _ hall,hlen⟩
theorem EM (l:OpenLaw) (args:List WData):l.row.toRowW.claim.post args (.bool true) args=true:=
 postW_of (r:=l.row.toRowW) (X:=(true == true))
  (show acL [] (.bool true) .bool=true by first | rfl | decide | simp [acL,WShape.arms,WShape.armsAll])
  (show (WTm.eq .res (.lit (.bool true))).value [] {args:=args,res:=some (.bool true),after:=args}=some (.bool (true == true)) from w_eq_bool (w_res rfl) w_lit) rfl
theorem Aa {l:OpenLaw}{n:Nat}{q:Sm}{loose:List Str}{XP:(Str->Option RX)->TU->Prop}{YP:SO->TU->Prop}{d:DefRec}
  (hn:l.most=some n) (hdf:d.params.defaults=[])
  (call:∀(w:SO) (s₀ s₁:RZ) (mg mb:Str->Option RX) (fa:Se) (o:Obj) (pm cd doc:RX) (a:Se) (vs:List RX) (ns:List Int),
   Ground q loose [] XP w s₀ mg mb s₁.heap->YP w s₁.heap->
   s₁.heap.get? fa=some o->o.data=.func (docDef d.name d.params d.body d.scope pm cd doc)->s₁.heap.CodeRec cd d.name->mg d.name=some (.ref fa)->
   s₁.heap.get? a=some {cls:=.type "list",data:=.seq vs.toArray}->Wa vs ns->ns.length<=n->s₁.gens=#[]->
   U4 (Su l.prog w) Z2 (.call (.ref fa) ⟨[.ref a],[]⟩) (λr s'=>r=.ok (.ret (.bool true))/\OldK s₁.heap s'.heap/\s'.os=s₁.os/\Yb s'.gens) s₁):
  WalkO q loose XP YP l.row.toRowW d [] (λf vs=>abo f vs):=by
 intro w s₀ s₁ mg mb G Y fa o pm cd doc dV kV ho hd hcd hD hmg hg args vals as hpre hlay hrd hwl hlo
 obtain rfl:dV=.none:=Dflts.none hD hdf
 obtain rfl:kV=.none:=Dflts.noKw hD
 obtain ⟨a,vs,ns,rfl,rfl,hobj,hints,hlen⟩:=E3 hn hpre hwl
 refine enter_call (U9 (call w s₀ s₁ mg mb fa o pm cd doc a vs ns G Y ho (fd_plain hd) hcd hmg hobj hints hlen hg) λr s' hq=>?_)
 obtain ⟨rfl,h2,h3,h4⟩:=hq
 exact ⟨.inl ⟨.bool true,.bool true,[],rfl,λ_=>rfl,.bool true,EM l _,λ_=>⟨UW,λ_ hm=>(nomatch hm)⟩⟩,h2,h3,h4⟩
end Att
namespace L2
open PySem PySem.Spec PyProof.Rows
theorem wB:∀{vs:List RX}{ns:List Int},Wa vs ns->Vals (ns.map V.int) vs
 | _,_,.nil=>.nil
 | _,_,.cons n t h=>.cons ⟨t,rfl⟩ (wB h)
def BJ (H:Hp):Prop:=∀b,H b=none\/∃o xs,H b=some (.frz o (.lst xs))
theorem Gn {P:Sm}{w:SO}{K:RV}{mg mb:Str->Option RX}{CX:oU}{k:Nat}{fa a:Se}{fd:SH}{x:Str}{sp:Sp}{s₁:RZ}{vs:List RX}{ns:List Int}
  (KX:K.In s₁.heap) (hns:s₁.heap.Ns SE mg) (hb:s₁.heap.Ns abk mb) (Ro:∀x:Str,x≠"__name__"->mb x=Tj x) (hlim:s₁.heap.NoLimit) (hg:s₁.gens=#[])
  (ha:s₁.heap.get? a=some {cls:=.type "list",data:=.seq vs.toArray}) (hi:Wa vs ns) (hl:ns.length<=sizeLine) (hr:dB k Z2)
  (F:∀base:TU,K.In base->base.Ns SE mg->fH P w K mg base CX k fa fd [x] sp) (hbind:∀(s:RZ) (u:RX),aaC s fd ⟨[u],[]⟩ [(x,u)])
  (Qi:∀H:Hp,BJ H->cH K H a (ns.map V.int)->sp [.ref a] H (λv _=>v=.bl true) λ_ _ _=>False)
  (QK:∀H e s',CX [] H s₁ (λ_ _ _=>False) e s'->False):
  U4 (Su P w) Z2 (.call (.ref fa) ⟨[.ref a],[]⟩) (λr s'=>r=.ok (.ret (.bool true))/\OldK s₁.heap s'.heap/\s'.os=s₁.os/\Yb s'.gens) s₁:=by
 have rv:=wB hi
 have lenV:=hi.length
 have core:∀H:Hp,BJ H->cH K H a (ns.map V.int)->fO P w H s₁.heap->(∀b,H b≠none->b=a)->(H a≠none->K.lookup a=none)->
   U4 (Su P w) Z2 (.call (.ref fa) ⟨[.ref a],[]⟩) (λr s'=>r=.ok (.ret (.bool true))/\OldK s₁.heap s'.heap/\s'.os=s₁.os/\Yb s'.gens) s₁:=by
  intro H hO hS hok hA hK
  have base_of:∀{b:Se}{o:Obj},s₁.heap.get? b=some o->H b=none->(nU s₁.heap H).get? b=some o:=λe n=>Ga e n
  have noA:∀{b:Se}{o:Obj}{es:Array ZF}{ep:Nat},s₁.heap.get? b=some o->o.data=.dict es ep->H b=none:=fun {b o es ep} e d=>by
   cases q:H b with
   | none=>rfl
   | some u=>
    have e':b=a:=hA b (by rw [q];simp)
    subst e'
    rw [ha] at e;cases e
    have d':Data.seq vs.toArray _=Data.dict es ep:=d
    cases d'
  have nsK:∀{b:Se}{m:Str->Option RX},s₁.heap.Ns b m->(nU s₁.heap H).Ns b m:=fun {b m} ⟨o,es,ep,e,d,r⟩=>⟨o,es,ep,base_of e (noA e d),d,r⟩
  have Rh:K.In (nU s₁.heap H):=λb o e=>base_of (KX b o e) (by
   cases q:H b with
   | none=>rfl
   | some u=>
    have e':b=a:=hA b (by rw [q];simp)
    subst e'
    rw [hK (by rw [q];simp)] at e;cases e)
  have hM:Mod K mg (nU s₁.heap H):=⟨Rh,nsK hns,⟨mb,nsK hb,Ro⟩,let ⟨mc,h1,h2⟩:=hlim;⟨mc,nsK h1,h2⟩⟩
  have e0:BC P w K mg (nU s₁.heap H) Z2 [] s₁ H:=⟨rfl,hM,λb o e=>Jz e,ab2 (Ei _ _),trivial,λb hb=>absurd (show b∈([]:List Se) from hb) (by simp),hok,.of_eq hg⟩
  refine U9 ((F _ Rh (nsK hns)).run Z2 [] s₁ H ⟨[.ref a],[]⟩ [.ref a] [.ref a] _ _ hr e0 (hbind s₁ (.ref a)) (.cons rfl .nil) (Qi H hO hS)) λr s' h=>?_
  cases r with
  | error e=>exact (QK H e s' h).elim
  | ok fl=>
   cases fl with
   | next=>exact VR h
   | brk=>exact VR h
   | cont=>exact VR h
   | ret u=>
    obtain ⟨v,H',os,bare,un,Q6,r',q⟩:=h
    have q':v=.bl true:=q
    subst q'
    obtain rfl:u=Vm true:=r'
    refine ⟨rfl,OldK.of_keep λb o e=>?_,os,bare⟩
    cases q:H b with
    | none=>exact un.keep b o e q (by intro z;exact absurd (show b∈([]:List Se) from z) (by simp)) (by simp)
    | some u=>
     rcases hO b with z | ⟨ob,xs,z⟩
     ·rw [q] at z;cases z
     ·have z2:=un.frzs b ob _ z
      obtain ⟨e1,_⟩:=hok b _ z
      obtain ⟨e2,_⟩:=Q6 b _ z2
      rw [e] at e1;cases e1
      exact e2
 cases hk:K.lookup a with
 | some o=>
  have e:=KX a o hk
  rw [ha] at e
  cases e
  refine core (λ_=>none) (λ_=>.inl rfl) (.inr ⟨_,vs.toArray,_,hk,rfl,rfl,rfl,by rw [Sf,lenV];exact hl,by simpa using rv⟩) (λb u z=>by have z':(none:Option HO)=some u:=z;cases z') (λb z=>absurd rfl z) λz=>absurd rfl z
 | none=>
  refine core (λb=>if b=a then some (.frz {cls:=.type "list",data:=.seq vs.toArray} (.lst (ns.map V.int))) else none) (λb=>?_) (.inl (.inr ⟨{cls:=.type "list",data:=.seq vs.toArray},if_pos rfl⟩)) (λb u z=>?_) (λb z=>?_) λ_=>hk
  ·by_cases hb:b=a
   ·exact .inr ⟨_,_,if_pos hb⟩
   ·exact .inl (if_neg hb)
  ·by_cases hb:b=a
   ·have z':=(if_pos hb).symm.trans z
    cases z'
    subst hb
    exact ⟨ha,by rw [R3];exact hl,vs,_,rv,ha⟩
   ·have z':=(if_neg hb).symm.trans z
    cases z'
  ·by_cases hb:b=a
   ·exact hb
   ·exact absurd (if_neg hb) z
abbrev PX {K:RV}{h:TU}(_:K.In h):RV:=K
theorem KH {l:YL}{n k:Nat}{q:Sm}{loose:List Str}{XP:(Str->Option RX)->TU->Prop}{YP:SO->TU->Prop}{d:DefRec}{K:ab1->RV}{CX:SO->oU}{sp:SO->Sp}{x:Str}
  (hn:l.most=some n) (hn2:n<=sizeLine) (hdf:d.params.defaults=[]) (hr:dB k Z2)
  (hY:∀(w:SO) (h:TU),YP w h->(K w.params).In h)
  (F:∀(w:SO) (mg:Str->Option RX) (fa:Se) (h:TU),(K w.params).In h->h.Ns SE mg->mg d.name=some (.ref fa)->
   ∃fd:SH,(∀(s:RZ) (u:RX),aaC s fd ⟨[u],[]⟩ [(x,u)])/\
    ∀base:TU,(K w.params).In base->base.Ns SE mg->fH l.prog w (K w.params) mg base (CX w) k fa fd [x] (sp w))
  (Qi:∀(w:SO) (H:Hp) (a:Se) (ns:List Int),ns.length<=n->BJ H->cH (K w.params) H a (ns.map V.int)->sp w [.ref a] H (λv _=>v=.bl true) λ_ _ _=>False)
  (QK:∀(w:SO) (H:Hp) (s:RZ) (e:RX) (s':RZ),CX w [] H s (λ_ _ _=>False) e s'->False):
  abG q loose XP YP l.row.toRowW d [] (λf vs=>abo f vs):=by
 refine Att.Aa hn hdf λw s₀ s₁ mg mb fa o pm cd doc a vs ns G Y ho hd hcd hmg hobj hints hlen hg=>?_
 have KX:=hY w _ Y
 obtain ⟨fd,hb,hF⟩:=F w mg fa _ KX G.T.g hmg
 exact Gn KX G.T.g G.T.b G.T.builtins G.T.nolimit hg hobj hints (SJ hlen hn2) hr hF hb (λH hO hS=>Qi w H a ns hlen hO hS) λH e s'=>QK w H s₁ e s'
noncomputable def aT (s:Vj):Arguments:=match s with
 | .FunctionDef _ a _ _ _ _ _ _ _ _=>a
 | _=>{posonlyargs:=[],args:=[],vararg:=none,kwonlyargs:=[],kw_defaults:=[],kwarg:=none,defaults:=[]}
noncomputable def aO (s:Vj):List Vj:=match s with
 | .FunctionDef _ _ b _ _ _ _ _ _ _=>b
 | _=>[]
noncomputable def ay (s:Vj):U3:=match s with
 | .FunctionDef _ _ _ _ _ _ sc _ _ _=>sc
 | _=>{kind:=.function,names:=[],isGenerator:=false,isCoroutine:=false}
abbrev oG:oU:=λ_ _ _ _ _ _=>False
abbrev E0:XK:=λ_ _ _=>False
theorem Cv {X:Cx}:Passes oG X E0:=λ_ _ _ _ _ _ _ h=>h.elim
structure cG (K:RV) (x RP:Str) (st:Vj) (f:Se) (fd:SH):Prop where
 ex:∃(oc:RX) (od:Option Se) (kV doc pm:RX) (an:Option Se) (cdv ct:RX) (osl:Array (Option RX)),
  fd=Sb x RP (aT st) (aO st) (ay st) .none kV doc pm an cdv ct/\K.lookup f=some ⟨oc,od,.func fd,osl⟩/\Vd K cdv RP=true
 kp:TM K (.ref f)=true
section
variable {P:Sm}{w:SO}{K:RV}{mg:Str->Option RX}{base:TU}
theorem cG.ok {x RP:Str}{st:Vj}{f:Se}{fd:SH}{N ps:List Str}{k:Nat}{sp:Sp}(F:cG K x RP st f fd) (S:bq N ps (ay st)) (len:∀vs H Q E,sp vs H Q E->vs.length=ps.length)
  (hbody:∀(cdv:RX) (A:SW) (outer:List Env) (s:RZ) (H:Hp) (vs:List V) (Q:VK) (E:XK),dB k (A.deeper (XQ RP (ay st) s.heap.objs.size f cdv))->sp vs H Q E->
   ∃t,jP (pg oG P w K mg base N RP (ay st) f cdv A outer s H E).nox (aO st) t/\t {nx:=λ_ H'=>Q .non H',rt:=Q} (start N vs) H):fH P w K mg base oG (k + 1) f fd ps sp:=by
 obtain ⟨oc,od,kV,doc,pm,an,cdv,ct,osl,rfl,lk,hcd⟩:=F.ex
 refine HQ lk hcd S len λA outer s H vs Q E hr Qi=>?_
 obtain ⟨t,h,q⟩:=hbody cdv A outer s H vs Q E hr Qi
 exact ⟨t,h.nox,q⟩
theorem cG.binds {x RP:Str}{st:Vj}{f:Se}{fd:SH}{ps:List Str}(F:cG K x RP st f fd)
  (h:∀(kV doc pm:RX) (an:Option Se) (cdv ct:RX) (us:List RX),us.length=ps.length->Y3 (Sb x RP (aT st) (aO st) (ay st) .none kV doc pm an cdv ct) ⟨us,[]⟩=pure (ps.zip us)):Binds K fd ps []:=by
 obtain ⟨oc,od,kV,doc,pm,an,cdv,ct,osl,rfl,lk,hcd⟩:=F.ex
 exact .all (h kV doc pm an cdv ct)
theorem D7 {x RP:Str}{st:Vj}{f:Se}{oc:RX}{od an:Option Se}{osl:Array (Option RX)}{kV doc pm cdv ct:RX}(l:K.lookup f=some ⟨oc,od,.func (Sb x RP (aT st) (aO st) (ay st) .none kV doc pm an cdv ct),osl⟩)
  (c:Vd K cdv RP=true) (k:TM K (.ref f)=true):cG K x RP st f (Sb x RP (aT st) (aO st) (ay st) .none kV doc pm an cdv ct):=⟨⟨oc,od,kV,doc,pm,an,cdv,ct,osl,rfl,l,c⟩,k⟩
end
theorem Lz {A B:Prop}(h:B):if false=true then A else B:=by
 rw [if_neg SN]
 exact h
theorem LA {A B:Prop}(h:A):if true=true then A else B:=by
 rw [if_pos rfl]
 exact h
def aU (H H':Hp):Prop:=∀b o,H b=some o->H' b=some o
theorem aU.refl (H:Hp):aU H H:=λ_ _ h=>h
theorem aU.trans {H H1 H2:Hp}(a:aU H H1) (b:aU H1 H2):aU H H2:=λc o h=>b c o (a c o h)
theorem aU.free {H H':Hp}(e:aU H H'){l:Se}(h:H' l=acu):H l=acu:=by
 cases q:H l with
 | none=>rfl
 | some o=>
  rw [e l o q] at h
  cases h
theorem aU.seq {K:RV}{H H':Hp}{a:Se}{xs:List V}(e:aU H H') (h:cH K H a xs):cH K H' a xs:=by
 rcases h with (h | ⟨o,h⟩) | h
 ·exact .inl (.inl (e _ _ h))
 ·exact .inl (.inr ⟨o,e _ _ h⟩)
 ·exact .inr h
end L2
set_option maxHeartbeats 4000000
namespace K54
open PySem
def top (i:Nat):Vj:=PySem.Challenge.pw_pickalike_k54_whole_kinds_and_layers.main.body.getD i (.Pass ⟨0,0,0,0⟩)
noncomputable def topC (i j:Nat):Vj:=match top i with
 | .ClassDef (body:=b) ..=>b.getD j (.Pass ⟨0,0,0,0⟩)
 | _=>.Pass ⟨0,0,0,0⟩
end K54
namespace K54
open PySem PySem.Spec PyProof.Rows L2
abbrev E (P:ab1) (k:Str) (t:Nat) (v:RX):ZF:=⟨PyData.keyHash P k,.str k t,v⟩
def KF (P:ab1):RV:=
(nat_lit 2,⟨.none,none,(.dict #[] 0),#[]⟩)::
(nat_lit 3,⟨(.type "dict"),none,(.dict #[E P "__name__" 165 (.str "law_pickalike_k54_whole_kinds_and_layers" 496),E P "__doc__" 166 .none,E P "__package__" 167 .none,E P "__loader__" 168 (.builtin "__main__.__loader__#opaque"),E P "__spec__" 169 .none,E P "__annotations__" 170 (.ref 6),E P "__builtins__" 171 (.ref 4),E P "__file__" 173 (.str "/claim/cut.py" 172),E P "__cached__" 174 .none,E P "PickError" 206 (.ref 24),E P "NoTongue" 222 (.ref 37),E P "TooMany" 247 (.ref 56),E P "NoCount" 272 (.ref 75),E P "is_whole" 281 (.ref 84),E P "tongue_of" 287 (.ref 89),E P "need_tongue" 295 (.ref 96),E P "MOST_SMALL" 299 (.int 4 298),E P "need_few_points" 307 (.ref 103),E P "need_small" 315 (.ref 110),E P "need_count" 324 (.ref 117),E P "rising" 333 (.ref 124),E P "view" 339 (.ref 129),E P "views" 345 (.ref 134),E P "agree" 355 (.ref 141),E P "goes_behind" 366 (.ref 148),E P "pairings" 372 (.ref 153),E P "MOST_DEPTH" 376 (.int 6 375),E P "added" 384 (.ref 160),E P "pairs_with" 390 (.ref 165),E P "picks_of" 396 (.ref 170),E P "outcomes" 402 (.ref 175),E P "answered_still" 408 (.ref 180),E P "peeled" 414 (.ref 185),E P "pairings_with" 420 (.ref 190),E P "parting_depths" 426 (.ref 195),E P "in_layer" 435 (.ref 202),E P "layers_of" 441 (.ref 207),E P "layers" 450 (.ref 214),E P "MOST_POWER" 454 (.int 600 453),E P "power" 464 (.ref 221),E P "sorted_once" 473 (.ref 228),E P "face_of" 479 (.ref 233),E P "kind_of" 485 (.ref 238),E P "kind" 495 (.ref 246),E P "_law_cell" 505 (.ref 253),E P "_law_names" 520 (.ref 260),E P "_law_bits" 530 (.ref 267),E P "_law_world" 536 (.ref 272),E P "_law_order" 547 (.ref 279),E P "_law_turned" 553 (.ref 284),E P "_law_flipped" 559 (.ref 289),E P "_law_two" 565 (.ref 294),E P "law" 577 (.ref 301)] 53),#[]⟩)::
(nat_lit 15,⟨(.type "tuple"),none,(.seq #[(.type "ValueError")] 0),#[]⟩)::
(nat_lit 22,⟨(.type "tuple"),none,(.seq #[] 0),#[]⟩)::
(nat_lit 23,⟨(.type "dict"),none,(.dict #[E P "__module__" 196 (.str "pickalike.errors" 187),E P "__firstlineno__" 200 (.int 2 199),E P "__static_attributes__" 201 (.ref 22),E P "__weakref__" 203 (.ref 25),E P "__doc__" 204 .none] 3),#[]⟩)::
(nat_lit 24,⟨(.type "type"),none,(.cls ⟨"PickError",[(.type "ValueError")],[(.ref 24),(.type "ValueError"),(.type "Exception"),(.type "BaseException"),(.type "object")],23,"PickError",true,[],[(.ref 37),(.ref 56),(.ref 75)],false,none,false⟩),#[(some (.ref 15)),none,(some (.str "PickError" 189)),(some (.str "PickError" 197)),(some (.builtin "ValueError.__new__")),(some (.bool true))]⟩)::
(nat_lit 25,⟨(.type "getset_descriptor"),none,(.fields #[(.str "__weakref__" 202),(.ref 24),(.builtin "ExceptionGroup.__weakref__"),.none]),#[]⟩)::
(nat_lit 28,⟨(.type "tuple"),none,(.seq #[(.ref 24)] 0),#[]⟩)::
(nat_lit 35,⟨(.type "tuple"),none,(.seq #[] 0),#[]⟩)::
(nat_lit 36,⟨(.type "dict"),none,(.dict #[E P "__module__" 214 (.str "pickalike.errors" 187),E P "__firstlineno__" 218 (.int 4 217),E P "__static_attributes__" 219 (.ref 35),E P "__doc__" 220 .none] 2),#[]⟩)::
(nat_lit 37,⟨(.type "type"),none,(.cls ⟨"NoTongue",[(.ref 24)],[(.ref 37),(.ref 24),(.type "ValueError"),(.type "Exception"),(.type "BaseException"),(.type "object")],36,"NoTongue",true,[],[],false,none,false⟩),#[(some (.ref 28)),none,(some (.str "NoTongue" 207)),(some (.str "NoTongue" 215)),(some (.builtin "ValueError.__new__")),(some (.bool true))]⟩)::
(nat_lit 40,⟨(.type "tuple"),none,(.seq #[(.ref 24)] 0),#[]⟩)::
(nat_lit 47,⟨(.type "tuple"),none,(.seq #[] 0),#[]⟩)::
(nat_lit 49,⟨(.type "tuple"),none,(.seq #[(.str "self" 238),(.str "many" 239)] 0),#[]⟩)::
(nat_lit 50,⟨(.type "tuple"),none,(.seq #[] 0),#[]⟩)::
(nat_lit 52,⟨(.type "code"),none,(.fields #[(.str "__init__" 235),(.str "TooMany.__init__" 236),(.str "/claim/cut.py" 237),(.int 8 0),(.int 2 0),(.int 0 0),(.int 0 0),(.int 3 0),(.ref 47),(.bool true),(.int 181 0),(.ref 48),.none,(.ref 49),(.ref 50),(.ref 51),(.int 240 0),(.int 8 0),(.str "/claim/cut.py" 241)]),#[]⟩)::
(nat_lit 53,⟨(.type "function"),none,(.func (Sb "__init__" "TooMany.__init__" (aT (topC 3 0)) (aO (topC 3 0)) (ay (topC 3 0)) .none .none .none (.str "pickalike.errors" 187) none (.ref 52) .none)),#[]⟩)::
(nat_lit 54,⟨(.type "tuple"),none,(.seq #[(.str "many" 243)] 0),#[]⟩)::
(nat_lit 55,⟨(.type "dict"),none,(.dict #[E P "__module__" 230 (.str "pickalike.errors" 187),E P "__firstlineno__" 234 (.int 6 233),E P "__init__" 242 (.ref 53),E P "__static_attributes__" 244 (.ref 54),E P "__doc__" 245 .none] 2),#[]⟩)::
(nat_lit 56,⟨(.type "type"),none,(.cls ⟨"TooMany",[(.ref 24)],[(.ref 56),(.ref 24),(.type "ValueError"),(.type "Exception"),(.type "BaseException"),(.type "object")],55,"TooMany",true,[],[],false,none,false⟩),#[(some (.ref 40)),none,(some (.str "TooMany" 223)),(some (.str "TooMany" 231)),(some (.builtin "ValueError.__new__")),(some (.bool true))]⟩)::
(nat_lit 59,⟨(.type "tuple"),none,(.seq #[(.ref 24)] 0),#[]⟩)::
(nat_lit 66,⟨(.type "tuple"),none,(.seq #[] 0),#[]⟩)::
(nat_lit 68,⟨(.type "tuple"),none,(.seq #[(.str "self" 263),(.str "told" 264)] 0),#[]⟩)::
(nat_lit 69,⟨(.type "tuple"),none,(.seq #[] 0),#[]⟩)::
(nat_lit 71,⟨(.type "code"),none,(.fields #[(.str "__init__" 260),(.str "NoCount.__init__" 261),(.str "/claim/cut.py" 262),(.int 13 0),(.int 2 0),(.int 0 0),(.int 0 0),(.int 3 0),(.ref 66),(.bool true),(.int 181 0),(.ref 67),.none,(.ref 68),(.ref 69),(.ref 70),(.int 265 0),(.int 13 0),(.str "/claim/cut.py" 266)]),#[]⟩)::
(nat_lit 72,⟨(.type "function"),none,(.func (Sb "__init__" "NoCount.__init__" (aT (topC 4 0)) (aO (topC 4 0)) (ay (topC 4 0)) .none .none .none (.str "pickalike.errors" 187) none (.ref 71) .none)),#[]⟩)::
(nat_lit 73,⟨(.type "tuple"),none,(.seq #[(.str "told" 268)] 0),#[]⟩)::
(nat_lit 74,⟨(.type "dict"),none,(.dict #[E P "__module__" 255 (.str "pickalike.errors" 187),E P "__firstlineno__" 259 (.int 11 258),E P "__init__" 267 (.ref 72),E P "__static_attributes__" 269 (.ref 73),E P "__doc__" 270 .none] 2),#[]⟩)::
(nat_lit 75,⟨(.type "type"),none,(.cls ⟨"NoCount",[(.ref 24)],[(.ref 75),(.ref 24),(.type "ValueError"),(.type "Exception"),(.type "BaseException"),(.type "object")],74,"NoCount",true,[],[],false,none,false⟩),#[(some (.ref 59)),none,(some (.str "NoCount" 248)),(some (.str "NoCount" 256)),(some (.builtin "ValueError.__new__")),(some (.bool true))]⟩)::
(nat_lit 78,⟨(.type "tuple"),none,(.seq #[] 0),#[]⟩)::
(nat_lit 80,⟨(.type "tuple"),none,(.seq #[(.str "thing" 278)] 0),#[]⟩)::
(nat_lit 81,⟨(.type "tuple"),none,(.seq #[] 0),#[]⟩)::
(nat_lit 83,⟨(.type "code"),none,(.fields #[(.str "is_whole" 275),(.str "is_whole" 276),(.str "/claim/cut.py" 277),(.int 17 0),(.int 1 0),(.int 0 0),(.int 0 0),(.int 3 0),(.ref 78),(.bool true),(.int 181 0),(.ref 79),.none,(.ref 80),(.ref 81),(.ref 82),(.int 279 0),(.int 17 0),(.str "/claim/cut.py" 280)]),#[]⟩)::
(nat_lit 84,⟨(.type "function"),none,(.func (Sb "is_whole" "is_whole" (aT (top 6)) (aO (top 6)) (ay (top 6)) .none .none .none (.str "pickalike.worlds" 273) none (.ref 83) .none)),#[]⟩)::
(nat_lit 85,⟨(.type "tuple"),none,(.seq #[] 0),#[]⟩)::
(nat_lit 88,⟨(.type "code"),none,(.fields #[(.str "tongue_of" 282),(.str "tongue_of" 283),(.str "/claim/cut.py" 284),(.int 19 0),(.int 1 0),(.int 0 0),(.int 0 0),(.int 3 0),(.ref 85),(.bool true),(.int 181 0),(.ref 86),.none,.none,.none,(.ref 87),(.int 285 0),(.int 19 0),(.str "/claim/cut.py" 286)]),#[]⟩)::
(nat_lit 89,⟨(.type "function"),none,(.func (Sb "tongue_of" "tongue_of" (aT (top 7)) (aO (top 7)) (ay (top 7)) .none .none .none (.str "pickalike.worlds" 273) none (.ref 88) .none)),#[]⟩)::
(nat_lit 90,⟨(.type "tuple"),none,(.seq #[] 0),#[]⟩)::
(nat_lit 92,⟨(.type "tuple"),none,(.seq #[(.str "one" 291),(.str "other" 292)] 0),#[]⟩)::
(nat_lit 93,⟨(.type "tuple"),none,(.seq #[] 0),#[]⟩)::
(nat_lit 95,⟨(.type "code"),none,(.fields #[(.str "need_tongue" 288),(.str "need_tongue" 289),(.str "/claim/cut.py" 290),(.int 22 0),(.int 2 0),(.int 0 0),(.int 0 0),(.int 3 0),(.ref 90),(.bool true),(.int 181 0),(.ref 91),.none,(.ref 92),(.ref 93),(.ref 94),(.int 293 0),(.int 22 0),(.str "/claim/cut.py" 294)]),#[]⟩)::
(nat_lit 96,⟨(.type "function"),none,(.func (Sb "need_tongue" "need_tongue" (aT (top 8)) (aO (top 8)) (ay (top 8)) .none .none .none (.str "pickalike.worlds" 273) none (.ref 95) .none)),#[]⟩)::
(nat_lit 97,⟨(.type "tuple"),none,(.seq #[] 0),#[]⟩)::
(nat_lit 99,⟨(.type "tuple"),none,(.seq #[(.str "worlds" 303),(.str "world" 304)] 0),#[]⟩)::
(nat_lit 100,⟨(.type "tuple"),none,(.seq #[] 0),#[]⟩)::
(nat_lit 102,⟨(.type "code"),none,(.fields #[(.str "need_few_points" 300),(.str "need_few_points" 301),(.str "/claim/cut.py" 302),(.int 27 0),(.int 1 0),(.int 0 0),(.int 0 0),(.int 3 0),(.ref 97),(.bool true),(.int 181 0),(.ref 98),.none,(.ref 99),(.ref 100),(.ref 101),(.int 305 0),(.int 27 0),(.str "/claim/cut.py" 306)]),#[]⟩)::
(nat_lit 103,⟨(.type "function"),none,(.func (Sb "need_few_points" "need_few_points" (aT (top 11)) (aO (top 11)) (ay (top 11)) .none .none .none (.str "pickalike.checks" 296) none (.ref 102) .none)),#[]⟩)::
(nat_lit 104,⟨(.type "tuple"),none,(.seq #[] 0),#[]⟩)::
(nat_lit 106,⟨(.type "tuple"),none,(.seq #[(.str "one" 311),(.str "other" 312)] 0),#[]⟩)::
(nat_lit 107,⟨(.type "tuple"),none,(.seq #[] 0),#[]⟩)::
(nat_lit 109,⟨(.type "code"),none,(.fields #[(.str "need_small" 308),(.str "need_small" 309),(.str "/claim/cut.py" 310),(.int 31 0),(.int 2 0),(.int 0 0),(.int 0 0),(.int 3 0),(.ref 104),(.bool true),(.int 181 0),(.ref 105),.none,(.ref 106),(.ref 107),(.ref 108),(.int 313 0),(.int 31 0),(.str "/claim/cut.py" 314)]),#[]⟩)::
(nat_lit 110,⟨(.type "function"),none,(.func (Sb "need_small" "need_small" (aT (top 12)) (aO (top 12)) (ay (top 12)) .none .none .none (.str "pickalike.checks" 296) none (.ref 109) .none)),#[]⟩)::
(nat_lit 111,⟨(.type "tuple"),none,(.seq #[] 0),#[]⟩)::
(nat_lit 113,⟨(.type "tuple"),none,(.seq #[(.str "told" 319),(.str "least" 320),(.str "most" 321)] 0),#[]⟩)::
(nat_lit 114,⟨(.type "tuple"),none,(.seq #[] 0),#[]⟩)::
(nat_lit 116,⟨(.type "code"),none,(.fields #[(.str "need_count" 316),(.str "need_count" 317),(.str "/claim/cut.py" 318),(.int 34 0),(.int 3 0),(.int 0 0),(.int 0 0),(.int 3 0),(.ref 111),(.bool true),(.int 181 0),(.ref 112),.none,(.ref 113),(.ref 114),(.ref 115),(.int 322 0),(.int 34 0),(.str "/claim/cut.py" 323)]),#[]⟩)::
(nat_lit 117,⟨(.type "function"),none,(.func (Sb "need_count" "need_count" (aT (top 13)) (aO (top 13)) (ay (top 13)) .none .none .none (.str "pickalike.checks" 296) none (.ref 116) .none)),#[]⟩)::
(nat_lit 118,⟨(.type "tuple"),none,(.seq #[] 0),#[]⟩)::
(nat_lit 120,⟨(.type "tuple"),none,(.seq #[(.str "pairs" 330)] 0),#[]⟩)::
(nat_lit 121,⟨(.type "tuple"),none,(.seq #[] 0),#[]⟩)::
(nat_lit 123,⟨(.type "code"),none,(.fields #[(.str "rising" 327),(.str "rising" 328),(.str "/claim/cut.py" 329),(.int 38 0),(.int 1 0),(.int 0 0),(.int 0 0),(.int 3 0),(.ref 118),(.bool true),(.int 181 0),(.ref 119),.none,(.ref 120),(.ref 121),(.ref 122),(.int 331 0),(.int 38 0),(.str "/claim/cut.py" 332)]),#[]⟩)::
(nat_lit 124,⟨(.type "function"),none,(.func (Sb "rising" "rising" (aT (top 15)) (aO (top 15)) (ay (top 15)) .none .none .none (.str "pickalike.pairings" 325) none (.ref 123) .none)),#[]⟩)::
(nat_lit 125,⟨(.type "tuple"),none,(.seq #[] 0),#[]⟩)::
(nat_lit 128,⟨(.type "code"),none,(.fields #[(.str "view" 334),(.str "view" 335),(.str "/claim/cut.py" 336),(.int 42 0),(.int 3 0),(.int 0 0),(.int 0 0),(.int 3 0),(.ref 125),(.bool true),(.int 181 0),(.ref 126),.none,.none,.none,(.ref 127),(.int 337 0),(.int 42 0),(.str "/claim/cut.py" 338)]),#[]⟩)::
(nat_lit 129,⟨(.type "function"),none,(.func (Sb "view" "view" (aT (top 16)) (aO (top 16)) (ay (top 16)) .none .none .none (.str "pickalike.pairings" 325) none (.ref 128) .none)),#[]⟩)::
(nat_lit 130,⟨(.type "tuple"),none,(.seq #[] 0),#[]⟩)::
(nat_lit 133,⟨(.type "code"),none,(.fields #[(.str "views" 340),(.str "views" 341),(.str "/claim/cut.py" 342),(.int 47 0),(.int 1 0),(.int 0 0),(.int 0 0),(.int 3 0),(.ref 130),(.bool true),(.int 181 0),(.ref 131),.none,.none,.none,(.ref 132),(.int 343 0),(.int 47 0),(.str "/claim/cut.py" 344)]),#[]⟩)::
(nat_lit 134,⟨(.type "function"),none,(.func (Sb "views" "views" (aT (top 17)) (aO (top 17)) (ay (top 17)) .none .none .none (.str "pickalike.pairings" 325) none (.ref 133) .none)),#[]⟩)::
(nat_lit 135,⟨(.type "tuple"),none,(.seq #[] 0),#[]⟩)::
(nat_lit 137,⟨(.type "tuple"),none,(.seq #[(.str "first" 349),(.str "second" 350),(.str "pair" 351),(.str "again" 352)] 0),#[]⟩)::
(nat_lit 138,⟨(.type "tuple"),none,(.seq #[] 0),#[]⟩)::
(nat_lit 140,⟨(.type "code"),none,(.fields #[(.str "agree" 346),(.str "agree" 347),(.str "/claim/cut.py" 348),(.int 49 0),(.int 4 0),(.int 0 0),(.int 0 0),(.int 3 0),(.ref 135),(.bool true),(.int 181 0),(.ref 136),.none,(.ref 137),(.ref 138),(.ref 139),(.int 353 0),(.int 49 0),(.str "/claim/cut.py" 354)]),#[]⟩)::
(nat_lit 141,⟨(.type "function"),none,(.func (Sb "agree" "agree" (aT (top 18)) (aO (top 18)) (ay (top 18)) .none .none .none (.str "pickalike.pairings" 325) none (.ref 140) .none)),#[]⟩)::
(nat_lit 142,⟨(.type "tuple"),none,(.seq #[] 0),#[]⟩)::
(nat_lit 144,⟨(.type "tuple"),none,(.seq #[(.str "first" 359),(.str "second" 360),(.str "pairing" 361),(.str "pair" 362),(.str "again" 363)] 0),#[]⟩)::
(nat_lit 145,⟨(.type "tuple"),none,(.seq #[] 0),#[]⟩)::
(nat_lit 147,⟨(.type "code"),none,(.fields #[(.str "goes_behind" 356),(.str "goes_behind" 357),(.str "/claim/cut.py" 358),(.int 51 0),(.int 4 0),(.int 0 0),(.int 0 0),(.int 3 0),(.ref 142),(.bool true),(.int 181 0),(.ref 143),.none,(.ref 144),(.ref 145),(.ref 146),(.int 364 0),(.int 51 0),(.str "/claim/cut.py" 365)]),#[]⟩)::
(nat_lit 148,⟨(.type "function"),none,(.func (Sb "goes_behind" "goes_behind" (aT (top 19)) (aO (top 19)) (ay (top 19)) .none .none .none (.str "pickalike.pairings" 325) none (.ref 147) .none)),#[]⟩)::
(nat_lit 149,⟨(.type "tuple"),none,(.seq #[] 0),#[]⟩)::
(nat_lit 152,⟨(.type "code"),none,(.fields #[(.str "pairings" 367),(.str "pairings" 368),(.str "/claim/cut.py" 369),(.int 58 0),(.int 3 0),(.int 0 0),(.int 0 0),(.int 3 0),(.ref 149),(.bool true),(.int 181 0),(.ref 150),.none,.none,.none,(.ref 151),(.int 370 0),(.int 58 0),(.str "/claim/cut.py" 371)]),#[]⟩)::
(nat_lit 153,⟨(.type "function"),none,(.func (Sb "pairings" "pairings" (aT (top 20)) (aO (top 20)) (ay (top 20)) .none .none .none (.str "pickalike.pairings" 325) none (.ref 152) .none)),#[]⟩)::
(nat_lit 154,⟨(.type "tuple"),none,(.seq #[] 0),#[]⟩)::
(nat_lit 156,⟨(.type "tuple"),none,(.seq #[(.str "pairing" 380),(.str "pair" 381)] 0),#[]⟩)::
(nat_lit 157,⟨(.type "tuple"),none,(.seq #[] 0),#[]⟩)::
(nat_lit 159,⟨(.type "code"),none,(.fields #[(.str "added" 377),(.str "added" 378),(.str "/claim/cut.py" 379),(.int 72 0),(.int 2 0),(.int 0 0),(.int 0 0),(.int 3 0),(.ref 154),(.bool true),(.int 181 0),(.ref 155),.none,(.ref 156),(.ref 157),(.ref 158),(.int 382 0),(.int 72 0),(.str "/claim/cut.py" 383)]),#[]⟩)::
(nat_lit 160,⟨(.type "function"),none,(.func (Sb "added" "added" (aT (top 23)) (aO (top 23)) (ay (top 23)) .none .none .none (.str "pickalike.layers" 373) none (.ref 159) .none)),#[]⟩)::
(nat_lit 161,⟨(.type "tuple"),none,(.seq #[] 0),#[]⟩)::
(nat_lit 164,⟨(.type "code"),none,(.fields #[(.str "pairs_with" 385),(.str "pairs_with" 386),(.str "/claim/cut.py" 387),(.int 74 0),(.int 4 0),(.int 0 0),(.int 0 0),(.int 3 0),(.ref 161),(.bool true),(.int 181 0),(.ref 162),.none,.none,.none,(.ref 163),(.int 388 0),(.int 74 0),(.str "/claim/cut.py" 389)]),#[]⟩)::
(nat_lit 165,⟨(.type "function"),none,(.func (Sb "pairs_with" "pairs_with" (aT (top 24)) (aO (top 24)) (ay (top 24)) .none .none .none (.str "pickalike.layers" 373) none (.ref 164) .none)),#[]⟩)::
(nat_lit 166,⟨(.type "tuple"),none,(.seq #[] 0),#[]⟩)::
(nat_lit 169,⟨(.type "code"),none,(.fields #[(.str "picks_of" 391),(.str "picks_of" 392),(.str "/claim/cut.py" 393),(.int 78 0),(.int 2 0),(.int 0 0),(.int 0 0),(.int 3 0),(.ref 166),(.bool true),(.int 181 0),(.ref 167),.none,.none,.none,(.ref 168),(.int 394 0),(.int 78 0),(.str "/claim/cut.py" 395)]),#[]⟩)::
(nat_lit 170,⟨(.type "function"),none,(.func (Sb "picks_of" "picks_of" (aT (top 25)) (aO (top 25)) (ay (top 25)) .none .none .none (.str "pickalike.layers" 373) none (.ref 169) .none)),#[]⟩)::
(nat_lit 171,⟨(.type "tuple"),none,(.seq #[] 0),#[]⟩)::
(nat_lit 174,⟨(.type "code"),none,(.fields #[(.str "outcomes" 397),(.str "outcomes" 398),(.str "/claim/cut.py" 399),(.int 80 0),(.int 4 0),(.int 0 0),(.int 0 0),(.int 3 0),(.ref 171),(.bool true),(.int 181 0),(.ref 172),.none,.none,.none,(.ref 173),(.int 400 0),(.int 80 0),(.str "/claim/cut.py" 401)]),#[]⟩)::
(nat_lit 175,⟨(.type "function"),none,(.func (Sb "outcomes" "outcomes" (aT (top 26)) (aO (top 26)) (ay (top 26)) .none .none .none (.str "pickalike.layers" 373) none (.ref 174) .none)),#[]⟩)::
(nat_lit 176,⟨(.type "tuple"),none,(.seq #[] 0),#[]⟩)::
(nat_lit 179,⟨(.type "code"),none,(.fields #[(.str "answered_still" 403),(.str "answered_still" 404),(.str "/claim/cut.py" 405),(.int 83 0),(.int 2 0),(.int 0 0),(.int 0 0),(.int 3 0),(.ref 176),(.bool true),(.int 181 0),(.ref 177),.none,.none,.none,(.ref 178),(.int 406 0),(.int 83 0),(.str "/claim/cut.py" 407)]),#[]⟩)::
(nat_lit 180,⟨(.type "function"),none,(.func (Sb "answered_still" "answered_still" (aT (top 27)) (aO (top 27)) (ay (top 27)) .none .none .none (.str "pickalike.layers" 373) none (.ref 179) .none)),#[]⟩)::
(nat_lit 181,⟨(.type "tuple"),none,(.seq #[] 0),#[]⟩)::
(nat_lit 184,⟨(.type "code"),none,(.fields #[(.str "peeled" 409),(.str "peeled" 410),(.str "/claim/cut.py" 411),(.int 85 0),(.int 2 0),(.int 0 0),(.int 0 0),(.int 3 0),(.ref 181),(.bool true),(.int 181 0),(.ref 182),.none,.none,.none,(.ref 183),(.int 412 0),(.int 85 0),(.str "/claim/cut.py" 413)]),#[]⟩)::
(nat_lit 185,⟨(.type "function"),none,(.func (Sb "peeled" "peeled" (aT (top 28)) (aO (top 28)) (ay (top 28)) .none .none .none (.str "pickalike.layers" 373) none (.ref 184) .none)),#[]⟩)::
(nat_lit 186,⟨(.type "tuple"),none,(.seq #[] 0),#[]⟩)::
(nat_lit 189,⟨(.type "code"),none,(.fields #[(.str "pairings_with" 415),(.str "pairings_with" 416),(.str "/claim/cut.py" 417),(.int 95 0),(.int 3 0),(.int 0 0),(.int 0 0),(.int 3 0),(.ref 186),(.bool true),(.int 181 0),(.ref 187),.none,.none,.none,(.ref 188),(.int 418 0),(.int 95 0),(.str "/claim/cut.py" 419)]),#[]⟩)::
(nat_lit 190,⟨(.type "function"),none,(.func (Sb "pairings_with" "pairings_with" (aT (top 29)) (aO (top 29)) (ay (top 29)) .none .none .none (.str "pickalike.layers" 373) none (.ref 189) .none)),#[]⟩)::
(nat_lit 191,⟨(.type "tuple"),none,(.seq #[] 0),#[]⟩)::
(nat_lit 194,⟨(.type "code"),none,(.fields #[(.str "parting_depths" 421),(.str "parting_depths" 422),(.str "/claim/cut.py" 423),(.int 97 0),(.int 3 0),(.int 0 0),(.int 0 0),(.int 3 0),(.ref 191),(.bool true),(.int 181 0),(.ref 192),.none,.none,.none,(.ref 193),(.int 424 0),(.int 97 0),(.str "/claim/cut.py" 425)]),#[]⟩)::
(nat_lit 195,⟨(.type "function"),none,(.func (Sb "parting_depths" "parting_depths" (aT (top 30)) (aO (top 30)) (ay (top 30)) .none .none .none (.str "pickalike.layers" 373) none (.ref 194) .none)),#[]⟩)::
(nat_lit 196,⟨(.type "tuple"),none,(.seq #[] 0),#[]⟩)::
(nat_lit 198,⟨(.type "tuple"),none,(.seq #[(.str "depths" 430),(.str "pairing" 431),(.str "depth" 432)] 0),#[]⟩)::
(nat_lit 199,⟨(.type "tuple"),none,(.seq #[] 0),#[]⟩)::
(nat_lit 201,⟨(.type "code"),none,(.fields #[(.str "in_layer" 427),(.str "in_layer" 428),(.str "/claim/cut.py" 429),(.int 101 0),(.int 3 0),(.int 0 0),(.int 0 0),(.int 3 0),(.ref 196),(.bool true),(.int 181 0),(.ref 197),.none,(.ref 198),(.ref 199),(.ref 200),(.int 433 0),(.int 101 0),(.str "/claim/cut.py" 434)]),#[]⟩)::
(nat_lit 202,⟨(.type "function"),none,(.func (Sb "in_layer" "in_layer" (aT (top 31)) (aO (top 31)) (ay (top 31)) .none .none .none (.str "pickalike.layers" 373) none (.ref 201) .none)),#[]⟩)::
(nat_lit 203,⟨(.type "tuple"),none,(.seq #[] 0),#[]⟩)::
(nat_lit 206,⟨(.type "code"),none,(.fields #[(.str "layers_of" 436),(.str "layers_of" 437),(.str "/claim/cut.py" 438),(.int 103 0),(.int 2 0),(.int 0 0),(.int 0 0),(.int 3 0),(.ref 203),(.bool true),(.int 181 0),(.ref 204),.none,.none,.none,(.ref 205),(.int 439 0),(.int 103 0),(.str "/claim/cut.py" 440)]),#[]⟩)::
(nat_lit 207,⟨(.type "function"),none,(.func (Sb "layers_of" "layers_of" (aT (top 32)) (aO (top 32)) (ay (top 32)) .none .none .none (.str "pickalike.layers" 373) none (.ref 206) .none)),#[]⟩)::
(nat_lit 208,⟨(.type "tuple"),none,(.seq #[] 0),#[]⟩)::
(nat_lit 210,⟨(.type "tuple"),none,(.seq #[(.str "one" 445),(.str "other" 446),(.str "depth" 447)] 0),#[]⟩)::
(nat_lit 211,⟨(.type "tuple"),none,(.seq #[] 0),#[]⟩)::
(nat_lit 213,⟨(.type "code"),none,(.fields #[(.str "layers" 442),(.str "layers" 443),(.str "/claim/cut.py" 444),(.int 105 0),(.int 3 0),(.int 0 0),(.int 0 0),(.int 3 0),(.ref 208),(.bool true),(.int 181 0),(.ref 209),.none,(.ref 210),(.ref 211),(.ref 212),(.int 448 0),(.int 105 0),(.str "/claim/cut.py" 449)]),#[]⟩)::
(nat_lit 214,⟨(.type "function"),none,(.func (Sb "layers" "layers" (aT (top 33)) (aO (top 33)) (ay (top 33)) .none .none .none (.str "pickalike.layers" 373) none (.ref 213) .none)),#[]⟩)::
(nat_lit 215,⟨(.type "tuple"),none,(.seq #[] 0),#[]⟩)::
(nat_lit 217,⟨(.type "tuple"),none,(.seq #[(.str "many" 458),(.str "depth" 459),(.str "told" 460),(.str "step" 461)] 0),#[]⟩)::
(nat_lit 218,⟨(.type "tuple"),none,(.seq #[] 0),#[]⟩)::
(nat_lit 220,⟨(.type "code"),none,(.fields #[(.str "power" 455),(.str "power" 456),(.str "/claim/cut.py" 457),(.int 111 0),(.int 2 0),(.int 0 0),(.int 0 0),(.int 3 0),(.ref 215),(.bool true),(.int 181 0),(.ref 216),.none,(.ref 217),(.ref 218),(.ref 219),(.int 462 0),(.int 111 0),(.str "/claim/cut.py" 463)]),#[]⟩)::
(nat_lit 221,⟨(.type "function"),none,(.func (Sb "power" "power" (aT (top 36)) (aO (top 36)) (ay (top 36)) .none .none .none (.str "pickalike.kinds" 451) none (.ref 220) .none)),#[]⟩)::
(nat_lit 222,⟨(.type "tuple"),none,(.seq #[] 0),#[]⟩)::
(nat_lit 224,⟨(.type "tuple"),none,(.seq #[(.str "told" 468),(.str "kept" 469),(.str "one" 470)] 0),#[]⟩)::
(nat_lit 225,⟨(.type "tuple"),none,(.seq #[] 0),#[]⟩)::
(nat_lit 227,⟨(.type "code"),none,(.fields #[(.str "sorted_once" 465),(.str "sorted_once" 466),(.str "/claim/cut.py" 467),(.int 116 0),(.int 1 0),(.int 0 0),(.int 0 0),(.int 3 0),(.ref 222),(.bool true),(.int 181 0),(.ref 223),.none,(.ref 224),(.ref 225),(.ref 226),(.int 471 0),(.int 116 0),(.str "/claim/cut.py" 472)]),#[]⟩)::
(nat_lit 228,⟨(.type "function"),none,(.func (Sb "sorted_once" "sorted_once" (aT (top 37)) (aO (top 37)) (ay (top 37)) .none .none .none (.str "pickalike.kinds" 451) none (.ref 227) .none)),#[]⟩)::
(nat_lit 229,⟨(.type "tuple"),none,(.seq #[] 0),#[]⟩)::
(nat_lit 232,⟨(.type "code"),none,(.fields #[(.str "face_of" 474),(.str "face_of" 475),(.str "/claim/cut.py" 476),(.int 122 0),(.int 2 0),(.int 0 0),(.int 0 0),(.int 3 0),(.ref 229),(.bool true),(.int 181 0),(.ref 230),.none,.none,.none,(.ref 231),(.int 477 0),(.int 122 0),(.str "/claim/cut.py" 478)]),#[]⟩)::
(nat_lit 233,⟨(.type "function"),none,(.func (Sb "face_of" "face_of" (aT (top 38)) (aO (top 38)) (ay (top 38)) .none .none .none (.str "pickalike.kinds" 451) none (.ref 232) .none)),#[]⟩)::
(nat_lit 234,⟨(.type "tuple"),none,(.seq #[] 0),#[]⟩)::
(nat_lit 237,⟨(.type "code"),none,(.fields #[(.str "kind_of" 480),(.str "kind_of" 481),(.str "/claim/cut.py" 482),(.int 133 0),(.int 3 0),(.int 0 0),(.int 0 0),(.int 3 0),(.ref 234),(.bool true),(.int 181 0),(.ref 235),.none,.none,.none,(.ref 236),(.int 483 0),(.int 133 0),(.str "/claim/cut.py" 484)]),#[]⟩)::
(nat_lit 238,⟨(.type "function"),none,(.func (Sb "kind_of" "kind_of" (aT (top 39)) (aO (top 39)) (ay (top 39)) .none .none .none (.str "pickalike.kinds" 451) none (.ref 237) .none)),#[]⟩)::
(nat_lit 239,⟨(.type "tuple"),none,(.seq #[.none] 0),#[]⟩)::
(nat_lit 240,⟨(.type "tuple"),none,(.seq #[] 0),#[]⟩)::
(nat_lit 242,⟨(.type "tuple"),none,(.seq #[(.str "world" 489),(.str "depth" 490),(.str "row" 491),(.str "many" 492)] 0),#[]⟩)::
(nat_lit 243,⟨(.type "tuple"),none,(.seq #[] 0),#[]⟩)::
(nat_lit 245,⟨(.type "code"),none,(.fields #[(.str "kind" 486),(.str "kind" 487),(.str "/claim/cut.py" 488),(.int 138 0),(.int 3 0),(.int 0 0),(.int 0 0),(.int 3 0),(.ref 240),(.bool true),(.int 181 0),(.ref 241),.none,(.ref 242),(.ref 243),(.ref 244),(.int 493 0),(.int 138 0),(.str "/claim/cut.py" 494)]),#[]⟩)::
(nat_lit 246,⟨(.type "function"),none,(.func (Sb "kind" "kind" (aT (top 40)) (aO (top 40)) (ay (top 40)) (.ref 239) .none .none (.str "pickalike.kinds" 451) none (.ref 245) .none)),#[]⟩)::
(nat_lit 247,⟨(.type "tuple"),none,(.seq #[] 0),#[]⟩)::
(nat_lit 249,⟨(.type "tuple"),none,(.seq #[(.str "_law_script" 501),(.str "_law_k" 502)] 0),#[]⟩)::
(nat_lit 250,⟨(.type "tuple"),none,(.seq #[] 0),#[]⟩)::
(nat_lit 252,⟨(.type "code"),none,(.fields #[(.str "_law_cell" 498),(.str "_law_cell" 499),(.str "/claim/cut.py" 500),(.int 145 0),(.int 2 0),(.int 0 0),(.int 0 0),(.int 3 0),(.ref 247),(.bool true),(.int 181 0),(.ref 248),.none,(.ref 249),(.ref 250),(.ref 251),(.int 503 0),(.int 145 0),(.str "/claim/cut.py" 504)]),#[]⟩)::
(nat_lit 253,⟨(.type "function"),none,(.func (Sb "_law_cell" "_law_cell" (aT (top 42)) (aO (top 42)) (ay (top 42)) .none .none .none (.str "law_pickalike_k54_whole_kinds_and_layers" 496) none (.ref 252) .none)),#[]⟩)::
(nat_lit 254,⟨(.type "tuple"),none,(.seq #[] 0),#[]⟩)::
(nat_lit 256,⟨(.type "tuple"),none,(.seq #[(.str "_law_cell_here" 509),(.str "_law_many" 510),(.str "_law_letters" 511),(.str "_law_sign" 512),(.str "_law_stem" 513),(.str "_law_found" 514),(.str "_law_k" 515),(.str "_law_other" 516),(.str "_law_name" 517)] 0),#[]⟩)::
(nat_lit 257,⟨(.type "tuple"),none,(.seq #[] 0),#[]⟩)::
(nat_lit 259,⟨(.type "code"),none,(.fields #[(.str "_law_names" 506),(.str "_law_names" 507),(.str "/claim/cut.py" 508),(.int 149 0),(.int 2 0),(.int 0 0),(.int 0 0),(.int 3 0),(.ref 254),(.bool true),(.int 181 0),(.ref 255),.none,(.ref 256),(.ref 257),(.ref 258),(.int 518 0),(.int 149 0),(.str "/claim/cut.py" 519)]),#[]⟩)::
(nat_lit 260,⟨(.type "function"),none,(.func (Sb "_law_names" "_law_names" (aT (top 43)) (aO (top 43)) (ay (top 43)) .none .none .none (.str "law_pickalike_k54_whole_kinds_and_layers" 496) none (.ref 259) .none)),#[]⟩)::
(nat_lit 261,⟨(.type "tuple"),none,(.seq #[] 0),#[]⟩)::
(nat_lit 263,⟨(.type "tuple"),none,(.seq #[(.str "_law_cell_here" 524),(.str "_law_size" 525),(.str "_law_found" 526),(.str "_law_k" 527)] 0),#[]⟩)::
(nat_lit 264,⟨(.type "tuple"),none,(.seq #[] 0),#[]⟩)::
(nat_lit 266,⟨(.type "code"),none,(.fields #[(.str "_law_bits" 521),(.str "_law_bits" 522),(.str "/claim/cut.py" 523),(.int 161 0),(.int 2 0),(.int 0 0),(.int 0 0),(.int 3 0),(.ref 261),(.bool true),(.int 181 0),(.ref 262),.none,(.ref 263),(.ref 264),(.ref 265),(.int 528 0),(.int 161 0),(.str "/claim/cut.py" 529)]),#[]⟩)::
(nat_lit 267,⟨(.type "function"),none,(.func (Sb "_law_bits" "_law_bits" (aT (top 44)) (aO (top 44)) (ay (top 44)) .none .none .none (.str "law_pickalike_k54_whole_kinds_and_layers" 496) none (.ref 266) .none)),#[]⟩)::
(nat_lit 268,⟨(.type "tuple"),none,(.seq #[] 0),#[]⟩)::
(nat_lit 271,⟨(.type "code"),none,(.fields #[(.str "_law_world" 531),(.str "_law_world" 532),(.str "/claim/cut.py" 533),(.int 167 0),(.int 3 0),(.int 0 0),(.int 0 0),(.int 3 0),(.ref 268),(.bool true),(.int 181 0),(.ref 269),.none,.none,.none,(.ref 270),(.int 534 0),(.int 167 0),(.str "/claim/cut.py" 535)]),#[]⟩)::
(nat_lit 272,⟨(.type "function"),none,(.func (Sb "_law_world" "_law_world" (aT (top 45)) (aO (top 45)) (ay (top 45)) .none .none .none (.str "law_pickalike_k54_whole_kinds_and_layers" 496) none (.ref 271) .none)),#[]⟩)::
(nat_lit 273,⟨(.type "tuple"),none,(.seq #[] 0),#[]⟩)::
(nat_lit 275,⟨(.type "tuple"),none,(.seq #[(.str "_law_cell_here" 540),(.str "_law_many" 541),(.str "_law_left" 542),(.str "_law_found" 543),(.str "_law_k" 544)] 0),#[]⟩)::
(nat_lit 276,⟨(.type "tuple"),none,(.seq #[] 0),#[]⟩)::
(nat_lit 278,⟨(.type "code"),none,(.fields #[(.str "_law_order" 537),(.str "_law_order" 538),(.str "/claim/cut.py" 539),(.int 177 0),(.int 2 0),(.int 0 0),(.int 0 0),(.int 3 0),(.ref 273),(.bool true),(.int 181 0),(.ref 274),.none,(.ref 275),(.ref 276),(.ref 277),(.int 545 0),(.int 177 0),(.str "/claim/cut.py" 546)]),#[]⟩)::
(nat_lit 279,⟨(.type "function"),none,(.func (Sb "_law_order" "_law_order" (aT (top 46)) (aO (top 46)) (ay (top 46)) .none .none .none (.str "law_pickalike_k54_whole_kinds_and_layers" 496) none (.ref 278) .none)),#[]⟩)::
(nat_lit 280,⟨(.type "tuple"),none,(.seq #[] 0),#[]⟩)::
(nat_lit 283,⟨(.type "code"),none,(.fields #[(.str "_law_turned" 548),(.str "_law_turned" 549),(.str "/claim/cut.py" 550),(.int 184 0),(.int 2 0),(.int 0 0),(.int 0 0),(.int 3 0),(.ref 280),(.bool true),(.int 181 0),(.ref 281),.none,.none,.none,(.ref 282),(.int 551 0),(.int 184 0),(.str "/claim/cut.py" 552)]),#[]⟩)::
(nat_lit 284,⟨(.type "function"),none,(.func (Sb "_law_turned" "_law_turned" (aT (top 47)) (aO (top 47)) (ay (top 47)) .none .none .none (.str "law_pickalike_k54_whole_kinds_and_layers" 496) none (.ref 283) .none)),#[]⟩)::
(nat_lit 285,⟨(.type "tuple"),none,(.seq #[] 0),#[]⟩)::
(nat_lit 288,⟨(.type "code"),none,(.fields #[(.str "_law_flipped" 554),(.str "_law_flipped" 555),(.str "/claim/cut.py" 556),(.int 188 0),(.int 2 0),(.int 0 0),(.int 0 0),(.int 3 0),(.ref 285),(.bool true),(.int 181 0),(.ref 286),.none,.none,.none,(.ref 287),(.int 557 0),(.int 188 0),(.str "/claim/cut.py" 558)]),#[]⟩)::
(nat_lit 289,⟨(.type "function"),none,(.func (Sb "_law_flipped" "_law_flipped" (aT (top 48)) (aO (top 48)) (ay (top 48)) .none .none .none (.str "law_pickalike_k54_whole_kinds_and_layers" 496) none (.ref 288) .none)),#[]⟩)::
(nat_lit 290,⟨(.type "tuple"),none,(.seq #[] 0),#[]⟩)::
(nat_lit 293,⟨(.type "code"),none,(.fields #[(.str "_law_two" 560),(.str "_law_two" 561),(.str "/claim/cut.py" 562),(.int 207 0),(.int 2 0),(.int 0 0),(.int 0 0),(.int 3 0),(.ref 290),(.bool true),(.int 181 0),(.ref 291),.none,.none,.none,(.ref 292),(.int 563 0),(.int 207 0),(.str "/claim/cut.py" 564)]),#[]⟩)::
(nat_lit 294,⟨(.type "function"),none,(.func (Sb "_law_two" "_law_two" (aT (top 49)) (aO (top 49)) (ay (top 49)) .none .none .none (.str "law_pickalike_k54_whole_kinds_and_layers" 496) none (.ref 293) .none)),#[]⟩)::
(nat_lit 295,⟨(.type "tuple"),none,(.seq #[] 0),#[]⟩)::
(nat_lit 297,⟨(.type "tuple"),none,(.seq #[(.str "_law_script" 569),(.str "_law_one" 570),(.str "_law_other" 571),(.str "_law_most" 572),(.str "_law_told" 573),(.str "_law_depth" 574)] 0),#[]⟩)::
(nat_lit 298,⟨(.type "tuple"),none,(.seq #[] 0),#[]⟩)::
(nat_lit 300,⟨(.type "code"),none,(.fields #[(.str "law" 566),(.str "law" 567),(.str "/claim/cut.py" 568),(.int 222 0),(.int 1 0),(.int 0 0),(.int 0 0),(.int 3 0),(.ref 295),(.bool true),(.int 181 0),(.ref 296),.none,(.ref 297),(.ref 298),(.ref 299),(.int 575 0),(.int 222 0),(.str "/claim/cut.py" 576)]),#[]⟩)::
(nat_lit 301,⟨(.type "function"),none,(.func (Sb "law" "law" (aT (top 50)) (aO (top 50)) (ay (top 50)) .none .none .none (.str "law_pickalike_k54_whole_kinds_and_layers" 496) none (.ref 300) .none)),#[]⟩)::[]
noncomputable def VW:Sm:={PySem.Challenge.pw_pickalike_k54_whole_kinds_and_layers with main:={PySem.Challenge.pw_pickalike_k54_whole_kinds_and_layers.main with body:=[top 1,top 2,top 3,top 4,top 6,top 7,top 8,top 10,top 11,top 12,top 13,top 15,top 16,top 17,top 18,top 19,top 20,top 22,top 23,top 24,top 25,top 26,top 27,top 28,top 29,top 30,top 31,top 32,top 33,top 35,top 36,top 37,top 38,top 39,top 42,top 43,top 44,top 45,top 46,top 47,top 48,top 49,top 50]}}
noncomputable def HK:W.Hook:=W.kHook KF [2,3,15,22,23,24,25,28,35,36,37,40,47,49,50,52,53,54,55,56,59,66,68,69,71,72,73,74,75,78,80,81,83,84,85,88,89,90,92,93,95,96,97,99,100,102,103,104,106,107,109,110,111,113,114,116,117,118,120,121,123,124,125,128,129,130,133,134,135,137,138,140,141,142,144,145,147,148,149,152,153,154,156,157,159,160,161,164,165,166,169,170,171,174,175,176,179,180,181,184,185,186,189,190,191,194,195,196,198,199,201,202,203,206,207,208,210,211,213,214,215,217,218,220,221,222,224,225,227,228,229,232,233,234,237,238,239,240,242,243,245,246,247,249,250,252,253,254,256,257,259,260,261,263,264,266,267,268,271,272,273,275,276,278,279,280,283,284,285,288,289,290,293,294,295,297,298,300,301] (λ_=>by kernel_rfl)
def XT:RZ->Bool:=λs=>W.xlAt VW [] s && W.recOk (ace PySem.Challenge.rw_pickalike_k54_whole_kinds_and_layers.row.toRowW) s
theorem look:abp PySem.Challenge.rw_pickalike_k54_whole_kinds_and_layers=true:=by decide +kernel
theorem left:W.LeftO PySem.Challenge.rw_pickalike_k54_whole_kinds_and_layers.row.prog VW ["kind"] XT (acS HK) (acT HK) 4216:=λw=>by kernel_rfl
end K54
namespace DX
open PySem PySem.Spec
open Sem (wp)
abbrev Pn (C t:Se) (dx:Option Se):Obj:={cls:=.ref C,dict:=dx,data:=.fields #[.ref t,.none,.none,.none,.bool false,.none]}
end DX
namespace DX
open PySem PySem.Spec
section
variable {M:acg}{A:SW}{E:RX->RZ->Prop}{s:RZ}
noncomputable def Pb (e C:Se) (dx:Option Se) (T:Se) (h:TU):Prop:=
 ∃oe vs oT ts,h.get? e=some oe/\oe.cls=.ref C/\oe.dict=dx/\oe.data=.fields vs/\vs[1]?=some (.ref T)/\T≠e/\h.get? T=some oT/\oT.data=.fields ts/\ts[3]?=some .none
end
end DX
namespace DX
open PySem PySem.Spec PyProof.Rows L2
def Nk (a C:Se) (dx:Option Se):TU->Prop:=λh=>∃oe vs,h.get? a=some oe/\oe.cls=.ref C/\oe.dict=dx/\oe.data=.fields vs
abbrev XO (a C:Se) (dx:Option Se):HO:=.ext (Nk a C dx)
noncomputable def Fl (e C:Se) (dx:Option Se):Option Se->TU->Prop
 | none,h=>∃t,h.get? e=some (Pn C t dx)
 | some T,h=>Pb e C dx T h
structure Ou (P:Sm) (w:SO) (fs ex:List Se) (H:Hp) (s:RZ) (E:XK) (e C:Se) (dx To:Option Se) (H':Hp) (s':RZ):Prop where
 os:s'.os=s.os
 bare:Yb s'.gens
 un:Un fs ex H H' s.heap s'.heap
 hok:fO P w H' s'.heap
 fl:Fl e C dx To s'.heap
 newE:s.heap.objs.size<=e
 newT:∀T∈To.toList,s.heap.objs.size<=T
 E8:H' e=some (XO e C dx)
 free:∀T∈To.toList,H' T=none
 wish:E (.ref e) dx H'
def u_ (P:Sm) (w:SO):oU:=λouter H s E v s'=>∃e C dx T H',v=.ref e/\Ou P w (frs outer) [] H s E e C dx (some T) H' s'
end DX
namespace DX
open PySem PySem.Spec PyProof.Rows
open Sem (wp)
section
variable {prog:Sm}{w:SO}{A:SW}{E:RX->RZ->Prop}{s:RZ}{K:RV}{x C:Se}{ox:Obj}{od:Option Obj}{name:Str}
theorem FH {M:acg}{nameV:RX}{Q:Unit->RZ->Prop}(X:K.In s.heap) (I:V4 s.heap x ox C od) (hm:VT K C (.type "BaseException")=some true) (hq:Q () s):So M A (Yr "BaseException.__getattribute__" ⟨[.ref x,nameV],[]⟩) Q E s:=by
 have hk:builtinKind "BaseException.__getattribute__"=some .slot:=by decide +kernel
 have Qi:splitId "BaseException.__getattribute__"=some ("BaseException","__getattribute__"):=by decide +kernel
 have ha:=F.args_bexc_ga (.ref x) nameV
 have L1:=I.type (M:=M)
 have L2:=W.looks_mroIn (M:=M) X hm
 simp only [Yr,hk,Qi]
 have L:W.Looks M s.heap (abq (.ref x) (.type "BaseException")) true:=L1.andThen L2
 refine RU (L.here ?_)
 obtain ⟨h,g,d,t,os⟩:=s
 repeat (any_goals (first | assumption | wp_step))
theorem entry_class {tk:Tok}{Q:Fin->RZ->Prop}(X:K.In s.heap) (I:V4 s.heap x ox C od) (hf:Xf K C od "__class__"=some (.bind (.builtin "getset_descriptor.__get__") (.builtin "object.__class__"))) (hm:VT K C (.type "object")=some true) (h:Q (.done (.ret (.ref C))) s):
  So (Su prog w) A (Wb.«object.__getattribute__» ⟨[.ref x,.str "__class__" tk],[]⟩) Q E s:=by
 obtain ⟨hh,g,d,t,os⟩:=s
 have L0:=I.type (M:=Su prog w)
 have L1:=W.looks_find (M:=Su prog w) X I hf
 refine RU (RY (RU (RY (RU (L0.at (RU (L1.at ?_)))))))
 show So _ _ (holding [_] (call _ [_,.ref x,.ref C]) >>= ret) _ _ _
 exact RU (SD (Y4 (W.class_get (ox:=ox) (od:=od) X I hm (RY h))))
theorem Lo {tk:Tok}{fill expr:Bool}{Q:RX->RZ->Prop}(X:K.In s.heap) (I:V4 s.heap x ox C od) (hga:Vf K (.ref C) "__getattribute__"=some (some (.builtin "BaseException.__getattribute__"))) (hgt:Vf K (.ref C) "__getattr__"=some none)
  (h:U4 (Su prog w) A (.call (.builtin "BaseException.__getattribute__") ⟨[.ref x,.str name tk],[]⟩) (λr s'=>match r with | .ok (.ret v)=>So (Su prog w) A (handedOut v) Q E s' | _=>False) s):So (Su prog w) A (getAttrBy (.ref x) (.str name tk) fill expr) Q E s:=by
 obtain ⟨hh,g,d,t,os⟩:=s
 have L0:=I.type (M:=Su prog w)
 have L1:=Y8 (M:=Su prog w) X hga
 have L2:=Y8 (M:=Su prog w) X hgt
 have RI:(Yg "BaseException.__getattribute__" == Yg "object.__getattribute__")=false:=by decide +kernel
 unfold getAttrBy
 refine SD (RU (L0.at (RU (L1.at ?_))))
 dsimp only
 rw [RI,VF,if_neg (by decide)]
 unfold getAttrByItsOwn
 refine RU (L2.at ?_)
 have h0:(expr && onTheHeap (Yg "BaseException.__getattribute__"))=false:=by cases expr <;> rfl
 refine RU (Wm (SD ?_))
 unfold callGetattribute
 rw [h0,if_neg (by decide)]
 unfold boundAndCalled
 rw [Xg.ga.bind (.ref x)]
 refine RU (RY (Y4 (U9 h λr s' q=>?_)))
 match r,q with
 | .ok (.ret v),q=>exact q
theorem get_class {Q:Option RX->RZ->Prop}(X:K.In s.heap) (I:V4 s.heap x ox C od) (hga:Vf K (.ref C) "__getattribute__"=some (some (.builtin "BaseException.__getattribute__"))) (hgt:Vf K (.ref C) "__getattr__"=some none)
  (hm:VT K C (.type "BaseException")=some true) (hf:Xf K C od "__class__"=some (.bind (.builtin "getset_descriptor.__get__") (.builtin "object.__class__"))) (ho:VT K C (.type "object")=some true) (h:Q (some (.ref C)) {s with toks:=s.toks + 1}):
  So (Su prog w) A (getAttr? (.ref x) "__class__") Q E s:=by
 obtain ⟨hp,g,d,t,os⟩:=s
 unfold getAttr? getAttrBy?
 refine RU (wpAny_mkText (RU (Wm (Lo (s:=⟨hp,g,d,t + 1,os⟩) X I hga hgt ?_))))
 refine W4 Xg.ga.plain F.entry_bexc_ga (FH (s:=⟨hp,g,d,t + 1,os⟩) X I hm (entry_class (s:=⟨hp,g,d,t + 1,os⟩) X I hf ho ?_))
 exact RY (RY h)
end
end DX
namespace DX
open PySem PySem.Spec PyProof.Rows L2
abbrev zS:List RX:=[.type "ValueError",.type "Exception",.type "BaseException",.type "object"]
def quiet:List Str:=["__init__","__setattr__","name","letter","many","told","point","row"]
structure GX (K:RV) (P:Se):Prop where
 gt:Z3 K (.builtin "object.__class__") "__get__"=some (some (.builtin "getset_descriptor.__get__"))
 tk:aaE K (.builtin "object.__class__")=some true
 lk:∃nm q N bs sn sub ab col dd k0 k1 k2 k3 k5,K.lookup P=some (excClassObj nm q P N bs zS true sn sub ab col dd k0 k1 k2 k3 k5 "ValueError.__new__")/\∀h,K.In h->∃m,h.Ns N m/\∀n∈quiet,m n=none
structure XE (K:RV) (P C:Se):Prop where
 lk:∃nm q N bs sn sub ab col dd k0 k1 k2 k3 k5,K.lookup C=some (excClassObj nm q C N bs (.ref P::zS) true sn sub ab col dd k0 k1 k2 k3 k5 "ValueError.__new__")
 ga:Vf K (.ref C) "__getattribute__"=some (some (.builtin "BaseException.__getattribute__"))
 gt:Vf K (.ref C) "__getattr__"=some none
 cl:Vf K (.ref C) "__class__"=some (some (.builtin "object.__class__"))
section
variable {K:RV}{P C:Se}
theorem DQ (X:XE K P C):∃cd,Wn K C=some cd/\cd.mro=.ref C::.ref P::zS/\cd.hasDict=true/\W.typeIn K (.ref C)=some (.type "type"):=by
 obtain ⟨nm,q,N,bs,sn,sub,ab,col,dd,k0,k1,k2,k3,k5,l⟩:=X.lk
 have h1:Wn K C=some {name:=nm,bases:=bs,mro:=.ref C::.ref P::zS,ns:=N,qualname:=q,hasDict:=true,slotNames:=sn,subclasses:=sub,abstract:=ab,collection:=col,hasDel:=false}:=by
  unfold Wn
  rw [l]
 refine ⟨_,h1,rfl,rfl,?_⟩
 show (K.lookup C).map (·.cls)=_
 rw [l]
 rfl
theorem yW (X:XE K P C) (b:RX):VT K C b=some ((Wh C::.ref P::zS).contains b):=by
 obtain ⟨cd,h1,h2,_⟩:=DQ X
 unfold VT
 rw [h1,Ys,h2]
 rfl
end
theorem LN {K:RV}{P C:Se}(X:XE K P C){T:String}(h1:aaF T=true) (h2:zS.contains (.type T)=false):Zf K (.ref C) (.type T)=some false:=by
 unfold Zf W.kitCls
 rw [if_neg (by simp)]
 simp only [h1,if_true]
 show VT K C _=_
 rw [yW X,ZG,ZG,h2]
 rfl
theorem Ja {K:RV}{C:Se}{od:Option Obj}{name:Str}{a g:RX}(hc:(Wn K C).isSome=true) (ha:Vf K (.ref C) name=some (some a)) (hg:Z3 K a "__get__"=some (some g)) (ht:aaE K a=some true):Xf K C od name=some (.bind g a):=by
 obtain ⟨cd,hc⟩:=TF.mp hc
 unfold Xf
 rw [hc,Ys,ha,Ys]
 simp [hg,ht]
theorem Gj {K:RV}{e P C:Se}(G:GX K P) (E:XE K P C):W.KitX K (.ref e) (.ref C) (λh=>∃ox od,V4 h e ox C od):=by
 obtain ⟨cd,hc,hm,hd,ht⟩:=DQ E
 refine ⟨λM h _ ⟨ox,od,I⟩=>I.type,λM h X _=>?_,λh tp dd RM n sl X htp=>?_,λX ⟨ox,od,I⟩ k=>?_⟩
 ·unfold Wn at hc
  split at hc
  ·rename_i ho
   intro A' Q' E' s' k q
   unfold isType loadHead
   exact RU (wpAny_loadPart (k _ _ (X _ _ ho)) (RY q))
  ·cases hc
 ·refine Bool.eq_false_iff.mpr λq=>?_
  obtain rfl:C=tp:=ac2 (beq_iff_eq.mp q)
  unfold Wn at hc
  split at hc
  ·rename_i ho
   have z:=(X _ _ ho).symm.trans htp
   cases z
  ·cases hc
 ·exact get_class X I E.ga E.gt (by rw [yW E];simp) (Ja (by rw [hc];rfl) E.cl G.gt G.tk) (by rw [yW E];simp) k
end DX
namespace DL
open PySem PySem.Spec PyProof.Rows L2
inductive D where
 | non | bl (b:Bool) | int (i:Int) | str (x:Str) | tup (xs:List D) | lst (xs:List D) | emp
 | exn (cls:Str) (ns:List Str) (ds:List D)
  | dct (ks vs:List D)
mutual
noncomputable def isKey:D->Bool
 | .int _=>true
 | .tup xs=>areKeys xs
 | _=>false
noncomputable def areKeys:List D->Bool
 | []=>true
 | x::xs=>isKey x && areKeys xs
end
mutual
noncomputable def bU:D->Int
 | .int i=>V0 i
 | .tup xs=>abr (Tv (cD xs))
 | _=>0
noncomputable def cD:List D->List Int
 | []=>[]
 | x::xs=>bU x::cD xs
end
mutual
noncomputable def dep:D->Nat
 | .tup xs=>deps xs + 1
 | .lst xs=>deps xs + 1
 | .emp=>5000
 | .exn _ _ _=>5000
 | .dct _ _=>5000
 | _=>0
noncomputable def deps:List D->Nat
 | []=>0
 | x::xs=>max (dep x) (deps xs)
end
structure KS (ks:List D):Prop where
 key:areKeys ks=true
 nd:ks.Nodup
 dp:deps ks<=8
 tp:∀k∈ks,∃xs,k=.tup xs
def xQ (p:Int×V×V) (e:ZF):Prop:=e.hash=p.1/\RelV p.2.1 e.key/\RelV p.2.2 e.val
abbrev kG (a:Se) (ep:Nat) (RS:List (Int×V×V)):HO:=.ext λh=>∃o es,h.get? a=some o/\o.ExactDict/\o.data=.dict es ep/\XI xQ RS es.toList
noncomputable def XF (J:Hp) (dx:Option Se) (ns:List Str) (vs:List V):Prop:=(dx=none/\ns=[]/\vs=[])\/∃d,dx=some d/\ns.length=vs.length/\J d=some (.xd (ns.zip vs))
theorem XF.mono {J J':Hp}(e:aU J J'){dx:Option Se}{ns:List Str}{vs:List V}(h:XF J dx ns vs):XF J' dx ns vs:=by
 rcases h with h | ⟨d,h1,h2,h3⟩
 ·exact .inl h
 ·exact .inr ⟨d,h1,h2,e _ _ h3⟩
mutual
inductive Rep (K:RV) (J:Hp):D->V->Prop
 | non:Rep K J .non .non
 | bl (b:Bool):Rep K J (.bl b) (.bl b)
 | int (i:Int):Rep K J (.int i) (.int i)
 | str (x:Str):Rep K J (.str x) (.str x)
 | emp {a:Se}:J a=some (.dK [])->Rep K J .emp (.ref a)
 | tup {a:Se}{vs:List V}{ds:List D}:cV K J a vs->aH K J ds vs->Rep K J (.tup ds) (.ref a)
 | lst {a:Se}{vs:List V}{ds:List D}:cH K J a vs->aH K J ds vs->Rep K J (.lst ds) (.ref a)
 | exn {a C:Se}{dx:Option Se}{cls:Str}{ns:List Str}{vs:List V}{ds:List D}:J a=some (DX.XO a C dx)->SV K SE cls=some (some (.ref C))->XF J dx ns vs->aH K J ds vs->(∃P,DX.GX K P/\DX.XE K P C)->Rep K J (.exn cls ns ds) (.ref a)
 | dct {a:Se}{ep:Nat}{ks vs:List D}{us ws:List V}:J a=some (kG a ep ((cD ks).zip (us.zip ws)))->aH K J ks us->aH K J vs ws->KS ks->(a == VE)=false/\ks.length=vs.length->Rep K J (.dct ks vs) (.ref a)
inductive aH (K:RV) (J:Hp):List D->List V->Prop
 | nil:aH K J [] []
 | cons {d:D}{v:V}{ds:List D}{vs:List V}:Rep K J d v->aH K J ds vs->aH K J (d::ds) (v::vs)
end
theorem fz {K:RV}{H H':Hp}{a:Se}{xs:List V}(e:aU H H') (h:cV K H a xs):cV K H' a xs:=by
 rcases h with (h | ⟨o,h⟩) | h
 ·exact .inl (.inl (e _ _ h))
 ·exact .inl (.inr ⟨o,e _ _ h⟩)
 ·exact .inr h
mutual
theorem Rep.mono {K:RV}{J J':Hp}(e:aU J J'):∀{d:D}{v:V},Rep K J d v->Rep K J' d v
 | _,_,.non=>.non
 | _,_,.bl b=>.bl b
 | _,_,.int i=>.int i
 | _,_,.str x=>.str x
 | _,_,.emp h=>.emp (e _ _ h)
 | _,_,.tup h hs=>.tup (fz e h) (aH.mono e hs)
 | _,_,.lst h hs=>.lst (e.seq h) (aH.mono e hs)
 | _,_,.exn h1 h2 h3 hs hx=>.exn (e _ _ h1) h2 (h3.mono e) (aH.mono e hs) hx
 | _,_,.dct h h1 h2 h3 h4=>.dct (e _ _ h) (aH.mono e h1) (aH.mono e h2) h3 h4
theorem aH.mono {K:RV}{J J':Hp}(e:aU J J'):∀{ds:List D}{vs:List V},aH K J ds vs->aH K J' ds vs
 | _,_,.nil=>.nil
 | _,_,.cons h hs=>.cons (Rep.mono e h) (aH.mono e hs)
end
section
variable {K:RV}{J:Hp}
theorem aH.length:∀{ds:List D}{vs:List V},aH K J ds vs->ds.length=vs.length
 | _,_,.nil=>rfl
 | _,_,.cons _ hs=>congrArg (· + 1) (aH.length hs)
theorem aH.get:∀{ds:List D}{vs:List V}{i:Nat}{d:D},aH K J ds vs->ds[i]?=some d->∃v,vs[i]?=some v/\Rep K J d v
 | _,_,_,_,.nil,e=>by simp at e
 | _,_,0,_,.cons r _,e=>by simp at e;subst e;exact ⟨_,rfl,r⟩
 | _,_,i + 1,d,.cons _ t,e=>by
  obtain ⟨v,h1,h2⟩:=aH.get (i:=i) (d:=d) t (by simpa using e)
  exact ⟨v,by simpa using h1,h2⟩
theorem aH.append:∀{ds es:List D}{vs us:List V},aH K J ds vs->aH K J es us->aH K J (ds++es) (vs++us)
 | _,_,_,_,.nil,s=>s
 | _,_,_,_,.cons r t,s=>.cons r (aH.append t s)
theorem aH.take:∀{ds:List D}{vs:List V}(n:Nat),aH K J ds vs->aH K J (ds.take n) (vs.take n)
 | _,_,0,_=>.nil
 | _,_,_ + 1,.nil=>.nil
 | _,_,n + 1,.cons r t=>.cons r (aH.take n t)
theorem aH.drop:∀{ds:List D}{vs:List V}(n:Nat),aH K J ds vs->aH K J (ds.drop n) (vs.drop n)
 | _,_,0,r=>r
 | _,_,_ + 1,.nil=>.nil
 | _,_,n + 1,.cons _ t=>aH.drop n t
end
noncomputable def dY (K:RV) (J H:Hp) (a:Se) (ks vs:List D):Prop:=∃us ws ep,H a=some (kG a ep ((cD ks).zip (us.zip ws)))/\aH K J ks us/\aH K J vs ws/\KS ks/\(a == VE)=false/\ks.length=vs.length
theorem dY.mono {K:RV}{J J' H H':Hp}{a:Se}{ks vs:List D}(e:aU J J') (e':aU H H'):dY K J H a ks vs->dY K J' H' a ks vs
 | ⟨us,ws,ep,h1,h2,h3,h4⟩=>⟨us,ws,ep,e' _ _ h1,h2.mono e,h3.mono e,h4⟩
theorem dY.ne {K:RV}{J H:Hp}{a:Se}{ks vs:List D}:dY K J H a ks vs->H a≠none
 | ⟨us,ws,ep,h1,_⟩=>by rw [h1];intro z;cases z
theorem dY.rep {K:RV}{J H:Hp}{a:Se}{ks vs:List D}(e:aU J H):dY K J H a ks vs->Rep K H (.dct ks vs) (.ref a)
 | ⟨us,ws,ep,h1,h2,h3,h4,h5⟩=>.dct h1 (h2.mono e) (h3.mono e) h4 h5
structure Exc where
 cls:Str
 ns:List Str
 ds:List D
inductive M (α:Type) where
 | bad | ok (a:α) | exc (x:Exc)
noncomputable def M.bind {α β:Type}:M α->(α->M β)->M β
 | .bad,_=>.bad
 | .ok a,f=>f a
 | .exc x,_=>.exc x
instance:Monad M where
 pure:=M.ok
 bind:=M.bind
@[simp] theorem aM {α β:Type}(a:α) (f:α->M β):(M.ok a >>= f)=f a:=rfl
noncomputable def cJ {α:Type}(m:M α) (Q:α->Prop) (T:Exc->Prop):Prop:=match m with
 | .bad=>False
 | .ok a=>Q a
 | .exc x=>T x
theorem aI {α β:Type}{m:M α}{f:α->M β}{Q:β->Prop}{T:Exc->Prop}(h:cJ (m >>= f) Q T):cJ m (λa=>cJ (f a) Q T) T:=by
 cases m with
 | bad=>exact h
 | ok a=>exact h
 | exc x=>exact h
theorem aD {α:Type}{m:M α}{Q Q':α->Prop}{T:Exc->Prop}(h:cJ m Q T) (k:∀a,Q a->Q' a):cJ m Q' T:=by
 cases m with
 | bad=>exact h
 | ok a=>exact k a h
 | exc x=>exact h
inductive Md where
 | fresh | own | bor
inductive R where
 | d (x:D) | l (m:Md) (xs:List D)
  | mo (ks vs:List D) | mb (ks vs:List D) | mf (ks vs:List D)
inductive S where
 | d (x:D) | own (xs:List D) | bor (xs:List D) | dk (ks vs:List D) | db (ks vs:List D)
  | fn (x:Str)
abbrev Ev:=List (Option S)
abbrev Mn:=List D ⊕ (List D×List D)
noncomputable def mS:Mn->S
 | .inl xs=>.own xs
 | .inr p=>.dk p.1 p.2
structure C where
 K:RV
 H0:Hp
 J0:Hp
 T:Exc->Prop
structure HI (c:C) (J H:Hp):Prop where
 sub:aU J H
 ent:aU c.H0 H
 entJ:aU c.J0 J
 frz:∀a,c.H0 a≠none->c.J0 a=none->J a=none
structure Ext (J H J' H':Hp):Prop where
 h:aU H H'
 j:aU J J'
 sub:aU J' H'
 frz:∀a,H a≠none->J a=none->J' a=none
theorem aU.ne {H H':Hp}(e:aU H H'){a:Se}(h:H a≠none):H' a≠none:=by
 cases q:H a with
 | none=>exact absurd q h
 | some o=>rw [e a o q];intro z;cases z
theorem Ext.refl {J H:Hp}(h:aU J H):Ext J H J H:=⟨aU.refl H,aU.refl J,h,λ_ _ q=>q⟩
theorem Ext.trans {J H J1 H1 J2 H2:Hp}(a:Ext J H J1 H1) (b:Ext J1 H1 J2 H2):Ext J H J2 H2:=
 ⟨a.h.trans b.h,a.j.trans b.j,b.sub,λp h q=>b.frz p (aU.ne a.h h) (a.frz p h q)⟩
theorem HI.ext {c:C}{J H J' H':Hp}(h:HI c J H) (e:Ext J H J' H'):HI c J' H':=
 ⟨e.sub,h.ent.trans e.h,h.entJ.trans e.j,λa h0 j0=>e.frz a (aU.ne h.ent h0) (h.frz a h0 j0)⟩
theorem cM {H:Hp}{p:Se}(h:H p=none) (o:HO):aU H (upd H p o):=λb u q=>by rw [bE (fk q h)];exact q
theorem Ext.new {J H:Hp}(h:aU J H){p:Se}(e:H p=none) (o:HO):Ext J H J (upd H p o):=
 ⟨cM e o,aU.refl J,λb u q=>cM e o b u (h b u q),λ_ _ q=>q⟩
theorem Ext.newJ {J H:Hp}(h:aU J H){p:Se}(e:H p=none) (o:HO):Ext J H (upd J p o) (upd H p o):=
 ⟨cM e o,cM (h.free e) o,λb u q=>by
  by_cases hb:b=p
  ·subst hb;rw [b8] at q ⊢;exact q
  ·rw [bE hb] at q ⊢;exact h b u q,λa ha q=>by
  have:a≠p:=λz=>ha (z▸e)
  rw [bE this];exact q⟩
noncomputable def q9 (c:C) (J H:Hp):S->V->Prop
 | .d x,v=>Rep c.K J x v
 | .own xs,v=>∃a vs,v=.ref a/\H a=some (.lst vs)/\J a=none/\c.H0 a=none/\aH c.K J xs vs
 | .bor xs,v=>∃a vs,v=.ref a/\cH c.K c.H0 a vs/\aH c.K J xs vs
 | .dk ks vs,v=>∃a,v=.ref a/\dY c.K J H a ks vs/\J a=none/\c.H0 a=none
 | .db ks vs,v=>∃a,v=.ref a/\dY c.K J c.H0 a ks vs
 | .fn x,v=>∃f,v=.ref f/\SV c.K SE x=some (some (.ref f))
theorem q9.ext {c:C}{J H J' H':Hp}(e:Ext J H J' H'):∀{x:S}{v:V},q9 c J H x v->q9 c J' H' x v
 | .d x,v,h=>Rep.mono e.j h
 | .own xs,v,⟨a,vs,h1,h2,h3,h4,h5⟩=>⟨a,vs,h1,e.h _ _ h2,e.frz a (by rw [h2];intro z;cases z) h3,h4,aH.mono e.j h5⟩
 | .bor xs,v,⟨a,vs,h1,h2,h3⟩=>⟨a,vs,h1,h2,aH.mono e.j h3⟩
 | .dk _ _,v,⟨a,h1,h2,h3,h4⟩=>⟨a,h1,h2.mono e.j e.h,e.frz a h2.ne h3,h4⟩
 | .db _ _,v,⟨a,h1,h2⟩=>⟨a,h1,h2.mono e.j (aU.refl _)⟩
 | .fn _,v,h=>h
structure SR (c:C) (J H:Hp) (σ:L2.St) (env:Ev):Prop where
 hp:HI c J H
 len:env.length=σ.length
 at_:∀(i:Nat) (x:S),env[i]?=some (some x)->∃v,σ[i]?=some (some v)/\q9 c J H x v
 sep:∀(i j:Nat) (xs ys:Mn) (v:V),i≠j->env[i]?=some (some (mS xs))->env[j]?=some (some (mS ys))->σ[i]?=some (some v)->σ[j]?≠some (some v)
theorem SR.ext {c:C}{J H J' H':Hp}{σ:L2.St}{env:Ev}(h:SR c J H σ env) (e:Ext J H J' H'):SR c J' H' σ env:=
 ⟨h.hp.ext e,h.len,λi x q=>let ⟨v,q1,q2⟩:=h.at_ i x q;⟨v,q1,q2.ext e⟩,h.sep⟩
theorem SR.mine {c:C}{J H:Hp}{σ:L2.St}{env:Ev}(sr:SR c J H σ env){i:Nat}:∀{x:Mn},env[i]?=some (some (mS x))->∃p,σ[i]?=some (some (.ref p))/\H p≠none/\J p=none/\c.H0 p=none
 | .inl xs,h=>let ⟨_,k1,p,vs,e,k2,k3,k4,_⟩:=sr.at_ i (.own xs) h;⟨p,e▸k1,by rw [k2];exact λz=>(by cases z),k3,k4⟩
 | .inr q,h=>let ⟨_,k1,p,e,k2,k3,k4⟩:=sr.at_ i (.dk q.1 q.2) h;⟨p,e▸k1,k2.ne,k3,k4⟩
noncomputable def RR (c:C) (He J H:Hp):R->V->Prop
 | .d x,v=>Rep c.K J x v
 | .l .fresh xs,v=>∃a vs,v=.ref a/\H a=some (.lst vs)/\J a=none/\He a=none/\aH c.K J xs vs
 | .l .own xs,v=>∃a vs,v=.ref a/\H a=some (.lst vs)/\J a=none/\c.H0 a=none/\aH c.K J xs vs
 | .l .bor xs,v=>∃a vs,v=.ref a/\cH c.K c.H0 a vs/\aH c.K J xs vs
 | .mo ks vs,v=>∃a,v=.ref a/\dY c.K J H a ks vs/\J a=none/\c.H0 a=none
 | .mb ks vs,v=>∃a,v=.ref a/\dY c.K J c.H0 a ks vs
 | .mf ks vs,v=>∃a,v=.ref a/\dY c.K J H a ks vs/\J a=none/\He a=none
theorem RR.ext {c:C}{He J H J' H':Hp}(e:Ext J H J' H'):∀{x:R}{v:V},RR c He J H x v->RR c He J' H' x v
 | .d x,v,h=>Rep.mono e.j h
 | .l .fresh xs,v,⟨a,vs,h1,h2,h3,h4,h5⟩=>⟨a,vs,h1,e.h _ _ h2,e.frz a (by rw [h2];intro z;cases z) h3,h4,aH.mono e.j h5⟩
 | .l .own xs,v,⟨a,vs,h1,h2,h3,h4,h5⟩=>⟨a,vs,h1,e.h _ _ h2,e.frz a (by rw [h2];intro z;cases z) h3,h4,aH.mono e.j h5⟩
 | .l .bor xs,v,⟨a,vs,h1,h2,h3⟩=>⟨a,vs,h1,h2,aH.mono e.j h3⟩
 | .mo _ _,v,⟨a,h1,h2,h3,h4⟩=>⟨a,h1,h2.mono e.j e.h,e.frz a h2.ne h3,h4⟩
 | .mb _ _,v,⟨a,h1,h2⟩=>⟨a,h1,h2.mono e.j (aU.refl _)⟩
 | .mf _ _,v,⟨a,h1,h2,h3,h4⟩=>⟨a,h1,h2.mono e.j e.h,e.frz a h2.ne h3,h4⟩
theorem RR.from {c:C}{He He' J H:Hp}(e:aU He He'):∀{x:R}{v:V},RR c He' J H x v->RR c He J H x v
 | .d x,v,h=>h
 | .l .fresh xs,v,⟨a,vs,h1,h2,h3,h4,h5⟩=>⟨a,vs,h1,h2,h3,e.free h4,h5⟩
 | .l .own xs,v,h=>h
 | .l .bor xs,v,h=>h
 | .mo _ _,v,h=>h
 | .mb _ _,v,h=>h
 | .mf _ _,v,⟨a,h1,h2,h3,h4⟩=>⟨a,h1,h2,h3,e.free h4⟩
noncomputable def jC:R->M (List D)
 | .d (.lst xs)=>.ok xs
 | .l _ xs=>.ok xs
 | _=>.bad
noncomputable def toD:R->M D
 | .d x=>.ok x
 | .l .fresh xs=>.ok (.lst xs)
 | .mf ks vs=>.ok (.dct ks vs)
 | _=>.bad
theorem RR.list {c:C}{He J H:Hp}(hp:HI c J H):∀{r:R}{v:V}{xs:List D},RR c He J H r v->jC r=.ok xs->∃a vs,v=.ref a/\cH c.K H a vs/\aH c.K J xs vs
 | .d (.lst ys),v,xs,h,e=>by
  cases e
  cases h with
  | lst h hs=>exact ⟨_,_,rfl,hp.sub.seq h,hs⟩
 | .l .fresh ys,v,xs,⟨a,vs,h1,h2,h3,h4,h5⟩,e=>by cases e;exact ⟨a,vs,h1,cH.of h2,h5⟩
 | .l .own ys,v,xs,⟨a,vs,h1,h2,h3,h4,h5⟩,e=>by cases e;exact ⟨a,vs,h1,cH.of h2,h5⟩
 | .l .bor ys,v,xs,⟨a,vs,h1,h2,h3⟩,e=>by cases e;exact ⟨a,vs,h1,hp.ent.seq h2,h3⟩
 | .d .non,_,_,_,e=>nomatch e
 | .d (.bl _),_,_,_,e=>nomatch e
 | .d (.int _),_,_,_,e=>nomatch e
 | .d (.str _),_,_,_,e=>nomatch e
 | .d (.tup _),_,_,_,e=>nomatch e
 | .d .emp,_,_,_,e=>nomatch e
 | .d (.dct _ _),_,_,_,e=>nomatch e
 | .mo _ _,_,_,_,e=>nomatch e
 | .mb _ _,_,_,_,e=>nomatch e
 | .mf _ _,_,_,_,e=>nomatch e
theorem AX {Je He J H:Hp}(x:Ext Je He J H){a:Se}{o:HO}(h2:H a=some o) (h3:J a=none) (h4:He a=none):Ext Je He (upd J a o) H:=by
 refine ⟨x.h,x.j.trans (cM h3 _),λb u q=>?_,λb hb q=>?_⟩
 ·by_cases hb:b=a
  ·subst hb;rw [b8] at q;cases q;exact h2
  ·rw [bE hb] at q;exact x.sub b u q
 ·have:b≠a:=λz=>hb (z▸h4)
  rw [bE this];exact x.frz b hb q
theorem freeze {c:C}{Je He J H:Hp}(x:Ext Je He J H):∀{r:R}{v:V}{d:D},RR c He J H r v->toD r=.ok d->∃J',Ext Je He J' H/\aU J J'/\Rep c.K J' d v
 | .d y,v,d,h,e=>by cases e;exact ⟨J,x,aU.refl J,h⟩
 | .l .fresh ys,v,d,⟨a,vs,h1,h2,h3,h4,h5⟩,e=>by
  cases e
  subst h1
  exact ⟨_,AX x h2 h3 h4,cM h3 _,.lst (.inl (.inl b8)) (aH.mono (cM h3 _) h5)⟩
 | .mf ks vs,v,d,⟨a,h1,⟨us,ws,ep,h2,m1,m2,m3⟩,h3,h4⟩,e=>by
  cases e
  subst h1
  exact ⟨_,AX x h2 h3 h4,cM h3 _,.dct b8 (m1.mono (cM h3 _)) (m2.mono (cM h3 _)) m3.1 m3.2⟩
 | .l .own _,_,_,_,e=>nomatch e
 | .l .bor _,_,_,_,e=>nomatch e
 | .mo _ _,_,_,_,e=>nomatch e
 | .mb _ _,_,_,_,e=>nomatch e
abbrev G (α:Type):=Ev->M α
def tD (c:C) (g:G R):TE:=λσ H Q=>∃J env,SR c J H σ env/\cJ (g env) (λr=>∀v J' H',Ext J H J' H'->RR c H J' H' r v->Q v H') c.T
def PD (X:Cx) (c:C) (e:SM) (g:G R):Prop:=PE X e (tD c g)
def tB (c:C) (g:G Bool):TT:=λσ H Q=>∃J env,SR c J H σ env/\cJ (g env) (λb=>∀J' H',Ext J H J' H'->Q b H') c.T
def PB (X:Cx) (c:C) (e:SM) (g:G Bool):Prop:=PT X e (tB c g)
noncomputable def jQ (c:C) (He J H:Hp):List R->List V->Prop
 | [],vs=>vs=[]
 | r::rs,vs=>∃v us,vs=v::us/\RR c He J H r v/\jQ c He J H rs us
def tA (c:C) (g:G (List R)):TA:=λσ H Q=>∃J env,SR c J H σ env/\cJ (g env) (λrs=>∀vs J' H',Ext J H J' H'->jQ c H J' H' rs vs->Q vs H') c.T
def Dp (X:Cx) (c:C) (es:List SM) (g:G (List R)):Prop:=PA X es (tA c g)
def Pw (c:C) (g:G (List D)):TA:=λσ H Q=>∃J env,SR c J H σ env/\cJ (g env) (λds=>∀vs J' H',Ext J H J' H'->aH c.K J' ds vs->Q vs H') c.T
def Pe (X:Cx) (c:C) (es:List SM) (g:G (List D)):Prop:=PA X es (Pw c g)
inductive O where
 | nx (e:Ev) | rt (r:R) | bk (e:Ev) | ct (e:Ev)
noncomputable def RF (c:C) (J H:Hp):R->V->Prop
 | .d x,v=>Rep c.K J x v
 | .l _ xs,v=>∃a vs,v=.ref a/\H a=some (.lst vs)/\J a=none/\c.H0 a=none/\aH c.K J xs vs
 | .mf ks vs,v=>∃a,v=.ref a/\dY c.K J H a ks vs/\J a=none/\c.H0 a=none
 | _,_=>False
noncomputable def oP (c:C) (J:Hp) (E:Ends):O->Prop
 | .nx e=>∀σ' J' H',aU J J'->SR c J' H' σ' e->E.nx σ' H'
 | .rt r=>∀v J' H',aU J J'->HI c J' H'->RF c J' H' r v->E.rt v H'
 | .bk e=>∀σ' J' H',aU J J'->SR c J' H' σ' e->E.bk σ' H'
 | .ct e=>∀σ' J' H',aU J J'->SR c J' H' σ' e->E.ct σ' H'
def tS (c:C) (g:G O):TS:=λE σ H=>∃J env,SR c J H σ env/\cJ (g env) (oP c J E) c.T
def xW (X:Cx) (c:C) (st:Vj) (g:G O):Prop:=PS X st (tS c g)
def HD (X:Cx) (c:C) (st:List Vj) (g:G O):Prop:=jP X st (tS c g)
theorem oP.mono {c:C}{J J1:Hp}{E:Ends}(e:aU J J1):∀{o:O},oP c J E o->oP c J1 E o
 | .nx _,h=>λσ' J' H' q r=>h σ' J' H' (e.trans q) r
 | .rt _,h=>λσ' J' H' q r=>h σ' J' H' (e.trans q) r
 | .bk _,h=>λσ' J' H' q r=>h σ' J' H' (e.trans q) r
 | .ct _,h=>λσ' J' H' q r=>h σ' J' H' (e.trans q) r
theorem fq {X:Cx}{e:SM}{t t':TE}(h:PE X e t) (k:∀σ H Q,t' σ H Q->t σ H Q):PE X e t':=λRL s σ H Q I q=>h RL s σ H Q I (k σ H Q q)
theorem xH {X:Cx}{e:SM}{t t':TT}(h:PT X e t) (k:∀σ H Q,t' σ H Q->t σ H Q):PT X e t':=λRL s σ H Q I q=>h RL s σ H Q I (k σ H Q q)
theorem xF {X:Cx}{es:List SM}{t t':TA}(h:PA X es t) (k:∀σ H Q,t' σ H Q->t σ H Q):PA X es t':=λpos RL s σ H Q I q=>h pos RL s σ H Q I (k σ H Q q)
theorem gO {X:Cx}{st:Vj}{t t':TS}(h:PS X st t) (k:∀D σ H,t' D σ H->t D σ H):PS X st t':=λRL s σ H D I q=>h RL s σ H D I (k D σ H q)
theorem EO {X:Cx}{st:List Vj}{t t':TS}(h:jP X st t) (k:∀D σ H,t' D σ H->t D σ H):jP X st t':=λRL s σ H D I q=>h RL s σ H D I (k D σ H q)
section
variable {X:Cx}{c:C}{e a b:SM}{ga gb:G R}{pos:Pos}
noncomputable def S.rd:S->M R
 | .d x=>.ok (.d x)
 | .own xs=>.ok (.l .own xs)
 | .bor xs=>.ok (.l .bor xs)
 | .dk ks vs=>.ok (.mo ks vs)
 | .db ks vs=>.ok (.mb ks vs)
 | .fn _=>.bad
noncomputable def af (i:Nat):G R:=λenv=>match env[i]? with
 | some (some x)=>x.rd
 | _=>.bad
theorem JJ {x:Str}{i:Nat}(h:PE X (.Name x pos) (M0 i)):PD X c (.Name x pos) (af i):=fq h λσ H Q ⟨J,env,sr,w⟩=>by
 unfold af at w
 cases q:env[i]? with
 | none=>rw [q] at w;exact w.elim
 | some o=>
  cases o with
  | none=>rw [q] at w;exact w.elim
  | some x=>
   rw [q] at w
   obtain ⟨v,h1,h2⟩:=sr.at_ i x q
   refine ⟨v,h1,?_⟩
   cases x with
   | fn _=>exact w.elim
   | _=>exact w v J H (Ext.refl sr.hp.sub) h2
def gC (d:D):G R:=λ_=>.ok (.d d)
theorem tQ {d:D}{v:V}(hr:∀J,Rep c.K J d v) (h:PE X e (tC v)):PD X c e (gC d):=fq h λσ H Q ⟨J,env,sr,w⟩=>w v J H (Ext.refl sr.hp.sub) (hr J)
noncomputable def BD (c:C) (r:R2) (f:R->R->M R):Prop:=∀(He He' J H:Hp) (x y:R) (u v:V) (Q:VK),HI c J H->RR c He J H x u->RR c He' J H y v->
 cJ (f x y) (λz=>∀w J' H',Ext J H J' H'->RR c H J' H' z w->Q w H') c.T->r u v H Q
def g2 (f:R->R->M R) (ga gb:G R):G R:=λenv=>ga env >>= λx=>gb env >>= λy=>f x y
theorem two {P:R->R->M R}{σ:L2.St}{H:Hp}{k:V->V->Hp->Prop}{Q:VK}{J:Hp}{env:Ev}(sr:SR c J H σ env)
  (w:cJ (g2 P ga gb env) (λr=>∀v J' H',Ext J H J' H'->RR c H J' H' r v->Q v H') c.T)
  (hk:∀x y u v J2 H2,SR c J2 H2 σ env->Ext J H J2 H2->RR c H J2 H2 x u->RR c H J2 H2 y v->cJ (P x y) (λz=>∀w J' H',Ext J2 H2 J' H'->RR c H2 J' H' z w->Q w H') c.T->k u v H2):
  tD c ga σ H λu H1=>tD c gb σ H1 λv H2=>k u v H2:=by
 refine ⟨J,env,sr,aD (aI w) λx wx u J1 H1 e1 r1=>?_⟩
 have sr1:=sr.ext e1
 refine ⟨J1,env,sr1,aD (aI wx) λy wy v J2 H2 e2 r2=>?_⟩
 exact hk x y u v J2 H2 (sr1.ext e2) (e1.trans e2) (r1.ext e2) (RR.from e1.h r2) (aD wy λz q w J' H' e3 r3=>q w J' H' ((e1.trans e2).trans e3) (RR.from (e1.h.trans e2.h) r3))
theorem GL {t:TE}{r:R2}{f:R->R->M R}(ht:PE X e t) (heq:t=E6 r (tD c ga) (tD c gb)) (hf:BD c r f):PD X c e (g2 f ga gb):=by
 subst heq
 exact fq ht λσ H Q ⟨J,env,sr,w⟩=>two (k:=λu v H2=>r u v H2 Q) sr w λx y u v J2 H2 sr2 e2 r1 r2 q=>hf H H J2 H2 x y u v Q sr2.hp r1 r2 q
theorem n8 {op:Zv}{r:R2}{f:R->R->M R}(ho:dw X (VS op) r) (hf:BD c r f) (ha:PD X c a ga) (hb:PD X c b gb):PD X c (.BinOp a op b pos) (g2 f ga gb):=GL (NN ho ha hb) rfl hf
theorem pV {op:abZ}{r:R2}{f:R->R->M R}(ho:dw X (Ug op) r) (hf:BD c r f) (ha:PD X c a ga) (hb:PD X c b gb) (hm:TN op b=false:=by first | exact yZ _ | rfl):PD X c (.Compare a [op] [b] pos) (g2 f ga gb):=GL (JL ho ha hb hm) rfl hf
theorem Ia {r:R2}{f:R->R->M R}(ho:oZ X r) (hf:BD c r f) (ha:PD X c a ga) (hb:PD X c b gb) (hs:qu b:=by exact λ_ _=>rfl):PD X c (.Subscript a b pos) (g2 f ga gb):=GL (NL ho ha hb hs) rfl hf
theorem BD.or {r r':R2}{f f':R->R->M R}(p:R->R->Bool) (h:BD c r f) (h':BD c r' f'):BD c (λx y H Q=>r x y H Q\/r' x y H Q) (λx y=>if p x y then f x y else f' x y):=by
 intro He He' J H x y u v Q hp rx ry w
 simp only at w
 cases q:p x y with
 | true=>rw [q] at w;exact .inl (h He He' J H x y u v Q hp rx ry w)
 | false=>rw [q] at w;exact .inr (h' He He' J H x y u v Q hp rx ry w)
noncomputable def fI (C:Int->Int->Bool) (f:Int->Int->D):R->R->M R
 | .d (.int i),.d (.int j)=>if C i j then .ok (.d (f i j)) else .bad
 | _,_=>.bad
noncomputable def kI (f:Int->Int->D):R->R->M R
 | .d (.int i),.d (.int j)=>.ok (.d (f i j))
 | _,_=>.bad
theorem yf {P:Int->Int->Prop}{Cb:Int->Int->Bool}{g:Int->Int->V}{f:Int->Int->D}(hC:∀i j,Cb i j=true->P i j) (hr:∀i j J,Rep c.K J (f i j) (g i j)):BD c (rI P g) (fI Cb f):=by
 intro He He' J H x y u v Q hp rx ry w
 unfold fI at w
 split at w
 ·cases rx;cases ry
  rename_i i j
  cases q:Cb i j with
  | true=>rw [q] at w;exact ⟨i,j,rfl,rfl,hC i j q,w _ J H (Ext.refl hp.sub) (hr i j J)⟩
  | false=>rw [q] at w;exact w.elim
 ·exact w.elim
theorem gK {g:Int->Int->V}{f:Int->Int->D}(hr:∀i j J,Rep c.K J (f i j) (g i j)):BD c (pY g) (kI f):=by
 intro He He' J H x y u v Q hp rx ry w
 unfold kI at w
 split at w
 ·cases rx;cases ry
  rename_i i j
  exact ⟨i,j,rfl,rfl,w _ J H (Ext.refl hp.sub) (hr i j J)⟩
 ·exact w.elim
def below (n:Nat) (j:Int):Bool:=Nat.blt j.natAbs n
theorem eu {n:Nat}{j:Int}:below n j=true↔-(n:Int) < j/\j < n:=by
 unfold below
 rw [Nat.blt_eq]
 omega
def Cg (_ j:Int):Bool:=decide (0 < j) && below 1073741824 j
def LI (_ j:Int):Bool:=decide (0 < j)
def yQ (i j:Int):Bool:=below 18446744073709551616 i || below 18446744073709551616 j
theorem A4 {i j:Int}(h:yQ i j=true):(-(2 ^ 64) < i/\i < 2 ^ 64)\/(-(2 ^ 64) < j/\j < 2 ^ 64):=by
 unfold yQ at h
 rw [Vq] at h
 exact h.imp eu.mp eu.mp
theorem Jm {i j:Int}(h:Cg i j=true):0 < j/\j < 1073741824:=by
 unfold Cg at h
 rw [R8] at h
 exact ⟨of_decide_eq_true h.1,(eu.mp h.2).2⟩
def Gg (i j:Int):Bool:=decide (0<=j) && below 1000001 j && below 18446744073709551616 i
theorem Jo {i j:Int}(h:Gg i j=true):0<=j/\j<=1000000/\i.natAbs < 2 ^ 64:=by
 unfold Gg at h
 rw [R8,R8] at h
 have h2:=eu.mp h.1.2
 have h3:=eu.mp h.2
 exact ⟨of_decide_eq_true h.1.1,by omega,by omega⟩
abbrev yy:R->R->M R:=kI λi j=>.int (i + j)
abbrev FW:R->R->M R:=kI λi j=>.int (i - j)
abbrev uH:R->R->M R:=fI yQ λi j=>.int (i * j)
abbrev i6:R->R->M R:=fI Cg λi j=>.int (i / j)
abbrev fR:R->R->M R:=fI LI λi j=>.int (i % j)
abbrev Ll:R->R->M R:=fI Gg λi j=>.int (i ^ j.toNat)
noncomputable def sM:R->R->M R
 | .d (.str i),.d (.str j)=>if i.length + j.length<=sizeLine then .ok (.d (.str (i++j))) else .bad
 | _,_=>.bad
theorem Kl {K:RV}{J:Hp}{ds:List D}{vs:List V}{i:Int}{d:D}(h:aH K J ds vs) (e:lJ ds i=some d):∃v,lJ vs i=some v/\Rep K J d v:=by
 unfold lJ at e ⊢
 rw [h.length] at e
 cases q:yP vs.length i with
 | none=>rw [q] at e;cases e
 | some j=>rw [q] at e;exact h.get e
theorem kC {x:R}{f:List D->M R}{Q:R->Prop}{T:Exc->Prop}(w:cJ (jC x >>= f) Q T):∃xs,jC x=.ok xs/\cJ (f xs) Q T:=by
 cases q:jC x with
 | bad=>rw [q] at w;exact w.elim
 | ok xs=>rw [q] at w;exact ⟨xs,rfl,w⟩
 | exc z=>unfold jC at q;split at q <;> cases q
noncomputable def yO:R->Bool
 | .l .fresh _=>true
 | .l .own _=>true
 | _=>false
noncomputable def sN (x y:R):M R:=if yO x && yO y then jC x >>= λxs=>jC y >>= λys=>if xs.length + ys.length<=sizeLine then .ok (.l .fresh (xs++ys)) else .bad else .bad
theorem RR.made {He J H:Hp}:∀{r:R}{v:V},yO r=true->RR c He J H r v->∃a vs xs,jC r=.ok xs/\v=.ref a/\H a=some (.lst vs)/\aH c.K J xs vs
 | .l .fresh xs,v,_,⟨a,vs,h1,h2,h3,h4,h5⟩=>⟨a,vs,xs,rfl,h1,h2,h5⟩
 | .l .own xs,v,_,⟨a,vs,h1,h2,h3,h4,h5⟩=>⟨a,vs,xs,rfl,h1,h2,h5⟩
 | .l .bor _,_,e,_=>nomatch e
 | .mo _ _,_,e,_=>nomatch e
 | .mb _ _,_,e,_=>nomatch e
 | .mf _ _,_,e,_=>nomatch e
 | .d _,_,e,_=>nomatch e
theorem ia {J H:Hp}{xs:List D}{vs:List V}{p:Se}(hp:HI c J H) (e:H p=none) (h:aH c.K J xs vs):RR c H J (upd H p (.lst vs)) (.l .fresh xs) (.ref p):=
 ⟨p,vs,rfl,b8,hp.sub.free e,e,h⟩
noncomputable def CD (c:C) (r:List V->Hp->VK->Prop) (f:List R->M R):Prop:=∀(He J H:Hp) (xs:List R) (vs:List V) (Q:VK),HI c J H->jQ c He J H xs vs->
 cJ (f xs) (λz=>∀w J' H',Ext J H J' H'->RR c H J' H' z w->Q w H') c.T->r vs H Q
def gN (f:List R->M R) (gs:G (List R)):G R:=λenv=>gs env >>= f
theorem GN {t:TE}{ta:TA}{r:List V->Hp->VK->Prop}{f:List R->M R}{gs:G (List R)}(ht:PE X e t) (heq:t=λσ H Q=>tA c gs σ H λvs H1=>r vs H1 Q) (hf:CD c r f):PD X c e (gN f gs):=by
 subst heq
 refine fq ht λσ H Q ⟨J,env,sr,w⟩=>⟨J,env,sr,aD (aI w) λrs w vs J1 H1 e1 r1=>?_⟩
 exact hf H J1 H1 rs vs Q (sr.hp.ext e1) r1 (aD w λz q v J' H' e2 r2=>q v J' H' (e1.trans e2) (RR.from e1.h r2))
def aE:G (List R):=λ_=>.ok []
def ao (g:G R) (gs:G (List R)):G (List R):=λenv=>g env >>= λx=>gs env >>= λxs=>.ok (x::xs)
theorem jQ.from {He He' J H:Hp}(e:aU He He'):∀{xs:List R}{vs:List V},jQ c He' J H xs vs->jQ c He J H xs vs
 | [],_,h=>h
 | _::_,_,⟨v,us,h1,h2,h3⟩=>⟨v,us,h1,RR.from e h2,jQ.from e h3⟩
theorem gG {id:String}{x:Str}{p:Pos}{es:List SM}{r:List V->Hp->VK->Prop}{f:List R->M R}{gs:G (List R)}(hc:bT X (.builtin id) r) (hf:CD c r f) (hv:Tj x=some (.builtin id)) (hm:X.mg x=none) (ha:Dp X c (e::es) gs)
  (hg:Gl X x:=by rfl) (hn:x≠"__name__":=by decide) (hdb:(x == ("__debug__":Str))=false:=by decide)
  (he:R_ (e::es) X.env=(false,eval e X.env)::R_ es X.env:=by rfl) (hpl:(Us pos (R_ es X.env)).any (·.1)=false:=by rfl):PD X c (.Call (.Name x p) (e::es) [] pos) (gN f gs):=
 GN (ta:=CW) (rM hc hg hm hv ha hn hdb he hpl) rfl hf
theorem EF {T:String}{x:Str}{p:Pos}{es:List SM}{r:List V->Hp->VK->Prop}{f:List R->M R}{gs:G (List R)}(hc:bT X (.type T) r) (hf:CD c r f) (hv:Tj x=some (.type T)) (hm:X.mg x=none) (ha:Dp X c (e::es) gs)
  (hg:Gl X x:=by rfl) (hn:x≠"__name__":=by decide) (hdb:(x == ("__debug__":Str))=false:=by decide)
  (he:R_ (e::es) X.env=(false,eval e X.env)::R_ es X.env:=by rfl) (hpl:(Us pos (R_ es X.env)).any (·.1)=false:=by rfl):PD X c (.Call (.Name x p) (e::es) [] pos) (gN f gs):=
 GN (ta:=CW) (lS hc hg hm hv ha hn hdb he hpl) rfl hf
end
section
variable {X:Cx}{c:C}{e a b:SM}{es:List SM}{ga gb g:G R}{pos:Pos}
def aW:G (List D):=λ_=>.ok []
def aA (g:G R) (gs:G (List D)):G (List D):=λenv=>g env >>= λx=>toD x >>= λd=>gs env >>= λds=>.ok (d::ds)
theorem gQ {α:Type}{x:R}{f:D->M α}{Q:α->Prop}{T:Exc->Prop}(w:cJ (toD x >>= f) Q T):∃d,toD x=.ok d/\cJ (f d) Q T:=by
 cases q:toD x with
 | bad=>rw [q] at w;exact w.elim
 | ok xs=>rw [q] at w;exact ⟨xs,rfl,w⟩
 | exc z=>unfold toD at q;split at q <;> cases q
def bI (gs:G (List D)):G R:=λenv=>gs env >>= λds=>if ds.length<=sizeLine then .ok (.d (.tup ds)) else .bad
def gD (gs:G (List D)):G R:=λenv=>gs env >>= λds=>if ds.length<=sizeLine then .ok (.l .fresh ds) else .bad
theorem p7 {J H:Hp}{xs:List D}{vs:List V}{p:Se}(hp:HI c J H) (e:H p=none) (h:aH c.K J xs vs):Rep c.K (upd J p (.tup vs)) (.tup xs) (.ref p):=
 .tup (.inl (.inl b8)) (h.mono (cM (hp.sub.free e) _))
noncomputable def g8:R->M (List D)
 | .d (.tup xs)=>.ok xs
 | .d (.lst xs)=>.ok xs
 | .l _ xs=>.ok xs
 | _=>.bad
theorem qv {He J H:Hp}(hp:HI c J H):∀{r:R}{v:V}{xs:List D},RR c He J H r v->g8 r=.ok xs->∃a vs,v=.ref a/\(cH c.K H a vs\/cV c.K H a vs)/\aH c.K J xs vs
 | .d (.tup ys),v,xs,h,e=>by
  cases e
  cases h with
  | tup h hs=>exact ⟨_,_,rfl,.inr (fz hp.sub h),hs⟩
 | .d (.lst ys),v,xs,h,e=>let ⟨a,vs,h1,h2,h3⟩:=RR.list hp h e;⟨a,vs,h1,.inl h2,h3⟩
 | .l m ys,v,xs,h,e=>let ⟨a,vs,h1,h2,h3⟩:=RR.list hp h e;⟨a,vs,h1,.inl h2,h3⟩
 | .d .non,_,_,_,e=>nomatch e
 | .d (.bl _),_,_,_,e=>nomatch e
 | .d (.int _),_,_,_,e=>nomatch e
 | .d (.str _),_,_,_,e=>nomatch e
 | .d .emp,_,_,_,e=>nomatch e
 | .d (.dct _ _),_,_,_,e=>nomatch e
theorem nF {α:Type}{x:R}{f:List D->M α}{Q:α->Prop}{T:Exc->Prop}(w:cJ (g8 x >>= f) Q T):∃xs,g8 x=.ok xs/\cJ (f xs) Q T:=by
 cases q:g8 x with
 | bad=>rw [q] at w;exact w.elim
 | ok xs=>rw [q] at w;exact ⟨xs,rfl,w⟩
 | exc z=>unfold g8 at q;split at q <;> cases q
noncomputable def jn:List R->M R
 | [.d (.str z)]=>if z.length<=sizeLine then .ok (.d (.int z.length)) else .bad
 | [r]=>g8 r >>= λxs=>.ok (.d (.int xs.length))
 | _=>.bad
theorem jQ.one {He J H:Hp}{r:R}{vs:List V}(h:jQ c He J H [r] vs):∃v,vs=[v]/\RR c He J H r v:=by
 obtain ⟨v,us,rfl,h1,h2⟩:=h
 cases h2
 exact ⟨v,rfl,h1⟩
theorem jQ.two {He J H:Hp}{r r':R}{vs:List V}(h:jQ c He J H [r,r'] vs):∃v v',vs=[v,v']/\RR c He J H r v/\RR c He J H r' v':=by
 obtain ⟨v,us,rfl,h1,v2,us2,rfl,h2,h3⟩:=h
 cases h3
 exact ⟨v,v2,rfl,h1,h2⟩
noncomputable def bX:List R->M R
 | [r]=>g8 r >>= λxs=>.ok (.d (.tup xs))
 | _=>.bad
theorem Ab:Tj "tuple"=some (.type "tuple"):=by decide +kernel
theorem BY:Tj "list"=some (.type "list"):=by decide +kernel
noncomputable def bQ (g:G R):G Bool:=λenv=>g env >>= λr=>match r with
 | .d (.bl k)=>.ok k
 | _=>.bad
theorem kM {op:abZ}{r:R2}{f:R->R->M R}(ho:dw X (Ug op) r) (hf:BD c r f) (ha:PD X c a ga) (hb:PD X c b gb) (hm:TN op b=false:=by first | exact yZ _ | rfl):PB X c (.Compare a [op] [b] pos) (bQ (g2 f ga gb)):=
 xH (JT ho ha hb hm) λσ H Q ⟨J,env,sr,w⟩=>by
  have w2:=aI w
  refine two (k:=λu v H2=>r u v H2 λz H3=>∃k,z=.bl k/\Q k H3) (Q:=λz H3=>∃k,z=.bl k/\Q k H3) sr (aD w2 λr0 wr v J1 H1 e1 r1=>?_)
   λx y u v J2 H2 sr2 e2 r1 r2 q=>hf H H J2 H2 x y u v _ sr2.hp r1 r2 q
  split at wr
  ·cases r1;exact ⟨_,rfl,wr J1 H1 e1⟩
  ·exact wr.elim
def pB (g h:G Bool):G Bool:=λenv=>g env >>= λk=>if k=true then h env else .ok false
def pD (g h:G Bool):G Bool:=λenv=>g env >>= λk=>if k=true then .ok true else h env
def gE (g:G Bool):G Bool:=λenv=>g env >>= λk=>.ok (!k)
def Pf (X:Cx) (c:C) (e:SM) (g:G Bool):Prop:=PW X e (tB c g)
variable {t u:G Bool}{rest:List SM}
theorem Ie {X:Cx}{e:SM}{t t':TT}(h:PW X e t) (k:∀σ H Q,t' σ H Q->t σ H Q):PW X e t':=λwh RL s σ H Q I q=>h wh RL s σ H Q I (k σ H Q q)
noncomputable def xy (g h:G R):G R:=λenv=>g env >>= λr=>match r with
 | .d (.bl true)=>h env
 | .d (.bl false)=>.ok (.d (.bl false))
 | _=>.bad
noncomputable def rK (g h:G R):G R:=λenv=>g env >>= λr=>match r with
 | .d (.bl false)=>h env
 | .d (.bl true)=>.ok (.d (.bl true))
 | _=>.bad
noncomputable def HU (g:G R):G R:=λenv=>g env >>= λr=>match r with
 | .d (.bl k)=>.ok (.d (.bl (!k)))
 | _=>.bad
def Og (t:G Bool) (g h:G R):G R:=λenv=>t env >>= λk=>if k=true then g env else h env
end
section
variable {X:Cx}{c:C}{e a b tg:SM}{es:List SM}{ga gb g:G R}{pos:Pos}{st:Vj}{rest:List Vj}{t u:G O}{tb:G Bool}
def eH:G O:=λenv=>.ok (.nx env)
noncomputable def aJ (t u:G O):G O:=λenv=>t env >>= λo=>match o with
 | .nx e=>u e
 | o=>.ok o
def jy (g:G R):G O:=λenv=>g env >>= λ_=>.ok (.nx env)
noncomputable def rF:R->M R
 | .d x=>.ok (.d x)
 | .l .fresh xs=>.ok (.l .fresh xs)
 | .l .own xs=>.ok (.l .fresh xs)
 | .l .bor _=>.bad
 | .mo ks vs=>.ok (.mf ks vs)
 | .mf ks vs=>.ok (.mf ks vs)
 | .mb _ _=>.bad
def bO (g:G R):G O:=λenv=>g env >>= λr=>rF r >>= λr=>.ok (.rt r)
theorem RR.rf {J H J1 H1:Hp}(hp:HI c J H):∀{r r':R}{v:V},RR c H J1 H1 r v->rF r=.ok r'->RF c J1 H1 r' v
 | .d x,r',v,h,e=>by cases e;exact h
 | .l .fresh xs,r',v,⟨a,vs,h1,h2,h3,h4,h5⟩,e=>by cases e;exact ⟨a,vs,h1,h2,h3,hp.ent.free h4,h5⟩
 | .l .own xs,r',v,⟨a,vs,h1,h2,h3,h4,h5⟩,e=>by cases e;exact ⟨a,vs,h1,h2,h3,h4,h5⟩
 | .l .bor _,_,_,_,e=>nomatch e
 | .mo _ _,_,v,⟨a,h1,h2,h3,h4⟩,e=>by cases e;exact ⟨a,h1,h2,h3,h4⟩
 | .mb _ _,_,_,_,e=>nomatch e
 | .mf _ _,_,v,⟨a,h1,h2,h3,h4⟩,e=>by cases e;exact ⟨a,h1,h2,h3,hp.ent.free h4⟩
def cu (b:G Bool) (t u:G O):G O:=λenv=>b env >>= λk=>if k=true then t env else u env
noncomputable def toS:R->M S
 | .d x=>.ok (.d x)
 | .l .fresh xs=>.ok (.own xs)
 | .l .bor xs=>.ok (.bor xs)
 | .l .own _=>.bad
 | .mb ks vs=>.ok (.db ks vs)
 | .mf ks vs=>.ok (.dk ks vs)
 | .mo _ _=>.bad
theorem fU {α:Type}{l:List (Option α)}{i j:Nat}{x y:α}(h:(l.set i (some x))[j]?=some (some y)):(j=i/\i < l.length/\y=x)\/(j≠i/\l[j]?=some (some y)):=by
 by_cases e:j=i
 ·subst e
  have hj:j < l.length:=by
   have:=(SI.mp h).1
   simpa using this
  rw [TX hj] at h
  cases h
  exact .inl ⟨rfl,hj,rfl⟩
 ·rw [S0 (UX e)] at h
  exact .inr ⟨e,h⟩
theorem SR.setD {J H:Hp}{σ:L2.St}{env:Ev}(sr:SR c J H σ env){i:Nat}{x:S}{v:V}(h:q9 c J H x v) (hx:∀xs,x≠mS xs):SR c J H (σ.set i (some v)) (env.set i (some x)):=by
 refine ⟨sr.hp,by simpa using sr.len,λj y q=>?_,λj k xs ys w hjk q1 q2 q3 q4=>?_⟩
 ·rcases fU q with ⟨rfl,hl,rfl⟩ | ⟨hj,q⟩
  ·exact ⟨v,by rw [TX (by rw [<-sr.len];exact hl)],h⟩
  ·obtain ⟨w,h1,h2⟩:=sr.at_ j y q
   exact ⟨w,by rw [S0 (UX hj)];exact h1,h2⟩
 ·rcases fU q1 with ⟨rfl,hl,e⟩ | ⟨hj,q1⟩
  ·exact hx xs e.symm
  ·rcases fU q2 with ⟨rfl,hl,e⟩ | ⟨hk,q2⟩
   ·exact hx ys e.symm
   ·rw [S0 (UX hj)] at q3
    rw [S0 (UX hk)] at q4
    exact sr.sep j k xs ys w hjk q1 q2 q3 q4
theorem SR.setM {J He:Hp}{σ:L2.St}{env:Ev}(sr:SR c J He σ env){J1 H1:Hp}(e1:Ext J He J1 H1){i:Nat}{y:Mn}{p:Se}(h3:He p=none) (h:q9 c J1 H1 (mS y) (.ref p)):SR c J1 H1 (σ.set i (some (.ref p))) (env.set i (some (mS y))):=by
 have sr1:=sr.ext e1
 have old:∀(j:Nat) (ys:Mn),env[j]?=some (some (mS ys))->σ[j]?≠some (some (.ref p)):=λj ys qj z=>by
  obtain ⟨a,k1,k2,_⟩:=sr.mine qj
  rw [z] at k1
  cases k1
  exact k2 h3
 refine ⟨sr1.hp,by simpa using sr.len,λj y q=>?_,λj k ys zs w hjk q1 q2 q3 q4=>?_⟩
 ·rcases fU q with ⟨rfl,hl,rfl⟩ | ⟨hj,q⟩
  ·exact ⟨.ref p,by rw [TX (by rw [<-sr.len];exact hl)],h⟩
  ·obtain ⟨w,k1,k2⟩:=sr1.at_ j y q
   exact ⟨w,by rw [S0 (UX hj)];exact k1,k2⟩
 ·rcases fU q1 with ⟨rfl,hl,e⟩ | ⟨hj,q1'⟩
  ·rcases fU q2 with ⟨rfl,_,_⟩ | ⟨hk,q2⟩
   ·exact hjk rfl
   ·rw [TX (by rw [<-sr.len];exact hl)] at q3
    cases q3
    rw [S0 (UX hk)] at q4
    exact old k zs q2 q4
  ·rw [S0 (UX hj)] at q3
   rcases fU q2 with ⟨rfl,hl,e⟩ | ⟨hk,q2⟩
   ·rw [TX (by rw [<-sr.len];exact hl)] at q4
    cases q4
    exact old j ys q1' q3
   ·rw [S0 (UX hk)] at q4
    exact sr.sep j k ys zs w hjk q1' q2 q3 q4
theorem SR.set {J He:Hp}{σ:L2.St}{env:Ev}(sr:SR c J He σ env){J1 H1:Hp}(e1:Ext J He J1 H1){i:Nat}{r:R}{x:S}{v:V}(h:RR c He J1 H1 r v) (q:toS r=.ok x):SR c J1 H1 (σ.set i (some v)) (env.set i (some x)):=by
 have sr1:=sr.ext e1
 cases r with
 | d y=>cases q;exact sr1.setD h (λx z=>by cases x <;> cases z)
 | mb _ _=>cases q;exact sr1.setD h (λx z=>by cases x <;> cases z)
 | mf ks vs=>cases q;obtain ⟨p,rfl,h1,h2,h3⟩:=h;exact sr.setM (y:=.inr (ks,vs)) e1 h3 ⟨p,rfl,h1,h2,sr.hp.ent.free h3⟩
 | mo _ _=>cases q
 | l m xs=>
  cases m with
  | own=>cases q
  | bor=>cases q;exact sr1.setD h (λx z=>by cases x <;> cases z)
  | fresh=>
   cases q
   obtain ⟨p,vs,rfl,h1,h2,h3,h4⟩:=h
   exact sr.setM (y:=.inl xs) e1 h3 ⟨p,vs,rfl,h1,h2,sr.hp.ent.free h3,h4⟩
theorem nG {α:Type}{x:R}{f:S->M α}{Q:α->Prop}{T:Exc->Prop}(w:cJ (toS x >>= f) Q T):∃d,toS x=.ok d/\cJ (f d) Q T:=by
 cases q:toS x with
 | bad=>rw [q] at w;exact w.elim
 | ok xs=>rw [q] at w;exact ⟨xs,rfl,w⟩
 | exc z=>unfold toS at q;split at q <;> cases q
def br (i:Nat) (g:G R):G O:=λenv=>g env >>= λr=>toS r >>= λx=>.ok (.nx (env.set i (some x)))
abbrev GT:=D->Ev->M Ev
def KO (env:Ev) (σ:L2.St) (e:Ev) (σ':L2.St):Prop:=∀(j:Nat) (xs:Mn),e[j]?=some (some (mS xs))->env[j]?=some (some (mS xs))/\σ'[j]?=σ[j]?
theorem KO.refl {env:Ev}{σ:L2.St}:KO env σ env σ:=λ_ _ h=>⟨h,rfl⟩
theorem KO.trans {env e1 e2:Ev}{σ s1 s2:L2.St}(a:KO env σ e1 s1) (b:KO e1 s1 e2 s2):KO env σ e2 s2:=λj xs h=>by
 obtain ⟨h1,h2⟩:=b j xs h
 obtain ⟨h3,h4⟩:=a j xs h1
 exact ⟨h3,h2.trans h4⟩
def tT (c:C) (g:GT):TG:=λv σ H Q=>∃J env d,SR c J H σ env/\Rep c.K J d v/\cJ (g d env) (λe=>∀σ',SR c J H σ' e->KO env σ e σ'->Q σ' H) c.T
def iT (X:Cx) (c:C) (tg:SM) (g:GT):Prop:=PG X tg (tT c g)
abbrev mL:=List D->Ev->M Ev
def PK (c:C) (g:mL):o7:=λvs σ H Q=>∃J env ds,SR c J H σ env/\aH c.K J ds vs/\cJ (g ds env) (λe=>∀σ',SR c J H σ' e->KO env σ e σ'->Q σ' H) c.T
def K2 (X:Cx) (c:C) (tgs:List SM) (g:mL):Prop:=vd X tgs (PK c g)
theorem Ib {X:Cx}{e:SM}{t t':TG}(h:PG X e t) (k:∀v σ H Q,t' v σ H Q->t v σ H Q):PG X e t':=λRL s σ H v u Q I r q=>h RL s σ H v u Q I r (k v σ H Q q)
theorem EI {X:Cx}{e:List SM}{t t':o7}(h:vd X e t) (k:∀v σ H Q,t' v σ H Q->t v σ H Q):vd X e t':=λRL s σ H vs us Q I r q=>h RL s σ H vs us Q I r (k vs σ H Q q)
def aC (i:Nat):GT:=λd env=>.ok (env.set i (some (.d d)))
noncomputable def cZ:mL:=λds env=>match ds with
 | []=>.ok env
 | _=>.bad
noncomputable def bw (t:GT) (u:mL):mL:=λds env=>match ds with
 | d::r=>t d env >>= λe=>u r e
 | []=>.bad
noncomputable def c_ (n:Nat) (u:mL):GT:=λd env=>match d with
 | .tup ds=>if ds.length=n then u ds env else .bad
 | _=>.bad
def kJ (t:GT) (g:G R):G O:=λenv=>g env >>= λr=>toD r >>= λd=>t d env >>= λe=>.ok (.nx e)
theorem JG {t:GT}(h:PD X c e g) (ht:iT X c tg t)
  (hq:PS X (.Assign [tg] e pos) (Hq (tD c g) (tT c t))):xW X c (.Assign [tg] e pos) (kJ t g):=gO hq λE σ H ⟨J,env,sr,w⟩=>by
 refine ⟨J,env,sr,aD (aI w) λr wr v J1 H1 e1 r1=>?_⟩
 obtain ⟨d,q,wr⟩:=gQ wr
 obtain ⟨J1',e1',s1,rd⟩:=freeze e1 r1 q
 refine ⟨J1',env,d,sr.ext e1',rd,aD (aI wr) λe2 w2 σ' sr' _=>?_⟩
 exact w2 σ' J1' H1 e1'.j sr'
noncomputable def Walk (c:C) (It:It) (ds:List D) (J1:Hp) (U:Hp->Hp->Prop):Prop:=∀(i:Nat) (J H:Hp),HI c J H->U J H->
 (ds.length<=i->It.stop i H)/\∀d,ds[i]?=some d->It.go i H/\∀x H2,It.yld i H x H2->∃J2,Ext J H J2 H2/\Rep c.K J2 d x
noncomputable def tI (c:C) (g:G (List D)):TI:=λσ H Q=>∃J env,SR c J H σ env/\cJ (g env) (λds=>∀It J1 H1,Ext J H J1 H1->Walk c It ds J1 (λJ' _=>aU J1 J')->Q It H1) c.T
def xX (X:Cx) (c:C) (tg RO:SM) (g:G (List D)):Prop:=PI X tg RO (tI c g)
theorem tR {X:Cx}{tg it:SM}{t t':TI}(h:PI X tg it t) (k:∀σ H Q,t' σ H Q->t σ H Q):PI X tg it t':=λRL s σ H Q I q=>h RL s σ H Q I (k σ H Q q)
noncomputable def fF (t:GT) (u:G O):List D->Ev->M O
 | [],env=>.ok (.nx env)
 | d::ds,env=>t d env >>= λe=>u e >>= λo=>match o with
  | .nx e=>fF t u ds e
  | .ct e=>fF t u ds e
  | .bk e=>.ok (.nx e)
  | .rt r=>.ok (.rt r)
def gm (g:G (List D)) (t:GT) (u:G O):G O:=λenv=>g env >>= λds=>fF t u ds env
noncomputable def PU (g:G R):G (List D):=λenv=>g env >>= λr=>match r with
 | .d (.tup xs)=>.ok xs
 | _=>.bad
theorem qo {J1:Hp}{a:Se}{vs:List V}{ds:List D}(h:cH c.K J1 a vs\/cH c.K c.H0 a vs) (hs:aH c.K J1 ds vs):Walk c (Hv c.K a) ds J1 (λJ' _=>aU J1 J'):=by
 intro i J H hp u
 have h':cH c.K H a vs:=h.elim (λh=>hp.sub.seq (u.seq h)) λh=>hp.ent.seq h
 refine ⟨λhl=>⟨vs,h',by rw [<-hs.length];exact hl⟩,λd hd=>?_⟩
 obtain ⟨v,h1,h2⟩:=hs.get hd
 refine ⟨⟨vs,v,h',h1⟩,λx H2 ⟨e,hy⟩=>?_⟩
 subst e
 have:=hy vs h'
 rw [h1] at this
 cases this
 exact ⟨J,Ext.refl hp.sub,h2.mono u⟩
def fD (lo:Int) (n:Nat):List D:=(R7 n).map λ(k:Nat)=>.int (lo + (k:Int))
theorem De {J1:Hp}{lo:Int}{n:Nat}{Ut:Hp->Hp->Prop}:Walk c (Hw lo n) (fD lo n) J1 Ut:=by
 intro i J H hp u
 refine ⟨λhl=>(show n<=i by simpa [fD] using hl),λd hd=>?_⟩
 have hi:i < n:=by
  have:=(SI.mp hd).1
  simpa [fD] using this
 have hd':d=.int (lo + i):=by
  unfold fD at hd
  rw [Ss,Wc hi] at hd
  exact (Tp hd).symm
 subst hd'
 exact ⟨hi,λx H2 ⟨e,hx⟩=>by subst e hx;exact ⟨J,Ext.refl hp.sub,.int _⟩⟩
noncomputable def cA (gs:G (List R)):G (List D):=λenv=>gs env >>= λrs=>match rs with
 | [.d (.int j)]=>if below 4611686018427387904 j then .ok (fD 0 j.toNat) else .bad
 | _=>.bad
noncomputable def Py (c:C) (g:G (List D)):TI:=λσ H Q=>∃J env,SR c J H σ env/\cJ (g env) (λds=>∀It J1 H1,Ext J H J1 H1->Walk c It ds J1 (λJ' H'=>aU J1 J'/\aU H1 H')->Q It H1) c.T
def o5 (X:Cx) (c:C) (tg RO:SM) (g:G (List D)):Prop:=PI X tg RO (Py c g)
end
section
variable {X:Cx}{c:C}{e a b tg:SM}{es:List SM}{ga gb g:G R}{pos:Pos}
theorem SR.updM {J H:Hp}{σ:L2.St}{env:Ev}(sr:SR c J H σ env){i:Nat}{x y:Mn}{p:Se}{o:HO}(hi:env[i]?=some (some (mS x))) (hs:σ[i]?=some (some (.ref p))) (hJ:J p=none) (h0:c.H0 p=none)
  (h:q9 c J (L2.upd H p o) (mS y) (.ref p)):SR c J (L2.upd H p o) σ (env.set i (some (mS y))):=by
 refine ⟨⟨λb o q=>?_,λb o q=>?_,sr.hp.entJ,sr.hp.frz⟩,by simpa using sr.len,λj y q=>?_,λj k ys zs w hjk q1 q2 q3 q4=>?_⟩
 ·have:b≠p:=λz=>by rw [z,hJ] at q;cases q
  rw [bE this];exact sr.hp.sub b o q
 ·have:b≠p:=λz=>by rw [z,h0] at q;cases q
  rw [bE this];exact sr.hp.ent b o q
 ·rcases fU q with ⟨rfl,hl,rfl⟩ | ⟨hj,q⟩
  ·exact ⟨.ref p,hs,h⟩
  ·obtain ⟨w,k1,k2⟩:=sr.at_ j y q
   refine ⟨w,k1,?_⟩
   have hne:∀(z:Mn) p',y=mS z->w=.ref p'->p'≠p:=λz p' e ew ep=>sr.sep i j x z (.ref p) (UX hj) hi (e▸q) hs (ep▸ew▸k1)
   cases y with
   | d x=>exact k2
   | bor zs=>exact k2
   | db _ _=>exact k2
   | fn _=>exact k2
   | dk ks zs=>
    obtain ⟨p',rfl,⟨us,ws,ep,m1,mr⟩,m2⟩:=k2
    exact ⟨p',rfl,⟨us,ws,ep,by rw [bE (hne (.inr (ks,zs)) p' rfl rfl)];exact m1,mr⟩,m2⟩
   | own zs=>
    obtain ⟨p',us,rfl,m1,m2,m3,m4⟩:=k2
    exact ⟨p',us,rfl,by rw [bE (hne (.inl zs) p' rfl rfl)];exact m1,m2,m3,m4⟩
 ·have f:∀(k:Nat) (ys:Mn),(env.set i (some (mS y)))[k]?=some (some (mS ys))->∃ys',env[k]?=some (some (mS ys')):=λk ys q=>by
   rcases fU q with ⟨rfl,_,_⟩ | ⟨_,q⟩
   ·exact ⟨x,hi⟩
   ·exact ⟨ys,q⟩
  obtain ⟨ys',r1⟩:=f j ys q1
  obtain ⟨zs',r2⟩:=f k zs q2
  exact sr.sep j k ys' zs' w hjk r1 r2 q3 q4
theorem SR.upd {J H:Hp}{σ:L2.St}{env:Ev}(sr:SR c J H σ env){i:Nat}{xs xs':List D}{p:Se}{vs vs':List V}(hi:env[i]?=some (some (.own xs))) (hs:σ[i]?=some (some (.ref p))) (hH:H p=some (.lst vs)) (hJ:J p=none) (h0:c.H0 p=none)
  (h:aH c.K J xs' vs'):SR c J (L2.upd H p (.lst vs')) σ (env.set i (some (.own xs'))):=sr.updM (x:=.inl xs) (y:=.inl xs') hi hs hJ h0 ⟨p,vs',rfl,b8,hJ,h0,h⟩
noncomputable def mq (i:Nat) (g:G R):G O:=λenv=>match env[i]? with
 | some (some (.own xs))=>g env >>= λr=>toD r >>= λd=>if xs.length < sizeLine then .ok (.nx (env.set i (some (.own (xs++[d]))))) else .bad
 | _=>.bad
noncomputable def fV:R->S
 | .d x=>.d x
 | .l _ xs=>.bor xs
 | .mo ks vs=>.db ks vs
 | .mb ks vs=>.db ks vs
 | .mf ks vs=>.db ks vs
noncomputable def ji (K:RV) (J H:Hp):List S->List V->Prop
 | [],vs=>vs=[]
 | s::ss,vs=>∃v us,vs=v::us/\(match s with
  | .d x=>Rep K J x v
  | .bor xs=>∃a ws,v=.ref a/\cH K H a ws/\aH K J xs ws
  | .db ks ws=>∃a,v=.ref a/\dY K J H a ks ws
  | .fn x=>∃f,v=.ref f/\SV K SE x=some (some (.ref f))
  | _=>False)/\ji K J H ss us
theorem ji.length {K:RV}{J H:Hp}:∀{ss:List S}{vs:List V},ji K J H ss vs->vs.length=ss.length
 | [],_,h=>by cases h;rfl
 | _::_,_,⟨_,_,h,_,h2⟩=>by subst h;exact congrArg (· + 1) h2.length
theorem ji.get {K:RV}{J H:Hp}:∀{ss:List S}{vs:List V}{i:Nat}{s:S},ji K J H ss vs->ss[i]?=some s->∃v,vs[i]?=some v/\(match s with
  | .d x=>Rep K J x v
  | .bor xs=>∃a ws,v=.ref a/\cH K H a ws/\aH K J xs ws
  | .db ks ws=>∃a,v=.ref a/\dY K J H a ks ws
  | .fn x=>∃f,v=.ref f/\SV K SE x=some (some (.ref f))
  | _=>False)
 | [],_,_,_,_,e=>by simp at e
 | _::_,_,0,_,⟨v,us,h,h1,h2⟩,e=>by simp at e;subst e;subst h;exact ⟨v,rfl,h1⟩
 | _::_,_,i + 1,s,⟨v,us,h,h1,h2⟩,e=>by
  subst h
  obtain ⟨v,k1,k2⟩:=ji.get (i:=i) (s:=s) h2 (by simpa using e)
  exact ⟨v,by simpa using k1,k2⟩
noncomputable def FR (K:RV) (H J' H':Hp):R->V->Prop
 | .d x,v=>Rep K J' x v
 | .l _ xs,v=>∃a vs,v=.ref a/\H' a=some (.lst vs)/\J' a=none/\H a=none/\aH K J' xs vs
 | .mf ks vs,v=>∃a,v=.ref a/\dY K J' H' a ks vs/\J' a=none/\H a=none
 | _,_=>False
noncomputable def qh (K:RV) (n:Nat) (F:List S->M R):Sp:=λvs H Q _=>∃J as,aU J H/\as.length=n/\ji K J H as vs/\cJ (F as) (λr=>∀v J' H',Ext J H J' H'->FR K H J' H' r v->Q v H') (λ_=>False)
noncomputable def fin:M O->M R
 | .ok (.rt r)=>.ok r
 | .ok (.nx _)=>.ok (.d .non)
 | .exc x=>.exc x
 | _=>.bad
def bh (N:List Str) (as:List S):Ev:=as.map some++Tu (N.length - as.length) none
theorem wc {N:List Str}{as:List S}{i:Nat}{x:S}(h:(bh N as)[i]?=some (some x)):as[i]?=some x:=by
 unfold bh at h
 by_cases hi:i < as.length
 ·rw [UD (by simpa using hi),Ss] at h
  cases q:as[i]? with
  | none=>rw [q] at h;cases h
  | some y=>rw [q] at h;cases h;rfl
 ·rw [TR (by simpa using hi),Wk] at h
  split at h <;> cases h
theorem Hl {N:List Str}{vs:List V}{i:Nat}{v:V}(h:vs[i]?=some v):(L2.start N vs)[i]?=some (some v):=by
 unfold L2.start
 have hi:i < vs.length:=(SI.mp h).1
 rw [UD (by simpa using hi),Ss,h]
 rfl
theorem zK {K:RV}{J H:Hp}{T:Exc->Prop}{N:List Str}{as:List S}{vs:List V}(hs:aU J H) (h:ji K J H as vs):SR ⟨K,H,J,T⟩ J H (L2.start N vs) (bh N as):=by
 have own:∀(i:Nat) (xs:Mn),(bh N as)[i]?≠some (some (mS xs)):=λi xs q=>by
  obtain ⟨v,_,k⟩:=h.get (wc q)
  cases xs <;> exact k
 refine ⟨⟨hs,aU.refl H,aU.refl J,λ_ _ q=>q⟩,?_,λi x q=>?_,λi j xs ys v _ q=>absurd q (own i xs)⟩
 ·unfold bh L2.start
  rw [Sy,Sy,R3,R3,UH,UH,h.length]
 ·obtain ⟨v,k1,k2⟩:=h.get (wc q)
  refine ⟨v,Hl k1,?_⟩
  cases x with
  | d y=>exact k2
  | own y=>exact k2.elim
  | bor y=>exact k2
  | dk _ _=>exact k2.elim
  | db _ _=>exact k2
  | fn _=>exact k2
abbrev HM (P:Sm) (w:SO) (K:RV) (mg:Str->Option RX) (base:TU) (N:List Str) (RP:Str) (sc:U3) (f:Se) (cd:RX) (A:SW) (outer:List Env) (s:RZ) (H:Hp) (E:XK):Cx:=(pg oG P w K mg base N RP sc f cd A outer s H E).nox
theorem D5 {P:Sm}{w:SO}{K:RV}{mg:Str->Option RX}{base:TU}{x RP:Str}{st:Vj}{f:Se}{fd:SH}{N ps:List Str}{k:Nat}{Fm:List S->M R}(F:cG K x RP st f fd) (Sc:bq N ps (ay st)){gB:G O}
  (hb:∀(cdv:RX) (A:SW) (outer:List Env) (s:RZ) (H:Hp) (E:XK) (J:Hp) (T:Exc->Prop),dB k (A.deeper (XQ RP (ay st) s.heap.objs.size f cdv))->
   HD (HM P w K mg base N RP (ay st) f cdv A outer s H E) ⟨K,H,J,T⟩ (aO st) gB)
  (hF:∀as r,as.length=ps.length->Fm as=.ok r->fin (gB (bh N as))=.ok r):fH P w K mg base oG (k + 1) f fd ps (qh K ps.length Fm):=by
 refine F.ok Sc (λvs H Q E h=>?_) (λcdv A outer s H vs Q E hr h=>?_)
 ·obtain ⟨J,as,h1,h2,h3,h4⟩:=h
  rw [h3.length,h2]
 ·obtain ⟨J,as,h1,h2,h3,h4⟩:=h
  refine ⟨_,hb cdv A outer s H E J (λ_=>False) hr,J,bh N as,zK h1 h3,?_⟩
  cases q:Fm as with
  | bad=>rw [q] at h4;exact h4.elim
  | exc x=>rw [q] at h4;exact h4.elim
  | ok r=>
   rw [q] at h4
   have z:=hF as r h2 q
   have ext:∀{J' H':Hp},HI ⟨K,H,J,λ_=>False⟩ J' H'->Ext J H J' H':=λhp=>⟨hp.ent,hp.entJ,hp.sub,hp.frz⟩
   cases qg:gB (bh N as) with
   | bad=>rw [qg] at z;cases z
   | exc x=>rw [qg] at z;cases z
   | ok o=>
    rw [qg] at z
    cases o with
    | bk _=>cases z
    | ct _=>cases z
    | nx env=>cases z;exact λσ' J' H' _ sr=>h4 .non J' H' (ext sr.hp) .non
    | rt r'=>
     cases z
     exact λv J' H' _ hp rf=>h4 v J' H' (ext hp) (by
      cases r with
      | d x=>exact rf
      | l m xs=>exact rf
      | mo _ _=>exact rf
      | mf _ _=>exact rf
      | mb _ _=>exact rf)
noncomputable def mZ:R->R
 | .d x=>.d x
 | .l _ xs=>.l .fresh xs
 | .mo ks vs=>.mo ks vs
 | .mb ks vs=>.mb ks vs
 | .mf ks vs=>.mf ks vs
noncomputable def aS (n:Nat) (F:List S->M R):List R->M R:=λrs=>if rs.length=n then (match F (rs.map fV) with
 | .ok r=>.ok (mZ r)
 | _=>.bad) else .bad
theorem jQ.args {He J H:Hp}(hp:HI c J H):∀{rs:List R}{vs:List V},jQ c He J H rs vs->ji c.K J H (rs.map fV) vs
 | [],_,h=>h
 | r::rs,_,⟨v,us,h,h1,h2⟩=>by
  refine ⟨v,us,h,?_,jQ.args hp h2⟩
  cases r with
  | d x=>exact h1
  | l m xs=>exact RR.list hp h1 rfl
  | mo _ _=>obtain ⟨a,h1,h2,_⟩:=h1;exact ⟨a,h1,h2⟩
  | mb _ _=>obtain ⟨a,h1,h2⟩:=h1;exact ⟨a,h1,h2.mono (aU.refl _) hp.ent⟩
  | mf _ _=>obtain ⟨a,h1,h2,_⟩:=h1;exact ⟨a,h1,h2⟩
theorem Ih {n:Nat}{F:List S->M R}{J H J1 H1:Hp}{Q:VK}{as:List S}{vs:List V}{T:Exc->Prop}(hT:c.K=X.K) (e1:Ext J H J1 H1) (ar:ji c.K J1 H1 as vs) (hl:as.length=n)
  (wr:cJ (match F as with
   | .ok r=>.ok (mZ r)
   | _=>.bad) (λr=>∀v J' H',Ext J H J' H'->RR c H J' H' r v->Q v H') T):qh X.K n F (vs++[]) H1 Q E0:=by
 rw [hT] at ar
 refine ⟨J1,as,e1.sub,hl,by rw [UZ];exact ar,?_⟩
 cases q:F as with
 | bad=>rw [q] at wr;exact wr
 | exc x=>rw [q] at wr;exact wr
 | ok r=>
  rw [q] at wr
  intro v J' H' e2 fr
  refine wr v J' H' (e1.trans e2) ?_
  cases r with
  | d y=>exact (show Rep c.K J' y v from hT▸fr)
  | mo _ _=>exact fr.elim
  | mb _ _=>exact fr.elim
  | mf _ _=>obtain ⟨a,h1,h2,h3,h4⟩:=fr;exact ⟨a,h1,hT▸h2,h3,e1.h.free h4⟩
  | l m ys=>
   obtain ⟨a,us,h1,h2,h3,h4,h5⟩:=fr
   exact ⟨a,us,h1,h2,h3,e1.h.free h4,hT▸h5⟩
theorem yj {n:Nat}{F:List S->M R}{gs:G (List R)}(hT:c.K=X.K):∀σ H Q,tD c (gN (aS n F) gs) σ H Q->Ij (qh X.K n F) [] E0 (tA c gs) σ H Q:=λσ H Q ⟨J,env,sr,w⟩=>by
 refine ⟨J,env,sr,aD (aI w) λrs wr vs J1 H1 e1 r1=>?_⟩
 unfold aS at wr
 split at wr
 ·rename_i hl
  exact Ih hT e1 (r1.args (sr.hp.ext e1)) (by simpa using hl) wr
 ·exact wr.elim
theorem JH {k n:Nat}{f:Se}{fd:SH}{ps:List Str}{F:List S->M R}{x:Str}{p:Pos}{gs:G (List R)}(G:fH X.prog X.w X.K X.mg X.base oG k f fd ps (qh X.K n F)) (hr:dB k X.A) (hm:X.mg x=some (.ref f)) (hk:TM X.K (.ref f)=true)
  (hb:Binds X.K fd ps []) (ha:Dp X c (e::es) gs) (hT:c.K=X.K:=by rfl) (hg:Gl X x:=by rfl) (hdb:(x == ("__debug__":Str))=false:=by decide) (he:R_ (e::es) X.env=(false,eval e X.env)::R_ es X.env:=by rfl)
  (hpl:(Us pos (R_ es X.env)).any (·.1)=false:=by rfl):PD X c (.Call (.Name x p) (e::es) [] pos) (gN (aS n F) gs):=
 fq (uT (E:=E0) G hr hg hm hk hb .nil Cv ha hdb he hpl) (yj hT)
end
noncomputable def bH (cells:List (Str×Se)):List (Str×UC)->List (Str×Se)->Option (List (Str×Se))
 | [],cs=>some cs
 | (n,k)::r,cs=>if k == .free then (match cells.lookup n with
  | some a=>bH cells r ((n,a)::cs)
  | none=>none) else bH cells r cs
theorem l_ {env:Env}:∀(names:List (Str×UC)) (cs cl:List (Str×Se)),bH env.cells names cs=some cl->
  (forIn names cs λ(x:Str×UC) (r:List (Str×Se))=>(if (x.2 == .free)=true then do let a <-cellOf env x.1;pure (U0 ((x.1,a)::r)) else pure (U0 r):Sem (ForInStep (List (Str×Se)))))=(pure cl:Sem (List (Str×Se)))
 | [],cs,cl,h=>by cases h;rfl
 | (n,k)::r,cs,cl,h=>by
  unfold bH at h
  rw [List.forIn_cons]
  cases hk:(k == Tz) with
  | true=>
   rw [hk,if_pos rfl] at h
   cases hc:env.cells.lookup n with
   | none=>rw [hc] at h;cases h
   | some a=>
    rw [hc] at h
    have e:cellOf env n=pure a:=by unfold cellOf;rw [hc]
    simp only [hk,if_true,e]
    exact l_ r ((n,a)::cs) cl h
  | false=>
   rw [hk,if_neg (by decide)] at h
   simp only [hk]
   exact l_ r cs cl h
theorem wR {RK:U3}{env:Env}{cl:List (Str×Se)}(h:bH env.cells RK.names []=some cl):closureFor RK env=pure cl:=by
 have q:=l_ (env:=env) RK.names [] cl h
 unfold closureFor
 show ((forIn RK.names [] λ(x:Str×UC) (r:List (Str×Se))=>(if (x.2 == .free)=true then do let a <-cellOf env x.1;pure (U0 ((x.1,a)::r)) else pure (U0 r):Sem (ForInStep (List (Str×Se))))) >>= λz=>pure z)=pure cl
 rw [q]
 rfl
theorem gx {cells:List (Str×Se)}:∀(names:List (Str×UC)) (cs cl:List (Str×Se)),bH cells names cs=some cl->(∀x c,cs.lookup x=some c->cells.lookup x=some c)->
  (∀x c,cl.lookup x=some c->cells.lookup x=some c)/\(∀x,((cs.lookup x).isSome=true\/(x,Tz)∈names)->(cl.lookup x).isSome=true)
 | [],cs,cl,h,k=>by
  cases h
  exact ⟨k,λx hx=>hx.elim id λz=>by cases z⟩
 | (n,kd)::r,cs,cl,h,k=>by
  unfold bH at h
  cases hk:(kd == Tz) with
  | true=>
   rw [hk,if_pos rfl] at h
   cases hc:cells.lookup n with
   | none=>rw [hc] at h;cases h
   | some a=>
    rw [hc] at h
    obtain ⟨h1,h2⟩:=gx r ((n,a)::cs) cl h (λx c q=>by
     rw [T6] at q
     cases e:x == n with
     | true=>
      rw [e] at q
      cases q
      have:x=n:=by simpa using e
      rw [this];exact hc
     | false=>rw [e] at q;exact k x c q)
    refine ⟨h1,λx hx=>h2 x ?_⟩
    by_cases e:x=n
    ·left;subst e;rw [T6];simp
    ·have e':(x == n)=false:=by simpa using e
     rcases hx with hx | hx
     ·left;rw [T6,e'];exact hx
     ·right
      rcases Sh.mp hx with z | z
      ·cases z;exact absurd rfl e
      ·exact z
  | false=>
   rw [hk,if_neg (by decide)] at h
   obtain ⟨h1,h2⟩:=gx r cs cl h k
   refine ⟨h1,λx hx=>h2 x ?_⟩
   rcases hx with hx | hx
   ·exact .inl hx
   ·rcases Sh.mp hx with z | z
    ·cases z;simp at hk
    ·exact .inr z
section
variable {X:Cx}
def cN (X:Cx) (own:List Str) (cap:List Nat):List Str:=own++cap.map λ(j:Nat)=>(X.N[j]?).getD ("":Str)
noncomputable def Lg (X:Cx) (own:List Str) (cap:List Nat) (RK:U3) (cl:List (Str×Se)) (C:Se) (s:RZ) (H:Hp) (fp:List Se):Cx where
 prog:=X.prog
 w:=X.w
 K:=X.K
 mg:=X.mg
 base:=X.base
 A:=X.A
 N:=cN X own cap
 s₀:=s
 H₀:=H
 env:=compEnvC RK cl C X.env
 outer:=X.stack
 stack:=X.stack
 ex:=fp
 fn:=λ_=>false
 calm:=X.calm
 pn:=[]
 xe:=λ_ _=>False
noncomputable def dM (X:Cx) (cap:List Nat):Bool:=cap.all λj=>match X.N[j]? with
 | some x=>(match X.env.scope.names.lookup x with
  | some .cell=>true
  | some .free=>true
  | _=>false)
 | none=>false
theorem zl {RK:U3}{env:Env}(hc:∀y∈RK.names,y.2≠.cell):∀{x:Str},((relabel RK env).names.lookup x=some .cell\/(relabel RK env).names.lookup x=some .free)->(x,Tz)∈RK.names:=by
 unfold relabel
 have main:∀(names:List (Str×UC)),(∀y∈names,y.2≠.cell)->∀x,((names.map λ(n,k)=>if (k == Tz && env.scope.kind == .function && env.kindOf n == some .cell) then (n,Wo) else (n,k)).lookup x=some .cell\/
   (names.map λ(n,k)=>if (k == Tz && env.scope.kind == .function && env.kindOf n == some .cell) then (n,Wo) else (n,k)).lookup x=some .free)->(x,Tz)∈names:=by
  intro names
  induction names with
  | nil=>intro _ x h;simp at h
  | cons p r ih=>
   obtain ⟨n,k⟩:=p
   intro hc x h
   rw [Sj] at h
   simp only at h
   by_cases hx:x=n
   ·subst hx
    have hk:k≠.cell:=hc (x,k) R1
    have:k=.free:=by
     by_cases q:(k == Tz && env.scope.kind == .function && env.kindOf x == some .cell)=true
     ·rw [R8,R8] at q
      simpa using q.1.1
     ·rw [if_neg q,T6] at h
      simp at h
      rcases h with h | h
      ·exact absurd h hk
      ·exact h
    subst this
    exact R1
   ·have hx':(x == n)=false:=by simpa using hx
    refine R0 _ (ih (λy hy=>hc y (R0 _ hy)) x ?_)
    have red:∀(q:Str×UC) (l:List (Str×UC)),q.1=n->acv x (q::l)=acv x l:=λq l hq=>by
     obtain ⟨q1,q2⟩:=q
     simp only at hq
     subst hq
     rw [T6,hx']
    have hq:(if (k == Tz && env.scope.kind == .function && env.kindOf n == some .cell) then (n,Wo) else (n,k)).1=n:=by split <;> rfl
    rw [red _ _ hq] at h
    exact h
 intro x h
 exact main RK.names hc x h
end
section
variable {X:Cx}{c:C}
noncomputable def gj (X:Cx) (c:C) (ifs:List SM) (g:G Bool):Prop:=
 ∀(RL:List (Se×Obj)) (s:RZ) (σ:L2.St) (H:Hp) (Q:Bool->Hp->Prop),Inv X RL σ H s->tB c g σ H Q->
  So (Su X.prog X.w) X.A (forIn ifs true λc r=>if r=true then do let ok <-Ze c X.env (eval c X.env);pure (U0 ok) else pure (U0 r)) (TP X RL σ Q) X.xe s
def b9:G Bool:=λ_=>.ok true
noncomputable def cR (gt:GT) (gts:G Bool) (ge:G R):List D->Ev->M (List D)
 | [],_=>.ok []
 | d::ds,env=>gt d env >>= λe=>gts e >>= λk=>if k=true then ge e >>= λr=>toD r >>= λy=>cR gt gts ge ds e >>= λys=>.ok (y::ys) else cR gt gts ge ds e
def cE (n:Nat) (cap:List Nat) (env:Ev):Ev:=Tu n none++cap.map λ(j:Nat)=>(env[j]?).getD none
noncomputable def bF (n:Nat) (cap:List Nat) (gi:G (List D)) (gt:GT) (gts:G Bool) (ge:G R):G R:=λenv=>gi env >>= λds=>if ds.length<=sizeLine then cR gt gts ge ds (cE n cap env) >>= λys=>.ok (.l .fresh ys) else .bad
theorem jS {α:Type}{n:Nat}{cap:List Nat}{env:List (Option α)}{i:Nat}{x:α}(h:(Tu n none++cap.map λ(j:Nat)=>(env[j]?).getD none)[i]?=some (some x)):∃j,n<=i/\cap[i - n]?=some j/\env[j]?=some (some x):=by
 by_cases hi:i < n
 ·rw [UD (by simpa using hi),Wk] at h
  split at h <;> cases h
 ·rw [TR (by simpa using hi),UH,Ss] at h
  cases q:cap[i - n]? with
  | none=>rw [q] at h;cases h
  | some j=>
   rw [q] at h
   refine ⟨j,by omega,rfl,?_⟩
   have h':(env[j]?).getD none=some x:=Tp h
   cases z:env[j]? with
   | none=>rw [z] at h';cases h'
   | some o=>rw [z] at h';exact congrArg some h'
theorem Np {α:Type}{n:Nat}{cap:List Nat}{env:List (Option α)}{i j:Nat}{x:α}(h1:n<=i) (h2:cap[i - n]?=some j) (h3:env[j]?=some (some x)):(Tu n none++cap.map λ(j:Nat)=>(env[j]?).getD none)[i]?=some (some x):=by
 rw [TR (by simpa using h1),UH,Ss,h2]
 simp [h3]
theorem SR.cap {J H:Hp}{σ:L2.St}{env:Ev}(sr:SR c J H σ env) (n:Nat) (cap:List Nat) (hnd:cap.Nodup):SR c J H (Tu n none++cap.map λ(j:Nat)=>(σ[j]?).getD none) (cE n cap env):=by
 refine ⟨sr.hp,by simp [cE],λi x q=>?_,λi j xs ys v hij q1 q2 q3 q4=>?_⟩
 ·obtain ⟨j,h1,h2,h3⟩:=jS q
  obtain ⟨v,k1,k2⟩:=sr.at_ j x h3
  exact ⟨v,Np h1 h2 k1,k2⟩
 ·obtain ⟨a,h1,h2,h3⟩:=jS q1
  obtain ⟨b,h4,h5,h6⟩:=jS q2
  obtain ⟨a',h7,h8,h9⟩:=jS q3
  obtain ⟨b',RJ,h11,h12⟩:=jS q4
  rw [h2] at h8;cases h8
  rw [h5] at h11;cases h11
  have hab:a≠b:=λz=>by
   subst z
   have e1:=(SI.mp h2)
   have e2:=(SI.mp h5)
   have:=(Yp hnd).mp (e1.2.trans e2.2.symm)
   omega
  exact sr.sep a b xs ys v hab h3 h6 h9 h12
theorem SR.other {J H:Hp}{σ:L2.St}{env:Ev}(sr:SR c J H σ env){p:Se}{o:HO}(hJ:J p=none) (h0:c.H0 p=none) (hn:∀(j:Nat) (xs:Mn),env[j]?=some (some (mS xs))->σ[j]?≠some (some (.ref p))):SR c J (L2.upd H p o) σ env:=by
 refine ⟨⟨λb u q=>?_,λb u q=>?_,sr.hp.entJ,sr.hp.frz⟩,sr.len,λj y q=>?_,sr.sep⟩
 ·have:b≠p:=λz=>by rw [z,hJ] at q;cases q
  rw [bE this];exact sr.hp.sub b u q
 ·have:b≠p:=λz=>by rw [z,h0] at q;cases q
  rw [bE this];exact sr.hp.ent b u q
 ·obtain ⟨w,k1,k2⟩:=sr.at_ j y q
  refine ⟨w,k1,?_⟩
  cases y with
  | d x=>exact k2
  | bor zs=>exact k2
  | db _ _=>exact k2
  | fn _=>exact k2
  | dk ks zs=>
   obtain ⟨p',rfl,⟨us,ws,ep,m1,mr⟩,m2⟩:=k2
   have hne:p'≠p:=λz=>hn j (.inr (ks,zs)) q (z▸k1)
   exact ⟨p',rfl,⟨us,ws,ep,by rw [bE hne];exact m1,mr⟩,m2⟩
  | own zs=>
   obtain ⟨p',us,rfl,m1,m2,m3,m4⟩:=k2
   have hne:p'≠p:=λz=>hn j (.inl zs) q (z▸k1)
   exact ⟨p',us,rfl,by rw [bE hne];exact m1,m2,m3,m4⟩
theorem Ext.other {J H J' H':Hp}(e:Ext J H J' H'){p:Se}{o:HO}(h:H p=none) (hJ:J' p=none):Ext J H J' (L2.upd H' p o):=
 ⟨λb u q=>by rw [bE (fk q h)];exact e.h b u q,e.j,λb u q=>by
  have:b≠p:=λz=>by rw [z,hJ] at q;cases q
  rw [bE this];exact e.sub b u q,e.frz⟩
theorem Aq {P:Sm}{w:SO}{H:Hp}{h h':TU}{a:Se}(x:fO P w H h) (hn:H a=none) (sb:Tw a h h'):fO P w H h':=λb u e=>by
 refine (x b u e).stay (λd v hd q=>(sb.2 d ?_).trans q) (λ_ q=>q) λ_ _ q=>q
 rintro rfl
 rcases hd with rfl | hd
 ·rw [hn] at e;cases e
 ·rw [hn] at hd;cases hd
theorem Pa {RL:List (Se×Obj)}{σ:L2.St}{H:Hp}{s:RZ}{own:List Str}{cap:List Nat}{RK:U3}{cl:List (Str×Se)}{fp:List Se}{h1:TU}{m:Str->Option RX}{tk:Nat}(I:Inv X RL σ H s) (ok:(Lg X own cap RK cl s.heap.objs.size s H fp).Ok)
  (hcl:bH X.env.cells RK.names []=some cl) (hcell:∀y∈RK.names,y.2≠.cell) (hcap:dM X cap=true) (P5:∀j∈cap,∀x,X.N[j]?=some x->(relabel RK X.env).names.lookup x≠some .local)
  (hns:h1.Ns s.heap.objs.size m) (old:∀b o,s.heap.get? b=some o->h1.get? b=some o):
  Inv (Lg X own cap RK cl s.heap.objs.size s H fp) [] (Tu own.length none++cap.map λ(j:Nat)=>(σ[j]?).getD none) H {s with heap:=h1,toks:=tk}:=by
 obtain ⟨m1,m2⟩:=gx RK.names [] cl hcl (λx c h=>by simp at h)
 refine ⟨ok,rfl,I.bare,Un.kept old,⟨m,hns,λi x v q1 q2 q3=>?_⟩,λx d h=>?_,I.hok.fresh (R6 _),λx d h=>I.freeC x d (m1 x d h),λp hp=>absurd (show p∈([]:List (Se×Obj)) from hp) (by simp),I.hok.kept old,?_⟩
 ·obtain ⟨j,h2,h3,h4⟩:=jS q2
  have q1':(own++cap.map λ(j:Nat)=>(X.N[j]?).getD ("":Str))[i]?=some x:=q1
  rw [TR (by exact h2),Ss,h3] at q1'
  have hj:j∈cap:=TV h3
  have hc:(match X.N[j]? with
   | some x=>(match X.env.scope.names.lookup x with
    | some .cell=>true
    | some .free=>true
    | _=>false)
   | none=>false)=true:=by
   unfold dM at hcap
   exact SQ.mp hcap j hj
  cases hx:X.N[j]? with
  | none=>rw [hx] at hc;cases hc
  | some y=>
   rw [aaG,hx] at q1'
   rw [hx] at hc
   have e:y=x:=by simpa using q1'
   subst e
   have kd:X.env.kindOf y=some .cell\/X.env.kindOf y=some .free:=by
    unfold acM
    simp only at hc
    split at hc
    ·rename_i z;exact .inl z
    ·rename_i z;exact .inr z
    ·cases hc
   obtain ⟨mX,nX,lX⟩:=I.loc
   obtain ⟨u,ru,lu⟩:=lX j y v hx h4 (kd.elim (λz=>.inr (.inl z)) λz=>.inr (.inr z))
   refine ⟨u,ru,.inr ?_⟩
   have kd':(relabel RK X.env).names.lookup y=some .cell\/(relabel RK X.env).names.lookup y=some .free:=by
    rcases q3 with z | z | z
    ·exact absurd z (P5 j hj y hx)
    ·exact .inl z
    ·exact .inr z
   refine ⟨kd',?_⟩
   obtain ⟨d,hd⟩:=TF.mp (m2 y (.inr (zl hcell kd')))
   refine ⟨d,hd,?_⟩
   rcases lu with ⟨z,_⟩ | ⟨_,d',hd',z⟩
   ·rcases kd with k | k <;> (rw [k] at z;cases z)
   ·have:=m1 y d hd
    rw [hd'] at this
    cases this
    obtain ⟨o,ho,hod⟩:=z
    exact ⟨o,old _ _ ho,hod⟩
 ·obtain ⟨v,o,ho,hod⟩:=I.cell x d (m1 x d h)
  exact ⟨v,o,old _ _ ho,hod⟩
 ·show _=(own++cap.map λ(j:Nat)=>(X.N[j]?).getD ("":Str)).length
  simp
noncomputable def dS (X:Cx) (cap:List Nat) (RK:U3):Bool:=cap.all λj=>match X.N[j]? with
 | some x=>!((relabel RK X.env).names.lookup x == some .local)
 | none=>true
noncomputable def fK:List Nat->Bool
 | []=>true
 | x::r=>!(r.contains x) && fK r
theorem Ba:∀{l:List Nat},fK l=true->l.Nodup
 | [],_=>Vg
 | x::r,h=>by
  unfold fK at h
  rw [R8] at h
  refine UG.mpr ⟨λz=>?_,Ba h.2⟩
  have:=h.1
  simp [z] at this
theorem K8 {X:Cx}{RL:List (Se×Obj)}{σ:L2.St}{H:Hp}{s:RZ}(I:L2.Inv X RL σ H s){T:Se}(h:s.heap.objs.size<=T):(T∈X.ex\/X.s₀.heap.objs.size<=T)/\T≠X.env.locals/\(∀x c,X.env.cells.lookup x=some c->c≠T)/\∀p∈X.pn++RL,p.1≠T:=by
 have ne:∀b,b < s.heap.objs.size->b≠T:=λb hb z=>absurd (Sx (z▸hb) h) (UB _)
 refine ⟨.inr (SJ I.sz h),(ne _ I.lt).symm,λx c hc=>?_,λp hp=>ne _ (Si (I.pin p hp).1)⟩
 obtain ⟨v,o,hv,_⟩:=I.cell x c hc
 exact ne _ (Si hv)
theorem pU {X:Cx}{RL:List (Se×Obj)}{σ:L2.St}{H:Hp}{s:RZ}{C:Se}{h':TU}{o0:Obj}(I:L2.Inv X RL σ H s) (ap:(C∈X.ex\/X.s₀.heap.objs.size<=C)/\C≠X.env.locals/\(∀x c,X.env.cells.lookup x=some c->c≠C)/\∀p∈X.pn++RL,p.1≠C) (hf:H C=none) (sb:Tw C s.heap h'):L2.Inv X RL σ H {s with heap:=h'}:=by
 refine I.call' (ch:=[C]) rfl ⟨λb o hb hn _ hx=>?_,λb o hb hn _ hx=>⟨o.slots,?_⟩,λ_ _ _ n _=>n,λb o hb hx=>⟨o,?_⟩,λ_ _ q=>q,λ_ _ _ q=>q,λ_ ps q=>⟨#[],by rw [q];simp⟩⟩ (λa o ha=>?_) I.bare (λb hb=>by rw [R9.mp hb];exact ap)
 ·exact (sb.2 b λz=>hx (by simp [z])).trans hb
 ·exact (sb.2 b λz=>hx (by simp [z])).trans hb
 ·exact (sb.2 b λz=>hx (by simp [z])).trans hb
 ·refine (I.hok a o ha).stay (λb u hb q=>(sb.2 b λz=>?_).trans q) (λ_ q=>q) λ_ _ q=>q
  rcases hb with rfl | hb
  ·rw [z,hf] at ha;cases ha
  ·rw [z,hf] at hb;cases hb
end
mutual
noncomputable def bg:D->D->Bool
 | .non,.non=>true
 | .bl p,.bl q=>p == q
 | .bl p,.int q=>(if p then 1 else 0) == q
 | .int p,.bl q=>p == (if q then 1 else 0)
 | .int p,.int q=>p == q
 | .str p,.str q=>p == q
 | .tup p,.tup q=>cB p q
 | .lst p,.lst q=>cB p q
 | .emp,.emp=>true
 | .exn _ _ _,.exn _ _ _=>true
 | .dct _ _,.dct _ _=>true
 | _,_=>false
noncomputable def cB:List D->List D->Bool
 | [],[]=>true
 | x::xs,y::ys=>bg x y && cB xs ys
 | _,_=>false
end
mutual
theorem gy:∀d:D,bg d d=true
 | .non=>by simp [bg]
 | .bl _=>by simp [bg]
 | .int _=>by simp [bg]
 | .str _=>by simp [bg]
 | .tup xs=>by simp only [bg];exact pq xs
 | .lst xs=>by simp only [bg];exact pq xs
 | .emp=>by simp [bg]
 | .exn _ _ _=>by simp [bg]
 | .dct _ _=>by simp [bg]
theorem pq:∀ds:List D,cB ds ds=true
 | []=>by simp [cB]
 | x::xs=>by simp only [cB,gy x,pq xs,abH]
end
theorem nP:∀{xs ys:List D},xs.length≠ys.length->cB xs ys=false
 | [],[],h=>absurd rfl h
 | [],_::_,_=>by simp [cB]
 | _::_,[],_=>by simp [cB]
 | x::xs,y::ys,h=>by
  simp only [cB,nP (xs:=xs) (ys:=ys) (λz=>h (congrArg (· + 1) z)),VF]
noncomputable def n6 (xs ys:List D) (j:Nat):Bool:=match xs[j]?,ys[j]? with
 | some x,some y=>bg x y
 | _,_=>false
theorem nQ:∀{xs ys:List D},xs.length=ys.length->(R7 xs.length).all (n6 xs ys)=cB xs ys
 | [],[],_=>by simp [cB]
 | x::xs,y::ys,h=>by
  have ih:=nQ (xs:=xs) (ys:=ys) (by simpa using h)
  rw [Tq,Wz,Vy,YM]
  simp only [cB]
  rw [<-ih]
  rfl
theorem yw (xs ys:List D):((R7 (min xs.length ys.length)).all (n6 xs ys) && xs.length == ys.length)=cB xs ys:=by
 by_cases h:xs.length=ys.length
 ·rw [<-h,Nat.min_self,nQ h];simp
 ·rw [nP h,beq_eq_false_iff_ne.mpr h,VF]
section
structure HF (K:RV) (J:Hp) (s:RZ):Prop where
 t:∀a xs,cV K J a xs->∃RM:List RX,Vals xs RM/\s.heap.IsTuple a RM.toArray
 l:∀a xs,cH K J a xs->∃RM:List RX,Vals xs RM/\s.heap.IsList a RM.toArray
 e:∀a,J a=some (.dK [])->∃o,s.heap.get? a=some o/\o.cls=.type "dict"
 d:∀a ep RS,J a=some (kG a ep RS)->∃o es,s.heap.get? a=some o/\o.ExactDict/\o.data=.dict es ep/\XI xQ RS es.toList
variable {K:RV}{J:Hp}{s:RZ}
theorem HF.of {X:Cx}{c:C}{RL:List (Se×Obj)}{σ:L2.St}{H:Hp}(I:Inv X RL σ H s) (hs:aU J H):HF X.K J s:=
 ⟨λa xs h=>let ⟨RM,r,p,_⟩:=I.tuple (fz hs h);⟨RM,r,p⟩,λa xs h=>let ⟨RM,r,p,_⟩:=I.list (hs.seq h);⟨RM,r,p.isList⟩,λa h=>by
  obtain ⟨_,_,vs,_,p⟩:=(show cj X.prog X.w H s.heap a (.dK []) from I.hok a _ (hs _ _ h))
  obtain ⟨o,es,ep,h1,h2,_⟩:=p
  exact ⟨o,h1,h2.1⟩,λa ep RS h=>(show cj X.prog X.w H s.heap a (kG a ep RS) from I.hok a _ (hs _ _ h)).1⟩
theorem El {a:Se}{xs ys:List RX}(h:s.heap.IsTuple a xs.toArray) (h':s.heap.IsTuple a ys.toArray):xs=ys:=by
 obtain ⟨o,ho,_,n,hd⟩:=h
 obtain ⟨o',ho',_,n',hd'⟩:=h'
 rw [ho] at ho';cases ho'
 rw [hd] at hd'
 injection hd' with h1 _
 simpa using congrArg YI h1
theorem Ce {a:Se}{xs ys:List RX}(h:s.heap.IsList a xs.toArray) (h':s.heap.IsList a ys.toArray):xs=ys:=by
 obtain ⟨o,ho,_,n,hd⟩:=h
 obtain ⟨o',ho',_,n',hd'⟩:=h'
 rw [ho] at ho';cases ho'
 rw [hd] at hd'
 injection hd' with h1 _
 simpa using congrArg YI h1
mutual
theorem Rep.inj (F:HF K J s):∀{d e:D}{v:V},Rep K J d v->Rep K J e v->dep d<=1000->dep e<=1000->d=e
 | _,_,_,.emp _,_,h,_=>by unfold dep at h;omega
 | _,_,_,.exn _ _ _ _ _,_,h,_=>by unfold dep at h;omega
 | _,_,_,.dct _ _ _ _ _,_,h,_=>by unfold dep at h;omega
 | _,_,_,.non,.non,_,_=>rfl
 | _,_,_,.bl _,.bl _,_,_=>rfl
 | _,_,_,.int _,.int _,_,_=>rfl
 | _,_,_,.str _,.str _,_,_=>rfl
 | _,_,_,.tup _ _,.emp _,_,h=>by unfold dep at h;omega
 | _,_,_,.lst _ _,.emp _,_,h=>by unfold dep at h;omega
 | _,_,_,.tup _ _,.exn _ _ _ _ _,_,h=>by unfold dep at h;omega
 | _,_,_,.tup _ _,.dct _ _ _ _ _,_,h=>by unfold dep at h;omega
 | _,_,_,.lst _ _,.exn _ _ _ _ _,_,h=>by unfold dep at h;omega
 | _,_,_,.lst _ _,.dct _ _ _ _ _,_,h=>by unfold dep at h;omega
 | _,_,_,.tup h hs,.tup h' hs',k,k'=>by
  obtain ⟨RM,r,p⟩:=F.t _ _ h
  obtain ⟨its',r',p'⟩:=F.t _ _ h'
  have:=El p p'
  subst this
  have:=r.inj r'
  subst this
  rw [aH.inj F hs hs' (by unfold dep at k;omega) (by unfold dep at k';omega)]
 | _,_,_,.lst h hs,.lst h' hs',k,k'=>by
  obtain ⟨RM,r,p⟩:=F.l _ _ h
  obtain ⟨its',r',p'⟩:=F.l _ _ h'
  have:=Ce p p'
  subst this
  have:=r.inj r'
  subst this
  rw [aH.inj F hs hs' (by unfold dep at k;omega) (by unfold dep at k';omega)]
 | _,_,_,.tup h _,.lst h' _,_,_=>by
  obtain ⟨RM,r,p⟩:=F.t _ _ h
  obtain ⟨its',r',p'⟩:=F.l _ _ h'
  exact absurd rfl (Yy p' p)
 | _,_,_,.lst h _,.tup h' _,_,_=>by
  obtain ⟨RM,r,p⟩:=F.l _ _ h
  obtain ⟨its',r',p'⟩:=F.t _ _ h'
  exact absurd rfl (Yy p p')
theorem aH.inj (F:HF K J s):∀{ds es:List D}{vs:List V},aH K J ds vs->aH K J es vs->deps ds<=1000->deps es<=1000->ds=es
 | _,_,_,.nil,.nil,_,_=>rfl
 | _,_,_,.cons h hs,.cons h' hs',k,k'=>by rw [Rep.inj F h h' (by unfold deps at k;omega) (by unfold deps at k';omega),aH.inj F hs hs' (by unfold deps at k;omega) (by unfold deps at k';omega)]
end
theorem jf {A:SW}{a:Se}{RM:Array RX}{v:V}{u:RX}(h:s.heap.IsTuple a RM) (r:RelV v u) (f:sR v=true) (hu:A.units < Uh):UK A s (.ref a) u false/\UK A s u (.ref a) false:=by
 cases v with
 | non=>cases r;exact ⟨.tuple_none h hu,.none_tuple h hu⟩
 | bl b=>cases r;exact ⟨.tuple_bool b h hu,.bool_tuple b h hu⟩
 | int i=>obtain ⟨t,rfl⟩:=r;exact ⟨.tuple_int i t h hu,.int_tuple i t h hu⟩
 | str x=>obtain ⟨t,rfl⟩:=r;exact ⟨.tuple_str x t h hu,.str_tuple x t h hu⟩
 | _=>exact absurd (show false=true from f) SN
theorem jF {A:SW}{a:Se}{RM:Array RX}{v:V}{u:RX}(h:s.heap.IsList a RM) (r:RelV v u) (f:sR v=true) (hu:A.units < Uh):UK A s (.ref a) u false/\UK A s u (.ref a) false:=by
 cases v with
 | non=>cases r;exact ⟨.list_none h hu,.none_list h hu⟩
 | bl b=>cases r;exact ⟨.list_bool b h hu,.bool_list b h hu⟩
 | int i=>obtain ⟨t,rfl⟩:=r;exact ⟨.list_int i t h hu,.int_list i t h hu⟩
 | str x=>obtain ⟨t,rfl⟩:=r;exact ⟨.list_str x t h hu,.str_list x t h hu⟩
 | _=>exact absurd (show false=true from f) SN
noncomputable def pN:D->Bool
 | .tup _=>false
 | .lst _=>false
 | .emp=>false
 | .exn _ _ _=>false
 | .dct _ _=>false
 | _=>true
theorem Rep.flat {d:D}{v:V}(h:Rep K J d v) (f:pN d=true):sR v=true:=by
 cases h <;> first | rfl | cases f
theorem FQ {d e:D}{v w:V}(h:Rep K J d v) (h':Rep K J e w) (f:pN d=true) (f':pN e=true):Lk v w=bg d e:=by
 cases h <;> cases h' <;> first | rfl | cases f | cases f' | simp [Lk,bg]
theorem in1_units (A:SW):A.in1.units=A.units + 1:=rfl
theorem sQ (F:HF K J s){d e:D}{v w:V}{u u':RX}(A:SW) (hd:Rep K J d v) (he:Rep K J e w) (rv:RelV v u) (rw':RelV w u') (f:pN d=true) (hu:A.units < Uh) (hu':dep e<=1000):UK A s u u' (bg d e):=by
 cases q:pN e with
 | true=>rw [<-FQ hd he f q];exact Lj rv rw' (hd.flat f) (he.flat q)
 | false=>
  cases he with
  | tup h' hs'=>
   cases rw'
   obtain ⟨its',r',p'⟩:=F.t _ _ h'
   have:=(jf p' rv (hd.flat f) hu).2
   cases hd <;> first | exact this | cases f
  | lst h' hs'=>
   cases rw'
   obtain ⟨its',r',p'⟩:=F.l _ _ h'
   have:=(jF p' rv (hd.flat f) hu).2
   cases hd <;> first | exact this | cases f
  | emp _=>unfold dep at hu';omega
  | exn _ _ _ _ _=>unfold dep at hu';omega
  | dct _ _ _ _ _=>unfold dep at hu';omega
  | _=>cases q
mutual
theorem mU (F:HF K J s):∀{d e:D}{v w:V}{u u':RX}(A:SW),Rep K J d v->Rep K J e w->RelV v u->RelV w u'->A.units + dep d < Uh->dep d<=1000->dep e<=1000->UK A s u u' (bg d e)
 | .tup ds,e,_,w,u,u',A,.tup h hs,he,rv,rw',hu,hd1,hu'=>by
  cases rv
  obtain ⟨RM,r,p⟩:=F.t _ _ h
  have P0:A.units < Uh:=by unfold dep at hu;omega
  cases he with
  | tup h' hs'=>
   cases rw'
   obtain ⟨its',r',p'⟩:=F.t _ _ h'
   rename_i a vs b ws es
   by_cases q:a=b
   ·subst q
    have:=Rep.inj F (.tup h hs) (.tup h' hs') hd1 hu'
    rw [<-this,gy]
    exact YJ _
   ·have l1:RM.length=ds.length:=by rw [<-r.length,hs.length]
    have l2:its'.length=es.length:=by rw [<-r'.length,hs'.length]
    simp only [bg]
    rw [<-yw,<-l1,<-l2]
    refine ZH q ?_
    have:=Z4 (e:=n6 ds es) p p' P0 λj j1 j2=>by
     have k1:j < ds.length:=by rw [<-l1];simpa using j1
     have k2:j < es.length:=by rw [<-l2];simpa using j2
     have:=mV F A.in1 hs hs' r r' (by rw [in1_units];unfold dep at hu;omega) (by unfold dep at hd1;omega) (by unfold dep at hu';omega) j k1 k2
     have m1:j < RM.length:=by simpa using j1
     have m2:j < its'.length:=by simpa using j2
     simpa [m1,m2] using this
    simpa using this
  | lst h' hs'=>
   cases rw'
   obtain ⟨its',r',p'⟩:=F.l _ _ h'
   exact ab3 p p' P0
  | non=>exact (jf p rw' rfl P0).1
  | bl _=>exact (jf p rw' rfl P0).1
  | int _=>exact (jf p rw' rfl P0).1
  | str _=>exact (jf p rw' rfl P0).1
  | emp _=>unfold dep at hu';omega
  | exn _ _ _ _ _=>unfold dep at hu';omega
  | dct _ _ _ _ _=>unfold dep at hu';omega
 | .lst ds,e,_,w,u,u',A,.lst h hs,he,rv,rw',hu,hd1,hu'=>by
  cases rv
  obtain ⟨RM,r,p⟩:=F.l _ _ h
  have P0:A.units < Uh:=by unfold dep at hu;omega
  cases he with
  | lst h' hs'=>
   cases rw'
   obtain ⟨its',r',p'⟩:=F.l _ _ h'
   rename_i a vs b ws es
   by_cases q:a=b
   ·subst q
    have:=Rep.inj F (.lst h hs) (.lst h' hs') hd1 hu'
    rw [<-this,gy]
    exact YJ _
   ·have l1:RM.length=ds.length:=by rw [<-r.length,hs.length]
    have l2:its'.length=es.length:=by rw [<-r'.length,hs'.length]
    simp only [bg]
    refine ZH q ?_
    by_cases z:ds.length=es.length
    ·rw [<-nQ z,<-l1]
     have:=aar (e:=n6 ds es) p p' (by simp;omega) P0 λj j1 j2=>by
      have k1:j < ds.length:=by rw [<-l1];simpa using j1
      have k2:j < es.length:=by rw [<-l2];simpa using j2
      have:=mV F A.in1 hs hs' r r' (by rw [in1_units];unfold dep at hu;omega) (by unfold dep at hd1;omega) (by unfold dep at hu';omega) j k1 k2
      have m1:j < RM.length:=by simpa using j1
      have m2:j < its'.length:=by simpa using j2
      simpa [m1,m2] using this
     simpa using this
    ·rw [nP z]
     exact abt p p' (by simp;omega) P0
  | tup h' hs'=>
   cases rw'
   obtain ⟨its',r',p'⟩:=F.t _ _ h'
   exact ab4 p p' P0
  | non=>exact (jF p rw' rfl P0).1
  | bl _=>exact (jF p rw' rfl P0).1
  | int _=>exact (jF p rw' rfl P0).1
  | str _=>exact (jF p rw' rfl P0).1
  | emp _=>unfold dep at hu';omega
  | exn _ _ _ _ _=>unfold dep at hu';omega
  | dct _ _ _ _ _=>unfold dep at hu';omega
 | .non,e,v,w,u,u',A,hd,he,rv,rw',hu,_,hu'=>sQ F A hd he rv rw' rfl (by omega) hu'
 | .bl _,e,v,w,u,u',A,hd,he,rv,rw',hu,_,hu'=>sQ F A hd he rv rw' rfl (by omega) hu'
 | .int _,e,v,w,u,u',A,hd,he,rv,rw',hu,_,hu'=>sQ F A hd he rv rw' rfl (by omega) hu'
 | .emp,e,v,w,u,u',A,hd,he,rv,rw',hu,hd1,hu'=>by unfold dep at hd1;omega
 | .exn _ _ _,e,v,w,u,u',A,hd,he,rv,rw',hu,hd1,hu'=>by unfold dep at hd1;omega
 | .dct _ _,e,v,w,u,u',A,hd,he,rv,rw',hu,hd1,hu'=>by unfold dep at hd1;omega
 | .str _,e,v,w,u,u',A,hd,he,rv,rw',hu,_,hu'=>sQ F A hd he rv rw' rfl (by omega) hu'
theorem mV (F:HF K J s):∀{ds es:List D}{vs ws:List V}{us us':List RX}(A:SW),aH K J ds vs->aH K J es ws->Vals vs us->Vals ws us'->A.units + deps ds < Uh->deps ds<=1000->deps es<=1000->
  ∀(j:Nat) (h1:j < ds.length) (h2:j < es.length),UK A s (us.getD j .none) (us'.getD j .none) (n6 ds es j)
 | _,_,_,_,_,_,A,.cons h hs,.cons h' hs',.cons r rs,.cons r' rs',hu,k1,k2,0,_,_=>mU F A h h' r r' (by unfold deps at hu;omega) (by unfold deps at k1;omega) (by unfold deps at k2;omega)
 | _,_,_,_,_,_,A,.cons h hs,.cons h' hs',.cons r rs,.cons r' rs',hu,k1,k2,j + 1,h1,h2=>mV F A hs hs' rs rs' (by unfold deps at hu;omega) (by unfold deps at k1;omega) (by unfold deps at k2;omega) j (by simpa using h1) (by simpa using h2)
end
end
section
variable {K:RV}{J:Hp}{s:RZ}
theorem EX (F:HF K J s){d e:D}{v w:V}{u u':RX}(A:SW) (hd:Rep K J d v) (he:Rep K J e w) (rv:RelV v u) (rw':RelV w u') (hu:A.units + dep d < Uh) (hd1:dep d<=1000) (hu':dep e<=1000):SeqAt.RcAt A s u u' (bg d e)/\SeqAt.RcNeAt A s u u' (!bg d e):=by
 have P0:A.units < Uh:=by omega
 cases hd with
 | non=>
  cases rv
  cases he with
  | non=>cases rw';exact ⟨.none_none,.none_none⟩
  | bl b=>cases rw';exact ⟨.none_bool b,.none_bool b⟩
  | int i=>obtain ⟨t,rfl⟩:=rw';exact ⟨.none_int i t,.none_int i t⟩
  | str x=>obtain ⟨t,rfl⟩:=rw';exact ⟨.none_str x t,.none_str x t⟩
  | tup h hs=>cases rw';obtain ⟨RM,r,p⟩:=F.t _ _ h;exact ⟨.none_tuple p P0,.none_tuple p P0⟩
  | lst h hs=>cases rw';obtain ⟨RM,r,p⟩:=F.l _ _ h;exact ⟨.none_list p P0,.none_list p P0⟩
  | emp _=>unfold dep at hu';omega
  | exn _ _ _ _ _=>unfold dep at hu';omega
  | dct _ _ _ _ _=>unfold dep at hu';omega
 | bl a=>
  cases rv
  cases he with
  | non=>cases rw';exact ⟨.bool_none a,.bool_none a⟩
  | bl b=>cases rw';exact ⟨.bool_bool a b,.bool_bool a b⟩
  | int i=>obtain ⟨t,rfl⟩:=rw';exact ⟨.bool_int a i t,.bool_int a i t⟩
  | str x=>obtain ⟨t,rfl⟩:=rw';exact ⟨.bool_str a x t,.bool_str a x t⟩
  | tup h hs=>cases rw';obtain ⟨RM,r,p⟩:=F.t _ _ h;exact ⟨.bool_tuple a p P0,.bool_tuple a p P0⟩
  | lst h hs=>cases rw';obtain ⟨RM,r,p⟩:=F.l _ _ h;exact ⟨.bool_list a p P0,.bool_list a p P0⟩
  | emp _=>unfold dep at hu';omega
  | exn _ _ _ _ _=>unfold dep at hu';omega
  | dct _ _ _ _ _=>unfold dep at hu';omega
 | int a=>
  obtain ⟨t0,rfl⟩:=rv
  cases he with
  | non=>cases rw';exact ⟨.int_none a t0,.int_none a t0⟩
  | bl b=>cases rw';exact ⟨.int_bool a t0 b,.int_bool a t0 b⟩
  | int i=>obtain ⟨t,rfl⟩:=rw';exact ⟨.int_int a t0 i t,.int_int a t0 i t⟩
  | str x=>obtain ⟨t,rfl⟩:=rw';exact ⟨.int_str a t0 x t,.int_str a t0 x t⟩
  | tup h hs=>cases rw';obtain ⟨RM,r,p⟩:=F.t _ _ h;exact ⟨.int_tuple a t0 p P0,.int_tuple a t0 p P0⟩
  | lst h hs=>cases rw';obtain ⟨RM,r,p⟩:=F.l _ _ h;exact ⟨.int_list a t0 p P0,.int_list a t0 p P0⟩
  | emp _=>unfold dep at hu';omega
  | exn _ _ _ _ _=>unfold dep at hu';omega
  | dct _ _ _ _ _=>unfold dep at hu';omega
 | str a=>
  obtain ⟨t0,rfl⟩:=rv
  cases he with
  | non=>cases rw';exact ⟨.str_none a t0,.str_none a t0⟩
  | bl b=>cases rw';exact ⟨.str_bool a t0 b,.str_bool a t0 b⟩
  | int i=>obtain ⟨t,rfl⟩:=rw';exact ⟨.str_int a t0 i t,.str_int a t0 i t⟩
  | str x=>obtain ⟨t,rfl⟩:=rw';exact ⟨.str_str a t0 x t,.str_str a t0 x t⟩
  | tup h hs=>cases rw';obtain ⟨RM,r,p⟩:=F.t _ _ h;exact ⟨.str_tuple a t0 p P0,.str_tuple a t0 p P0⟩
  | lst h hs=>cases rw';obtain ⟨RM,r,p⟩:=F.l _ _ h;exact ⟨.str_list a t0 p P0,.str_list a t0 p P0⟩
  | emp _=>unfold dep at hu';omega
  | exn _ _ _ _ _=>unfold dep at hu';omega
  | dct _ _ _ _ _=>unfold dep at hu';omega
 | tup h hs=>
  cases rv
  obtain ⟨RM,r,p⟩:=F.t _ _ h
  cases he with
  | non=>cases rw';exact ⟨.tuple_none p P0,.tuple_none p P0⟩
  | bl b=>cases rw';exact ⟨.tuple_bool b p P0,.tuple_bool b p P0⟩
  | int i=>obtain ⟨t,rfl⟩:=rw';exact ⟨.tuple_int i t p P0,.tuple_int i t p P0⟩
  | str x=>obtain ⟨t,rfl⟩:=rw';exact ⟨.tuple_str x t p P0,.tuple_str x t p P0⟩
  | lst h' hs'=>cases rw';obtain ⟨its',r',p'⟩:=F.l _ _ h';exact ⟨.tuple_list p p' P0,.tuple_list p p' P0⟩
  | emp _=>unfold dep at hu';omega
  | exn _ _ _ _ _=>unfold dep at hu';omega
  | dct _ _ _ _ _=>unfold dep at hu';omega
  | tup h' hs'=>
   cases rw'
   obtain ⟨its',r',p'⟩:=F.t _ _ h'
   rename_i a vs ds b ws es
   have l1:RM.length=ds.length:=by rw [<-r.length,hs.length]
   have l2:its'.length=es.length:=by rw [<-r'.length,hs'.length]
   have it:∀(j:Nat) (j1:j < RM.toArray.size) (j2:j < its'.toArray.size),UK A.in1 s RM.toArray[j] its'.toArray[j] (n6 ds es j):=λj j1 j2=>by
    have k1:j < ds.length:=by rw [<-l1];simpa using j1
    have k2:j < es.length:=by rw [<-l2];simpa using j2
    have:=mV F A.in1 hs hs' r r' (by rw [in1_units];unfold dep at hu;omega) (by unfold dep at hd1;omega) (by unfold dep at hu';omega) j k1 k2
    have m1:j < RM.length:=by simpa using j1
    have m2:j < its'.length:=by simpa using j2
    simpa [m1,m2] using this
   simp only [bg]
   rw [<-yw,<-l1,<-l2]
   have q1:=Z4 p p' P0 it
   have q2:=acw p p' P0 it
   exact ⟨by simpa using q1,by simpa using q2⟩
 | emp _=>unfold dep at hd1;omega
 | exn _ _ _ _ _=>unfold dep at hd1;omega
 | dct _ _ _ _ _=>unfold dep at hd1;omega
 | lst h hs=>
  cases rv
  obtain ⟨RM,r,p⟩:=F.l _ _ h
  cases he with
  | non=>cases rw';exact ⟨.list_none p P0,.list_none p P0⟩
  | bl b=>cases rw';exact ⟨.list_bool b p P0,.list_bool b p P0⟩
  | int i=>obtain ⟨t,rfl⟩:=rw';exact ⟨.list_int i t p P0,.list_int i t p P0⟩
  | str x=>obtain ⟨t,rfl⟩:=rw';exact ⟨.list_str x t p P0,.list_str x t p P0⟩
  | tup h' hs'=>cases rw';obtain ⟨its',r',p'⟩:=F.t _ _ h';exact ⟨.list_tuple p p' P0,.list_tuple p p' P0⟩
  | emp _=>unfold dep at hu';omega
  | exn _ _ _ _ _=>unfold dep at hu';omega
  | dct _ _ _ _ _=>unfold dep at hu';omega
  | lst h' hs'=>
   cases rw'
   obtain ⟨its',r',p'⟩:=F.l _ _ h'
   rename_i a vs ds b ws es
   have l1:RM.length=ds.length:=by rw [<-r.length,hs.length]
   have l2:its'.length=es.length:=by rw [<-r'.length,hs'.length]
   have it:∀(j:Nat) (j1:j < RM.toArray.size) (j2:j < its'.toArray.size),UK A.in1 s RM.toArray[j] its'.toArray[j] (n6 ds es j):=λj j1 j2=>by
    have k1:j < ds.length:=by rw [<-l1];simpa using j1
    have k2:j < es.length:=by rw [<-l2];simpa using j2
    have:=mV F A.in1 hs hs' r r' (by rw [in1_units];unfold dep at hu;omega) (by unfold dep at hd1;omega) (by unfold dep at hu';omega) j k1 k2
    have m1:j < RM.length:=by simpa using j1
    have m2:j < its'.length:=by simpa using j2
    simpa [m1,m2] using this
   simp only [bg]
   by_cases z:ds.length=es.length
   ·rw [<-nQ z,<-l1]
    have q1:=aar p p' (by simp;omega) P0 it
    have q2:=acH p p' (by simp;omega) P0 it
    exact ⟨by simpa using q1,by simpa using q2⟩
   ·rw [nP z]
    exact ⟨.lists_lengths p p' (by simp;omega) P0,.lists_lengths p p' (by simp;omega) P0⟩
end
section
variable {X:Cx}{c:C}{e a b tg:SM}{es:List SM}{ga gb g:G R}{pos:Pos}
theorem RR.rep {He J H:Hp}(hp:HI c J H):∀{r:R}{v:V}{d:D},RR c He J H r v->(∀xs,r=.l .fresh xs\/r=.l .own xs\/r=.l .bor xs->d=.lst xs)->(∀x,r=.d x->d=x)->(∀ks vs,r≠.mo ks vs/\r≠.mb ks vs/\r≠.mf ks vs)->Rep c.K H d v
 | .mo _ _,_,_,_,_,_,n=>((n _ _).1 rfl).elim
 | .mb _ _,_,_,_,_,_,n=>((n _ _).2.1 rfl).elim
 | .mf _ _,_,_,_,_,_,n=>((n _ _).2.2 rfl).elim
 | .d x,v,d,h,_,k,_=>by rw [k x rfl];exact Rep.mono hp.sub h
 | .l m xs,v,d,h,k,_,_=>by
  have e:d=.lst xs:=k xs (by cases m;exact .inl rfl;exact .inr (.inl rfl);exact .inr (.inr rfl))
  obtain ⟨a,vs,rfl,h1,h2⟩:=RR.list hp h rfl
  rw [e]
  exact .lst h1 (h2.mono hp.sub)
noncomputable def R.dat:R->D
 | .d x=>x
 | .l _ xs=>.lst xs
 | .mo ks vs=>.dct ks vs
 | .mb ks vs=>.dct ks vs
 | .mf ks vs=>.dct ks vs
theorem RR.dat {He J H:Hp}(hp:HI c J H){r:R}{v:V}(h:RR c He J H r v):Rep c.K H r.dat v:=by
 by_cases hm:∃ks vs,r=.mo ks vs
 ·obtain ⟨ks,vs,rfl⟩:=hm;obtain ⟨a,rfl,h,_⟩:=h;exact h.rep hp.sub
 by_cases hb:∃ks vs,r=.mb ks vs
 ·obtain ⟨ks,vs,rfl⟩:=hb;obtain ⟨a,rfl,h⟩:=h;exact (h.mono (aU.refl _) hp.ent).rep hp.sub
 by_cases hf:∃ks vs,r=.mf ks vs
 ·obtain ⟨ks,vs,rfl⟩:=hf;obtain ⟨a,rfl,h,_⟩:=h;exact h.rep hp.sub
 refine h.rep hp (λxs q=>?_) (λx q=>by rw [q];rfl) λks vs=>⟨λz=>hm ⟨_,_,z⟩,λz=>hb ⟨_,_,z⟩,λz=>hf ⟨_,_,z⟩⟩
 rcases q with q | q | q <;> (rw [q];rfl)
def G1 (K:RV) (neg:Bool):R2:=λx y H Q=>∃d e,Rep K H d x/\Rep K H e y/\dep d<=60/\dep e<=60/\Q (.bl (if neg then !bg d e else bg d e)) H
theorem iK {RL:List (Se×Obj)}{σ:L2.St}{H:Hp}{s:RZ}(I:Inv X RL σ H s):HF X.K H s:=HF.of (c:=⟨X.K,H,H,λ_=>True⟩) I (aU.refl H)
theorem Ez (hu:X.A.units + 64 < Uh):dw X (Ug .Eq) (G1 X.K false):=by
 intro RL s σ H x y v u Q I rx ry h
 obtain ⟨d,e,h1,h2,h3,h4,q⟩:=h
 exact (EX (iK I) X.A h1 h2 rx ry (by omega) (by omega) (by omega)).1 X.prog X.w X.xe _ ⟨.bl _,H,I,rfl,q⟩
theorem L4 (hu:X.A.units + 64 < Uh):dw X (Ug .NotEq) (G1 X.K true):=by
 intro RL s σ H x y v u Q I rx ry h
 obtain ⟨d,e,h1,h2,h3,h4,q⟩:=h
 exact (EX (iK I) X.A h1 h2 rx ry (by omega) (by omega) (by omega)).2 X.prog X.w X.xe _ ⟨.bl _,H,I,rfl,q⟩
def eU (neg:Bool) (x y:R):M R:=if dep x.dat<=60/\dep y.dat<=60 then .ok (.d (.bl (if neg then !bg x.dat y.dat else bg x.dat y.dat))) else .bad
theorem BU (neg:Bool) (hK:X.K=c.K):BD c (G1 X.K neg) (eU neg):=by
 intro He He' J H x y u v Q hp rx ry w
 unfold eU at w
 split at w
 ·rename_i hd
  exact ⟨x.dat,y.dat,by rw [hK];exact rx.dat hp,by rw [hK];exact ry.dat hp,hd.1,hd.2,w _ J H (Ext.refl hp.sub) (.bl _)⟩
 ·exact w.elim
def inD (d:D) (xs:List D):Bool:=xs.any λx=>bg x d
noncomputable def MD (K:RV) (neg:Bool):R2:=λx y H Q=>∃d p vs ds,Rep K H d x/\dep d<=60/\y=.ref p/\(cH K H p vs\/cV K H p vs)/\aH K H ds vs/\deps ds<=60/\Q (.bl (if neg then !inD d ds else inD d ds)) H
theorem vV {K:RV}{H:Hp}{y:RX}:∀{ds:List D}{vs:List V}{us:List RX},aH K H ds vs->Vals vs us->deps ds<=60->y∈us->∃d' v',Rep K H d' v'/\RelV v' y/\dep d'<=60
 | _,_,_,.nil,.nil,_,hy=>nomatch hy
 | _,_,_,.cons r hs,.cons q rs,hd,hy=>by
  unfold deps at hd
  rcases Sh.mp hy with rfl | hy
  ·exact ⟨_,_,r,q,by omega⟩
  ·exact vV hs rs (by omega) hy
open Classical in
noncomputable def BR (K:RV) (H:Hp) (d:D) (y:RX):Bool:=decide (∃d' v',Rep K H d' v'/\RelV v' y/\dep d'<=1000/\bg d' d=true)
theorem AN {K:RV}{H:Hp}{s:RZ}(F:HF K H s){d d':D}{v':V}{y:RX}(r':Rep K H d' v') (q':RelV v' y) (hd:dep d'<=1000):BR K H d y=bg d' d:=by
 classical
 unfold BR
 cases z:bg d' d with
 | true=>exact decide_eq_true ⟨d',v',r',q',hd,z⟩
 | false=>
  refine decide_eq_false ?_
  rintro ⟨d2,v2,r2,q2,hd2,z2⟩
  have:v2=v':=q2.inj q'
  subst this
  rw [Rep.inj F r2 r' hd2 hd] at z2
  rw [z] at z2
  cases z2
theorem x_ {K:RV}{H:Hp}{s:RZ}(F:HF K H s){d:D}:∀{ds:List D}{vs:List V}{us:List RX},aH K H ds vs->Vals vs us->deps ds<=1000->us.any (BR K H d)=inD d ds
 | _,_,_,.nil,.nil,_=>rfl
 | _,_,_,.cons r hs,.cons q rs,hd=>by
  unfold deps at hd
  unfold inD
  rw [W8,W8,x_ F hs rs (by omega),AN F r q (by omega)]
  rfl
theorem Dt {A:SW}{s:RZ}{K:RV}{H:Hp}(F:HF K H s){d:D}{x:V}{u:RX}(h:Rep K H d x) (rx:RelV x u) (Qj:dep d<=60) (hA:A.units + 60 < Uh){ds:List D}{vs:List V}{us:List RX}(hs:aH K H ds vs) (rs:Vals vs us) (hd:deps ds<=60):
  ∃e:RX->Bool,(∀y∈us,UK A s y u (e y))/\us.any e=inD d ds:=by
 refine ⟨BR K H d,λy hy=>?_,x_ F hs rs (by omega)⟩
 obtain ⟨d',v',r',q',hd'⟩:=vV hs rs hd hy
 rw [AN F r' q' (by omega)]
 exact mU F A r' h q' rx (by omega) (by omega) (by omega)
theorem EA (hu:X.A.units + 64 < Uh):dw X (Ug .In) (MD X.K false):=by
 intro RL s σ H x y v u Q I rx ry h
 obtain ⟨d,p,vs,ds,h1,Qj,rfl,h2,h3,h4,q⟩:=h
 cases ry
 have F:=iK I
 rcases h2 with h2 | h2
 ·obtain ⟨RM,r,pl⟩:=F.l _ _ h2
  obtain ⟨e,he,hany⟩:=Dt (A:=X.A.in1) F h1 rx Qj (by rw [in1_units];omega) h3 r h4
  exact SeqAt.in_listAt e pl (λz hz=>he z (by simpa using hz)) ⟨.bl _,H,I,rfl,by rw [show RM.toArray.any e=RM.any e by simp,hany];exact q⟩
 ·obtain ⟨RM,r,pl⟩:=F.t _ _ h2
  obtain ⟨e,he,hany⟩:=Dt (A:=X.A.in1) F h1 rx Qj (by rw [in1_units];omega) h3 r h4
  exact SeqAt.in_tupleAt e pl (λz hz=>he z (by simpa using hz)) ⟨.bl _,H,I,rfl,by rw [show RM.toArray.any e=RM.any e by simp,hany];exact q⟩
noncomputable def iI (neg:Bool) (x y:R):M R:=g8 y >>= λys=>if deps ys<=60/\dep x.dat<=60 then .ok (.d (.bl (if neg then !inD x.dat ys else inD x.dat ys))) else .bad
theorem HJ (neg:Bool) (hK:X.K=c.K):BD c (MD X.K neg) (iI neg):=by
 intro He He' J H x y u v Q hp rx ry w
 obtain ⟨ys,q,w⟩:=nF w
 obtain ⟨p,vs,rfl,h1,h2⟩:=qv hp ry q
 split at w
 ·rename_i hd
  exact ⟨x.dat,p,vs,ys,by rw [hK];exact rx.dat hp,hd.2,rfl,by rw [hK];exact h1,by rw [hK];exact h2.mono hp.sub,hd.1,w _ J H (Ext.refl hp.sub) (.bl _)⟩
 ·exact w.elim
abbrev GO:=G (Option Int)
def tO (c:C) (g:GO):TO:=λσ H Q=>∃J env,SR c J H σ env/\cJ (g env) (λo=>∀J' H',Ext J H J' H'->Q o H') c.T
def K0 (X:Cx) (c:C) (e:Option SM) (g:GO):Prop:=PO X e (tO c g)
theorem Ic {X:Cx}{e:Option SM}{t t':TO}(h:PO X e t) (k:∀σ H Q,t' σ H Q->t σ H Q):PO X e t':=λRL s σ H Q I q=>h RL s σ H Q I (k σ H Q q)
def D_:GO:=λ_=>.ok none
noncomputable def Ea (g:G R):GO:=λenv=>g env >>= λr=>match r with
 | .d (.int i)=>.ok (some i)
 | _=>.bad
def cutD (xs:List D) (lo hi:Option Int):List D:=(xs.drop (HT.bN xs.length 0 lo)).take (HT.bN xs.length xs.length hi - HT.bN xs.length 0 lo)
theorem aH.cut {K:RV}{J:Hp}{xs:List D}{vs:List V}(h:aH K J xs vs) (lo hi:Option Int):aH K J (cutD xs lo hi) (mh vs lo hi):=by
 unfold cutD mh
 rw [h.length]
 exact (h.drop _).take _
def AY (f:R->Option Int->Option Int->M R) (g:G R) (lo hi:GO):G R:=λenv=>g env >>= λx=>lo env >>= λl=>hi env >>= λu=>f x l u
theorem NJ {r:V->Option Int->Option Int->Hp->VK->Prop}{f:R->Option Int->Option Int->M R}{lo hi:Option SM}{gl gh:GO}{p2:Pos}(hr:sC X r) (hf:∀(He J H:Hp) (x:R) (v:V) (l u:Option Int) (Q:VK),HI c J H->RR c He J H x v->
   cJ (f x l u) (λz=>∀w J' H',Ext J H J' H'->RR c H J' H' z w->Q w H') c.T->r v l u H Q) (h:PD X c e g) (hl:K0 X c lo gl) (hh:K0 X c hi gh):PD X c (.Subscript e (.Slice lo hi none p2) pos) (AY f g gl gh):=
 fq (GR hr h hl hh) λσ H Q ⟨J,env,sr,w⟩=>by
  refine ⟨J,env,sr,aD (aI w) λx wx v J1 H1 e1 r1=>?_⟩
  refine ⟨J1,env,sr.ext e1,aD (aI wx) λl wl J2 H2 e2=>?_⟩
  refine ⟨J2,env,(sr.ext e1).ext e2,aD (aI wl) λu wu J3 H3 e3=>?_⟩
  have ee:=(e1.trans e2).trans e3
  exact hf H J3 H3 x v l u Q (sr.hp.ext ee) ((r1.ext e2).ext e3) (aD wu λz q w J' H' e4 r4=>q w J' H' (ee.trans e4) (RR.from ee.h r4))
def OD (x:R) (l u:Option Int):M R:=jC x >>= λxs=>.ok (.l .fresh (cutD xs l u))
theorem CU {ss:List Str}:∀{us:List RX},Vals (ss.map V.str) us->StrsAre us ss:=by
 induction ss with
 | nil=>intro us h;cases h;exact .nil
 | cons x r ih=>
  intro us h
  cases h with
  | cons q rs=>
   obtain ⟨t,rfl⟩:=q
   exact .cons x t (ih rs)
theorem wD:∀{us:List RX}{ss:List Str},StrsAre us ss->Vals (ss.map V.str) us
 | _,_,.nil=>.nil
 | _,_,.cons y t h=>.cons ⟨t,rfl⟩ (wD h)
def jE (x y:Str):Bool:=decide (x.cps.toList<=y.cps.toList)
def qE (ss:List Str):List Str:=ss.mergeSort jE
theorem vK (x y z:Str) (h1:jE x y=true) (h2:jE y z=true):jE x z=true:=by
 unfold jE at *
 exact decide_eq_true (List.le_trans (of_decide_eq_true h1) (of_decide_eq_true h2))
theorem Ep (x y:Str):(jE x y || jE y x)=true:=by
 unfold jE
 rw [Vq]
 rcases List.le_total x.cps.toList y.cps.toList with h | h
 ·exact .inl (decide_eq_true h)
 ·exact .inr (decide_eq_true h)
theorem Gp {x y:Str}(h1:jE x y=true) (h2:jE y x=true):x=y:=by
 unfold jE at *
 have:=aas (of_decide_eq_true h1) (of_decide_eq_true h2)
 obtain ⟨⟨cx⟩⟩:=x
 obtain ⟨⟨cy⟩⟩:=y
 simp only at this
 rw [this]
theorem zF (ss:List Str):(qE ss).Pairwise λx y=>jE x y=true:=List.pairwise_mergeSort vK Ep ss
theorem CT (ss:List Str):(qE ss).Perm ss:=List.mergeSort_perm ss jE
theorem t6:∀(x:Str) (r:List Str),risingS x r=true->(x::r).Pairwise λx y=>jE x y=true
 | x,[],_=>by simp
 | x,y::r,h=>by
  unfold risingS at h
  rw [R8] at h
  have hy:=t6 y r h.2
  have hxy:jE x y=true:=by
   have h1:=h.1
   rw [ltCps_eq] at h1
   unfold jE
   refine decide_eq_true ?_
   have:¬y.cps.toList < x.cps.toList:=by simpa using h1
   exact this
  refine Uk.mpr ⟨λz hz=>?_,hy⟩
  rcases Sh.mp hz with rfl | hz
  ·exact hxy
  ·exact vK x y z hxy ((Uk.mp hy).1 z hz)
theorem CS {ss ss':List Str}(hp:ss'.Perm ss) (hs:sortedS ss'=true):ss'=qE ss:=by
 have pw:ss'.Pairwise λx y=>jE x y=true:=by
  cases ss' with
  | nil=>exact UW
  | cons x r=>exact t6 x r hs
 exact (hp.trans (CT ss).symm).eq_of_pairwise (λx y _ _ h1 h2=>Gp h1 h2) pw (zF ss)
theorem yo:bT X (.builtin "sorted") (λxs H Q=>∃p ss,xs=[.ref p]/\cH X.K H p (ss.map V.str)/\ss.length < 64/\∀ss',ss'.Perm ss->sortedS ss'=true->∀l,H l=none->Q (.ref l) (upd H l (.lst (ss'.map V.str)))):=by
 intro RL s σ H xs us Q I r h
 obtain ⟨p,ss,rfl,hq,hl,q⟩:=h
 obtain ⟨u,rfl,rx⟩:=vals1 r
 cases rx
 obtain ⟨RM,r',pl,hz⟩:=I.list hq
 have hlen:=r'.length
 refine sorted_strs pl.isList (CU r') (by rw [<-hlen,R3];exact hl) λout ss' a1 a2 a3=>?_
 obtain ⟨n,hn⟩:=aaj s.heap RM out
 have kp:∀b o,s.heap.get? b=some o->(ZI s.heap RM out).get? b=some o:=λb o e=>ZJ e
 have fr:H (s.heap.objs.size + 1)=none:=I.hok.fresh (Uj _)
 have ll:(ss'.map V.str).length=(ss.map V.str).length:=by rw [R3,R3,a2.length_eq]
 refine ⟨.ref (s.heap.objs.size + 1),_,I.laid (t':=s.toks) kp (Uj _) (show cj X.prog X.w _ _ _ (.lst (ss'.map V.str)) from ⟨by rw [ll];exact hz,out.toList,n,wD a1,by simpa [Uu] using hn⟩),rfl,q ss' a2 a3 _ fr⟩
noncomputable def strsOf:List D->Option (List Str)
 | []=>some []
 | .str x::r=>(strsOf r).map (x::·)
 | _::_=>none
theorem uc {K:RV}{J:Hp}:∀{ds:List D}{vs:List V}{ss:List Str},strsOf ds=some ss->aH K J ds vs->vs=ss.map V.str
 | [],_,_,h,.nil=>by cases h;rfl
 | .str x::r,_,ss,h,.cons q rs=>by
  unfold strsOf at h
  cases z:strsOf r with
  | none=>rw [z] at h;cases h
  | some ss'=>
   rw [z] at h
   cases h
   cases q
   rw [uc z rs]
   rfl
theorem vY {K:RV}{J:Hp}:∀(ss:List Str),aH K J (ss.map D.str) (ss.map V.str)
 | []=>.nil
 | x::r=>.cons (.str x) (vY r)
noncomputable def mY:List R->M R
 | [r]=>jC r >>= λxs=>match strsOf xs with
  | some ss=>if ss.length < 64 then .ok (.l .fresh ((qE ss).map .str)) else .bad
  | none=>.bad
 | _=>.bad
theorem iY:Tj "sorted"=some (.builtin "sorted"):=by decide +kernel
theorem foldl_size (c:Array Nat):∀(k:Nat) (acc:Array Nat),((Tu k c).foldl (·++·) acc).size=acc.size + k * c.size
 | 0,acc=>by simp
 | k + 1,acc=>by
  rw [Vz,VL,foldl_size c k,Z5,Nat.succ_mul]
  omega
def iC (x:Str) (n:Nat):Str:=⟨(Tu n x.cps).foldl (·++·) #[]⟩
theorem Ao (x:Str) (n:Nat):(iC x n).length=n * x.length:=by
 unfold iC abn
 simp only
 rw [foldl_size]
 simp
theorem JD:dw X (VS .Mult) (λx y H Q=>∃z n,x=.str z/\y=.int n/\0<=n/\n<=1000/\z.length<=1000/\Q (.str (iC z n.toNat)) H):=by
 intro RL s σ H x y v u Q I rx ry h
 obtain ⟨z,n,rfl,rfl,h0,h1,h2,q⟩:=h
 obtain ⟨t,rfl⟩:=rx
 obtain ⟨t',rfl⟩:=ry
 have hz:Zn (z.length * n.toNat)=false:=by
  have:z.length * n.toNat<=1000 * 1000:=WJ h2 (by omega)
  unfold Zn
  exact decide_eq_false (by have:=S4;omega)
 refine PySem.P.mul_str (by
  rw [decide_eq_false (by omega:¬n < -(2 ^ 63:Int)),decide_eq_false (by omega:¬n ≥ 2 ^ 63)];rfl) (λhn _=>?_) (λ_ _=>hz) ?_
 ·have:(2 ^ 63 - 1:Int) / 1000<=(2 ^ 63 - 1) / n:=by
   refine (Int.le_ediv_iff_mul_le (by omega)).mpr ?_
   have:(2 ^ 63 - 1:Int) / 1000 * n<=(2 ^ 63 - 1:Int) / 1000 * 1000:=Int.mul_le_mul_of_nonneg_left h1 (by decide)
   exact Int.le_trans this (by decide)
  have e:(2 ^ 63 - 1:Int) / 1000=9223372036854775:=by decide
  omega
 ·split
  ·rename_i hn
   have e:n=0:=by omega
   subst e
   exact ⟨by decide,.str _,H,I.tok _,⟨_,rfl⟩,q⟩
  ·split
   ·rename_i hn hc
    have e:iC z n.toNat=z:=by
     unfold iC
     rw [Vq] at hc
     rcases hc with hc | hc
     ·have e:n=1:=by simpa using hc
      subst e
      simp
     ·have e:z.length=0:=by simpa using hc
      have e2:z.cps=#[]:=by
       unfold abn at e
       exact Array.eq_empty_of_size_eq_zero e
      obtain ⟨cz⟩:=z
      simp only at e2
      subst e2
      congr 1
      generalize n.toNat=k
      induction k with
      | zero=>rfl
      | succ k ih=>rw [Vz,VL];exact ih
    rw [e] at q
    exact ⟨.str z,H,I,⟨_,rfl⟩,q⟩
   ·exact ⟨by
     have:=Ao z n.toNat
     unfold iC at this
     rw [this,Nat.mul_comm]
     have:z.length * n.toNat<=1000 * 1000:=WJ h2 (by omega)
     rw [S4]
     omega,.str _,H,I.tok _,⟨_,rfl⟩,q⟩
noncomputable def B9:R->R->M R
 | .d (.str z),.d (.int n)=>if 0<=n/\n<=1000/\z.length<=1000 then .ok (.d (.str (iC z n.toNat))) else .bad
 | _,_=>.bad
noncomputable def lq:D->String
 | .non=>"NoneType"
 | .bl _=>"bool"
 | .int _=>"int"
 | .str _=>"str"
 | .tup _=>"tuple"
 | .lst _=>"list"
 | .emp=>"dict"
 | .exn _ _ _=>"exc"
 | .dct _ _=>"dict"
def qm (t T:String):Bool:=t == T || (t == "bool" && T == "int")
noncomputable def Ek:R->Bool
 | .d (.int _)=>true
 | _=>false
noncomputable def Lx:R->Bool
 | .d (.str _)=>true
 | _=>false
def cU (x y:R):M R:=if Ek x then yy x y else if Lx x then sM x y else sN x y
def gA (x y:R):M R:=if Ek x then uH x y else B9 x y
noncomputable def bA (x y:R):M R:=match x,y with
 | .d (.str z),.d (.int i)=>if z.length<=sizeLine then (match lJ z.cps.toList i with
  | some k=>.ok (.d (.str ⟨#[k]⟩))
  | none=>.bad) else .bad
 | x,.d (.int i)=>g8 x >>= λxs=>(match lJ xs i with
  | some d=>.ok (.d d)
  | none=>.bad)
 | _,_=>.bad
noncomputable def bJ (P:Sm) (w:SO) (K:RV) (mg:Str->Option RX) (base:TU) (k n:Nat) (x:Str) (Fm:List S->M R):Prop:=
 ∃f fd ps,fH P w K mg base oG k f fd ps (qh K n Fm)/\mg x=some (.ref f)/\TM K (.ref f)=true/\Binds K fd ps []
theorem Lc {P:Sm}{w:SO}{K:RV}{mg:Str->Option RX}{base:TU}{x RP:Str}{st:Vj}{f:Se}{fd:SH}{N ps:List Str}{k:Nat}{Fm:List S->M R}(F:cG K x RP st f fd) (hm:mg x=some (.ref f)) (Sc:bq N ps (ay st))
  (hbi:∀(kV doc pm:RX) (an:Option Se) (cdv ct:RX) (us:List RX),us.length=ps.length->Y3 (Sb x RP (aT st) (aO st) (ay st) .none kV doc pm an cdv ct) ⟨us,[]⟩=pure (ps.zip us)){gB:G O}
  (hb:∀(cdv:RX) (A:SW) (outer:List Env) (s:RZ) (H:Hp) (E:XK) (J:Hp) (T:Exc->Prop),dB k (A.deeper (XQ RP (ay st) s.heap.objs.size f cdv))->
   HD (HM P w K mg base N RP (ay st) f cdv A outer s H E) ⟨K,H,J,T⟩ (aO st) gB)
  (hF:∀as r,as.length=ps.length->Fm as=.ok r->fin (gB (bh N as))=.ok r):bJ P w K mg base (k + 1) ps.length x Fm:=
 ⟨f,fd,ps,D5 F Sc hb hF,hm,F.kp,F.binds hbi⟩
noncomputable def Gz:List Str->Bool
 | []=>true
 | x::r=>!(r.contains x) && Gz r
theorem bL:∀{l:List Str},Gz l=true->l.Nodup
 | [],_=>Vg
 | x::r,h=>by
  unfold Gz at h
  rw [R8] at h
  refine UG.mpr ⟨λz=>?_,bL h.2⟩
  have:=h.1
  simp [z] at this
theorem FT {X:Cx}{RL:List (Se×Obj)}{σ:L2.St}{H:Hp}{s:RZ}{a C:Se}{dx:Option Se}{ns:List Str}{vs:List V}(I:L2.Inv X RL σ H s) (h:H a=some (DX.XO a C dx)) (xf:XF H dx ns vs):∃ox od,V4 s.heap a ox C od/\od.isSome=dx.isSome/\(∀d,dx=some d->∃o,od=some o/\s.heap.get? d=some o):=by
 obtain ⟨⟨oe,fs,h1,h2,h3,h4⟩,_⟩:=I.hok a _ h
 have hn:aa8 oe=true:=by unfold aa8;rw [h4]
 rcases xf with ⟨rfl,_⟩ | ⟨d,rfl,_,hd⟩
 ·exact ⟨oe,none,⟨h1,h2,hn,by rw [h3];exact Y5⟩,rfl,λd z=>by cases z⟩
 ·obtain ⟨m,⟨o,es,ep,k1,_⟩,_⟩:=I.hok d _ hd
  exact ⟨oe,some o,⟨h1,h2,hn,by rw [h3];exact k1⟩,rfl,λd' z=>by cases z;exact ⟨o,rfl,k1⟩⟩
noncomputable def Di (T:String):Prop:=(∀(K:RV) (t:String),t∈["NoneType","bool","int","str","tuple","list","dict"]->Zf K (.type t) (.type T)=some (qm t T))/\aaF T=true/\DX.zS.contains (.type T)=false/\qm "exc" T=false
theorem Jq:Di "int":=⟨λK t h=>by
 simp only [Sh,Tf,or_false] at h
 rcases h with rfl | rfl | rfl | rfl | rfl | rfl | rfl <;> rfl,by decide +kernel,by decide,by decide⟩
theorem Gi:Di "bool":=⟨λK t h=>by
 simp only [Sh,Tf,or_false] at h
 rcases h with rfl | rfl | rfl | rfl | rfl | rfl | rfl <;> rfl,by decide +kernel,by decide,by decide⟩
theorem kit_tuple:Di "tuple":=⟨λK t h=>by
 simp only [Sh,Tf,or_false] at h
 rcases h with rfl | rfl | rfl | rfl | rfl | rfl | rfl <;> rfl,by decide +kernel,by decide,by decide⟩
theorem Ag {T:String}(kit:Di T):
  bT X (.builtin "isinstance") (λxs H Q=>∃d x,xs=[x,.ty T]/\Rep X.K H d x/\Q (.bl (qm (lq d) T)) H):=by
 intro RL s σ H xs us Q I r h
 obtain ⟨d,x,rfl,hd,q⟩:=h
 obtain ⟨u,w',rfl,rx,ry⟩:=vals2 r
 cases ry
 have fin:∀tk,EP X RL σ Q (.bool (qm (lq d) T)) {s with toks:=tk}:=λtk=>⟨.bl _,H,I.tok tk,rfl,q⟩
 have F:=iK I
 cases hd with
 | non=>cases rx;exact UI W.kitx_none I.kIn Y5 (kit.1 X.K _ (by simp [lq])) (λz=>nomatch z) fin
 | bl y=>cases rx;exact UI W.kitx_bool I.kIn Y5 (kit.1 X.K _ (by simp [lq])) (λz=>nomatch z) fin
 | int i=>obtain ⟨t,rfl⟩:=rx;exact UI W.kitx_int I.kIn Y5 (kit.1 X.K _ (by simp [lq])) (λz=>nomatch z) fin
 | str y=>obtain ⟨t,rfl⟩:=rx;exact UI W.kitx_str I.kIn Y5 (kit.1 X.K _ (by simp [lq])) (λz=>nomatch z) fin
 | tup h hs=>
  cases rx
  obtain ⟨RM,r,o,h1,h2,_⟩:=F.t _ _ h
  exact UI W.kitx_tuple I.kIn ⟨o,h1,h2⟩ (kit.1 X.K _ (by simp [lq])) (λz=>nomatch z) fin
 | lst h hs=>
  cases rx
  obtain ⟨RM,r,o,h1,h2,_⟩:=F.l _ _ h
  exact UI W.kitx_list I.kIn ⟨o,h1,h2⟩ (kit.1 X.K _ (by simp [lq])) (λz=>nomatch z) fin
 | emp h=>
  cases rx
  obtain ⟨o,h1,h2⟩:=F.e _ h
  exact UI Z6 I.kIn ⟨o,h1,h2⟩ (kit.1 X.K _ (by simp [lq])) (λz=>nomatch z) fin
 | dct h _ _ _ _=>
  cases rx
  obtain ⟨o,es,h1,h2,_⟩:=F.d _ _ _ h
  exact UI Z6 I.kIn ⟨o,h1,h2.1⟩ (kit.1 X.K _ (by simp [lq])) (λz=>nomatch z) fin
 | exn h1 h2 h3 hs hx=>
  cases rx
  obtain ⟨P,G,E⟩:=hx
  obtain ⟨ox,od,J,_⟩:=FT I h1 h3
  simp only [lq,kit.2.2.2] at fin
  exact UI (DX.Gj G E) I.kIn ⟨ox,od,J⟩ (DX.LN E kit.2.1 kit.2.2.1) (λz=>nomatch z) fin
def D9 (T:String) (g:G R):G R:=λenv=>g env >>= λr=>.ok (.d (.bl (qm (lq r.dat) T)))
noncomputable def jw:List D->Option (List Bool)
 | []=>some []
 | .bl k::r=>(jw r).map (k::·)
 | _::_=>none
theorem o9 {K:RV}{J:Hp}:∀{ds:List D}{vs:List V}{ks:List Bool},jw ds=some ks->aH K J ds vs->vs=ks.map V.bl
 | [],_,_,h,.nil=>by cases h;rfl
 | .bl x::r,_,ks,h,.cons q rs=>by
  unfold jw at h
  cases z:jw r with
  | none=>rw [z] at h;cases h
  | some ks'=>
   rw [z] at h
   cases h
   cases q
   rw [o9 z rs]
   rfl
theorem rY:∀{ks:List Bool}{us:List RX},Vals (ks.map V.bl) us->us=ks.map Vm
 | [],_,.nil=>rfl
 | k::ks,_,.cons r rs=>by
  cases r
  rw [rY rs]
  rfl
theorem all_range (ks:List Bool):(R7 ks.length).all (λi=>ks.getD i true)=ks.all id:=by
 induction ks with
 | nil=>rfl
 | cons k r ih=>
  rw [Tq,Wz,Vy,YM,Vy]
  simp only [Zo]
  rw [<-ih]
  rfl
theorem DE (hc:X.calm=true):bT X (.builtin "all") (λxs H Q=>∃(p:Se) (ks:List Bool),xs=[.ref p]/\cH X.K H p (ks.map V.bl)/\Q (.bl (ks.all id)) H):=by
 intro RL s σ H xs us Q I r h
 obtain ⟨p,ks,rfl,hq,q⟩:=h
 obtain ⟨u,rfl,rx⟩:=vals1 r
 cases rx
 obtain ⟨RM,r',pl,hz⟩:=I.list hq
 have hi:=rY r'
 subst hi
 have Q9:p≠s.heap.objs.size:=by
  obtain ⟨o,h1,_⟩:=pl.isList
  exact Sv (Si h1)
 refine call_all_walk (XR pl.isList ⟨s.heap.objs.size,_,_,_,_,_,(λi=>ks.getD i true),rfl,acN (A:=X.A.in1) (show X.A.in1.handled=none from I.ok.hd hc) s.heap.objs.size p Q9 (ks.map Vm).toArray,⟨⟨_,Sd _ rfl,rfl,rfl⟩,aat pl.isList _⟩,?_,λh' tk k=>?_⟩)
 ·intro i v s' Q' E' hP hQ
  have e:∃k,ks[i]?=some k/\v=.bool k:=by
   have hP':(ks.map Vm)[i]?=some v:=by simpa using hP
   rw [Ss] at hP'
   cases z:ks[i]? with
   | none=>rw [z] at hP';cases hP'
   | some k=>rw [z] at hP';cases hP';exact ⟨k,rfl,rfl⟩
  obtain ⟨k,e1,rfl⟩:=e
  simp only at hQ
  rw [S9,e1] at hQ
  exact Tt hQ
 ·have sz:(ks.map Vm).toArray.size=ks.length:=by simp
  rw [sz,all_range]
  refine ⟨.bl (ks.all id),H,?_,rfl,q⟩
  refine I.kept λb o e=>k b o (λz=>?_) (R5 _ e)
  have:b=s.heap.objs.size:=by simpa using z
  exact absurd (this▸Si e) (UB _)
noncomputable def rE:List R->M R
 | [r]=>jC r >>= λxs=>match jw xs with
  | some ks=>.ok (.d (.bl (ks.all id)))
  | none=>.bad
 | _=>.bad
theorem Dz:Tj "all"=some (.builtin "all"):=by decide +kernel
noncomputable def PN (neg:Bool):R->R->M R
 | .d (.str i),.d (.str j)=>.ok (.d (.bl (if neg then !(!(Yh j i 0 j.length 1).isEmpty) else !(Yh j i 0 j.length 1).isEmpty)))
 | _,_=>.bad
noncomputable def PY (p q:Int->Int->Bool) (ga gb gc:G R):G R:=λenv=>ga env >>= λx=>gb env >>= λy=>match x,y with
 | .d (.int i),.d (.int j)=>if p i j then (gc env >>= λz=>match z with
  | .d (.int k)=>.ok (.d (.bl (q j k)))
  | _=>.bad) else .ok (.d (.bl false))
 | _,_=>.bad
noncomputable def B7:List R->M R
 | [.d (.int i),.d (.int j)]=>.ok (.d (.int (if j > i then j else i)))
 | _=>.bad
noncomputable def B8:List R->M R
 | [.d (.int i),.d (.int j)]=>.ok (.d (.int (if j < i then j else i)))
 | _=>.bad
theorem JI {d:D}{v:V}{x:Str}{u:RX}(hm:X.mg x=some u) (r:RelV v u) (hr:∀J,Rep c.K J d v) (hg:Gl X x:=by rfl) (hd:(x == ("__debug__":Str))=false:=by decide):PD X c (.Name x pos) (gC d):=tQ hr (Bd hg hm r hd)
theorem K_ {RL:List (Se×Obj)}{σ:L2.St}{H:Hp}{s:RZ}(I:Inv X RL σ H s):VE < s.heap.objs.size:=by
 have h:SE < s.heap.objs.size:=(I.mod.glob.keeps I.bk).lt
 exact VM (by decide) h
theorem Ey:dw X (VS .Add) (λx y H Q=>∃a b xs ys,x=.ref a/\y=.ref b/\cV X.K H a xs/\cV X.K H b ys/\xs.length + ys.length<=sizeLine/\
  (xs=[]->Q (.ref b) H)/\(ys=[]->Q (.ref a) H)/\∀p,H p=none->Q (.ref p) (upd H p (.tup (xs++ys)))):=by
 intro RL s σ H x y v u Q I rx ry h
 obtain ⟨a,b,xs,ys,rfl,rfl,ha,hb,hz,q0,q1,q2⟩:=h
 by_cases hx:xs=[]
 ·cases rx
  cases ry
  obtain ⟨RM,r1,p1,_⟩:=I.tuple ha
  obtain ⟨its2,r2,p2,_⟩:=I.tuple hb
  have he:RM=[]:=r1.nil_iff.mpr hx
  subst he
  obtain ⟨⟨cls,dd,data,sl⟩,ho,hc,n,hd⟩:=id p1
  obtain ⟨⟨cls2,dd2,data2,sl2⟩,ho2,hc2,n2,hd2⟩:=id p2
  simp only at hc hd hc2 hd2
  subst hc hd hc2 hd2
  exact aai ⟨_,ho,rfl⟩ ⟨_,ho2,rfl⟩ Yq Zy Ww Wl (Wf _ _) (tuple_addW0 a b _ _ n n2 dd dd2 sl sl2 rfl) ⟨ho,ho2,⟨.ref b,H,I,rfl,q0 hx⟩⟩
 ·exact JB RL s σ H (.ref a) (.ref b) v u Q I rx ry ⟨a,b,xs,ys,rfl,rfl,ha,hb,hx,hz,q1,λ_=>q2⟩
noncomputable def B5:R->R->M R
 | .d (.tup xs),.d (.tup ys)=>if xs.length + ys.length<=sizeLine then .ok (.d (.tup (xs++ys))) else .bad
 | _,_=>.bad
theorem IF (hK:X.K=c.K):BD c (λx y H Q=>∃a b xs ys,x=.ref a/\y=.ref b/\cV X.K H a xs/\cV X.K H b ys/\xs.length + ys.length<=sizeLine/\
  (xs=[]->Q (.ref b) H)/\(ys=[]->Q (.ref a) H)/\∀p,H p=none->Q (.ref p) (upd H p (.tup (xs++ys)))) B5:=by
 intro He He' J H x y u v Q hp rx ry w
 unfold B5 at w
 split at w
 ·rename_i ds es
  cases rx with
  | tup h1 s1=>
   cases ry with
   | tup h2 s2=>
    split at w
    ·rename_i hz
     rw [s1.length,s2.length] at hz
     refine ⟨_,_,_,_,rfl,rfl,by rw [hK];exact fz hp.sub h1,by rw [hK];exact fz hp.sub h2,hz,λe=>?_,λe=>?_,λp hp'=>w _ _ _ (Ext.newJ hp.sub hp' _) (p7 hp hp' (s1.append s2))⟩
     ·have e':ds=[]:=WU (by rw [s1.length,e];rfl)
      subst e'
      exact w _ J H (Ext.refl hp.sub) (.tup h2 s2)
     ·have e':es=[]:=WU (by rw [s2.length,e];rfl)
      subst e'
      rw [UZ] at w
      exact w _ J H (Ext.refl hp.sub) (.tup h1 s1)
    ·exact w.elim
 ·exact w.elim
noncomputable def Ly:R->Bool
 | .d (.tup _)=>true
 | _=>false
def dW (x y:R):M R:=if Ly x then B5 x y else cU x y
noncomputable def intsOf:List D->Option (List Int)
 | []=>some []
 | .int i::r=>(intsOf r).map (i::·)
 | _::_=>none
theorem nV {K:RV}{J:Hp}:∀{ds:List D}{vs:List V}{ns:List Int},intsOf ds=some ns->aH K J ds vs->vs=ns.map V.int
 | [],_,_,h,.nil=>by cases h;rfl
 | .int x::r,_,ks,h,.cons q rs=>by
  unfold intsOf at h
  cases z:intsOf r with
  | none=>rw [z] at h;cases h
  | some ks'=>
   rw [z] at h
   cases h
   cases q
   rw [nV z rs]
   rfl
def signs (x:Str):List D:=x.cps.toList.map λk=>.str ⟨#[k]⟩
noncomputable def PR (g:G R):G (List D):=λenv=>g env >>= λr=>match r with
 | .d (.str x)=>.ok (signs x)
 | _=>.bad
theorem Aw {prog:Sm}{w:SO}{A:SW}{E:RX->RZ->Prop}{s:RZ}{t sl:Se}{items:Array RX}{vl vu:RX}{lo hi:Option Int}{Q:RX->RZ->Prop}(ht:abX s.heap t items) (hs:s.heap.IsSliceOf sl vl vu .none) (pl:Zz vl lo) (pu:Zz vu hi)
  (hw:HT.bN items.size 0 lo=0/\HT.bN items.size items.size hi=items.size) (h:Q (.ref t) s):So (Su prog w) A (ZY (.ref t) (.ref sl)) Q E s:=by
 obtain ⟨os,hos,hcs,hds⟩:=id hs
 have QO:s.TypeIs (.ref sl) "slice":=⟨os,hos,hcs⟩
 unfold ZY
 try with_reducible refine SD ?_
 first | refine RU (RY ?_) | skip
 refine RU (ZZ ht.typeIs (by decide) ?_)
 refine RU (Ui (name:=WN "__getitem__") ht.typeIs Th
  (S6 Th ht.typeIs Zl ?_ (ZC _ _)))
 show So _ _ (VZ (.ref t) >>= _) _ _ s
 refine RU (abC ht ?_)
 refine RU (WO QO ?_)
 rw [if_pos (by decide)]
 refine RU (HT.kX hs pl pu ?_)
 have hyes:(((HT.bN items.size 0 lo:Nat):Int) == 0 && (1:Int) == 1 && (HT.bN items.size items.size hi - HT.bN items.size 0 lo) == items.size)=true:=by
  rw [hw.1,hw.2]
  simp
 show So _ _ (if (((HT.bN items.size 0 lo:Nat):Int) == 0 && (1:Int) == 1 && (HT.bN items.size items.size hi - HT.bN items.size 0 lo) == items.size)=true then _ else _) _ _ s
 rw [if_pos hyes]
 unfold aa3
 refine RU (RU (WO ht.typeIs (RY ?_)))
 rw [if_pos (by decide)]
 exact RU (XS (RY ⟨_,rfl,RY h⟩))
theorem E4:sC X (λx lo hi H Q=>∃a xs,x=.ref a/\cV X.K H a xs/\((HT.bN xs.length 0 lo=0/\HT.bN xs.length xs.length hi=xs.length)->Q (.ref a) H)/\∀p,H p=none->Q (.ref p) (upd H p (.tup (mh xs lo hi)))):=by
 intro RL s σ H x v vl vu lo hi sl Q I rx hs pl pu h
 obtain ⟨a,xs,rfl,hx,q0,q1⟩:=h
 by_cases hw:HT.bN xs.length 0 lo=0/\HT.bN xs.length xs.length hi=xs.length
 ·cases rx
  obtain ⟨RM,r,ht,hz⟩:=I.tuple hx
  have hlen:RM.toArray.size=xs.length:=by rw [Sf];exact r.length.symm
  exact ⟨"tuple",_,Th.lookup,ht.typeIs,Aw ht hs pl pu (by rw [hlen];exact hw) ⟨.ref a,H,I,rfl,q0 hw⟩⟩
 ·exact MU RL s σ H (.ref a) v vl vu lo hi sl Q I rx hs pl pu ⟨a,xs,rfl,hx,hw,q1⟩
theorem B3 {xs:List D}{lo hi:Option Int}(h:HT.bN xs.length 0 lo=0/\HT.bN xs.length xs.length hi=xs.length):cutD xs lo hi=xs:=by
 unfold cutD
 rw [h.1,h.2]
 simp
noncomputable def FU:R->Option Int->Option Int->M R
 | .d (.tup xs),l,u=>.ok (.d (.tup (cutD xs l u)))
 | _,_,_=>.bad
theorem OZ (hK:X.K=c.K) (He J H:Hp) (x:R) (v:V) (l u:Option Int) (Q:VK) (hp:HI c J H) (rx:RR c He J H x v) (w:cJ (FU x l u) (λz=>∀w J' H',Ext J H J' H'->RR c H J' H' z w->Q w H') c.T):
  ∃a xs,v=.ref a/\cV X.K H a xs/\((HT.bN xs.length 0 l=0/\HT.bN xs.length xs.length u=xs.length)->Q (.ref a) H)/\∀p,H p=none->Q (.ref p) (upd H p (.tup (mh xs l u))):=by
 unfold FU at w
 split at w
 ·rename_i ds
  cases rx with
  | tup h1 s1=>
   refine ⟨_,_,rfl,by rw [hK];exact fz hp.sub h1,λhw=>?_,λp hp'=>w _ _ _ (Ext.newJ hp.sub hp' _) (p7 hp hp' (s1.cut _ _))⟩
   rw [<-s1.length] at hw
   rw [B3 hw] at w
   exact w _ J H (Ext.refl hp.sub) (.tup h1 s1)
 ·exact w.elim
def uI (x:R) (l u:Option Int):M R:=if Ly x then FU x l u else OD x l u
def xj (K:RV) (mg:Str->Option RX) (x:Str) (d:D):Prop:=∃u v,mg x=some u/\RelV v u/\∀J,Rep K J d v
theorem DB:Tj "int"=some (.type "int"):=by decide +kernel
theorem BX:Tj "bool"=some (.type "bool"):=by decide +kernel
theorem Ac:Tj "tuple"=some (.type "tuple"):=by decide +kernel
end
section
variable {X:Cx}{c:C}{e a b tg:SM}{es:List SM}{ga gb g:G R}{pos:Pos}{st:Vj}{t u:G O}{tb:G Bool}
def sV:G O:=λ_=>.bad
noncomputable def yG (g:G R):G R:=λenv=>g env >>= λr=>match r with
 | .d (.int i)=>.ok (.d (.int (-i)))
 | _=>.bad
noncomputable def zP:R->M Bool
 | .d .non=>.ok false
 | .d (.bl b)=>.ok b
 | .d (.int i)=>.ok (i != 0)
 | .d (.str y)=>if y.length<=sizeLine then .ok ((y.length:Int) != 0) else .bad
 | .d (.tup xs)=>.ok (!xs.isEmpty)
 | .d (.lst xs)=>.ok (!xs.isEmpty)
 | .d .emp=>.ok false
 | .d (.exn _ _ _)=>.bad
 | .d (.dct _ _)=>.bad
 | .l _ xs=>.ok (!xs.isEmpty)
 | _=>.bad
theorem Lw {K:RV}{J:Hp}{ds:List D}{vs:List V}(h:aH K J ds vs):ds.isEmpty=vs.isEmpty:=by
 cases h <;> rfl
theorem KA {He J H:Hp}(hp:HI c J H){Q:Bool->Prop}{T:Exc->Prop}:∀{r:R}{v:V},RR c He J H r v->cJ (zP r) Q T->∃k,Fw c.K v H k/\Q k
 | .d .non,_,h,w=>by cases h;exact ⟨_,rfl,w⟩
 | .d (.bl b),_,h,w=>by cases h;exact ⟨_,rfl,w⟩
 | .d (.int i),_,h,w=>by cases h;exact ⟨_,rfl,w⟩
 | .d (.str y),_,h,w=>by
  cases h
  unfold zP at w
  simp only at w
  split at w
  ·rename_i hz;exact ⟨_,⟨hz,rfl⟩,w⟩
  ·exact w.elim
 | .d (.tup xs),_,h,w=>by
  cases h with
  | tup h1 h2=>exact ⟨_,.inr (.inl ⟨_,fz hp.sub h1,rfl⟩),by rw [<-Lw h2];exact w⟩
 | .d (.lst xs),_,h,w=>by
  cases h with
  | lst h1 h2=>exact ⟨_,.inl ⟨_,hp.sub.seq h1,rfl⟩,by rw [<-Lw h2];exact w⟩
 | .d .emp,_,h,w=>by
  cases h with
  | emp h1=>exact ⟨_,.inr (.inr ⟨_,hp.sub _ _ h1,rfl⟩),w⟩
 | .d (.exn _ _ _),_,_,w=>w.elim
 | .d (.dct _ _),_,_,w=>w.elim
 | .mo _ _,_,_,w=>w.elim
 | .mb _ _,_,_,w=>w.elim
 | .mf _ _,_,_,w=>w.elim
 | .l m xs,_,h,w=>by
  obtain ⟨a,vs,rfl,h1,h2⟩:=RR.list hp h rfl
  exact ⟨_,.inl ⟨_,h1,rfl⟩,by rw [<-Lw h2];exact w⟩
def mw (g:G R):G Bool:=λenv=>g env >>= zP
noncomputable def lC (tb:G Bool) (u:G O):Nat->Ev->M O
 | 0,_=>.bad
 | n + 1,env=>tb env >>= λk=>if k=true then u env >>= λo=>(match o with
  | .nx e=>lC tb u n e
  | .ct e=>lC tb u n e
  | .bk e=>.ok (.nx e)
  | .rt r=>.ok (.rt r)) else .ok (.nx env)
def yI (n:Nat) (tb:G Bool) (u:G O):G O:=λenv=>lC tb u n env
theorem aH.eraseIdx {K:RV}{J:Hp}:∀{ds:List D}{vs:List V}(k:Nat),aH K J ds vs->aH K J (ds.eraseIdx k) (vs.eraseIdx k)
 | _,_,_,.nil=>by rw [Z7,Z7];exact .nil
 | _,_,0,.cons _ t=>t
 | _,_,k + 1,.cons r t=>.cons r (aH.eraseIdx k t)
noncomputable def PV (i j:Nat):G O:=λenv=>match env[j]? with
 | some (some (.own xs))=>(match xs[xs.length - 1]? with
  | some d=>.ok (.nx ((env.set j (some (.own xs.dropLast))).set i (some (.d d))))
  | none=>.bad)
 | _=>.bad
noncomputable def m9 (i j:Nat) (g:G R):G O:=λenv=>match env[i]?,env[j]? with
 | some (some (.own zs)),some (some (.own xs))=>if i=j then .bad else g env >>= λr=>(match r with
  | .d (.int k)=>if 0<=k/\k.toNat < xs.length/\zs.length < sizeLine/\xs.length<=sizeLine then (match xs[k.toNat]? with
   | some d=>.ok (.nx ((env.set j (some (.own (xs.eraseIdx k.toNat)))).set i (some (.own (zs++[d])))))
   | none=>.bad) else .bad
  | _=>.bad)
 | _,_=>.bad
theorem NY {k:Int}{n:Nat}(h0:0<=k) (h:k.toNat < n):ZD k n=some k.toNat:=by
 unfold ZD
 have h1:¬k < 0:=by omega
 have h2:k < n:=by omega
 simp [h1,h0,h2]
theorem L_ {J H:Hp}{σ:L2.St}{env:Ev}(sr:SR c J H σ env){i j:Nat}{xs ys:List D}{p q:Se}(hij:i≠j) (hi:env[i]?=some (some (.own xs))) (hj:env[j]?=some (some (.own ys))) (h1:σ[i]?=some (some (.ref p))) (h2:σ[j]?=some (some (.ref q))):p≠q:=λz=>
 sr.sep i j (.inl xs) (.inl ys) (.ref p) hij hi hj h1 (z▸h2)
end
open PySem.AutoSeq1 in
theorem D4 (T:String) (hT:T="tuple"\/T="list") (l b:Se) (xs ys:Array RX) (n m:Nat) (dd:Option Se) (sl:Array (Option RX)) (z0:¬(!xs.isEmpty && UL (xs.size + ys.size))=true) (z1:xs.size<=sizeLine) (z2:xs.size + ys.size<=sizeLine + 1):
  Meets (Wb.«list.extend» ⟨[.ref l,.ref b],[]⟩) λ_ R s=>s.heap.get? l=some {cls:=.type "list",dict:=none,data:=.seq xs n,slots:=#[]}/\
   s.heap.get? b=some {cls:=.type T,dict:=dd,data:=.seq ys m,slots:=sl}/\R (.ok (.ret S3)) {s with heap:=s.heap.update l (T9 λx=>x++ys),toks:=s.toks}:=
 .of_wp λprog w A R s h=>by
  obtain ⟨hp,gs,dr,tk,os⟩:=s
  obtain ⟨h1,h2,h3⟩:=h
  have t1:=AutoSeq1.idx_int
  have t2:=Wg
  have t3:=AutoSeq1.sub_list_list
  have t4:=AutoSeq1.sub_tuple_list
  have t5:=AutoSeq1.sub_list_tuple
  have z3:(xs++ys).size<=sizeLine + 1:=by
   rw [Z5]
   exact z2
  rcases hT with rfl | rfl
  ·wp_walk using (Xh h1 rfl (hz:=z1) (_hz':=z3)),U1 h1,U1 h2
   exact ⟨_,rfl,h3⟩
  ·wp_walk using (Xh h1 rfl (hz:=z1) (_hz':=z3)),U1 h1,U1 h2
   exact ⟨_,rfl,h3⟩
section
variable {X:Cx}{c:C}{e a b tg:SM}{es:List SM}{ga gb g:G R}{pos:Pos}
noncomputable def OM (K:RV):V->List V->Hp->VK->Prop:=λx vs H Q=>∃l b xs zs,x=.ref l/\vs=[.ref b]/\H l=some (.lst xs)/\(cH K H b zs\/cV K H b zs)/\xs.length + zs.length<=sizeLine/\Q .non (upd H l (.lst (xs++zs)))
theorem LV:HB X "list.extend" (OM X.K):=by
 intro RL s σ H x vs v us Q I rx rv h
 obtain ⟨l,b,xs,zs,rfl,rfl,hH,hB,hz,q⟩:=h
 cases rx
 obtain ⟨u,rfl,ru⟩:=rv.one
 cases ru
 obtain ⟨z,RM,n,r,hl,e⟩:=I.lstM hH
 have obj:∃T its2,(T="tuple"\/T="list")/\Vals zs its2/\∃dd m sl,s.heap.get? b=some {cls:=.type T,dict:=dd,data:=.seq its2.toArray m,slots:=sl}:=by
  rcases hB with hB | hB
  ·obtain ⟨its2,r2,pl,_⟩:=I.list hB
   obtain ⟨⟨cls,dd,data,sl⟩,ho,hc,m,hd⟩:=pl.isList
   simp only at hc hd
   subst hc hd
   exact ⟨"list",its2,.inr rfl,r2,dd,m,sl,ho⟩
  ·obtain ⟨its2,r2,pl,_⟩:=I.tuple hB
   obtain ⟨⟨cls,dd,data,sl⟩,ho,hc,m,hd⟩:=pl
   simp only at hc hd
   subst hc hd
   exact ⟨"tuple",its2,.inl rfl,r2,dd,m,sl,ho⟩
 obtain ⟨T,its2,hT,r2,dd,m,sl,e2⟩:=obj
 have hl2:=r2.length
 have hsz:RM.toArray.size + its2.toArray.size<=sizeLine:=by rw [Sf,Sf];omega
 have Qc:¬(!RM.toArray.isEmpty && UL (RM.toArray.size + its2.toArray.size))=true:=by
  rw [y9 hsz,VF]
  exact SN
 refine Z1 ZE ⟨_,e,rfl⟩ Zm (Y7 _ _) (D4 T hT l b RM.toArray its2.toArray n m dd sl Qc (by rw [Sf];omega) (by omega)) ⟨e,e2,?_⟩
 refine ⟨.non,_,I.lset (its':=RM++its2) hH e (by simp) (r.append r2) ?_,rfl,q⟩
 rw [Sy]
 omega
noncomputable def yF (i:Nat) (g:G R):G O:=λenv=>match env[i]? with
 | some (some (.own xs))=>g env >>= λr=>g8 r >>= λys=>if xs.length + ys.length<=sizeLine then .ok (.nx (env.set i (some (.own (xs++ys))))) else .bad
 | _=>.bad
noncomputable def za:V->Option (Option Bool)
 | .non=>some none
 | .bl k=>some (some k)
 | _=>none
theorem Hf {x y:V}{v u:RX}{o:Option Bool}(rx:RelV x v) (ry:RelV y u) (h:za y=some o):isSame v u=pure (za x == some o):=by
 cases y with
 | non=>
  cases h
  cases ry
  cases x with
  | non=>cases rx;rfl
  | bl k=>cases rx;rfl
  | int i=>obtain ⟨t,rfl⟩:=rx;rfl
  | str z=>obtain ⟨t,rfl⟩:=rx;rfl
  | byt z=>obtain ⟨t,rfl⟩:=rx;rfl
  | flt z=>obtain ⟨t,rfl⟩:=rx;rfl
  | ref p=>cases rx;rfl
  | ty n=>cases rx;rfl
 | bl k'=>
  cases h
  cases ry
  cases x with
  | non=>cases rx;rfl
  | bl k=>cases rx;cases k <;> cases k' <;> rfl
  | int i=>obtain ⟨t,rfl⟩:=rx;rfl
  | str z=>obtain ⟨t,rfl⟩:=rx;rfl
  | byt z=>obtain ⟨t,rfl⟩:=rx;rfl
  | flt z=>obtain ⟨t,rfl⟩:=rx;rfl
  | ref p=>cases rx;rfl
  | ty n=>cases rx;rfl
 | _=>cases h
theorem EC:dw X (Ug .Is) (λx y H Q=>∃o,za y=some o/\Q (.bl (za x == some o)) H):=by
 intro RL s σ H x y v u Q I rx ry h
 obtain ⟨o,ho,q⟩:=h
 show So _ _ (do return Vm (<-isSame v u)) _ _ s
 rw [Hf rx ry ho]
 exact RU (RY (RY ⟨.bl _,H,I,rfl,q⟩))
noncomputable def Ct:R->Option (Option Bool)
 | .d .non=>some none
 | .d (.bl k)=>some (some k)
 | _=>none
noncomputable def qQ (neg:Bool) (x y:R):M R:=match Ct y with
 | some o=>.ok (.d (.bl (if neg then !(Ct x == some o) else Ct x == some o)))
 | none=>.bad
theorem qz {He J H:Hp}:∀{r:R}{v:V},RR c He J H r v->za v=Ct r
 | .d .non,_,h=>by cases h;rfl
 | .d (.bl _),_,h=>by cases h;rfl
 | .d (.int _),_,h=>by cases h;rfl
 | .d (.str _),_,h=>by cases h;rfl
 | .d (.tup _),_,h=>by cases h;rfl
 | .d (.lst _),_,h=>by cases h;rfl
 | .d .emp,_,h=>by cases h;rfl
 | .d (.exn _ _ _),_,h=>by cases h;rfl
 | .d (.dct _ _),_,h=>by cases h;rfl
 | .l .fresh _,_,h=>by obtain ⟨_,_,rfl,_⟩:=h;rfl
 | .l .own _,_,h=>by obtain ⟨_,_,rfl,_⟩:=h;rfl
 | .l .bor _,_,h=>by obtain ⟨_,_,rfl,_⟩:=h;rfl
 | .mo _ _,_,h=>by obtain ⟨_,rfl,_⟩:=h;rfl
 | .mb _ _,_,h=>by obtain ⟨_,rfl,_⟩:=h;rfl
 | .mf _ _,_,h=>by obtain ⟨_,rfl,_⟩:=h;rfl
end
theorem IJ {P:Sm}{w:SO}{K:RV}{mg:Str->Option RX}{base:TU}{x RP:Str}{st:Vj}{f:Se}{fd:SH}{ps:List Str}{k:Nat}{Fm:List S->M R}(F:cG K x RP st f fd) (hm:mg x=some (.ref f))
  (hbi:∀(kV doc pm:RX) (an:Option Se) (cdv ct:RX) (us:List RX),us.length=ps.length->Y3 (Sb x RP (aT st) (aO st) (ay st) .none kV doc pm an cdv ct) ⟨us,[]⟩=pure (ps.zip us))
  (hF:∀as,Fm as=.bad):bJ P w K mg base k ps.length x Fm:=
 ⟨f,fd,ps,⟨λvs H Q E ⟨J,as,_,_,_,h⟩=>(by rw [hF as] at h;exact h.elim),λA outer s H args us vs Q E _ _ _ _ ⟨J,as,_,_,_,h⟩=>(by rw [hF as] at h;exact h.elim)⟩,hm,F.kp,F.binds hbi⟩
section
variable {X:Cx}{c:C}{e a b d tg:SM}{es:List SM}{ga gb g:G R}{pos:Pos}
def OF (K:RV) (tl:TE):TI:=λσ H R=>tl σ H λx H1=>∃a,x=.ref a/\(((∃xs,cH K H1 a xs)/\R (Hv K a) H1)\/((∃xs,cV K H1 a xs)/\R (Hx K a) H1))
theorem EJ {tl:TE}(hl:PE X e tl):PI X tg e (OF X.K tl):=λRL s σ H R I h=>bS (hl RL s σ H _ I h) λv s1 ⟨x,H1,I1,r1,a,ex,q1⟩=>by
 subst ex
 cases r1
 have fp:∀b∈[s1.heap.objs.size],jK X RL H1 b:=λb hb=>by
  rw [R9] at hb
  subst hb
  exact I1.fpOk (R6 _) (I1.hok.fresh (R6 _))
 rcases q1 with ⟨⟨xs,hq⟩,q⟩ | ⟨⟨xs,hq⟩,q⟩
 ·obtain ⟨RM,rv,p,hz⟩:=I1.list hq
  exact XR p.isList ⟨s1.heap.objs.size,[s1.heap.objs.size],_,_,H1,rfl,I1.kept (t':=s1.toks) (λb o e=>R5 _ e),E_ a _,⟨_,Sd _ rfl,rfl,rfl⟩,fp,q⟩
 ·obtain ⟨RM,rv,p,hz⟩:=I1.tuple hq
  exact Xs (show s1.heap.IsTuple a RM.toArray from p) ⟨s1.heap.objs.size,[s1.heap.objs.size],_,_,H1,rfl,I1.kept (t':=s1.toks) (λb o e=>R5 _ e),Dc a _,⟨_,Sd _ rfl,rfl,rfl⟩,fp,q⟩
theorem wF {J1:Hp}{a:Se}{vs:List V}{ds:List D}{U:Hp->Hp->Prop}(hU:∀J H,U J H->aU J1 J) (h:cV c.K J1 a vs) (hs:aH c.K J1 ds vs):Walk c (Hx c.K a) ds J1 U:=by
 intro i J H hp u
 have h':=fz hp.sub (fz (hU J H u) h)
 refine ⟨λhl=>⟨vs,h',by rw [<-hs.length];exact hl⟩,λd hd=>?_⟩
 obtain ⟨v,k1,k2⟩:=hs.get hd
 refine ⟨⟨vs,v,h',k1⟩,λx H2 ⟨e,hy⟩=>?_⟩
 subst e
 have:=hy vs h'
 rw [k1] at this
 cases this
 exact ⟨J,Ext.refl hp.sub,k2.mono (hU J _ u)⟩
noncomputable def nT (g:G R):G (List D):=λenv=>g env >>= λr=>match r with
 | .d (.tup xs)=>.ok xs
 | .d (.lst xs)=>.ok xs
 | .l .fresh xs=>.ok xs
 | .l .bor xs=>.ok xs
 | _=>.bad
def dH (g:G R):G (List D):=λenv=>g env >>= g8
end
section
variable {X:Cx}{c:C}{st:Vj}{g:G O}
theorem SR.frz {J H:Hp}{σ:L2.St}{env:Ev}(sr:SR c J H σ env){i:Nat}{x:Mn}{a:Se}{o:HO}{d:D}(hi:env[i]?=some (some (mS x))) (h1:σ[i]?=some (some (.ref a))) (h2:H a=some o) (h3:J a=none) (h4:c.H0 a=none) (h5:Rep c.K (L2.upd J a o) d (.ref a)):∃J',aU J J'/\SR c J' H σ (env.set i (some (.d d))):=by
 have s1:aU J (L2.upd J a o):=cM h3 _
 refine ⟨L2.upd J a o,s1,⟨⟨λb o q=>?_,sr.hp.ent,sr.hp.entJ.trans s1,λb k1 k2=>?_⟩,by simpa using sr.len,λj y q=>?_,λj k ys zs w hjk q1 q2 q3 q4=>?_⟩⟩
 ·by_cases hb:b=a
  ·subst hb;rw [b8] at q;cases q;exact h2
  ·rw [bE hb] at q;exact sr.hp.sub b o q
 ·have:b≠a:=λz=>k1 (z▸h4)
  rw [bE this];exact sr.hp.frz b k1 k2
 ·rcases fU q with ⟨rfl,hl,rfl⟩ | ⟨hj,q⟩
  ·exact ⟨.ref a,h1,h5⟩
  ·obtain ⟨w,k1,k2⟩:=sr.at_ j y q
   refine ⟨w,k1,?_⟩
   have hne:∀(z:Mn) p',y=mS z->w=.ref p'->p'≠a:=λz p' e ew ep=>sr.sep i j x z (.ref a) (UX hj) hi (e▸q) h1 (ep▸ew▸k1)
   cases y with
   | d x=>exact Rep.mono s1 k2
   | bor zs=>obtain ⟨p,us,m1,m2,m3⟩:=k2;exact ⟨p,us,m1,m2,m3.mono s1⟩
   | db _ _=>obtain ⟨p,m1,m2⟩:=k2;exact ⟨p,m1,m2.mono s1 (aU.refl _)⟩
   | fn _=>exact k2
   | dk ks zs=>
    obtain ⟨p,rfl,m1,m2,m3⟩:=k2
    exact ⟨p,rfl,m1.mono s1 (aU.refl _),by rw [bE (hne (.inr (ks,zs)) p rfl rfl)];exact m2,m3⟩
   | own zs=>
    obtain ⟨p,us,rfl,m1,m2,m3,m4⟩:=k2
    exact ⟨p,us,rfl,m1,by rw [bE (hne (.inl zs) p rfl rfl)];exact m2,m3,m4.mono s1⟩
 ·have f:∀(k:Nat) (ys:Mn),(env.set i (some (.d d)))[k]?=some (some (mS ys))->env[k]?=some (some (mS ys)):=λk ys q=>by
   rcases fU q with ⟨rfl,_,z⟩ | ⟨_,q⟩
   ·cases ys <;> cases z
   ·exact q
  exact sr.sep j k ys zs w hjk (f j ys q1) (f k zs q2) q3 q4
noncomputable def jM (i:Nat) (g:G O):G O:=λenv=>match env[i]? with
 | some (some (.own xs))=>g (env.set i (some (.d (.lst xs))))
 | some (some (.dk ks vs))=>g (env.set i (some (.d (.dct ks vs))))
 | _=>g env
end
structure QD (X:Cx) (c:C) (x0:SM) (x1:G R):Prop where
 h:PD X c x0 x1
structure QB (X:Cx) (c:C) (x0:SM) (x1:G Bool):Prop where
 h:PB X c x0 x1
structure jg (X:Cx) (c:C) (x0:List SM) (x1:G (List R)):Prop where
 h:Dp X c x0 x1
structure Dq (X:Cx) (c:C) (x0:List SM) (x1:G (List D)):Prop where
 h:Pe X c x0 x1
structure gR (X:Cx) (c:C) (x0:Vj) (x1:G O):Prop where
 h:xW X c x0 x1
structure o6 (X:Cx) (c:C) (x0:List Vj) (x1:G O):Prop where
 h:HD X c x0 x1
structure xY (X:Cx) (c:C) (x0:SM) (x1:G Bool):Prop where
 h:Pf X c x0 x1
structure kD (X:Cx) (c:C) (x0:SM) (x1:GT):Prop where
 h:iT X c x0 x1
structure x6 (X:Cx) (c:C) (x0:List SM) (x1:mL):Prop where
 h:K2 X c x0 x1
structure xZ (X:Cx) (c:C) (x0:SM) (x1:SM) (x2:G (List D)):Prop where
 h:xX X c x0 x1 x2
structure qL (X:Cx) (c:C) (x0:SM) (x1:SM) (x2:G (List D)):Prop where
 h:o5 X c x0 x1 x2
structure jL (X:Cx) (c:C) (x0:List SM) (x1:G Bool):Prop where
 h:gj X c x0 x1
structure HG (X:Cx) (c:C) (x0:Option SM) (x1:GO):Prop where
 h:K0 X c x0 x1
section
variable {X:Cx}{c:C}{e a b:SM}{ga gb:G R}{pos:Pos}
theorem aa (i:Nat){x:Str}(hN:X.N[i]?=some x:=by rfl) (hv:qM X.env.scope x:=by first | exact WA rfl | exact Vu (WA rfl) | exact Vu (Vu rfl)) (hd:(x == ("__debug__":Str))=false:=by decide)
  (hcd:(x == ("__classdict__":Str))=false:=by decide):QD X c (.Name x pos) (af i):=⟨JJ (kN hN hv hd hcd)⟩
theorem aB {i:Int}{j:Nat}:QD X c (.Constant (.int i) j pos) (gC (.int i)):=⟨tQ (λ_=>.int i) Mc⟩
theorem nu {i:Bool}{j:Nat}:QD X c (.Constant (.bool i) j pos) (gC (.bl i)):=⟨tQ (λ_=>.bl i) NK⟩
theorem kr {j:Nat}:QD X c (.Constant .none j pos) (gC .non):=⟨tQ (λ_=>.non) Mf⟩
theorem uW {x:Str}{j:Nat}:QD X c (.Constant (.str x) j pos) (gC (.str x)):=⟨tQ (λ_=>.str x) Mi⟩
theorem Bo (ha:QD X c a ga) (hb:QD X c b gb):QD X c (.BinOp a .Sub b pos) (g2 FW ga gb):=have ha:=ha.h;have hb:=hb.h;⟨n8 L6 (gK λ_ _ _=>.int _) ha hb⟩
theorem eX (ha:QD X c a ga) (hb:QD X c b gb):QD X c (.BinOp a .FloorDiv b pos) (g2 i6 ga gb):=have ha:=ha.h;have hb:=hb.h;⟨n8 JC (yf (λi j h=>Jm h) λ_ _ _=>.int _) ha hb⟩
theorem dg (ha:QD X c a ga) (hb:QD X c b gb):QD X c (.BinOp a .Mod b pos) (g2 fR ga gb):=have ha:=ha.h;have hb:=hb.h;⟨n8 LZ (yf (λi j h=>by unfold LI at h;exact of_decide_eq_true h) λ_ _ _=>.int _) ha hb⟩
theorem Kd (ha:QD X c a ga) (hb:QD X c b gb):QD X c (.BinOp a .Pow b pos) (g2 Ll ga gb):=have ha:=ha.h;have hb:=hb.h;⟨n8 L5 (yf (λi j h=>Jo h) λ_ _ _=>.int _) ha hb⟩
theorem MB (ha:QD X c a ga) (hb:QD X c b gb):QD X c (.Compare a [.Gt] [b] pos) (g2 (kI λi j=>.bl (decide (j < i))) ga gb):=have ha:=ha.h;have hb:=hb.h;⟨pV qA (gK λ_ _ _=>.bl _) ha hb⟩
theorem aq:jg X c [] aE:=⟨xF g_ λσ H Q ⟨J,env,sr,w⟩=>w [] J H (Ext.refl sr.hp.sub) rfl⟩
theorem ak {es:List SM}{g:G R}{gs:G (List R)}(h:QD X c e g) (hs:jg X c es gs) (hst:R_ (e::es) X.env=(false,eval e X.env)::R_ es X.env:=by rfl):jg X c (e::es) (ao g gs):=have h:=h.h;have hs:=hs.h;⟨
 xF (eW h hs hst) λσ H Q ⟨J,env,sr,w⟩=>by
  refine ⟨J,env,sr,aD (aI w) λx wx u J1 H1 e1 r1=>?_⟩
  refine ⟨J1,env,sr.ext e1,aD (aI wx) λxs wy us J2 H2 e2 r2=>?_⟩
  exact wy (u::us) J2 H2 (e1.trans e2) ⟨u,us,rfl,r1.ext e2,jQ.from e1.h r2⟩⟩
end
section
variable {X:Cx}{c:C}{e a b:SM}{es:List SM}{ga gb g:G R}{pos:Pos}
theorem aK:Dq X c [] aW:=⟨xF g_ λσ H Q ⟨J,env,sr,w⟩=>w [] J H (Ext.refl sr.hp.sub) .nil⟩
theorem au {gs:G (List D)}(h:QD X c e g) (hs:Dq X c es gs) (hst:R_ (e::es) X.env=(false,eval e X.env)::R_ es X.env:=by rfl):Dq X c (e::es) (aA g gs):=have h:=h.h;have hs:=hs.h;⟨
 xF (eW h hs hst) λσ H Q ⟨J,env,sr,w⟩=>by
  refine ⟨J,env,sr,aD (aI w) λx wx u J1 H1 e1 r1=>?_⟩
  obtain ⟨d,q,wx⟩:=gQ wx
  obtain ⟨J1',e1',s1,rd⟩:=freeze e1 r1 q
  refine ⟨J1',env,sr.ext e1',aD (aI wx) λxs wy us J2 H2 e2 r2=>?_⟩
  exact wy (u::us) J2 H2 (e1'.trans e2) (.cons (rd.mono e2.j) r2)⟩
theorem a_ {k}{gs:G (List D)}(h:Dq X c es gs):QD X c (.Tuple es k pos) (bI gs):=have h:=h.h;⟨fq (Mj h) λσ H Q ⟨J,env,sr,w⟩=>by
 refine ⟨J,env,sr,aD (aI w) λds wd vs J1 H1 e1 r1=>?_⟩
 split at wd
 ·rename_i hz
  rw [r1.length] at hz
  exact ⟨hz,λp hp=>wd _ _ _ (e1.trans (Ext.newJ e1.sub hp _)) (p7 (sr.hp.ext e1) hp r1)⟩
 ·exact wd.elim⟩
theorem eY {gs:G (List D)}(h:Dq X c es gs):QD X c (.List es pos) (gD gs):=have h:=h.h;⟨fq (Me h) λσ H Q ⟨J,env,sr,w⟩=>by
 refine ⟨J,env,sr,aD (aI w) λds wd vs J1 H1 e1 r1=>?_⟩
 split at wd
 ·rename_i hz
  rw [r1.length] at hz
  exact ⟨hz,λp hp=>wd _ _ _ (e1.trans (Ext.new e1.sub hp _)) (RR.from e1.h (ia (sr.hp.ext e1) hp r1))⟩
 ·exact wd.elim⟩
theorem fL {p:Pos}{gs:G (List R)}(ha:jg X c (e::es) gs) (hm:X.mg "len"=none) (hK:X.K=c.K:=by rfl) (hg:Gl X "len":=by rfl)
  (he:R_ (e::es) X.env=(false,eval e X.env)::R_ es X.env:=by rfl) (hpl:(Us pos (R_ es X.env)).any (·.1)=false:=by rfl):QD X c (.Call (.Name "len" p) (e::es) [] pos) (gN jn gs):=have ha:=ha.h;⟨
 gG (yl.or yk) (by
  intro He J H xs vs Q hp rs w
  unfold jn at w
  split at w
  ·obtain ⟨v,rfl,r⟩:=rs.one
   cases r
   split at w
   ·rename_i hz;exact .inl ⟨_,rfl,hz,w _ J H (Ext.refl hp.sub) (.int _)⟩
   ·exact w.elim
  ·obtain ⟨v,rfl,r⟩:=rs.one
   obtain ⟨xs,q,w⟩:=nF w
   obtain ⟨p,vs,rfl,hq,hs⟩:=qv hp r q
   have w':=w (.int vs.length) J H (Ext.refl hp.sub) (by rw [hs.length];exact .int _)
   exact .inr ⟨p,vs,rfl,by rw [hK];exact hq,w'⟩
  ·exact w.elim) PySem.boot_len hm ha hg (by decide) (by decide) he hpl⟩
theorem bM {p:Pos}{gs:G (List R)}(ha:jg X c (e::es) gs) (hm:X.mg "tuple"=none) (hK:X.K=c.K:=by rfl) (hg:Gl X "tuple":=by rfl)
  (he:R_ (e::es) X.env=(false,eval e X.env)::R_ es X.env:=by rfl) (hpl:(Us pos (R_ es X.env)).any (·.1)=false:=by rfl):QD X c (.Call (.Name "tuple" p) (e::es) [] pos) (gN bX gs):=have ha:=ha.h;⟨
 EF wL (by
  intro He J H xs vs Q hp rs w
  unfold bX at w
  split at w
  ·obtain ⟨v,rfl,r⟩:=rs.one
   rename_i r0
   obtain ⟨xs,q,w⟩:=nF w
   cases r0 with
   | d y=>
    cases y with
    | tup ys=>
     cases q
     cases r with
     | tup h hs=>exact ⟨_,_,rfl,.inr ⟨by rw [hK];exact fz hp.sub h,w _ J H (Ext.refl hp.sub) (.tup h hs)⟩⟩
    | lst ys=>
     cases q
     obtain ⟨p,vs,rfl,hq,hs⟩:=RR.list hp r rfl
     exact ⟨p,vs,rfl,.inl ⟨by rw [hK];exact hq,λl hl=>w _ _ _ (Ext.newJ hp.sub hl _) (p7 hp hl hs)⟩⟩
    | _=>cases q
   | mo _ _=>cases q
   | mb _ _=>cases q
   | mf _ _=>cases q
   | l m ys=>
    cases q
    obtain ⟨p,vs,rfl,hq,hs⟩:=RR.list hp r rfl
    exact ⟨p,vs,rfl,.inl ⟨by rw [hK];exact hq,λl hl=>w _ _ _ (Ext.newJ hp.sub hl _) (p7 hp hl hs)⟩⟩
  ·exact w.elim) Ab hm ha hg (by decide) (by decide) he hpl⟩
theorem gf (h:QD X c e g) (he:∀whole,Ze e X.env whole=(do let v <-whole;Vv e.pos;holding [v] (truthy v)):=by intro _;rfl):QB X c e (bQ g):=have h:=h.h;⟨xH (Mw h he) λσ H Q ⟨J,env,sr,w⟩=>by
 refine ⟨J,env,sr,aD (aI w) λr wr v J1 H1 e1 r1=>?_⟩
 split at wr
 ·cases r1;exact ⟨_,rfl,wr J1 H1 e1⟩
 ·exact wr.elim⟩
theorem iL {op:abZ}{r:R2}{f:R->R->M R}(ho:dw X (Ug op) r) (hf:BD c r f) (ha:QD X c a ga) (hb:QD X c b gb) (hm:TN op b=false:=by first | exact yZ _ | rfl):QB X c (.Compare a [op] [b] pos) (bQ (g2 f ga gb)):=⟨kM ho hf ha.h hb.h hm⟩
variable {t u:G Bool}{rest:List SM}
theorem nq (h:xY X c e t):QB X c e t:=have h:=h.h;⟨PW.pt h⟩
theorem ze (h:QB X c a t):xY X c (.BoolOp .And [a] pos) t:=have h:=h.h;⟨JU h⟩
theorem uV (h:QB X c a t):xY X c (.BoolOp .Or [a] pos) t:=have h:=h.h;⟨Mz h⟩
theorem Bg (h:QB X c a t) (h':xY X c (.BoolOp .And (b::rest) pos) u):xY X c (.BoolOp .And (a::b::rest) pos) (pB t u):=have h:=h.h;have h':=h'.h;⟨Ie (My h h') λσ H Q ⟨J,env,sr,w⟩=>by
 refine ⟨J,env,sr,aD (aI w) λk wk J1 H1 e1=>?_⟩
 cases k with
 | true=>
  rw [if_pos rfl] at wk ⊢
  exact ⟨J1,env,sr.ext e1,aD wk λk q J2 H2 e2=>q J2 H2 (e1.trans e2)⟩
 | false=>
  rw [if_neg (by decide)] at wk ⊢
  exact wk J1 H1 e1⟩
theorem tW (h:QB X c a t) (h':xY X c (.BoolOp .Or (b::rest) pos) u):xY X c (.BoolOp .Or (a::b::rest) pos) (pD t u):=have h:=h.h;have h':=h'.h;⟨Ie (NR h h') λσ H Q ⟨J,env,sr,w⟩=>by
 refine ⟨J,env,sr,aD (aI w) λk wk J1 H1 e1=>?_⟩
 cases k with
 | true=>
  rw [if_pos rfl] at wk ⊢
  exact wk J1 H1 e1
 | false=>
  rw [if_neg (by decide)] at wk ⊢
  exact ⟨J1,env,sr.ext e1,aD wk λk q J2 H2 e2=>q J2 H2 (e1.trans e2)⟩⟩
theorem kq (h:QB X c a t):QB X c (.UnaryOp .Not a pos) (gE t):=have h:=h.h;⟨xH (Mv h) λσ H Q ⟨J,env,sr,w⟩=>⟨J,env,sr,aD (aI w) λk wk J1 H1 e1=>wk J1 H1 e1⟩⟩
theorem rP {op}(h:QD X c a ga):QD X c (.BoolOp op [a] pos) ga:=have h:=h.h;⟨Mh h⟩
theorem Bj (h:QD X c a ga) (h':QD X c (.BoolOp .And (b::rest) pos) gb):QD X c (.BoolOp .And (a::b::rest) pos) (xy ga gb):=have h:=h.h;have h':=h'.h;⟨fq (Mb h h') λσ H Q ⟨J,env,sr,w⟩=>by
 refine ⟨J,env,sr,aD (aI w) λr wr v J1 H1 e1 r1=>?_⟩
 split at wr
 ·cases r1
  exact ⟨true,rfl,LA ⟨J1,env,sr.ext e1,aD wr λz q v J2 H2 e2 r2=>q v J2 H2 (e1.trans e2) (RR.from e1.h r2)⟩⟩
 ·cases r1
  exact ⟨false,rfl,Lz (wr _ J1 H1 e1 (.bl _))⟩
 ·exact wr.elim⟩
theorem MC (h:QD X c a ga) (h':QD X c (.BoolOp .Or (b::rest) pos) gb):QD X c (.BoolOp .Or (a::b::rest) pos) (rK ga gb):=have h:=h.h;have h':=h'.h;⟨fq (NO h h') λσ H Q ⟨J,env,sr,w⟩=>by
 refine ⟨J,env,sr,aD (aI w) λr wr v J1 H1 e1 r1=>?_⟩
 split at wr
 ·cases r1
  exact ⟨false,rfl,Lz ⟨J1,env,sr.ext e1,aD wr λz q v J2 H2 e2 r2=>q v J2 H2 (e1.trans e2) (RR.from e1.h r2)⟩⟩
 ·cases r1
  exact ⟨true,rfl,LA (wr _ J1 H1 e1 (.bl _))⟩
 ·exact wr.elim⟩
theorem Kc (h:QD X c a ga):QD X c (.UnaryOp .Not a pos) (HU ga):=have h:=h.h;⟨fq (Mg h) λσ H Q ⟨J,env,sr,w⟩=>by
 refine ⟨J,env,sr,aD (aI w) λr wr v J1 H1 e1 r1=>?_⟩
 split at wr
 ·cases r1
  exact ⟨_,rfl,wr _ J1 H1 e1 (.bl _)⟩
 ·exact wr.elim⟩
theorem JZ {x:SM}(hx:QB X c x t) (h:QD X c a ga) (h':QD X c b gb):QD X c (.IfExp x a b pos) (Og t ga gb):=have hx:=hx.h;have h:=h.h;have h':=h'.h;⟨fq (GQ hx h h') λσ H Q ⟨J,env,sr,w⟩=>by
 refine ⟨J,env,sr,aD (aI w) λk wk J1 H1 e1=>?_⟩
 cases k with
 | true=>
  rw [if_pos rfl] at wk ⊢
  exact ⟨J1,env,sr.ext e1,aD wk λz q v J2 H2 e2 r2=>q v J2 H2 (e1.trans e2) (RR.from e1.h r2)⟩
 | false=>
  rw [if_neg (by decide)] at wk ⊢
  exact ⟨J1,env,sr.ext e1,aD wk λz q v J2 H2 e2 r2=>q v J2 H2 (e1.trans e2) (RR.from e1.h r2)⟩⟩
end
section
variable {X:Cx}{c:C}{e a b tg:SM}{es:List SM}{ga gb g:G R}{pos:Pos}{st:Vj}{rest:List Vj}{t u:G O}{tb:G Bool}
theorem bV:o6 X c [] eH:=⟨EO JR λE σ H ⟨J,env,sr,w⟩=>w σ J H (aU.refl J) sr⟩
theorem av (h:gR X c st t) (h':o6 X c rest u):o6 X c (st::rest) (aJ t u):=have h:=h.h;have h':=h'.h;⟨EO (GW h h') λE σ H ⟨J,env,sr,w⟩=>by
 refine ⟨J,env,sr,aD (aI w) λo wo=>?_⟩
 cases o with
 | nx e=>exact λσ' J' H' s' sr'=>⟨J',e,sr',aD wo λo q=>q.mono s'⟩
 | rt r=>exact wo
 | bk e=>exact wo
 | ct e=>exact wo⟩
theorem aG (h:gR X c st t):o6 X c [st] t:=have h:=h.h;⟨JS h⟩
theorem gH (h:QD X c e g) (hs:VC e none pos.line X.env=pure false:=by rfl):gR X c (.Expr e pos) (jy g):=have h:=h.h;⟨gO (qC h hs) λE σ H ⟨J,env,sr,w⟩=>
 ⟨J,env,sr,aD (aI w) λr wr v J1 H1 e1 r1=>wr σ J1 H1 e1.j (sr.ext e1)⟩⟩
theorem aY (h:QD X c e g):gR X c (.Return (some e) pos) (bO g):=have h:=h.h;⟨gO (Mt h) λE σ H ⟨J,env,sr,w⟩=>by
 refine ⟨J,env,sr,aD (aI w) λr wr v J1 H1 e1 r1=>?_⟩
 cases q:rF r with
 | bad=>rw [q] at wr;exact wr.elim
 | exc x=>cases r with
  | d _=>cases q
  | l m _=>cases m <;> cases q
  | mo _ _=>cases q
  | mb _ _=>cases q
  | mf _ _=>cases q
 | ok r'=>rw [q] at wr;exact wr v J1 H1 e1.j (sr.hp.ext e1) (RR.rf sr.hp r1 q)⟩
theorem cg {x:SM}{as bs:List Vj}(hx:QB X c x tb) (h:o6 X c as t) (h':o6 X c bs u):gR X c (.If x as bs pos) (cu tb t u):=have hx:=hx.h;have h:=h.h;have h':=h'.h;⟨gO (NQ hx h h') λE σ H ⟨J,env,sr,w⟩=>by
 refine ⟨J,env,sr,aD (aI w) λk wk J1 H1 e1=>?_⟩
 cases k with
 | true=>
  rw [if_pos rfl] at wk ⊢
  exact ⟨J1,env,sr.ext e1,aD wk λo q=>q.mono e1.j⟩
 | false=>
  rw [if_neg (by decide)] at wk ⊢
  exact ⟨J1,env,sr.ext e1,aD wk λo q=>q.mono e1.j⟩⟩
theorem aL (i:Nat){x:Str}{pos':Pos}(hN:X.N.Nodup) (h:QD X c e g) (hi:X.N[i]?=some x:=by rfl) (hx:Loc X.env.scope x:=by first | exact WA rfl | exact Vu rfl) (hs:VC e (some (.Name x pos')) pos.line X.env=pure false:=by rfl)
  (hf:X.fn x=true\/X.env.scope.names.lookup x=some .local:=by first | exact .inl rfl | exact .inr rfl):gR X c (.Assign [.Name x pos'] e pos) (br i g):=have h:=h.h;⟨gO (Mu hN hi hx h hs hf) λE σ H ⟨J,env,sr,w⟩=>by
 refine ⟨J,env,sr,aD (aI w) λr wr v J1 H1 e1 r1=>?_⟩
 obtain ⟨x,q,wr⟩:=nG wr
 exact wr (σ.set i (some v)) J1 H1 e1.j (sr.set e1 r1 q)⟩
theorem az (i:Nat){x:Str}(hN:X.N.Nodup) (hi:X.N[i]?=some x:=by rfl) (hx:Loc X.env.scope x:=by first | exact WA rfl | exact Vu rfl) (hf:X.fn x=true\/X.env.scope.names.lookup x=some .local:=by first | exact .inl rfl | exact .inr rfl):kD X c (.Name x pos) (aC i):=⟨
 Ib (JM hN hi hx hf) λv σ H Q ⟨J,env,d,sr,rd,w⟩=>w _ (sr.setD (x:=.d d) rd λx z=>by cases x <;> cases z) λj xs q=>by
  rcases fU q with ⟨_,_,e⟩ | ⟨hj,q⟩
  ·cases xs <;> cases e
  ·exact ⟨q,S0 (UX hj)⟩⟩
theorem bZ:x6 X c [] cZ:=⟨EI JO λvs σ H Q ⟨J,env,ds,sr,rd,w⟩=>by
 cases rd with
 | nil=>exact ⟨rfl,w σ sr KO.refl⟩
 | cons _ _=>exact w.elim⟩
theorem aP {t:GT}{u:mL}(h:kD X c e t) (h':x6 X c es u) (hs:(Tg (e::es) X.env).map (·.2)=assign e X.env::(Tg es X.env).map (·.2):=by rfl):x6 X c (e::es) (bw t u):=have h:=h.h;have h':=h'.h;⟨
 EI (GS h h' hs) λvs σ H Q ⟨J,env,ds,sr,rd,w⟩=>by
  cases rd with
  | nil=>exact w.elim
  | cons r rs=>
   refine ⟨_,_,rfl,J,env,_,sr,r,aD (aI w) λe1 w1 σ' sr' ko=>?_⟩
   exact ⟨J,e1,_,sr',rs,aD w1 λe2 q σ2 sr2 ko2=>q σ2 sr2 (ko.trans ko2)⟩⟩
theorem cC {k:Nat}{u:mL}{n:Nat}(h:x6 X c es u) (hc:X.calm=true:=by rfl) (hK:X.K=c.K:=by rfl) (hn:(Tg es X.env).length=n:=by rfl) (hst:(Tg es X.env).findIdx? (·.1)=none:=by rfl):kD X c (.Tuple es k pos) (c_ n u):=have h:=h.h;⟨
 Ib (Ml hc h hn hst) λv σ H Q ⟨J,env,d,sr,rd,w⟩=>by
  cases rd with
  | tup h1 h2=>
   unfold c_ at w
   simp only at w
   split at w
   ·rename_i hl
    exact ⟨_,_,rfl,by rw [hK];exact fz sr.hp.sub h1,by rw [<-h2.length];exact hl,J,env,_,sr,h2,w⟩
   ·exact w.elim
  | _=>exact w.elim⟩
theorem d_ {RO:SM}{body:List Vj}{gi:G (List D)}{t:GT}(hi:xZ X c tg RO gi) (ht:kD X c tg t) (hb:o6 X c body u) (hp:aaA (Su X.prog X.w) X.A X.env X.xe:=by first | exact aaH | exact Z8) (hc:X.calm=true:=by rfl)
  (hs:∀x,Sl RO X.env x=pure x:=by intro _;rfl):gR X c (.For tg RO body [] pos) (gm gi t u):=have hi:=hi.h;have ht:=ht.h;have hb:=hb.h;⟨gO (Ms hp hc hi ht hb hs) λE σ H ⟨J,env,sr,w⟩=>by
 refine ⟨J,env,sr,aD (aI w) λds wd It J1 H1 e1 wk=>?_⟩
 refine ⟨λi m σ H=>m=ds.length - i/\∃J' env,aU J1 J'/\SR c J' H σ env/\cJ (fF t u (ds.drop i) env) (oP c J' E) c.T,
  ⟨ds.length,by simp,J1,env,aU.refl J1,sr.ext e1,by rw [Zg];exact aD wd λo q=>q.mono e1.j⟩,?_⟩
 rintro i m σ H ⟨rfl,J',env,s',sr',w'⟩
 obtain ⟨w1,w2⟩:=wk i J' H sr'.hp s'
 by_cases hlt:i < ds.length
 ·obtain ⟨g1,y1⟩:=w2 ds[i] (by simp [hlt])
  rw [V5 hlt] at w'
  refine .inr ⟨g1,λσ2 H2=>∃J2 env2,aU J' J2/\SR c J2 H2 σ2 env2/\cJ (fF t u (ds.drop (i + 1)) env2) (oP c J2 E) c.T,?_,?_⟩
  ·rintro σ2 H2 ⟨J2,env2,s2,sr2,w2⟩
   exact ⟨ds.length - (i + 1),by omega,rfl,J2,env2,s'.trans s2,sr2,w2⟩
  ·intro x H2 hy
   obtain ⟨J2,e2,rx⟩:=y1 x H2 hy
   refine ⟨J2,env,ds[i],sr'.ext e2,rx,aD (aI w') λenv3 w3 σ3 sr3 _=>?_⟩
   refine ⟨J2,env3,sr3,aD (aI w3) λo wo=>?_⟩
   cases o with
   | nx env4=>exact λσ4 J4 H4 s4 sr4=>⟨J4,env4,e2.j.trans s4,sr4,aD wo λo q=>q.mono (e2.j.trans s4)⟩
   | ct env4=>exact λσ4 J4 H4 s4 sr4=>⟨J4,env4,e2.j.trans s4,sr4,aD wo λo q=>q.mono (e2.j.trans s4)⟩
   | bk env4=>exact λσ4 J4 H4 s4 sr4=>wo σ4 J4 H4 (e2.j.trans s4) sr4
   | rt r=>exact λv J4 H4 s4 h4 r4=>wo v J4 H4 (e2.j.trans s4) h4 r4
 ·rw [Yz (by omega)] at w'
  exact .inl ⟨w1 (by omega),w' σ J' H (aU.refl J') sr'⟩⟩
theorem bD {p:Pos}{gs:G (List R)}(ha:jg X c [a] gs) (hm:X.mg "range"=none) (hg:Gl X "range":=by rfl) (hs:R_ [a] X.env=[(false,eval a X.env)]:=by rfl):xZ X c tg (.Call (.Name "range" p) [a] [] pos) (cA gs):=have ha:=ha.h;⟨
 tR (EK hg hm ha hs) λσ H Q ⟨J,env,sr,w⟩=>by
  refine ⟨J,env,sr,aD (aI w) λrs wr vs J1 H1 e1 r1=>?_⟩
  split at wr
  ·split at wr
   ·rename_i h
    obtain ⟨v,rfl,r⟩:=r1.one
    cases r
    have h:=eu.mp h
    exact ⟨_,rfl,Int.le_of_lt h.1,h.2,wr _ J1 H1 e1 De⟩
   ·exact wr.elim
  ·exact wr.elim⟩
theorem dI {gi:G (List D)}(h:xZ X c tg e gi):qL X c tg e gi:=have h:=h.h;⟨tR h λσ H Q ⟨J,env,sr,w⟩=>
 ⟨J,env,sr,aD w λds q It J1 H1 e1 wk=>q It J1 H1 e1 λi J' H' hp u=>wk i J' H' hp u.1⟩⟩
end
section
variable {X:Cx}{c:C}{e a b tg:SM}{es:List SM}{ga gb g:G R}{pos:Pos}
theorem h_ (i:Nat){x:Str}{p1 p2 pos':Pos}(h:QD X c e g) (hN:X.N[i]?=some x:=by rfl) (hv:qM X.env.scope x:=by first | exact WA rfl | exact Vu (WA rfl) | exact Vu (Vu rfl)) (hd:(x == ("__debug__":Str))=false:=by decide)
  (hcd:(x == ("__classdict__":Str))=false:=by decide)
  (hbase:W7 (.Name x p1) "append" X.env (eval (.Name x p1) X.env)=eval (.Name x p1) X.env:=by rfl)
  (hfew:((Us pos' (R_ [e] X.env)).all (λx=>!x.1) && (aay pos' (Yd [] X.env)).all (λx=>x.1.isSome)
   && decide (([e]:List SM).length + ([]:List Ye).length + (if ([]:List Ye).isEmpty then 0 else 1) < 30))=true:=by rfl)
  (hline:(p2.endLine == pos'.line)=true:=by rfl) (hst:R_ [e] X.env=(false,eval e X.env)::R_ [] X.env:=by rfl) (hplain:(Us pos' (R_ [] X.env)).any (·.1)=false:=by rfl)
  (hs:VC (.Call (.Attribute (.Name x p1) "append" p2) [e] [] pos') none pos.line X.env=pure false:=by rfl):gR X c (.Expr (.Call (.Attribute (.Name x p1) "append" p2) [e] [] pos') pos) (mq i g):=have h:=h.h;⟨
 gO (qC (xG VA XU XX pS (kN hN hv hd hcd) (eW h g_ hst) hbase hfew hline hst hplain) hs) λE σ H ⟨J,env,sr,w⟩=>by
  unfold mq at w
  split at w
  ·rename_i xs hi
   obtain ⟨v,h1,a,vs,rfl,h2,h3,h4,h5⟩:=sr.at_ i _ hi
   refine ⟨.ref a,h1,.inl ⟨rfl,vs,cH.of h2⟩,?_⟩
   refine ⟨J,env,sr,aD (aI w) λr wr y J1 H1 e1 r1=>?_⟩
   obtain ⟨d,q,wr⟩:=gQ wr
   obtain ⟨J2,e2,s2,rd⟩:=freeze e1 r1 q
   split at wr
   ·rename_i hz
    refine ⟨a,vs,y,rfl,rfl,e2.h _ _ h2,by rw [<-h5.length];exact hz,?_⟩
    refine wr σ J2 _ e2.j ?_
    exact (sr.ext e2).upd hi h1 (e2.h _ _ h2) (e2.frz a (by rw [h2];intro z;cases z) h3) h4 ((h5.mono e2.j).append (.cons rd .nil))
   ·exact wr.elim
  ·exact w.elim⟩
end
section
variable {X:Cx}{c:C}
theorem bf:jL X c [] b9:=⟨λRL s σ H Q I ⟨J,env,sr,w⟩=>wpAny_tests_nil ⟨H,I,w J H (Ext.refl sr.hp.sub)⟩⟩
theorem eB {x:SM}{g:G Bool}(h:QB X c x g):jL X c [x] g:=have h:=h.h;⟨λRL s σ H Q I q=>wpAny_tests_one (h RL s σ H Q I q)⟩
end
section
variable {K:RV}{J:Hp}{s:RZ}
variable {X:Cx}{c:C}{e a b tg:SM}{es:List SM}{ga gb g:G R}{pos:Pos}
theorem pX (hu:X.A.units + 64 < Uh) (ha:QD X c a ga) (hb:QD X c b gb) (hK:X.K=c.K:=by rfl):QD X c (.Compare a [.Eq] [b] pos) (g2 (eU false) ga gb):=have ha:=ha.h;have hb:=hb.h;⟨pV (Ez hu) (BU false hK) ha hb⟩
theorem kP (hu:X.A.units + 64 < Uh) (ha:QD X c a ga) (hb:QD X c b gb) (hK:X.K=c.K:=by rfl):QB X c (.Compare a [.Eq] [b] pos) (bQ (g2 (eU false) ga gb)):=have ha:=ha.h;have hb:=hb.h;⟨kM (Ez hu) (BU false hK) ha hb⟩
theorem tV (hu:X.A.units + 64 < Uh) (ha:QD X c a ga) (hb:QD X c b gb) (hK:X.K=c.K:=by rfl):QB X c (.Compare a [.NotEq] [b] pos) (bQ (g2 (eU true) ga gb)):=have ha:=ha.h;have hb:=hb.h;⟨kM (L4 hu) (BU true hK) ha hb⟩
theorem jH (hu:X.A.units + 64 < Uh) (ha:QD X c a ga) (hb:QD X c b gb) (hK:X.K=c.K:=by rfl) (hm:TN .In b=false:=by rfl):QD X c (.Compare a [.In] [b] pos) (g2 (iI false) ga gb):=have ha:=ha.h;have hb:=hb.h;⟨pV (EA hu) (HJ false hK) ha hb hm⟩
theorem MA (hu:X.A.units + 64 < Uh) (ha:QD X c a ga) (hb:QD X c b gb) (hK:X.K=c.K:=by rfl) (hm:TN .In b=false:=by rfl):QB X c (.Compare a [.In] [b] pos) (bQ (g2 (iI false) ga gb)):=have ha:=ha.h;have hb:=hb.h;⟨kM (EA hu) (HJ false hK) ha hb hm⟩
end
section
variable {X:Cx}{c:C}{e a b tg:SM}{es:List SM}{ga gb g:G R}{pos:Pos}
theorem vQ:HG X c none D_:=⟨Ic JP λσ H Q ⟨J,env,sr,w⟩=>w J H (Ext.refl sr.hp.sub)⟩
theorem vR (h:QD X c e g):HG X c (some e) (Ea g):=have h:=h.h;⟨Ic (JQ h) λσ H Q ⟨J,env,sr,w⟩=>by
 refine ⟨J,env,sr,aD (aI w) λr wr v J1 H1 e1 r1=>?_⟩
 split at wr
 ·cases r1;exact ⟨_,rfl,wr J1 H1 e1⟩
 ·exact wr.elim⟩
theorem CG {p:Pos}{gs:G (List R)}(ha:jg X c (e::es) gs) (hm:X.mg "sorted"=none) (hK:X.K=c.K:=by rfl) (hg:Gl X "sorted":=by rfl)
  (he:R_ (e::es) X.env=(false,eval e X.env)::R_ es X.env:=by rfl) (hpl:(Us pos (R_ es X.env)).any (·.1)=false:=by rfl):QD X c (.Call (.Name "sorted" p) (e::es) [] pos) (gN mY gs):=have ha:=ha.h;⟨
 gG yo (by
  intro He J H xs vs Q hp rs w
  unfold mY at w
  split at w
  ·obtain ⟨v,rfl,r⟩:=rs.one
   obtain ⟨xs,q,w⟩:=kC w
   obtain ⟨p,vs,rfl,h1,h2⟩:=RR.list hp r q
   split at w
   ·rename_i ss z
    split at w
    ·rename_i hl
     have:=uc z h2
     subst this
     refine ⟨p,ss,rfl,by rw [hK];exact h1,hl,λss' hp' hs' l hl'=>?_⟩
     rw [CS hp' hs']
     exact w _ _ _ (Ext.new hp.sub hl' _) (ia hp hl' (vY _))
    ·exact w.elim
   ·exact w.elim
  ·exact w.elim) iY hm ha hg (by decide) (by decide) he hpl⟩
theorem dJ (ha:QD X c a ga) (hb:QD X c b gb):QD X c (.BinOp a .Add b pos) (g2 cU ga gb):=by
 have ha:=ha.h
 have hb:=hb.h
 refine ⟨?_⟩
 have h1:BD c (pY λi j=>.int (i + j)) yy:=gK λ_ _ _=>.int _
 have q:=n8 (pos:=pos) (Ew.or (tP.or Ex)) (BD.or (c:=c) (λx _=>Ek x) h1 (BD.or (c:=c) (λx _=>Lx x) (f:=sM) (f':=sN) (by
  intro He He' J H x y u v Q hp rx ry w
  unfold sM at w
  split at w
  ·cases rx;cases ry
   split at w
   ·rename_i h;exact ⟨_,_,rfl,rfl,h,w _ J H (Ext.refl hp.sub) (.str _)⟩
   ·exact w.elim
  ·exact w.elim) (by
  intro He He' J H x y u v Q hp rx ry w
  unfold sN at w
  split at w
  ·rename_i hm
   rw [R8] at hm
   obtain ⟨p,vs,xs,e1,rfl,h1,s1⟩:=rx.made hm.1
   obtain ⟨p2,vs2,ys,e2,rfl,h2,s2⟩:=ry.made hm.2
   rw [e1,e2] at w
   simp only [aM] at w
   split at w
   ·rename_i hz
    rw [s1.length,s2.length] at hz
    exact ⟨p,p2,vs,vs2,rfl,rfl,h1,h2,hz,λq hq=>w _ J _ (Ext.new hp.sub hq _) (ia hp hq (s1.append s2))⟩
   ·exact w.elim
  ·exact w.elim))) ha hb
 exact q
theorem jI (ha:QD X c a ga) (hb:QD X c b gb):QD X c (.BinOp a .Mult b pos) (g2 gA ga gb):=by
 have ha:=ha.h
 have hb:=hb.h
 refine ⟨?_⟩
 have h1:BD c (rI xM λi j=>.int (i * j)) uH:=yf (λi j h=>A4 h) λ_ _ _=>.int _
 exact n8 (pos:=pos) (L3.or JD) (BD.or (c:=c) (λx _=>Ek x) h1 (f':=B9) (by
  intro He He' J H x y u v Q hp rx ry w
  unfold B9 at w
  split at w
  ·cases rx;cases ry
   split at w
   ·rename_i h;exact ⟨_,_,rfl,rfl,h.1,h.2.1,h.2.2,w _ J H (Ext.refl hp.sub) (.str _)⟩
   ·exact w.elim
  ·exact w.elim)) ha hb
theorem aN (ha:QD X c a ga) (hb:QD X c b gb) (hK:X.K=c.K:=by rfl) (hs:qu b:=by exact λ_ _=>rfl):QD X c (.Subscript a b pos) (g2 bA ga gb):=have ha:=ha.h;have hb:=hb.h;⟨Ia LD (by
 intro He He' J H x y u v Q hp rx ry w
 rw [hK]
 unfold bA at w
 split at w
 ·cases rx;cases ry
  split at w
  ·rename_i h
   split at w
   ·rename_i k hk;exact .inr (.inr ⟨_,_,k,rfl,rfl,h,hk,w _ J H (Ext.refl hp.sub) (.str _)⟩)
   ·exact w.elim
  ·exact w.elim
 ·cases ry
  obtain ⟨xs,q,w⟩:=nF w
  obtain ⟨p,vs,rfl,hl,hs⟩:=qv hp rx q
  split at w
  ·rename_i d hd
   obtain ⟨z,h1,h2⟩:=Kl hs hd
   have fin:=w z J H (Ext.refl hp.sub) h2
   rcases hl with hl | hl
   ·exact .inl ⟨p,vs,_,z,rfl,rfl,hl,h1,fin⟩
   ·exact .inr (.inl ⟨p,vs,_,z,rfl,rfl,hl,h1,fin⟩)
  ·exact w.elim
 ·exact w.elim) ha hb hs⟩
theorem aV {k k' n:Nat}{F:List S->M R}{x:Str}{p:Pos}{gs:G (List R)}(G:bJ X.prog X.w X.K X.mg X.base k n x F) (hr:dB k' X.A) (ha:jg X c (e::es) gs) (hk:k<=k':=by decide) (hT:c.K=X.K:=by rfl) (hg:Gl X x:=by rfl) (hdb:(x == ("__debug__":Str))=false:=by decide)
  (he:R_ (e::es) X.env=(false,eval e X.env)::R_ es X.env:=by rfl) (hpl:(Us pos (R_ es X.env)).any (·.1)=false:=by rfl):QD X c (.Call (.Name x p) (e::es) [] pos) (gN (aS n F) gs):=by
 have ha:=ha.h
 refine ⟨?_⟩
 obtain ⟨f,fd,ps,h1,h2,h3,h4⟩:=G
 exact JH h1 (hr.mono hk) h2 h3 h4 ha hT hg hdb he hpl
theorem jq {t:GT}(h:QD X c e g) (ht:kD X c tg t) (hs:Vw [tg] e pos.line X.env=pure false:=by rfl) (hw:W6 [tg] e X.env=pure none:=by rfl)
  (h1:(Tg [tg] X.env).map (·.2)=[assign tg X.env]:=by rfl):gR X c (.Assign [tg] e pos) (kJ t g):=have h:=h.h;have ht:=ht.h;⟨JG h ht (zd h ht hs hw h1)⟩
theorem n_ {T:String}{Ts:Str}{p p2:Pos}(kit:Di T) (hT:Tj Ts=some (.type T)) (mT:X.mg Ts=none)
  (h:QD X c a g) (hm:X.mg "isinstance"=none) (hK:X.K=c.K:=by rfl) (hg:Gl X "isinstance":=by rfl) (Ru:Gl X Ts:=by rfl) (hn:Ts≠"__name__":=by decide) (Rr:(Ts == ("__debug__":Str))=false:=by decide)
  (he:R_ [a,.Name Ts p2] X.env=(false,eval a X.env)::R_ [.Name Ts p2] X.env:=by rfl) (Qz:R_ [.Name Ts p2] X.env=(false,eval (.Name Ts p2) X.env)::R_ [] X.env:=by rfl)
  (hpl:(Us pos (R_ [.Name Ts p2] X.env)).any (·.1)=false:=by rfl):QD X c (.Call (.Name "isinstance" p) [a,.Name Ts p2] [] pos) (D9 T g):=have h:=h.h;⟨
 fq (rM (Ag kit) hg hm (by decide +kernel) (eW h (eW (JK Ru mT hT (v:=.ty T) rfl hn Rr) g_ Qz) he) (by decide) (by decide) he hpl) λσ H Q ⟨J,env,sr,w⟩=>by
  refine ⟨J,env,sr,aD (aI w) λr wr v J1 H1 e1 r1=>?_⟩
  exact ⟨r.dat,v,rfl,by rw [hK];exact r1.dat (sr.hp.ext e1),wr _ J1 H1 e1 (.bl _)⟩⟩
theorem Bh {p:Pos}{gs:G (List R)}(ha:jg X c (e::es) gs) (hm:X.mg "all"=none) (hK:X.K=c.K:=by rfl) (hc:X.calm=true:=by rfl) (hg:Gl X "all":=by rfl)
  (he:R_ (e::es) X.env=(false,eval e X.env)::R_ es X.env:=by rfl) (hpl:(Us pos (R_ es X.env)).any (·.1)=false:=by rfl):QD X c (.Call (.Name "all" p) (e::es) [] pos) (gN rE gs):=have ha:=ha.h;⟨
 gG (DE hc) (by
  intro He J H xs vs Q hp rs w
  unfold rE at w
  split at w
  ·obtain ⟨v,rfl,r⟩:=rs.one
   obtain ⟨xs,q,w⟩:=kC w
   obtain ⟨p,vs,rfl,h1,h2⟩:=RR.list hp r q
   split at w
   ·rename_i ks z
    have:=o9 z h2
    subst this
    exact ⟨p,ks,rfl,by rw [hK];exact h1,w _ J H (Ext.refl hp.sub) (.bl _)⟩
   ·exact w.elim
  ·exact w.elim) Dz hm ha hg (by decide) (by decide) he hpl⟩
theorem J_ {p:Pos}{gs:G (List R)}(ha:jg X c (e::es) gs) (hm:X.mg "max"=none) (hc:X.calm=true:=by rfl) (hg:Gl X "max":=by rfl)
  (he:R_ (e::es) X.env=(false,eval e X.env)::R_ es X.env:=by rfl) (hpl:(Us pos (R_ es X.env)).any (·.1)=false:=by rfl):QD X c (.Call (.Name "max" p) (e::es) [] pos) (gN B7 gs):=have ha:=ha.h;⟨
 gG (DG hc) (by
  intro He J H xs vs Q hp rs w
  unfold B7 at w
  split at w
  ·obtain ⟨v,v',rfl,r,r'⟩:=rs.two
   cases r;cases r'
   exact ⟨_,_,rfl,w _ J H (Ext.refl hp.sub) (.int _)⟩
  ·exact w.elim) (by decide +kernel) hm ha hg (by decide) (by decide) he hpl⟩
theorem Ka {p:Pos}{gs:G (List R)}(ha:jg X c (e::es) gs) (hm:X.mg "min"=none) (hc:X.calm=true:=by rfl) (hg:Gl X "min":=by rfl)
  (he:R_ (e::es) X.env=(false,eval e X.env)::R_ es X.env:=by rfl) (hpl:(Us pos (R_ es X.env)).any (·.1)=false:=by rfl):QD X c (.Call (.Name "min" p) (e::es) [] pos) (gN B8 gs):=have ha:=ha.h;⟨
 gG (DH hc) (by
  intro He J H xs vs Q hp rs w
  unfold B8 at w
  split at w
  ·obtain ⟨v,v',rfl,r,r'⟩:=rs.two
   cases r;cases r'
   exact ⟨_,_,rfl,w _ J H (Ext.refl hp.sub) (.int _)⟩
  ·exact w.elim) (by decide +kernel) hm ha hg (by decide) (by decide) he hpl⟩
theorem fS (ha:QD X c a ga) (hb:QD X c b gb) (hK:X.K=c.K:=by rfl):QD X c (.BinOp a .Add b pos) (g2 dW ga gb):=by
 have ha:=ha.h
 have hb:=hb.h
 refine ⟨?_⟩
 have h1:BD c (pY λi j=>.int (i + j)) yy:=gK λ_ _ _=>.int _
 exact n8 (pos:=pos) (Ey.or (Ew.or (tP.or Ex))) (BD.or (c:=c) (λx _=>Ly x) (IF hK) (BD.or (c:=c) (λx _=>Ek x) h1 (BD.or (c:=c) (λx _=>Lx x) (f:=sM) (f':=sN) (by
  intro He He' J H x y u v Q hp rx ry w
  unfold sM at w
  split at w
  ·cases rx;cases ry
   split at w
   ·rename_i h;exact ⟨_,_,rfl,rfl,h,w _ J H (Ext.refl hp.sub) (.str _)⟩
   ·exact w.elim
  ·exact w.elim) (by
  intro He He' J H x y u v Q hp rx ry w
  unfold sN at w
  split at w
  ·rename_i hm
   rw [R8] at hm
   obtain ⟨p,vs,xs,e1,rfl,h1,s1⟩:=rx.made hm.1
   obtain ⟨p2,vs2,ys,e2,rfl,h2,s2⟩:=ry.made hm.2
   rw [e1,e2] at w
   simp only [aM] at w
   split at w
   ·rename_i hz
    rw [s1.length,s2.length] at hz
    exact ⟨p,p2,vs,vs2,rfl,rfl,h1,h2,hz,λq hq=>w _ J _ (Ext.new hp.sub hq _) (ia hp hq (s1.append s2))⟩
   ·exact w.elim
  ·exact w.elim)))) ha hb
theorem Bm {lo hi:Option SM}{gl gh:GO}{p2:Pos}(h:QD X c e g) (hl:HG X c lo gl) (hh:HG X c hi gh) (hK:X.K=c.K:=by rfl):QD X c (.Subscript e (.Slice lo hi none p2) pos) (AY uI g gl gh):=have h:=h.h;have hl:=hl.h;have hh:=hh.h;⟨NJ (E4.or Kr) (by
 intro He J H x v l u Q hp rx w
 unfold uI at w
 split at w
 ·exact .inl (OZ hK He J H x v l u Q hp rx w)
 ·obtain ⟨xs,q,w⟩:=kC w
  obtain ⟨p,vs,rfl,h1,h2⟩:=rx.list hp q
  exact .inr ⟨p,vs,rfl,by rw [hK];exact h1,λp' hp'=>w _ _ _ (Ext.new hp.sub hp' _) (ia hp hp' (h2.cut l u))⟩) h hl hh⟩
theorem iM {d:D}{x:Str}(h:xj X.K X.mg x d) (hK:X.K=c.K:=by rfl) (hg:Gl X x:=by rfl) (hd:(x == ("__debug__":Str))=false:=by decide):QD X c (.Name x pos) (gC d):=by
 refine ⟨?_⟩
 obtain ⟨u,v,h1,h2,h3⟩:=h
 exact JI h1 h2 (λJ=>hK▸h3 J) hg hd
end
section
variable {X:Cx}{c:C}{e a b tg:SM}{es:List SM}{ga gb g:G R}{pos:Pos}{st:Vj}{t u:G O}{tb:G Bool}
theorem jX:gR X c st sV:=⟨λRL s σ H D I ⟨J,env,sr,w⟩=>w.elim⟩
theorem Bl (h:QD X c a g):QD X c (.UnaryOp .USub a pos) (yG g):=have h:=h.h;⟨fq (NP Na h) λσ H Q ⟨J,env,sr,w⟩=>by
 refine ⟨J,env,sr,aD (aI w) λr wr v J1 H1 e1 r1=>?_⟩
 split at wr
 ·cases r1
  exact ⟨_,rfl,wr _ J1 H1 e1 (.int _)⟩
 ·exact wr.elim⟩
theorem nt (h:QD X c e g) (hK:X.K=c.K:=by rfl) (he:∀whole,Ze e X.env whole=(do let v <-whole;Vv e.pos;holding [v] (truthy v)):=by intro _;rfl):QB X c e (mw g):=have h:=h.h;⟨xH (GY h he) λσ H Q ⟨J,env,sr,w⟩=>by
 refine ⟨J,env,sr,aD (aI w) λr wr v J1 H1 e1 r1=>?_⟩
 rw [hK]
 obtain ⟨k,k1,k2⟩:=KA (sr.hp.ext e1) r1 wr
 exact ⟨k,k1,k2 J1 H1 e1⟩⟩
theorem CB (n:Nat){body:List Vj}(ht:QB X c e tb) (hb:o6 X c body u) (hp:aaA (Su X.prog X.w) X.A X.env X.xe:=by first | exact aaH | exact Z8):gR X c (.While e body [] pos) (yI n tb u):=have ht:=ht.h;have hb:=hb.h;⟨gO (GV hp ht hb) λE σ H ⟨J,env,sr,w⟩=>by
 refine ⟨λm σ H=>∃J' env,aU J J'/\SR c J' H σ env/\cJ (lC tb u m env) (oP c J' E) c.T,⟨n,J,env,aU.refl J,sr,w⟩,?_⟩
 rintro m σ H ⟨J',env,s',sr',w'⟩
 cases m with
 | zero=>exact w'.elim
 | succ m=>
  refine ⟨J',env,sr',aD (aI w') λk wk J1 H1 e1=>?_⟩
  cases k with
  | false=>
   rw [if_neg (by decide)] at wk ⊢
   exact wk σ J1 H1 e1.j (sr'.ext e1)
  | true=>
   rw [if_pos rfl] at wk ⊢
   refine ⟨λσ2 H2=>∃J2 env2,aU J1 J2/\SR c J2 H2 σ2 env2/\cJ (lC tb u m env2) (oP c J2 E) c.T,?_,?_⟩
   ·rintro σ2 H2 ⟨J2,env2,s2,sr2,w2⟩
    exact ⟨m,U5 m,J2,env2,(s'.trans e1.j).trans s2,sr2,w2⟩
   ·refine ⟨J1,env,sr'.ext e1,aD (aI wk) λo wo=>?_⟩
    cases o with
    | nx env4=>exact λσ4 J4 H4 s4 sr4=>⟨J4,env4,s4,sr4,aD wo λo q=>q.mono (e1.j.trans s4)⟩
    | ct env4=>exact λσ4 J4 H4 s4 sr4=>⟨J4,env4,s4,sr4,aD wo λo q=>q.mono (e1.j.trans s4)⟩
    | bk env4=>exact λσ4 J4 H4 s4 sr4=>wo σ4 J4 H4 (e1.j.trans s4) sr4
    | rt r=>exact λv J4 H4 s4 h4 r4=>wo v J4 H4 (e1.j.trans s4) h4 r4⟩
theorem Am (i j:Nat){x y:Str}{p1 p2 pos' q1 q2 q3:Pos}(h:QD X c e g) (hi:X.N[i]?=some x:=by rfl) (RD:qM X.env.scope x:=by first | exact WA rfl | exact Vu (WA rfl) | exact Vu (Vu rfl)) (hdx:(x == ("__debug__":Str))=false:=by decide) (Rp:(x == ("__classdict__":Str))=false:=by decide)
  (hj:X.N[j]?=some y:=by rfl) (RE:qM X.env.scope y:=by first | exact WA rfl | exact Vu (WA rfl) | exact Vu (Vu rfl)) (QV:(y == ("__debug__":Str))=false:=by decide) (Rq:(y == ("__classdict__":Str))=false:=by decide)
  (hbase:W7 (.Name x p1) "append" X.env (eval (.Name x p1) X.env)=eval (.Name x p1) X.env:=by rfl)
  (hfew:((Us pos' (R_ [.Call (.Attribute (.Name y q1) "pop" q2) [e] [] q3] X.env)).all (λx=>!x.1) && (aay pos' (Yd [] X.env)).all (λx=>x.1.isSome)
   && decide (([.Call (.Attribute (.Name y q1) "pop" q2) [e] [] q3]:List SM).length + ([]:List Ye).length + (if ([]:List Ye).isEmpty then 0 else 1) < 30))=true:=by rfl)
  (hline:(p2.endLine == pos'.line)=true:=by rfl)
  (hst:R_ [.Call (.Attribute (.Name y q1) "pop" q2) [e] [] q3] X.env=(false,eval (.Call (.Attribute (.Name y q1) "pop" q2) [e] [] q3) X.env)::R_ [] X.env:=by rfl) (hplain:(Us pos' (R_ [] X.env)).any (·.1)=false:=by rfl)
  (Qq:W7 (.Name y q1) "pop" X.env (eval (.Name y q1) X.env)=eval (.Name y q1) X.env:=by rfl)
  (QA:((Us q3 (R_ [e] X.env)).all (λx=>!x.1) && (aay q3 (Yd [] X.env)).all (λx=>x.1.isSome)
   && decide (([e]:List SM).length + ([]:List Ye).length + (if ([]:List Ye).isEmpty then 0 else 1) < 30))=true:=by rfl)
  (Qt:(q2.endLine == q3.line)=true:=by rfl) (QI:R_ [e] X.env=(false,eval e X.env)::R_ [] X.env:=by rfl) (Qn:(Us q3 (R_ [] X.env)).any (·.1)=false:=by rfl)
  (hs:VC (.Call (.Attribute (.Name x p1) "append" p2) [.Call (.Attribute (.Name y q1) "pop" q2) [e] [] q3] [] pos') none pos.line X.env=pure false:=by rfl):gR X c (.Expr (.Call (.Attribute (.Name x p1) "append" p2) [.Call (.Attribute (.Name y q1) "pop" q2) [e] [] q3] [] pos') pos) (m9 i j g):=have h:=h.h;⟨
 gO (qC (xG VA XU XX pS (kN hi RD hdx Rp) (eW (xG VA PySem.F.slot_list_pop PySem.F.type_list_pop Gv (kN hj RE QV Rq) (eW h g_ QI) Qq QA Qt QI Qn) g_ hst) hbase hfew hline hst hplain) hs) λE σ H ⟨J,env,sr,w⟩=>by
  unfold m9 at w
  split at w
  ·rename_i zs xs QW QY
   split at w
   ·exact w.elim
   ·rename_i hij
    obtain ⟨_,k1,p,us,rfl,k2,k3,k4,k5⟩:=sr.at_ i _ QW
    obtain ⟨_,l1,q,vs,rfl,l2,l3,l4,l5⟩:=sr.at_ j _ QY
    refine ⟨.ref p,k1,.inl ⟨rfl,us,cH.of k2⟩,?_⟩
    refine ⟨.ref q,l1,.inl ⟨rfl,vs,cH.of l2⟩,?_⟩
    refine ⟨J,env,sr,aD (aI w) λr wr v J1 H1 e1 r1=>?_⟩
    split at wr
    ·rename_i k
     cases r1
     split at wr
     ·rename_i hk
      split at wr
      ·rename_i d hd
       obtain ⟨z,hz,rz⟩:=l5.get hd
       have m2:=e1.h _ _ l2
       have n2:=e1.h _ _ k2
       have hpq:q≠p:=λzz=>L_ sr hij QW QY k1 l1 zz.symm
       refine ⟨q,vs,k,k.toNat,z,rfl,rfl,m2,by omega,?_,NY hk.1 (by rw [<-l5.length];exact hk.2.1),hz,?_⟩
       ·have z1:=hk.2.1
        have z2:=hk.2.2.2
        have z3:sizeLine=16777216:=S4
        omega
       ·refine ⟨p,us,z,rfl,rfl,by rw [bE (UX hpq)];exact n2,by rw [<-k5.length];exact hk.2.2.1,?_⟩
        have sr1:=sr.ext e1
        have J1p:J1 p=none:=e1.frz p (by rw [k2];intro z;cases z) k3
        have J1q:J1 q=none:=e1.frz q (by rw [l2];intro z;cases z) l3
        have sr2:=sr1.upd (xs':=xs.eraseIdx k.toNat) (vs':=vs.eraseIdx k.toNat) QY l1 m2 J1q l4 ((l5.mono e1.j).eraseIdx _)
        have QX:(env.set j (some (.own (xs.eraseIdx k.toNat))))[i]?=some (some (.own zs)):=by rw [S0 (UX hij)];exact QW
        have sr3:=sr2.upd (xs':=zs++[d]) (vs':=us++[z]) QX k1 (by rw [bE (UX hpq)];exact n2) J1p k4 ((k5.mono e1.j).append (.cons (rz.mono e1.j) .nil))
        exact wr σ J1 _ e1.j sr3
      ·exact wr.elim
     ·exact wr.elim
    ·exact wr.elim
  ·exact w.elim⟩
end
section
variable {X:Cx}{c:C}{e a b tg:SM}{es:List SM}{ga gb g:G R}{pos:Pos}
theorem An (i:Nat){x:Str}{p1 p2 pos':Pos}(h:QD X c e g) (hN:X.N[i]?=some x:=by rfl) (hv:qM X.env.scope x:=by first | exact WA rfl | exact Vu (WA rfl) | exact Vu (Vu rfl)) (hd:(x == ("__debug__":Str))=false:=by decide)
  (hcd:(x == ("__classdict__":Str))=false:=by decide)
  (hbase:W7 (.Name x p1) "extend" X.env (eval (.Name x p1) X.env)=eval (.Name x p1) X.env:=by rfl)
  (hfew:((Us pos' (R_ [e] X.env)).all (λx=>!x.1) && (aay pos' (Yd [] X.env)).all (λx=>x.1.isSome)
   && decide (([e]:List SM).length + ([]:List Ye).length + (if ([]:List Ye).isEmpty then 0 else 1) < 30))=true:=by rfl)
  (hline:(p2.endLine == pos'.line)=true:=by rfl) (hst:R_ [e] X.env=(false,eval e X.env)::R_ [] X.env:=by rfl) (hplain:(Us pos' (R_ [] X.env)).any (·.1)=false:=by rfl)
  (hs:VC (.Call (.Attribute (.Name x p1) "extend" p2) [e] [] pos') none pos.line X.env=pure false:=by rfl) (hK:X.K=c.K:=by rfl):gR X c (.Expr (.Call (.Attribute (.Name x p1) "extend" p2) [e] [] pos') pos) (yF i g):=have h:=h.h;⟨
 gO (qC (xG VA PySem.F.slot_list_extend PySem.F.type_list_extend LV (kN hN hv hd hcd) (eW h g_ hst) hbase hfew hline hst hplain) hs) λE σ H ⟨J,env,sr,w⟩=>by
  unfold yF at w
  split at w
  ·rename_i xs hi
   obtain ⟨v,h1,a,vs,rfl,h2,h3,h4,h5⟩:=sr.at_ i _ hi
   refine ⟨.ref a,h1,.inl ⟨rfl,vs,cH.of h2⟩,?_⟩
   refine ⟨J,env,sr,aD (aI w) λr wr y J1 H1 e1 r1=>?_⟩
   obtain ⟨ys,q,wr⟩:=nF wr
   split at wr
   ·rename_i hz
    obtain ⟨p,ws,rfl,hq,hs⟩:=qv (sr.hp.ext e1) r1 q
    refine ⟨a,p,vs,ws,rfl,rfl,e1.h _ _ h2,by rw [hK];exact hq,by rw [<-h5.length,<-hs.length];exact hz,?_⟩
    refine wr σ J1 _ e1.j ?_
    exact (sr.ext e1).upd hi h1 (e1.h _ _ h2) (e1.frz a (by rw [h2];intro z;cases z) h3) h4 ((h5.mono e1.j).append hs)
   ·exact wr.elim
  ·exact w.elim⟩
theorem EU (ha:QD X c a ga) (hb:QD X c b gb):QD X c (.Compare a [.Is] [b] pos) (g2 (qQ false) ga gb):=have ha:=ha.h;have hb:=hb.h;⟨pV EC (by
 intro He He' J H x y u v Q hp rx ry w
 unfold qQ at w
 split at w
 ·rename_i o ho
  refine ⟨o,by rw [qz ry];exact ho,?_⟩
  rw [qz rx]
  exact w _ J H (Ext.refl hp.sub) (.bl _)
 ·exact w.elim) ha hb⟩
theorem zf (ha:QD X c a ga) (hb:QD X c b gb):QB X c (.Compare a [.Is] [b] pos) (bQ (g2 (qQ false) ga gb)):=have ha:=ha.h;have hb:=hb.h;⟨kM EC (by
 intro He He' J H x y u v Q hp rx ry w
 unfold qQ at w
 split at w
 ·rename_i o ho
  refine ⟨o,by rw [qz ry];exact ho,?_⟩
  rw [qz rx]
  exact w _ J H (Ext.refl hp.sub) (.bl _)
 ·exact w.elim) ha hb⟩
end
section
variable {X:Cx}{c:C}{e a b d tg:SM}{es:List SM}{ga gb g:G R}{pos:Pos}
theorem jr (h:QD X c e g) (hK:X.K=c.K:=by rfl):xZ X c tg e (nT g):=have h:=h.h;⟨tR (EJ h) λσ H Q ⟨J,env,sr,w⟩=>by
 refine ⟨J,env,sr,aD (aI w) λr wr v J1 H1 e1 r1=>?_⟩
 rw [hK]
 split at wr
 ·cases r1 with
  | tup h1 h2=>exact ⟨_,rfl,.inr ⟨⟨_,fz e1.sub h1⟩,wr _ J1 H1 e1 (wF (λJ H u=>u) h1 h2)⟩⟩
 ·cases r1 with
  | lst h1 h2=>exact ⟨_,rfl,.inl ⟨⟨_,e1.sub.seq h1⟩,wr _ J1 H1 e1 (qo (.inl h1) h2)⟩⟩
 ·obtain ⟨J2,e2,s2,rd⟩:=freeze e1 r1 rfl
  cases rd with
  | lst h1 h2=>exact ⟨_,rfl,.inl ⟨⟨_,e2.sub.seq h1⟩,wr _ J2 H1 e2 (qo (.inl h1) h2)⟩⟩
 ·obtain ⟨a,vs,rfl,h1,h2⟩:=r1
  exact ⟨_,rfl,.inl ⟨⟨_,(sr.hp.ext e1).ent.seq h1⟩,wr _ J1 H1 e1 (qo (.inr h1) h2)⟩⟩
 ·exact wr.elim⟩
theorem bR (h:QD X c e g) (hK:X.K=c.K:=by rfl):qL X c tg e (dH g):=have h:=h.h;⟨tR (EJ h) λσ H Q ⟨J,env,sr,w⟩=>by
 refine ⟨J,env,sr,aD (aI w) λr wr v J1 H1 e1 r1=>?_⟩
 rw [hK]
 have lst:∀{xs:List D},jC r=.ok xs->(∀It J1' H1',Ext J H J1' H1'->Walk c It xs J1' (λJ' H'=>aU J1' J'/\aU H1' H')->Q It H1')->∃a,v=.ref a/\(((∃xs,cH c.K H1 a xs)/\Q (Hv c.K a) H1)\/((∃xs,cV c.K H1 a xs)/\Q (Hx c.K a) H1)):=fun {xs} q wr=>by
  obtain ⟨a,vs,rfl,h1,h2⟩:=RR.list (sr.hp.ext e1) r1 q
  refine ⟨a,rfl,.inl ⟨⟨_,h1⟩,wr _ J1 H1 e1 λi J' H' hp u=>?_⟩⟩
  have h':=u.2.seq h1
  refine ⟨λhl=>⟨vs,h',by rw [<-h2.length];exact hl⟩,λd hd=>?_⟩
  obtain ⟨v,k1,k2⟩:=h2.get hd
  refine ⟨⟨vs,v,h',k1⟩,λx H2 ⟨e,hy⟩=>?_⟩
  subst e
  have:=hy vs h'
  rw [k1] at this
  cases this
  exact ⟨J',Ext.refl hp.sub,k2.mono u.1⟩
 cases r with
 | d y=>
  cases y with
  | tup xs=>
   cases r1 with
   | tup h1 h2=>exact ⟨_,rfl,.inr ⟨⟨_,fz e1.sub h1⟩,wr _ J1 H1 e1 (wF (λJ H u=>u.1) h1 h2)⟩⟩
  | lst xs=>exact lst rfl wr
  | _=>exact wr.elim
 | l m xs=>exact lst rfl wr
 | mo _ _=>exact wr.elim
 | mb _ _=>exact wr.elim
 | mf _ _=>exact wr.elim⟩
end
section
variable {X:Cx}{c:C}{st:Vj}{g:G O}
theorem n9 (i:Nat) (h:gR X c st g):gR X c st (jM i g):=have h:=h.h;⟨λRL s σ H D I ⟨J,env,sr,w⟩=>by
 unfold jM at w
 split at w
 ·rename_i xs hi
  obtain ⟨v,h1,a,vs,rfl,h2,h3,h4,h5⟩:=sr.at_ i _ hi
  obtain ⟨J',s1,sr'⟩:=sr.frz (x:=.inl xs) hi h1 h2 h3 h4 (.lst (.inl (.inl b8)) (h5.mono (cM h3 _)))
  exact h RL s σ H D I ⟨J',_,sr',aD w λo q=>q.mono s1⟩
 ·rename_i ks vs hi
  obtain ⟨v,h1,a,rfl,⟨us,ws,ep,h2,m1,m2,m3,m4⟩,h3,h4⟩:=sr.at_ i _ hi
  obtain ⟨J',s1,sr'⟩:=sr.frz (x:=.inr (ks,vs)) hi h1 h2 h3 h4 (.dct b8 (m1.mono (cM h3 _)) (m2.mono (cM h3 _)) m3 m4)
  exact h RL s σ H D I ⟨J',_,sr',aD w λo q=>q.mono s1⟩
 ·exact h RL s σ H D I ⟨J,env,sr,w⟩⟩
end
section
variable {X:Cx}{c:C}
theorem bG {P:Sm}{w:SO}{K:RV}{mg:Str->Option RX}{base:TU}{x RP:Str}{st:Vj}{f:Se}{fd:SH}{N ps:List Str}{k:Nat}{Fm:List S->M R}(F:cG K x RP st f fd) (hm:mg x=some (.ref f)) (Sc:bq N ps (ay st))
  (hbi:∀(kV doc pm:RX) (an:Option Se) (cdv ct:RX) (us:List RX),us.length=ps.length->Y3 (Sb x RP (aT st) (aO st) (ay st) .none kV doc pm an cdv ct) ⟨us,[]⟩=pure (ps.zip us)){gB:G O}
  (hb:∀(cdv:RX) (A:SW) (outer:List Env) (s:RZ) (H:Hp) (E:XK) (J:Hp) (T:Exc->Prop),dB k (A.deeper (XQ RP (ay st) s.heap.objs.size f cdv))->
   o6 (HM P w K mg base N RP (ay st) f cdv A outer s H E) ⟨K,H,J,T⟩ (aO st) gB)
  (hF:∀as r,as.length=ps.length->Fm as=.ok r->fin (gB (bh N as))=.ok r):bJ P w K mg base (k + 1) ps.length x Fm:=
 Lc F hm Sc hbi (λcdv A outer s H E J T hr=>(hb cdv A outer s H E J T hr).h) hF
theorem JV {P:Sm}{w:SO}{K:RV}{mg:Str->Option RX}{base:TU}{x RP:Str}{st:Vj}{f:Se}{fd:SH}{N ps:List Str}{k:Nat}{Fm:List S->M R}(F:cG K x RP st f fd) (Sc:bq N ps (ay st)){gB:G O}
  (hb:∀(cdv:RX) (A:SW) (outer:List Env) (s:RZ) (H:Hp) (E:XK) (J:Hp) (T:Exc->Prop),dB k (A.deeper (XQ RP (ay st) s.heap.objs.size f cdv))->
   o6 (HM P w K mg base N RP (ay st) f cdv A outer s H E) ⟨K,H,J,T⟩ (aO st) gB)
  (hF:∀as r,as.length=ps.length->Fm as=.ok r->fin (gB (bh N as))=.ok r):fH P w K mg base oG (k + 1) f fd ps (qh K ps.length Fm):=
 D5 F Sc (λcdv A outer s H E J T hr=>(hb cdv A outer s H E J T hr).h) hF
end
end DL
namespace K01
open PySem DL
def Dk:List Str:=["thing"]
def vC:G O:=(bO (xy (D9 "int" (af 0)) (HU (D9 "bool" (af 0)))))
def oW (as:List S):M R:=fin (vC (bh Dk as))
theorem gF {n:Nat}(h:n<=1000):n<=sizeLine:=SJ h (by decide)
theorem uA (f:D->Bool):∀(ds:List D),jw (ds.map λd=>.bl (f d))=some (ds.map f)
 | []=>rfl
 | d::r=>by
  simp only [Sj,jw,uA f r]
  rfl
theorem all_map (f:D->Bool) (ds:List D):rE [.l .fresh (ds.map λd=>.bl (f d))]=.ok (.d (.bl (ds.all f))):=by
 unfold rE
 simp only [jC,aM,uA]
 congr 3
 simp [YM]
theorem j4 {α:Type}{xs:List α}{k:Nat}{x:α}(h:xs[k]?=some x):L2.lJ xs (k:Int)=some x:=by
 have hk:k < xs.length:=(SI.mp h).1
 unfold L2.lJ L2.yP
 rw [if_pos (by omega),if_pos (by omega)]
 simpa using h
theorem j_ {xs:List D}{k:Nat}{x:D}(h:xs[k]?=some x):bA (.d (.tup xs)) (.d (.int k))=.ok (.d x):=by
 unfold bA
 simp only [g8,aM,j4 h]
theorem sO {m:Md}{xs:List D}{k:Nat}{x:D}(h:xs[k]?=some x):bA (.l m xs) (.d (.int k))=.ok (.d x):=by
 unfold bA
 simp only [g8,aM,j4 h]
theorem IZ {z:Str}{k:Nat}{c:Nat}(hz:z.length<=1000) (h:z.cps.toList[k]?=some c):bA (.d (.str z)) (.d (.int k))=.ok (.d (.str ⟨#[c]⟩)):=by
 unfold bA
 simp only [gF hz,if_true,j4 h]
theorem eq_int (neg:Bool) (i j:Int):eU neg (.d (.int i)) (.d (.int j))=.ok (.d (.bl (if neg then !(i == j) else i == j))):=rfl
theorem i8 (a:D) (r:List D):bA (.d (.tup (a::r))) (.d (.int 0))=.ok (.d a):=j_ (k:=0) rfl
theorem LB (a b:D) (r:List D):bA (.d (.tup (a::b::r))) (.d (.int 1))=.ok (.d b):=j_ (k:=1) rfl
theorem Po (a b c:D) (r:List D):bA (.d (.tup (a::b::c::r))) (.d (.int 2))=.ok (.d c):=j_ (k:=2) rfl
theorem OP (n:Nat) (h:n<=1000):below 4611686018427387904 (n:Int)=true:=eu.mpr ⟨by omega,by omega⟩
def Ig (j:Int):M (List D):=if below 4611686018427387904 j then .ok (fD 0 j.toNat) else .bad
theorem MO (j:Int) (h:below 4611686018427387904 j=true):Ig j=.ok (fD 0 j.toNat):=by unfold Ig;exact if_pos h
theorem MN {gs:G (List R)}{env:Ev}{j:Int}(hg:gs env=.ok [.d (.int j)]):cA gs env=Ig j:=by
 unfold cA Ig
 rw [hg]
 rfl
theorem pZ {gs:G (List R)}{env:Ev}{n:Nat}(hg:gs env=.ok [.d (.int (n:Int))]) (h:n<=1000):cA gs env=.ok (fD 0 n):=by
 rw [MN hg,MO _ (OP n h)]
 exact congrArg (λk=>M.ok (fD 0 k)) (Uv n)
theorem Lm {g:G (List D)}{t:GT}{u:G O}{env:Ev}{ds:List D}(h:g env=.ok ds):gm g t u env=fF t u ds env:=by
 unfold gm
 rw [h]
 rfl
theorem zN (i j:Int):cU (.d (.int i)) (.d (.int j))=.ok (.d (.int (i + j))):=rfl
theorem B6 {C:Int->Int->Bool}{f:Int->Int->D}{i j:Int}(h:C i j=true):fI C f (.d (.int i)) (.d (.int j))=.ok (.d (f i j)):=by
 show (if C i j=true then M.ok (R.d (f i j)) else M.bad)=_
 rw [if_pos h]
theorem Bt (i j:Int) (h1:-(2 ^ 64) < j) (h2:j < 2 ^ 64):gA (.d (.int i)) (.d (.int j))=.ok (.d (.int (i * j))):=B6 (C:=yQ) (f:=λi j=>.int (i * j)) (by unfold yQ;rw [Vq];exact Vu (eu.mpr ⟨h1,h2⟩))
theorem qG (i j:Int) (h1:0 < j) (h2:j < 1073741824):i6 (.d (.int i)) (.d (.int j))=.ok (.d (.int (i / j))):=B6 (by
 unfold Cg
 rw [R8]
 exact ⟨decide_eq_true h1,eu.mpr ⟨by omega,h2⟩⟩)
theorem je (i j:Int) (h1:0 < j):fR (.d (.int i)) (.d (.int j))=.ok (.d (.int (i % j))):=B6 (decide_eq_true h1)
theorem Il (x y:Str) (h:x.length + y.length<=1000):cU (.d (.str x)) (.d (.str y))=.ok (.d (.str (x++y))):=by
 show (if x.length + y.length<=sizeLine then M.ok (R.d (D.str (x++y))) else M.bad)=_
 rw [if_pos (gF h)]
theorem Ik (x:Str) (n:Int) (h0:0<=n) (h:n<=1000) (hx:x.length<=1000):gA (.d (.str x)) (.d (.int n))=.ok (.d (.str (iC x n.toNat))):=by
 show (if 0<=n/\n<=1000/\x.length<=1000 then M.ok (R.d (D.str (iC x n.toNat))) else M.bad)=_
 rw [if_pos ⟨h0,h,hx⟩]
def K6:Str:="abcdefghijklmnopqrstuvwxyz"
theorem K7:∀k:Fin 26,K6.cps.toList[k.val]?=some (97 + k.val):=by decide +kernel
theorem IB:K6.length<=1000:=by decide +kernel
theorem Em (i:Int) (h0:0<=i) (h:i < 26):bA (.d (.str "abcdefghijklmnopqrstuvwxyz")) (.d (.int i))=.ok (.d (.str ⟨#[97 + i.toNat]⟩)):=by
 have e:i=((i.toNat:Nat):Int):=by omega
 have:=IZ (z:=K6) (k:=i.toNat) IB (K7 ⟨i.toNat,by omega⟩)
 rw [e]
 exact this
theorem sU (c:Array Nat):∀(k:Nat) (acc:Array Nat),((Tu k c).foldl (·++·) acc).toList=acc.toList++(Tu k c.toList).flatten
 | 0,acc=>by simp
 | k + 1,acc=>by
  rw [Vz,VL,sU c k]
  simp [Vz]
theorem IQ (b n:Nat):(iC ⟨#[b]⟩ n).cps.toList=Tu n b:=by
 unfold iC
 simp only
 rw [sU]
 induction n with
 | zero=>rfl
 | succ n ih=>simpa [Vz] using ih
theorem Jt (x:Str):x.length=x.cps.toList.length:=by
 show x.cps.size=_
 simp
theorem strs_map:∀(ss:List Str),strsOf (ss.map .str)=some ss
 | []=>rfl
 | s::r=>by
  simp only [Sj,strsOf,strs_map r]
  rfl
theorem sorted_strs (m:Md) (ss:List Str) (h:ss.length < 64):mY [.l m (ss.map .str)]=.ok (.l .fresh ((qE ss).map .str)):=by
 unfold mY
 simp only [jC,aM,strs_map,h,if_true]
theorem yM {b:G Bool}{t u:G O}{env:Ev}(h:b env=.ok false):cu b t u env=u env:=by
 unfold cu
 rw [h]
 rfl
theorem A1 {b:G Bool}{t u:G O}{env:Ev}(h:b env=.ok true):cu b t u env=t env:=by
 unfold cu
 rw [h]
 rfl
theorem ND {g:G R}{f:List R->M R}{env:Ev}{r r':R}(h:g env=.ok r) (hf:f [r]=.ok r'):gN f (ao g aE) env=.ok r':=by
 unfold gN ao
 rw [h]
 exact hf
theorem MK {g:G R}{env:Ev}{r r':R}(h:g env=.ok r) (h2:rF r=.ok r'):bO g env=.ok (.rt r'):=by
 unfold bO
 rw [h,aM,h2]
 rfl
abbrev dN (k:Nat):D:=.int k
abbrev dP (p:Nat×Nat):D:=.tup [.int p.1,.int p.2]
def jG (p q:Nat×Nat):Prop:=p.1 < q.1\/(p.1=q.1/\p.2 < q.2)
def xo (m:Nat) (xs:List Nat):Prop:=xs.length<=8/\xs.Pairwise (· < ·)/\∀x∈xs,x < m
def sA (m:Nat) (ps:List (Nat×Nat)):Prop:=ps.length<=64/\ps.Pairwise jG/\∀p∈ps,p.1 < m/\p.2 < m
structure Wd where
 m:Nat
 ms:List (Str×List Nat)
 ar:List (Str×List (Nat×Nat))
abbrev kT (r:Str×List Nat):D:=.tup [.str r.1,.tup (r.2.map dN)]
abbrev p5 (r:Str×List (Nat×Nat)):D:=.tup [.str r.1,.tup (r.2.map dP)]
def Wd.d (w:Wd):D:=.tup [.int w.m,.tup (w.ms.map kT),.tup (w.ar.map p5)]
theorem vW {K:RV}{J:L2.Hp}:∀(ns:List Int),aH K J (ns.map D.int) (ns.map L2.V.int)
 | []=>.nil
 | n::r=>.cons (.int n) (vW r)
end K01
namespace DX
open PySem PySem.Spec
open Builtin Builtin.ObjectAttr
end DX
namespace DX
open PySem PySem.Spec
end DX
namespace DX
open PySem PySem.Spec PyProof.Rows L2
end DX
namespace DL
open PySem PySem.Spec PyProof.Rows L2 DX
noncomputable def Oz (K:RV) (J:Hp) (x:Exc) (v:RX) (dx:Option Se):Prop:=
 ∃a C vs,v=.ref a/\J a=some (XO a C dx)/\SV K SE x.cls=some (some (.ref C))/\XF J dx x.ns vs/\aH K J x.ds vs/\∃P,GX K P/\XE K P C
def XW (K:RV) (J H:Hp) (E:XK) (x:Exc):Prop:=∀v dx J' H',Ext J H J' H'->Oz K J' x v dx->E v dx H'
noncomputable def zI (K:RV) (n:Nat) (F:List S->M R):Sp:=λvs H Q E=>∃J as,aU J H/\as.length=n/\ji K J H as vs/\cJ (F as) (λr=>∀v J' H',Ext J H J' H'->FR K H J' H' r v->Q v H') (XW K J H E)
abbrev Pk (P:Sm) (w:SO) (K:RV) (mg:Str->Option RX) (base:TU) (N:List Str) (RP:Str) (sc:U3) (f:Se) (cd:RX) (A:SW) (outer:List Env) (s:RZ) (H:Hp) (E:XK):Cx:=pg (u_ P w) P w K mg base N RP sc f cd A outer s H E
end DL
namespace DX
open PySem PySem.Spec PyProof.Rows L2
end DX
namespace DL
open PySem PySem.Spec PyProof.Rows L2 DX
end DL
namespace DX
open PySem PySem.Spec PyProof.Rows L2
end DX
namespace DL
open PySem PySem.Spec PyProof.Rows L2 DX
end DL
namespace DX
open PySem PySem.Spec PyProof.Rows L2
open Sem (wp)
end DX
namespace DL
open PySem PySem.Spec PyProof.Rows L2 DX
noncomputable def KI (P:Sm) (w:SO) (K:RV) (mg:Str->Option RX) (base:TU) (k n:Nat) (x:Str) (Fm:List S->M R):Prop:=
 ∃f fd ps,fH P w K mg base (u_ P w) k f fd ps (zI K n Fm)/\mg x=some (.ref f)/\TM K (.ref f)=true/\Binds K fd ps []
structure nI (K:RV) (x RP:Str) (st:Vj) (f:Se) (fd:SH):Prop where
 ex:∃(oc:RX) (od:Option Se) (T:Se) (o:Obj) (n:Nat) (kV doc pm:RX) (an:Option Se) (cdv ct:RX) (osl:Array (Option RX)),
  fd=Sb x RP (aT st) (aO st) (ay st) (.ref T) kV doc pm an cdv ct/\K.lookup f=some ⟨oc,od,.func fd,osl⟩/\Vd K cdv RP=true/\K.lookup T=some o/\o.data=.seq #[.none] n
 kp:TM K (.ref f)=true
theorem yb {K:RV}{J H:Hp}:∀{as:List S}{vs:List V},ji K J H as vs->ji K J H (as++[.d .non]) (vs++[.non])
 | [],_,h=>by
  cases h
  exact ⟨.non,[],rfl,.non,rfl⟩
 | a::as,_,h=>by
  obtain ⟨v,us,rfl,h1,h2⟩:=h
  exact ⟨v,us++[.non],rfl,h1,yb h2⟩
section
variable {P:Sm}{w:SO}{K:RV}{mg:Str->Option RX}{base:TU}
theorem I_ {x RP:Str}{st:Vj}{f:Se}{fd:SH}{N ps:List Str}{k:Nat}{Fm:List S->M R}(F:nI K x RP st f fd) (Sc:bq N ps (ay st)){gB:G O}
  (hb:∀(cdv:RX) (A:SW) (outer:List Env) (s:RZ) (H:Hp) (E:XK) (J:Hp),dB k (A.deeper (XQ RP (ay st) s.heap.objs.size f cdv))->HD (Pk P w K mg base N RP (ay st) f cdv A outer s H E) ⟨K,H,J,XW K J H E⟩ (aO st) gB)
  (hF:∀as,as.length=ps.length->Fm as≠.bad->fin (gB (bh N as))=Fm as):fH P w K mg base (u_ P w) (k + 1) f fd ps (zI K ps.length Fm):=by
 obtain ⟨oc,od,T,o,n,kV,doc,pm,an,cdv,ct,osl,rfl,lk,hcd,lT,dT⟩:=F.ex
 refine HQ lk hcd Sc (λvs H Q E ⟨J,as,h1,h2,h3,h4⟩=>by rw [h3.length,h2]) λA outer s H vs Q E hr ⟨J,as,h1,h2,h3,h4⟩=>?_
 refine ⟨_,hb cdv A outer s H E J hr,J,bh N as,zK h1 h3,?_⟩
 have z:=hF as h2 (λq=>by rw [q] at h4;exact h4)
 rw [<-z] at h4
 have ext:∀{J' H':Hp},HI ⟨K,H,J,XW K J H E⟩ J' H'->Ext J H J' H':=λhp=>⟨hp.ent,hp.entJ,hp.sub,hp.frz⟩
 cases qg:gB (bh N as) with
 | bad=>rw [qg] at h4;exact h4
 | exc x=>rw [qg] at h4;exact h4
 | ok o=>
  rw [qg] at h4
  cases o with
  | bk _=>exact h4.elim
  | ct _=>exact h4.elim
  | nx env=>exact λσ' J' H' _ sr=>h4 .non J' H' (ext sr.hp) .non
  | rt r=>exact λv J' H' _ hp rf=>h4 v J' H' (ext hp) (by
    cases r with
    | d x=>exact rf
    | mo _ _=>exact rf
    | mf _ _=>exact rf
    | mb _ _=>exact rf
    | l m xs=>exact rf)
noncomputable def Ff (P:Sm) (w:SO) (K:RV) (mg:Str->Option RX) (base:TU) (k n:Nat) (x:Str) (Fm:List S->M R):Prop:=
 ∃f fd ps,fH P w K mg base (u_ P w) k f fd ps (zI K (n + 1) Fm)/\mg x=some (.ref f)/\TM K (.ref f)=true/\Binds K fd ps [.none]
theorem nI.bindsAll {x RP:Str}{st:Vj}{f:Se}{fd:SH}{ps:List Str}(F:nI K x RP st f fd)
  (h:∀(T:Se) (kV doc pm:RX) (an:Option Se) (cdv ct:RX) (us:List RX),us.length=ps.length->∃k:Option (Array RX)->Sem (List (Str×RX)),
   Y3 (Sb x RP (aT st) (aO st) (ay st) (.ref T) kV doc pm an cdv ct) ⟨us,[]⟩=ab5 (.ref T) >>= k/\k (some #[.none])=pure (ps.zip us)):Binds K fd ps []:=by
 obtain ⟨oc,od,T,o,n,kV,doc,pm,an,cdv,ct,osl,rfl,lk,hcd,lT,dT⟩:=F.ex
 intro s us hK hl
 rw [UZ] at hl ⊢
 obtain ⟨k,h1,h2⟩:=h T kV doc pm an cdv ct us hl
 exact .of_defaults (T:=T) (items:=#[.none]) rfl (hK _ _ lT) dT h1 h2
theorem nI.bindsOne {x RP:Str}{st:Vj}{f:Se}{fd:SH}{ps:List Str}(F:nI K x RP st f fd)
  (h:∀(T:Se) (kV doc pm:RX) (an:Option Se) (cdv ct:RX) (us:List RX),us.length + 1=ps.length->∃k:Option (Array RX)->Sem (List (Str×RX)),
   Y3 (Sb x RP (aT st) (aO st) (ay st) (.ref T) kV doc pm an cdv ct) ⟨us,[]⟩=ab5 (.ref T) >>= k/\k (some #[.none])=pure (ps.zip (us++[.none]))):Binds K fd ps [.none]:=by
 obtain ⟨oc,od,T,o,n,kV,doc,pm,an,cdv,ct,osl,rfl,lk,hcd,lT,dT⟩:=F.ex
 intro s us hK hl
 obtain ⟨k,h1,h2⟩:=h T kV doc pm an cdv ct us (by simpa using hl)
 exact .of_defaults (T:=T) (items:=#[.none]) rfl (hK _ _ lT) dT h1 h2
end
section
variable {X:Cx}{c:C}{e:SM}{es:List SM}{pos:Pos}
theorem EE {k n:Nat}{f:Se}{fd:SH}{ps:List Str}{F:List S->M R}{x:Str}{p:Pos}{gs:G (List R)}(G:fH X.prog X.w X.K X.mg X.base (u_ X.prog X.w) k f fd ps (zI X.K (n + 1) F)) (hr:dB k X.A) (hm:X.mg x=some (.ref f)) (hk:TM X.K (.ref f)=true)
  (hb:Binds X.K fd ps [.none]) (ha:Dp X c (e::es) gs) (hT:c.K=X.K:=by rfl) (hg:Gl X x:=by rfl) (hdb:(x == ("__debug__":Str))=false:=by decide) (he:R_ (e::es) X.env=(false,eval e X.env)::R_ es X.env:=by rfl)
  (hpl:(Us pos (R_ es X.env)).any (·.1)=false:=by rfl):PD X c (.Call (.Name x p) (e::es) [] pos) (gN (aS n (λas=>F (as++[.d .non]))) gs):=by
 refine fq (uT (E:=λ_ _ _=>False) G hr hg hm hk hb (dvs:=[.non]) (.cons rfl .nil) (λRL σ H s v s' I ⟨e,C,dx,T,H',ev,f⟩=>f.wish.elim) ha hdb he hpl) λσ H Q ⟨J,env,sr,w⟩=>?_
 refine ⟨J,env,sr,aD (aI w) λrs wr vs J1 H1 e1 r1=>?_⟩
 unfold aS at wr
 split at wr
 ·rename_i hl
  have h1:=sr.hp.ext e1
  have ar:=r1.args h1
  rw [hT] at ar
  refine ⟨J1,rs.map fV++[.d .non],e1.sub,by simpa using hl,yb ar,?_⟩
  dsimp only at wr
  cases q:F (rs.map fV++[.d .non]) with
  | bad=>rw [q] at wr;exact wr
  | exc x=>rw [q] at wr;exact wr.elim
  | ok r=>
   rw [q] at wr
   intro v J' H' e2 fr
   refine wr v J' H' (e1.trans e2) ?_
   cases r with
   | d y=>exact (show Rep c.K J' y v from hT▸fr)
   | mo _ _=>exact fr.elim
   | mb _ _=>exact fr.elim
   | mf _ _=>obtain ⟨a,h1,h2,h3,h4⟩:=fr;exact ⟨a,h1,hT▸h2,h3,e1.h.free h4⟩
   | l m ys=>
    obtain ⟨a,us,h1,h2,h3,h4,h5⟩:=fr
    exact ⟨a,us,h1,h2,h3,e1.h.free h4,hT▸h5⟩
 ·exact wr.elim
theorem zg {k k' n:Nat}{F:List S->M R}{x:Str}{p:Pos}{gs:G (List R)}(G:Ff X.prog X.w X.K X.mg X.base k n x F) (hr:dB k' X.A) (ha:jg X c (e::es) gs) (hk:k<=k':=by decide) (hT:c.K=X.K:=by rfl) (hg:Gl X x:=by rfl) (hdb:(x == ("__debug__":Str))=false:=by decide)
  (he:R_ (e::es) X.env=(false,eval e X.env)::R_ es X.env:=by rfl) (hpl:(Us pos (R_ es X.env)).any (·.1)=false:=by rfl):QD X c (.Call (.Name x p) (e::es) [] pos) (gN (aS n (λas=>F (as++[.d .non]))) gs):=by
 obtain ⟨f,fd,ps,h1,h2,h3,h4⟩:=G
 exact ⟨EE h1 (hr.mono hk) h2 h3 h4 ha.h hT hg hdb he hpl⟩
end
section
variable {prog:Sm}{w:SO}{A:SW}{E:RX->RZ->Prop}{s:RZ}
theorem MW {l:Se}{items:Array RX}{Q:List RX->RZ->Prop}(hl:abX s.heap l items) (hh:A.handled=none) (h1:1<=items.size) (hz:items.size<=2000)
  (h:∀(h':TU) (tk:Nat),(∀b o,s.heap.get? b=some o->h'.get? b=some o)->Q (.ref h'.objs.size::items.toList.drop (items.size - 1)) {s with heap:=h'.push (Uu "list" (items.toList.take (items.size - 1)).toArray 0),toks:=tk}):
  So (Su prog w) A (unpackItems (.ref l) 2 (some 0)) Q E s:=by
 have la:l < s.heap.objs.size:=by obtain ⟨o,ho,_⟩:=hl;exact Si ho
 unfold unpackItems
 refine (RU ?_)
 unfold notIterableAtAll
 refine RU ((VN hl.typeIs slot_tuple_iter.lookup ?_))
 refine (RY ?_)
 simp only [Sk,if_false]
 refine RU ((SD (iter_tuple hl ?_)))
 refine RU (SD (show So _ _ (pure []) _ _ _ from RY ?_))
 rw [if_neg (by simp)]
 have hit:IsTupIter (s.heap.push {cls:=.type "tuple_iterator",data:=.fields #[.ref l,.int 0 0]}) s.heap.objs.size l 0:=⟨_,Sd _ rfl,rfl,rfl⟩
 have hl1:=hl.push {cls:=.type "tuple_iterator",data:=.fields #[.ref l,.int 0 0]}
 have z0:s.heap.objs.size < (s.heap.push {cls:=.type "tuple_iterator",data:=.fields #[.ref l,.int 0 0]}).objs.size:=by obtain ⟨o,ho,_⟩:=hit;exact Si ho
 refine RU (SD (W.kun_collect (s:={s with heap:=s.heap.push {cls:=.type "tuple_iterator",data:=.fields #[.ref l,.int 0 0]}}) (T:="tuple_iterator") (.inr (.inr (.inr rfl))) (aaI (A:=A.in1) hh s.heap.objs.size l (Sv la) items) (λj u st=>st.1.typeIs) (k:=0)
  (SG _) ⟨hit,hl1⟩ z0 (VM la z0) (λh2 tk hk=>?_) (by rw [S4];omega)))
 rw [Zg]
 have hrl:items.toList.length=items.size:=Sa
 show So _ _ (if items.toList.length < 2 - 1 - 0 then _ else _) _ _ _
 rw [if_neg (by rw [hrl];omega)]
 show So _ _ (acy (items.toList.take (items.toList.length - (2 - 1 - 0))) >>= λd=>pure ([]++[d]++items.toList.drop (items.toList.length - (2 - 1 - 0)))) _ _ _
 rw [hrl]
 refine RU (Wq (RY (h h2 tk λb o e=>hk b o (Sv (Si e)) (R5 _ e))) ?_)
 rw [UM,hrl,S4];omega
end
section
variable {X:Cx}{c:C}{e:SM}{g:G R}{pos:Pos}
theorem wC {z:V}:∀{xs:List V}{us:List RX},Vals (xs++[z]) us->∃u us',us=us'++[u]/\Vals xs us'/\RelV z u
 | [],_,h=>by
  cases h with
  | cons q r=>cases r;exact ⟨_,[],rfl,.nil,q⟩
 | x::xs,_,h=>by
  cases h with
  | cons q r=>
   obtain ⟨u,us',rfl,h1,h2⟩:=wC r
   exact ⟨u,_::us',rfl,.cons q h1,h2⟩
def Ln (K:RV) (t:o7):TG:=λv σ H Q=>∃a xs z,v=.ref a/\cV K H a (xs++[z])/\xs.length<=1000/\∀p,H p=none->t [.ref p,z] σ (upd H p (.lst xs)) Q
theorem JN {es es':List SM}{k:Nat}{t:o7}(hc:X.calm=true) (h:vd X es' t) (hn:(Tg es X.env).length=2:=by rfl) (hst:(Tg es X.env).findIdx? (·.1)=some 0:=by rfl)
  (hm:(Tg es X.env).map (·.2)=(Tg es' X.env).map (·.2):=by rfl):PG X (.Tuple es k pos) (Ln X.K t):=by
 intro RL s σ H v u Q I r ⟨a,xs,z,e1,hq,hl,hw⟩
 subst e1
 cases r
 obtain ⟨RM,rv,ht,hz⟩:=I.tuple hq
 obtain ⟨u,us,rfl,r1,r2⟩:=wC rv
 have lu:us.length=xs.length:=r1.length.symm
 rw [assign_Tuple]
 refine RU ((T5 ?_))
 unfold unpack
 rw [hn,hst]
 refine RU (SD (MW ht (I.ok.hd hc) (by simp) (by simp;omega) λh' tk kp=>?_))
 have I1:Inv X RL σ H {s with heap:=h',toks:=tk}:=I.kept (t':=tk) kp
 have fr:H h'.objs.size=none:=I1.hok.fresh (R6 _)
 have e1:(us++[u]).toArray.toList.drop ((us++[u]).toArray.size - 1)=[u]:=by simp
 have e2:(us++[u]).toArray.toList.take ((us++[u]).toArray.size - 1)=us:=by simp
 rw [e1,e2,hm]
 have I2:=I1.laid (a:=h'.objs.size) (o:=.lst xs) (h':=h'.push (Uu "list" us.toArray 0)) (t':=tk) (λ_ _ q=>R5 _ q) (R6 _) (show cj X.prog X.w _ _ _ (.lst xs) from ⟨by rw [S4];omega,us,0,r1,by simpa [Uu] using Sd h' (o:=Uu "list" us.toArray 0) rfl⟩)
 exact h RL _ σ _ _ _ Q I2 (.cons (show RelV (.ref h'.objs.size) (.ref h'.objs.size) from rfl) (.cons r2 .nil)) (hw _ fr)
noncomputable def sW (t:mL) (g:G R):G O:=λenv=>g env >>= λr=>toD r >>= λd=>match d with
 | .tup xs=>match xs.getLast? with
  | some z=>if xs.length<=1000 then t [.lst xs.dropLast,z] env >>= λe=>.ok (.nx e) else .bad
  | none=>.bad
 | _=>.bad
theorem vX {K:RV}{J:Hp}:∀{ds:List D}{vs:List V}{z:D},ds.getLast?=some z->aH K J ds vs->∃xs v,vs=xs++[v]/\aH K J ds.dropLast xs/\Rep K J z v
 | [],_,_,h,_=>by simp at h
 | [d],_,_,h,.cons q .nil=>by
  simp at h
  subst h
  exact ⟨[],_,rfl,.nil,q⟩
 | d::d'::ds,_,z,h,.cons q rs=>by
  obtain ⟨xs,v,rfl,h1,h2⟩:=vX (ds:=d'::ds) (by simpa using h) rs
  exact ⟨_::xs,v,rfl,.cons q h1,h2⟩
theorem GK {es es':List SM}{k:Nat}{pos':Pos}{t:mL}(h:PD X c e g) (ht:K2 X c es' t) (QT:X.calm=true:=by rfl) (hK:X.K=c.K:=by rfl) (hn:(Tg es X.env).length=2:=by rfl) (hst:(Tg es X.env).findIdx? (·.1)=some 0:=by rfl)
  (hm:(Tg es X.env).map (·.2)=(Tg es' X.env).map (·.2):=by rfl) (hs:Vw [.Tuple es k pos'] e pos.line X.env=pure false:=by rfl) (hw:W6 [.Tuple es k pos'] e X.env=pure none:=by rfl)
  (h1:(Tg [.Tuple es k pos'] X.env).map (·.2)=[assign (.Tuple es k pos') X.env]:=by rfl):xW X c (.Assign [.Tuple es k pos'] e pos) (sW t g):=gO (zd h (JN QT ht hn hst hm) hs hw h1) λE σ H ⟨J,env,sr,w⟩=>by
 refine ⟨J,env,sr,aD (aI w) λr wr v J1 H1 e1 r1=>?_⟩
 obtain ⟨d,q,wr⟩:=gQ wr
 obtain ⟨J1',e1',s1,rd⟩:=freeze e1 r1 q
 split at wr
 ·rename_i xs
  split at wr
  ·rename_i z hz
   split at wr
   ·rename_i hl
    cases rd with
    | tup h1 hs=>
     obtain ⟨vs,vz,rfl,k1,k2⟩:=vX hz hs
     have sr1:=sr.ext e1'
     have ln:vs.length<=1000:=by
      have:=hs.length
      rw [Sy] at this
      simp at this
      omega
     refine ⟨_,vs,vz,rfl,by rw [hK];exact fz sr1.hp.sub h1,ln,λp hp=>?_⟩
     have e2:Ext J1' H1 (upd J1' p (.lst vs)) (upd H1 p (.lst vs)):=Ext.newJ sr1.hp.sub hp _
     refine ⟨_,env,_,sr1.ext e2,.cons (.lst (.inl (.inl b8)) (k1.mono e2.j)) (.cons (k2.mono e2.j) .nil),aD (aI wr) λev w2 σ' sr' _=>?_⟩
     exact w2 σ' _ _ (e1'.j.trans e2.j) sr'
   ·exact wr.elim
  ·exact wr.elim
 ·exact wr.elim
end
end DL
namespace DL
open PySem PySem.Spec PyProof.Rows L2
noncomputable def ur (A:SW) (s:RZ) (y x:RX) (b:Bool):Prop:=
 ∀(prog:Sm) (w:SO) (E:RX->RZ->Prop) (Q:RX->RZ->Prop),Q (.bool b) s->So (Su prog w) A (richCompare .Lt y x) Q E s
inductive f_ (A:SW) (s:RZ) (fin:Bool):List (RX×RX)->Bool->Prop
 | nil:f_ A s fin [] fin
 | yes {x y:RX}{r:List (RX×RX)}{b:Bool}:UK A s x y true->f_ A s fin r b->f_ A s fin ((x,y)::r) b
 | no {x y:RX}{r:List (RX×RX)}{b:Bool}:UK A s x y false->ur A s x y b->f_ A s fin ((x,y)::r) b
section
open PySem.SeqAt
open PySem.AutoSeq1 (wpAny_loadPart')
open PySem.MeetsSeq PySem.MeetsSeq2 PySem.MeetsSeq3
theorem E9 (l b:Se) (items RQ:Array RX) (n n2:Nat) (dd dd2:Option Se) (sl sl2:Array (Option RX)) (ans:Bool):
  Meets (Wb.«tuple.__lt__» ⟨[.ref l,.ref b],[]⟩)
   (λA R s=>s.heap.get? l=some {cls:=.type "tuple",dict:=dd,data:=.seq items n,slots:=sl}/\s.heap.get? b=some {cls:=.type "tuple",dict:=dd2,data:=.seq RQ n2,slots:=sl2}/\
    f_ A.in1 s (decide (items.size < RQ.size)) (items.toList.zip RQ.toList) ans/\R (.ok (.ret (.bool ans))) s):=
 .of_wp λprog w A R s h=>by
  obtain ⟨hp,g,d,tk,os⟩:=s;obtain ⟨hl,hb,hP,h⟩:=h
  have f2:=Wg
  wp_walk using U1 hl,U1 hb,U6 _ (λrest b s'=>b.1=none/\s'=⟨hp,g,d,tk,os⟩/\f_ A.in1 ⟨hp,g,d,tk,os⟩ (decide (items.size < RQ.size)) rest ans) _
  case turn=>
   rintro ⟨y,x⟩ rest b s' ⟨hb',rfl,hq⟩
   cases hq with
   | yes he hr=>
    refine RU (he prog w _ _ ?_)
    wp_walk
    exact ⟨rfl,rfl,hr⟩
   | no he hlt=>
    refine RU (he prog w _ _ ?_)
    have Q_:=hlt prog w
    wp_walk using Q_
    exact ⟨_,rfl,by simpa using h⟩
  case fin=>
   rintro ⟨b1,b2⟩ s' ⟨hb',rfl,hq⟩
   simp only at hb'
   subst hb'
   cases hq
   wp_walk
   exact ⟨_,rfl,by simpa [WD] using h⟩
  case h=>
   exact ⟨rfl,rfl,hP⟩
end
section
variable {K:RV}{J:Hp}{s:RZ}
theorem Jw {A:SW}{l b:Se}{items RQ:Array RX}{ans:Bool}(hl:s.heap.IsTuple l items) (hb:s.heap.IsTuple b RQ) (hP:f_ A.in1 s (decide (items.size < RQ.size)) (items.toList.zip RQ.toList) ans)
  (hu:A.units < Uh):ur A s (.ref l) (.ref b) ans:=λprog w E Q h=>by
 obtain ⟨⟨cls,dd,data,sl⟩,ho,hc,n,hd⟩:=id hl
 obtain ⟨⟨cls2,dd2,data2,sl2⟩,ho2,hc2,n2,hd2⟩:=id hb
 simp only at hc hd hc2 hd2
 subst hc hd hc2 hd2
 exact YA (op:=.Lt) ⟨_,ho,rfl⟩ ⟨_,ho2,rfl⟩ PySem.F.slot_tuple_lt PySem.F.entry_tuple_lt (PySem.F.args_tuple_lt_2 _ _) (E9 l b items RQ n n2 dd dd2 sl sl2 ans)
  ⟨ho,ho2,hP,show Vm ans≠Y9/\Q (.bool ans) s from ⟨(λx=>nomatch x),h⟩⟩ hu
mutual
noncomputable def cW:D->D->Option Bool
 | .bl p,y=>match y with
  | .bl q=>some (!p && q)
  | _=>none
 | .int i,y=>match y with
  | .int j=>some (decide (i < j))
  | _=>none
 | .str x,y=>match y with
  | .str z=>some (decide (x.cps.toList < z.cps.toList))
  | _=>none
 | .tup xs,y=>match y with
  | .tup ys=>i9 xs ys
  | _=>none
 | _,_=>none
noncomputable def i9:List D->List D->Option Bool
 | [],ys=>some (!ys.isEmpty)
 | x::xs,ys=>match ys with
  | []=>some false
  | y::ys=>if bg x y=true then i9 xs ys else cW x y
end
theorem Jv (A:SW){p:Bool}{e:D}{w:V}{u':RX}{b:Bool}(h:cW (.bl p) e=some b) (re:Rep K J e w) (rw':RelV w u'):ur A s (.bool p) u' b:=by
 unfold cW at h
 cases e with
 | bl q=>
  cases re
  cases rw'
  simp only [Uw] at h
  subst h
  intro prog w E Q hq
  refine (lt_bool (p:=p) (q:=q) ?_:So (Su prog w) A (Ug .Lt (.bool p) (.bool q)) Q E s)
  cases p <;> cases q <;> exact hq
 | _=>cases h
theorem Gr (A:SW){p:Int}{t:Tok}{e:D}{w:V}{u':RX}{b:Bool}(h:cW (.int p) e=some b) (re:Rep K J e w) (rw':RelV w u'):ur A s (.int p t) u' b:=by
 unfold cW at h
 cases e with
 | int q=>
  cases re
  obtain ⟨t',rfl⟩:=rw'
  simp only [Uw] at h
  subst h
  intro prog w E Q hq
  exact (acz hq:So (Su prog w) A (Ug .Lt (.int p t) (.int q t')) Q E s)
 | _=>cases h
theorem Gs (A:SW){p:Str}{t:Tok}{e:D}{w:V}{u':RX}{b:Bool}(h:cW (.str p) e=some b) (re:Rep K J e w) (rw':RelV w u'):ur A s (.str p t) u' b:=by
 unfold cW at h
 cases e with
 | str q=>
  cases re
  obtain ⟨t',rfl⟩:=rw'
  simp only [Uw] at h
  subst h
  intro prog w E Q hq
  exact (acA hq:So (Su prog w) A (Ug .Lt (.str p t) (.str q t')) Q E s)
 | _=>cases h
noncomputable def Fq (K:RV) (J:Hp) (s:RZ) (d:D):Prop:=∀{e:D}{v w:V}{u u':RX}{b:Bool}(A:SW),cW d e=some b->Rep K J d v->Rep K J e w->RelV v u->RelV w u'->A.units + dep d < Uh->dep d<=1000->dep e<=1000->ur A s u u' b
noncomputable def sq (K:RV) (J:Hp) (s:RZ) (ds:List D):Prop:=∀{es:List D}{vs ws:List V}{us us':List RX}{b:Bool}{n1 n2:Nat}(A:SW),i9 ds es=some b->aH K J ds vs->aH K J es ws->Vals vs us->Vals ws us'->A.units + deps ds < Uh->deps ds<=1000->deps es<=1000->
  us.length + n2=us'.length + n1->f_ A s (decide (n1 < n2)) (us.zip us') b
theorem Gu (F:HF K J s){ds:List D}(ih:sq K J s ds):Fq K J s (.tup ds):=by
 intro e v w u u' b A h rd re rv rw' hu k1 k2
 unfold cW at h
 cases e with
 | tup es=>
  simp only at h
  cases rd with
  | tup h1 hs=>
   cases re with
   | tup h2 hs'=>
    cases rv;cases rw'
    obtain ⟨RM,r,p⟩:=F.t _ _ h1
    obtain ⟨its',r',p'⟩:=F.t _ _ h2
    refine Jw p p' ?_ (by unfold dep at hu;omega)
    have:=ih A.in1 (n1:=RM.length) (n2:=its'.length) h hs hs' r r' (by rw [in1_units];unfold dep at hu;omega) (by unfold dep at k1;omega) (by unfold dep at k2;omega) (by omega)
    simpa using this
 | _=>cases h
theorem Er:sq K J s []:=by
 intro es vs ws us us' b n1 n2 A h rd re rv rw' hu k1 k2 hl
 cases rd;cases rv
 cases re with
 | nil=>
  cases rw'
  simp only [i9,List.isEmpty_nil,UR,Uw] at h
  subst h
  have:decide (n1 < n2)=false:=decide_eq_false (by simp at hl;omega)
  rw [this]
  exact .nil
 | cons _ _=>
  cases rw'
  simp only [i9,List.isEmpty_cons,WK,Uw] at h
  subst h
  have:decide (n1 < n2)=true:=decide_eq_true (by simp at hl;omega)
  rw [this]
  exact .nil
theorem Cp (F:HF K J s){x:D}{xs:List D}(ix:Fq K J s x) (ih:sq K J s xs):sq K J s (x::xs):=by
 intro es vs ws us us' b n1 n2 A h rd re rv rw' hu k1 k2 hl
 cases rd with
 | cons q1 r1=>
  cases rv with
  | cons t1 u1=>
   cases re with
   | nil=>
    cases rw'
    simp only [i9,Uw] at h
    subst h
    have:decide (n1 < n2)=false:=decide_eq_false (by simp at hl;omega)
    rw [this]
    exact .nil
   | cons q2 r2=>
    cases rw' with
    | cons t2 u2=>
     unfold deps at hu k1 k2
     rename_i y v' ys ws' u0 us0
     have he:=mU F A q1 q2 t1 t2 (by omega) (by omega) (by omega)
     simp only [i9] at h
     cases z:bg x y with
     | true=>
      rw [z,if_pos rfl] at h
      rw [z] at he
      exact .yes he (ih A h r1 r2 u1 u2 (by omega) (by omega) (by omega) (by simp at hl;omega))
     | false=>
      rw [z,if_neg SN] at h
      rw [z] at he
      exact .no he (ix A h q1 q2 t1 t2 (by omega) (by omega) (by omega))
mutual
theorem OH (F:HF K J s):∀d:D,Fq K J s d
 | .bl p=>λA h rd re rv rw' _ _ _=>by cases rd;cases rv;exact Jv A h re rw'
 | .int p=>λA h rd re rv rw' _ _ _=>by cases rd;obtain ⟨t,rfl⟩:=rv;exact Gr A h re rw'
 | .str p=>λA h rd re rv rw' _ _ _=>by cases rd;obtain ⟨t,rfl⟩:=rv;exact Gs A h re rw'
 | .tup ds=>Gu F (xB F ds)
 | .non=>λA h _ _ _ _ _ _ _=>by unfold cW at h;cases h
 | .lst _=>λA h _ _ _ _ _ _ _=>by unfold cW at h;cases h
 | .emp=>λA h _ _ _ _ _ _ _=>by unfold cW at h;cases h
 | .exn _ _ _=>λA h _ _ _ _ _ _ _=>by unfold cW at h;cases h
 | .dct _ _=>λA h _ _ _ _ _ _ _=>by unfold cW at h;cases h
theorem xB (F:HF K J s):∀ds:List D,sq K J s ds
 | []=>Er
 | x::xs=>Cp F (OH F x) (xB F xs)
end
end
end DL
namespace DL
open PySem PySem.Spec PyProof.Rows L2
open PySem.W (KasT kas_sort kas_asc kas_desc kas_rev kas_tail3 kas_descPart kas_count kas_place kas_bin)
noncomputable def aZ {α:Type}(q:Nat->Nat->Bool):KasT α->α
 | .ret a=>a
 | .ask i j k=>aZ q (k (q i j))
inductive fG (n:Nat){α:Type}(P:α->Prop):KasT α->Prop
 | ret {a:α}:P a->fG n P (.ret a)
 | ask {i j:Nat}{k:Bool->KasT α}:i < n->j < n->(∀b,fG n P (k b))->fG n P (.ask i j k)
theorem fG.bind {n:Nat}{α β:Type}{P:α->Prop}{R:β->Prop}{f:α->KasT β}{t:KasT α}(h:fG n P t) (hf:∀a,P a->fG n R (f a)):fG n R (t.bind f):=by
 induction h with
 | ret p=>exact hf _ p
 | ask h1 h2 _ ih=>exact .ask h1 h2 ih
theorem fG.run {n:Nat}{α:Type}{P:α->Prop}{t:KasT α}(q:Nat->Nat->Bool) (h:fG n P t):P (aZ q t):=by
 induction h with
 | ret p=>exact p
 | ask _ _ _ ih=>exact ih _
theorem fG.wp {n:Nat}{α:Type}{P:α->Prop}{t:KasT α}{q:Nat->Nat->Bool}{cmp:Nat->Nat->(Bool->RZ->Prop)->RZ->Prop}{s:RZ}{G:α->RZ->Prop}(h:fG n P t)
  (hc:∀i j C,i < n->j < n->C (q i j) s->cmp i j C s) (hG:G (aZ q t) s):t.kasWp cmp G s:=by
 induction h with
 | ret p=>exact hG
 | ask h1 h2 _ ih=>exact hc _ _ _ h1 h2 (ih _ hG)
def eF (n:Nat) (p:Array Nat):Prop:=p.Perm (R7 n).toArray
theorem eF.lt {n:Nat}{p:Array Nat}(h:eF n p) (hn:0 < n) (k:Nat):p.getD k 0 < n:=by
 by_cases hk:k < p.size
 ·have e:p.getD k 0=p[k]:=by simp [Ux,hk]
  rw [e]
  have hm:p[k]∈p:=Array.getElem_mem hk
  have:=(U_ h).mp hm
  simpa using this
 ·have e:p.getD k 0=0:=by simp [Ux,hk]
  rw [e];exact hn
theorem eF.rev {n:Nat}{p:Array Nat}(h:eF n p) (i j:Nat):eF n (WV p i j):=(mirror_perm _ _ _ _).trans h
theorem eF.bub {n:Nat}{p:Array Nat}(h:eF n p) (i j:Nat):eF n (bubble p i j):=(bubble_perm _ _ _).trans h
variable {n:Nat}
theorem BS {p:Array Nat}(hn:0 < n) (h:eF n p):∀f m,fG n (λ_:Nat=>True) (WW p f m)
 | 0,m=>.ret trivial
 | f + 1,m=>.ask (h.lt hn _) (h.lt hn _) λb=>by cases b with
  | true=>exact .ret trivial
  | false=>exact BS hn h f (m + 1)
theorem sE (hn:0 < n):∀f {p:Array Nat} m q,eF n p->fG n (λr:Array Nat×Nat×Nat=>eF n r.1) (US f p m q)
 | 0,p,m,q,h=>.ret h
 | f + 1,p,m,q,h=>.ask (h.lt hn _) (h.lt hn _) λb=>by
  cases b with
  | true=>
   simp only [if_true]
   by_cases hq:q > 0
   ·rw [if_pos hq];exact sE hn f _ _ (h.rev _ _)
   ·rw [if_neg hq];exact sE hn f _ _ h
  | false=>
   simp only [Sk,if_false]
   refine .ask (h.lt hn _) (h.lt hn _) λb=>?_
   cases b with
   | true=>exact .ret h
   | false=>exact sE hn f _ _ h
theorem Dv (hn:0 < n){p:Array Nat}(h:eF n p) (m k:Nat):fG n (λr:Nat×Array Nat=>eF n r.2) (ab6 m k p):=(BS hn (h.rev 0 m) _ _).bind λa _=>.ret (h.rev _ _)
theorem AO (hn:0 < n){p:Array Nat}(h:eF n p) (m k:Nat):fG n (λr:Nat×Array Nat=>eF n r.2) (aak m k p):=(sE hn _ _ _ h).bind λr hr=>by
 split
 ·exact Dv hn (hr.rev _ _) _ _
 ·exact Dv hn hr _ _
theorem IE (hn:0 < n){p:Array Nat}(h:eF n p) (k:Nat):fG n (λr:Nat×Array Nat=>eF n r.2) (aaJ k p):=(BS hn h _ _).bind λm _=>by
 split
 ·exact .ret h
 ·split
  ·refine .ask (h.lt hn _) (h.lt hn _) λb=>?_
   cases b with
   | true=>exact .ret h
   | false=>exact AO hn (h.rev _ _) _ _
  ·exact AO hn h _ _
theorem uy (hn:0 < n){p:Array Nat}(h:eF n p) (k:Nat):∀f l r,fG n (λ_:Nat=>True) (Va p k f l r)
 | 0,l,r=>.ret trivial
 | f + 1,l,r=>by
  unfold Va
  split
  ·exact .ret trivial
  ·refine .ask (h.lt hn _) (h.lt hn _) λb=>?_
   cases b with
   | true=>exact uy hn h k f _ _
   | false=>exact uy hn h k f _ _
theorem HH (hn:0 < n):∀f {p:Array Nat} k,eF n p->fG n (eF n) (abI f p k)
 | 0,p,k,h=>.ret h
 | f + 1,p,k,h=>(uy hn h k _ _ _).bind λl _=>HH hn f _ (h.bub _ _)
theorem eG (hn:0 < n):fG n (eF n) (UT n):=(IE hn (show eF n _ from acW _) n).bind λr hr=>by
 split
 ·exact HH hn _ _ hr
 ·exact .ret hr
end DL
namespace DL
open PySem PySem.Spec PyProof.Rows L2
open PySem.W (KasT kas_sort kas_ask kas_item kat_run kat_snds KatLex kat_cons kat_yes kat_no kat_lt kat_one KatTups kat_kind Looks)
section
variable {prog:Sm}{w:SO}{A:SW}{E:RX->RZ->Prop}{s:RZ}
def iA (q:Nat->Nat->Bool) (vs:List RX):List RX:=(aZ q (UT vs.length)).toList.map λi=>vs.getD i S3
theorem GH (q:Nat->Nat->Bool){vs:List RX}(h:0 < vs.length):(iA q vs).length=vs.length:=by
 unfold iA
 rw [R3,Sa]
 have:=((eG h).run q:eF _ _).size_eq
 simpa using this
theorem tL {a:Se}{vs:List RX}{n:Nat}{κ:abJ}{q:Nat->Nat->Bool}{P:acX->RZ->Prop}(ho:s.heap.get? a=some (Uu "list" vs.toArray n)) (h2:2<=vs.length) (h64:vs.length < 64)
  (hk:∀h' C,(∀b o,b≠a->s.heap.get? b=some o->h'.get? b=some o)->C κ {s with heap:=h'}->So (Su prog w) A (abK vs.toArray) C (λ_ _=>False) {s with heap:=h'})
  (hc:∀h',(∀b o,b≠a->s.heap.get? b=some o->h'.get? b=some o)->∀i j C,i < vs.length->j < vs.length->C (q i j) {s with heap:=h'}->kas_ask prog w A κ vs i j C {s with heap:=h'})
  (h:P (.done (.ret .none)) {s with heap:=abu s.heap a vs (iA q vs).toArray}):So (Su prog w) A (Wb.«list.sort» ⟨[.ref a],[]⟩) P E s:=by
 have la:a < s.heap.objs.size:=Si ho
 have sl:vs.length<=sizeLine:=by rw [S4];omega
 obtain ⟨e1,g1⟩:∃e1,(s.heap.update a (T9 λ_=>(#[]:Array RX))).get? a=some (Uu "list" #[] e1):=⟨_,(aaK ho λ_=>#[])⟩
 have z1:(s.heap.update a (T9 λ_=>(#[]:Array RX))).objs.size=s.heap.objs.size:=(Yt _ _ _)
 have g3:(((s.heap.update a (T9 λ_=>(#[]:Array RX))).push (Uu "tuple" vs.toArray 0)).push (Uu "list" #[] 0)).get? a=some (Uu "list" #[] e1):=(R5 _ ((R5 _ g1)))
 have kp:∀b o,b≠a->s.heap.get? b=some o->(((s.heap.update a (T9 λ_=>(#[]:Array RX))).push (Uu "tuple" vs.toArray 0)).push (Uu "list" #[] 0)).get? b=some o:=λb o nb q=>
  R5 _ (R5 _ (by rw [Zp _ _ _ _ nb];exact q))
 rw [aaL]
 refine RU ((listItems_at ho rfl ?_))
 refine RU (Yi ho rfl ?_ (by rw [Sf];exact sl) (SG _))
 refine RU ((Zq g1 rfl ?_))
 refine RU (aa9 ?_ (show vs.length<=_ from sl))
 refine RU ((Wq ?_ (SG _)))
 refine (SD ?_)
 dsimp only
 have n2:¬vs.toArray.size < 2:=by (rw [Sf]);omega
 rw [if_neg n2,if_neg n2]
 refine RU (Tc (hk _ (λk s'=>k=κ/\s'=_) kp ⟨rfl,rfl⟩) ?_ λ_ _ x=>x.elim)
 rintro _ _ ⟨rfl,rfl⟩
 refine RU (Tc (kat_run (E:=E) (Q:=λst' s'=>∃p:Array Nat,p.size=vs.length/\arrOf st'=p.map (kas_item (vs.toArray.zip vs.toArray))/\failedOf st'=none/\p=aZ q (UT vs.length)/\s'=_)
  rfl h2 h64 (λp' st' s' a1 a2 a3 a4=>⟨p',a1,a2,a3,a4⟩) ((eG (by omega)).wp (q:=q) (hc _ kp) ⟨rfl,rfl⟩)) ?_ λ_ _ e=>e)
 rintro ⟨⟨⟩,st'⟩ s' ⟨p,hp,har,hf,rfl,rfl⟩
 dsimp only
 have ou:(arrOf st').map (·.2)=(iA q vs).toArray:=kat_snds rfl har
 rw [ou]
 refine RU ((Zq g3 rfl ?_))
 refine RU (Yi g3 rfl ?_ (SG _) (SJ (ab2 (Sf.trans (GH q (Sx Nat.zero_lt_two h2)))) (Nat.le_succ_of_le sl)))
 rw [hf]
 simp only [bne_self_eq_false,Sk,if_false]
 exact RY h
theorem Bs {l:Se}{vs:List RX}{κ:abJ}{q:Nat->Nat->Bool}{Q:RX->RZ->Prop}(hl:s.heap.IsList l vs.toArray) (h2:2<=vs.length) (h64:vs.length < 64)
  (hk:∀h' C,(∀b o,s.heap.get? b=some o->h'.get? b=some o)->C κ {s with heap:=h'}->So (Su prog w) A.in1.in1 (abK vs.toArray) C (λ_ _=>False) {s with heap:=h'})
  (hc:∀h',(∀b o,s.heap.get? b=some o->h'.get? b=some o)->∀i j C,i < vs.length->j < vs.length->C (q i j) {s with heap:=h'}->kas_ask prog w A.in1.in1 κ vs i j C {s with heap:=h'})
  (h:Q (.ref (s.heap.objs.size + 1)) {s with heap:=ZI s.heap vs (iA q vs).toArray}):So (Su prog w) A (call (.builtin "sorted") [.ref l]) Q E s:=by
 have sl:vs.length<=sizeLine:=by rw [S4];omega
 refine (V6 aaM aal aam (aan _) ?_)
 unfold Wb.«sorted»
 refine RU (m:=abv "sorted" 1 1 _) ((RY ?_))
 refine RU (collect_list hl ?_ sl)
 refine RU (Wq ?_ sl)
 have z:((s.heap.push (Uu "list" #[] 0)).update s.heap.objs.size (T9 (·++vs.toArray))).objs.size=s.heap.objs.size + 1:=(by rw [Yt,size_push'])
 have gL:(((s.heap.push (Uu "list" #[] 0)).update s.heap.objs.size (T9 (·++vs.toArray))).push (Uu "list" vs.toArray 0)).get? (s.heap.objs.size + 1)=some (Uu "list" vs.toArray 0):=(by rw [<-z];exact Sd _ rfl)
 have kp:∀b o,s.heap.get? b=some o->b≠s.heap.objs.size + 1/\(((s.heap.push (Uu "list" #[] 0)).update s.heap.objs.size (T9 (·++vs.toArray))).push (Uu "list" vs.toArray 0)).get? b=some o:=λb o e=>by
  have lb:b < s.heap.objs.size:=Si e
  refine ⟨Sv (Uy lb),?_⟩
  rw [Z9 _ _ _ (z▸Sv (Uy lb)),Zp _ _ _ _ (Sv lb),Z9 _ _ _ ((Sv lb))]
  exact e
 dsimp only
 rw [z]
 refine RU (SD (S6 Xy ⟨_,gL,rfl⟩ Xi (tL (κ:=κ) (q:=q) gL h2 h64 (λh' C k c=>?_) (λh' k i j C hi hj c=>?_) ⟨_,rfl,?_⟩) (Xz _)))
 ·exact hk h' C (λb o e=>k b o (kp b o e).1 (kp b o e).2) c
 ·exact hc h' (λb o e=>k b o (kp b o e).1 (kp b o e).2) i j C hi hj c
 ·exact RY ⟨_,rfl,h⟩
end
end DL
namespace DL
open PySem PySem.Spec PyProof.Rows L2
open PySem.W (KasT kas_sort kas_ask KatLex kat_nil kat_cons kat_yes kat_no kat_lt kat_one KatTups kat_kind Looks)
section
variable {prog:Sm}{w:SO}{A:SW}{E:RX->RZ->Prop}{s:RZ}{K:RV}{J:Hp}
theorem vH {fin ans:Bool}{Q:Bool->RZ->Prop}{zs:List (RX×RX)}{b:Bool}(h:f_ A s fin zs ans) (hq:Q ans s):∀{i:Nat},(b && i == 0)=false->KatLex prog w A b fin Q zs i s:=by
 induction h with
 | nil=>intro i _;exact kat_nil hq
 | yes he _ ih=>intro i _;exact abL (he prog w _ _ (kat_yes (ih hq (by cases b <;> rfl))))
 | no he hl=>
  intro i hb
  refine abL (he prog w _ _ (kat_no ?_))
  rw [hb]
  exact kat_one _ _ (hl prog w _ _ hq)
theorem Jp {fin ans e:Bool}{Q:Bool->RZ->Prop}{u u':RX}{zs:List (RX×RX)}(he:UK A s u u' e) (h1:e=true->f_ A s fin zs ans)
  (h2:e=false->So (Su prog w) A (oneLt' true u u') Q (λ_ _=>False) s) (hq:Q ans s):KatLex prog w A true fin Q ((u,u')::zs) 0 s:=by
 cases e with
 | true=>exact abL (he prog w _ _ (kat_yes (vH (h1 rfl) hq rfl)))
 | false=>exact abL (he prog w _ _ (kat_no (h2 rfl)))
inductive Hd where
 | t | i | x
noncomputable def fJ:D->Option Hd
 | .tup (.tup _::_)=>some .t
 | .tup (.int _::_)=>some .i
 | .tup (.str _::_)=>some .x
 | _=>none
noncomputable def Hd.flag:Hd->Bool
 | .t=>false
 | _=>true
noncomputable def Hd.ty:Hd->RX
 | .t=>.type "tuple"
 | .i=>.type "int"
 | .x=>.type "str"
theorem GD {x y:D}{v v':V}{u u':RX}{k:Hd}{b:Bool}{C:Bool->RZ->Prop}{xs ys:List D}(hd:fJ (.tup (x::xs))=some k) (he:fJ (.tup (y::ys))=some k) (hf:k.flag=true) (h:cW x y=some b) (rd:Rep K J x v) (re:Rep K J y v') (rv:RelV v u) (rv':RelV v' u') (c:C b s):
  So (Su prog w) A (oneLt' true u u') C E s:=by
 cases x with
 | int x=>
  cases hd
  cases y with
  | int y=>
   cases rd;cases re
   obtain ⟨tk,rfl⟩:=rv
   obtain ⟨tk',rfl⟩:=rv'
   unfold cW at h
   simp only [Uw] at h
   refine ab7 ?_
   rw [h];exact c
  | _=>cases he
 | str x=>
  cases hd
  cases y with
  | str y=>
   cases rd;cases re
   obtain ⟨tk,rfl⟩:=rv
   obtain ⟨tk',rfl⟩:=rv'
   unfold cW at h
   simp only [Uw] at h
   refine oneLt_str ?_
   rw [h];exact c
  | _=>cases he
 | tup _=>cases hd;cases hf
 | _=>cases hd
theorem A5 (F:HF K J s){d e:D}{v v':V}{u u':RX}{k:Hd}{b:Bool}{C:Bool->RZ->Prop}(hd:fJ d=some k) (he:fJ e=some k) (h:cW d e=some b) (rd:Rep K J d v) (re:Rep K J e v') (rv:RelV v u) (rv':RelV v' u')
  (hu:A.units + dep d < Uh) (k1:dep d<=1000) (k2:dep e<=1000) (c:C b s):So (Su prog w) A (keyLt' (acB k.flag) u u') C E s:=by
 cases d with
 | tup ds=>
  cases e with
  | tup es=>
   unfold cW at h
   simp only at h
   cases rd with
   | tup h1 hs=>
    cases re with
    | tup h2 hs'=>
     cases rv;cases rv'
     obtain ⟨RM,r,p⟩:=F.t _ _ h1
     obtain ⟨its',r',p'⟩:=F.t _ _ h2
     obtain ⟨o,ho,hc,m,dm⟩:=id p
     obtain ⟨o',ho',hc',m',dm'⟩:=id p'
     refine kat_lt ho dm ho' dm' ?_
     simp only [Sf]
     cases hf:k.flag with
     | false=>
      exact vH (xB F ds A (n1:=RM.length) (n2:=its'.length) h hs hs' r r' (by unfold dep at hu;omega) (by unfold dep at k1;omega) (by unfold dep at k2;omega) (by omega)) c rfl
     | true=>
      cases hs with
      | nil=>cases hd
      | cons q1 t1=>
       cases hs' with
       | nil=>cases he
       | cons q2 t2=>
        cases r with
        | cons a1 b1=>
         cases r' with
         | cons a2 b2=>
          unfold dep deps at hu k1 k2
          rw [Ul]
          unfold i9 at h
          simp only at h
          refine Jp (ans:=b) (mU F A q1 q2 a1 a2 (by omega) (by omega) (by omega)) (λz=>?_) (λz=>?_) c
          ·rw [z,if_pos rfl] at h
           exact xB F _ A h t1 t2 b1 b2 (by omega) (by omega) (by omega) (by simp;omega)
          ·rw [z,if_neg SN] at h
           exact GD hd he hf h q1 q2 a1 a2 c
  | _=>cases he
 | _=>cases hd
noncomputable def fE (k:Hd):List D->Bool
 | []=>true
 | d::r=>(match fJ d,k with
  | some .t,.t=>true
  | some .i,.i=>true
  | some .x,.x=>true
  | _,_=>false) && fE k r
theorem jB {k:Hd}:∀{ds:List D},fE k ds=true->∀d∈ds,fJ d=some k
 | [],_,_,hm=>nomatch hm
 | x::r,h,d,hm=>by
  unfold fE at h
  rw [R8] at h
  rcases Sh.mp hm with rfl | hm
  ·cases q:fJ d with
   | none=>rw [q] at h;cases h.1
   | some k'=>rw [q] at h;cases k' <;> cases k <;> first | rfl | cases h.1
  ·exact jB h.2 d hm
theorem Eh (F:HF K J s){d:D}{v:V}{u:RX}{k:Hd}(hd:fJ d=some k) (rd:Rep K J d v) (rv:RelV v u):∃a o xs n f,u=.ref a/\s.heap.get? a=some o/\o.cls=.type "tuple"/\o.data=.seq xs n/\xs[0]?=some f/\Looks (Su prog w) s.heap (typeOf f) k.ty:=by
 cases d with
 | tup ds=>
  cases rd with
  | tup h1 hs=>
   cases rv
   obtain ⟨RM,r,p⟩:=F.t _ _ h1
   obtain ⟨o,ho,hc,m,dm⟩:=id p
   cases hs with
   | nil=>cases hd
   | cons q1 t1=>
    cases r with
    | cons a1 b1=>
     refine ⟨_,o,_,m,_,rfl,ho,hc,dm,rfl,?_⟩
     rename_i x v' ds' vs' u us
     cases x with
     | tup _=>
      cases hd
      cases q1 with
      | tup h2 _=>
       cases a1
       obtain ⟨its2,_,p2⟩:=F.t _ _ h2
       obtain ⟨o2,ho2,hc2,_,_⟩:=id p2
       have:=(Looks.ld (M:=Su prog w) (part:=none) ho2).andThen (f:=λo=>pure o.cls) (b:=o2.cls) .now
       rw [hc2] at this
       exact this
     | int _=>
      cases hd
      cases q1
      obtain ⟨tk,rfl⟩:=a1
      exact .now
     | str _=>
      cases hd
      cases q1
      obtain ⟨tk,rfl⟩:=a1
      exact .now
     | _=>cases hd
 | _=>cases hd
theorem tE (F:HF K J s){k:Hd}:∀{ds:List D}{vs:List V}{us:List RX},fE k ds=true->aH K J ds vs->Vals vs us->∃fs,KatTups s.heap us fs/\fs.length=us.length/\∀v∈fs,Looks (Su prog w) s.heap (typeOf v) k.ty
 | _,_,_,_,.nil,.nil=>⟨[],trivial,rfl,λ_ h=>nomatch h⟩
 | d::ds,_,_,h,.cons q rs,.cons a b=>by
  have hd:=jB h d (R1 ..)
  unfold fE at h
  rw [R8] at h
  obtain ⟨fs,h1,h2,h3⟩:=tE F h.2 rs b
  obtain ⟨p,o,xs,n,f,rfl,e1,e2,e3,e4,e5⟩:=Eh (prog:=prog) (w:=w) F hd q a
  refine ⟨f::fs,⟨⟨p,o,xs,n,rfl,e1,e2,e3,e4⟩,h1⟩,by simp [h2],λv hv=>?_⟩
  rcases Sh.mp hv with rfl | hv
  ·exact e5
  ·exact h3 v hv
theorem I0 (k:Hd):(k.ty != VQ "tuple")=k.flag:=by cases k <;> decide
theorem vI (F:HF K J s){k:Hd}{ds:List D}{vs:List V}{us:List RX}(h:fE k ds=true) (rs:aH K J ds vs) (rv:Vals vs us) (hl:0 < us.length){C:abJ->RZ->Prop}(c:C (acB k.flag) s):So (Su prog w) A (abK us.toArray) C E s:=by
 obtain ⟨fs,h1,h2,h3⟩:=tE (prog:=prog) (w:=w) F h rs rv
 refine kat_kind h1 (by omega) h3 (by cases k <;> decide) ?_
 rw [I0]
 exact c
end
end DL
namespace DL
open PySem PySem.Spec PyProof.Rows L2
open PySem.W (KasT kas_sort kas_ask)
section
variable {prog:Sm}{w:SO}{A:SW}{E:RX->RZ->Prop}{s:RZ}
theorem tK {a:Se}{vs:List RX}{n:Nat}{P:acX->RZ->Prop}(ho:s.heap.get? a=some (Uu "list" vs.toArray n)) (h2:vs.length < 2)
  (h:P (.done (.ret .none)) {s with heap:=abu s.heap a vs vs.toArray}):So (Su prog w) A (Wb.«list.sort» ⟨[.ref a],[]⟩) P E s:=by
 have sl:vs.length<=sizeLine:=by rw [S4];omega
 obtain ⟨e1,g1⟩:∃e1,(s.heap.update a (T9 λ_=>(#[]:Array RX))).get? a=some (Uu "list" #[] e1):=⟨_,(aaK ho λ_=>#[])⟩
 have g3:(((s.heap.update a (T9 λ_=>(#[]:Array RX))).push (Uu "tuple" vs.toArray 0)).push (Uu "list" #[] 0)).get? a=some (Uu "list" #[] e1):=(R5 _ ((R5 _ g1)))
 rw [aaL]
 refine RU ((listItems_at ho rfl ?_))
 refine RU (Yi ho rfl ?_ (by rw [Sf];exact sl) (SG _))
 refine RU ((Zq g1 rfl ?_))
 refine RU (aa9 ?_ (show vs.length<=_ from sl))
 refine RU ((Wq ?_ (SG _)))
 refine (SD ?_)
 dsimp only
 have n2:vs.toArray.size < 2:=by (rw [Sf]);omega
 rw [if_pos n2,if_pos n2]
 refine (RU (RY ?_))
 rw [StateT.run_pure]
 refine (RU (RY ?_))
 dsimp only
 have ou:(arrOf (SortSt.mk' general' (vs.toArray.zip vs.toArray) #[] 7 none)).map (·.2)=vs.toArray:=by
  show (vs.toArray.zip vs.toArray).map (·.2)=vs.toArray
  match vs,h2 with
  | [],_=>simp
  | [_],_=>simp
 rw [ou]
 refine RU ((Zq g3 rfl ?_))
 refine RU (Yi g3 rfl ?_ (SG _) (by rw [Sf];omega))
 simp only [bne_self_eq_false,Sk,if_false]
 exact RY h
theorem Br {l:Se}{vs:List RX}{Q:RX->RZ->Prop}(hl:s.heap.IsList l vs.toArray) (h2:vs.length < 2)
  (h:Q (.ref (s.heap.objs.size + 1)) {s with heap:=ZI s.heap vs vs.toArray}):So (Su prog w) A (call (.builtin "sorted") [.ref l]) Q E s:=by
 have sl:vs.length<=sizeLine:=by rw [S4];omega
 refine (V6 aaM aal aam (aan _) ?_)
 unfold Wb.«sorted»
 refine RU (m:=abv "sorted" 1 1 _) ((RY ?_))
 refine RU (collect_list hl ?_ sl)
 refine RU (Wq ?_ sl)
 have z:((s.heap.push (Uu "list" #[] 0)).update s.heap.objs.size (T9 (·++vs.toArray))).objs.size=s.heap.objs.size + 1:=(by rw [Yt,size_push'])
 have gL:(((s.heap.push (Uu "list" #[] 0)).update s.heap.objs.size (T9 (·++vs.toArray))).push (Uu "list" vs.toArray 0)).get? (s.heap.objs.size + 1)=some (Uu "list" vs.toArray 0):=(by rw [<-z];exact Sd _ rfl)
 dsimp only
 rw [z]
 refine RU (SD (S6 Xy ⟨_,gL,rfl⟩ Xi (tK gL h2 ⟨_,rfl,?_⟩) (Xz _)))
 exact RY ⟨_,rfl,h⟩
end
def cP (ds:List D) (i:Nat):D:=ds.getD i .non
def ltB (ds:List D) (i j:Nat):Bool:=(cW (cP ds i) (cP ds j)).getD false
def aQ (ds:List D):List D:=if ds.length < 2 then ds else (aZ (ltB ds) (UT ds.length)).toList.map (cP ds)
def mP (ds:List D):Bool:=ds.all λx=>ds.all λy=>(cW x y).isSome
noncomputable def Cs (ds:List D):Bool:=match ds with
 | []=>false
 | d::_=>match fJ d with
  | some k=>fE k ds
  | none=>false
def oQ (ds:List D):Bool:=decide (ds.length < 2) || (decide (ds.length < 64) && (decide (deps ds<=60) && (Cs ds && mP ds)))
section
variable {K:RV}{J:Hp}
theorem eN {ds:List D}{vs:List V}(h:aH K J ds vs):∀{i:Nat},i < ds.length->Rep K J (cP ds i) (vs.getD i V.non):=by
 induction ds generalizing vs with
 | nil=>intro i hi;exact absurd hi (Tr _)
 | cons x r ih=>
  intro i hi
  cases h with
  | cons q rs=>
   cases i with
   | zero=>simpa [cP] using q
   | succ i=>simpa [cP] using ih rs (i:=i) (by simpa using hi)
theorem eS {vs:List V}{us:List RX}(h:Vals vs us):∀{i:Nat},i < vs.length->RelV (vs.getD i V.non) (us.getD i S3):=by
 induction vs generalizing us with
 | nil=>intro i hi;exact absurd hi (Tr _)
 | cons x r ih=>
  intro i hi
  cases h with
  | cons q rs=>
   cases i with
   | zero=>simpa using q
   | succ i=>simpa using ih rs (i:=i) (by simpa using hi)
theorem ny {ds:List D}{vs:List V}(h:aH K J ds vs):∀ix:List Nat,(∀i∈ix,i < ds.length)->aH K J (ix.map (cP ds)) (ix.map λi=>vs.getD i V.non)
 | [],_=>.nil
 | i::r,hi=>.cons (eN h (hi i (R1 ..))) (ny h r λj hj=>hi j (R0 _ hj))
theorem nD {vs:List V}{us:List RX}(h:Vals vs us):∀ix:List Nat,(∀i∈ix,i < vs.length)->Vals (ix.map λi=>vs.getD i V.non) (ix.map λi=>us.getD i S3)
 | [],_=>.nil
 | i::r,hi=>.cons (eS h (hi i (R1 ..))) (nD h r λj hj=>hi j (R0 _ hj))
theorem AU {ds:List D}:∀{i:Nat},i < ds.length->dep (cP ds i)<=deps ds:=by
 induction ds with
 | nil=>intro i hi;exact absurd hi (Tr _)
 | cons x r ih=>
  intro i hi
  unfold deps
  cases i with
  | zero=>show dep x<=_;omega
  | succ i=>
   have:=ih (i:=i) (by simpa using hi)
   have e:cP (x::r) (i + 1)=cP r i:=rfl
   rw [e];omega
theorem eE {ds:List D}{i:Nat}(hi:i < ds.length):cP ds i∈ds:=by
 have e:cP ds i=ds[i]:=by simp [cP,hi]
 rw [e];exact T7 hi
theorem HF.keeps {s:RZ}{h':TU}(F:HF K J s) (k:∀b o,s.heap.get? b=some o->h'.get? b=some o):HF K J {s with heap:=h'}:=
 ⟨λa xs h=>let ⟨RM,r,o,ho,q⟩:=F.t a xs h;⟨RM,r,o,k _ _ ho,q⟩,λa xs h=>let ⟨RM,r,o,ho,q⟩:=F.l a xs h;⟨RM,r,o,k _ _ ho,q⟩,λa h=>let ⟨o,ho,q⟩:=F.e a h;⟨o,k _ _ ho,q⟩,λa ep RS h=>let ⟨o,es,ho,q⟩:=F.d a ep RS h;⟨o,es,k _ _ ho,q⟩⟩
end
section
variable {X:Cx}{c:C}{e:SM}{es:List SM}{pos:Pos}
theorem o_ (hu:X.A.units + 64 < Uh):bT X (.builtin "sorted") (λxs H Q=>∃p vs ds,xs=[.ref p]/\cH X.K H p vs/\aH X.K H ds vs/\oQ ds=true/\∀l vs',H l=none->(∀J,aH X.K J ds vs->aH X.K J (aQ ds) vs')->Q (.ref l) (upd H l (.lst vs'))):=by
 intro RL s σ H xs us Q I r h
 obtain ⟨p,vs,ds,rfl,hq,rs,ok,q⟩:=h
 obtain ⟨u,rfl,rx⟩:=vals1 r
 cases rx
 obtain ⟨RM,r',pl,hz⟩:=I.list hq
 have l1:vs.length=RM.length:=r'.length
 have l2:ds.length=vs.length:=rs.length
 have fr:H (s.heap.objs.size + 1)=none:=I.hok.fresh (Uj _)
 have fin:∀(out:List RX) (vs':List V),vs'.length=vs.length->Vals vs' out->(∀J,aH X.K J ds vs->aH X.K J (aQ ds) vs')->∃v H',Inv X RL σ H' {s with heap:=ZI s.heap RM out.toArray}/\RelV v (.ref (s.heap.objs.size + 1))/\Q v H':=λout vs' lv rv rr=>by
  obtain ⟨n,hn⟩:=aaj s.heap RM out.toArray
  exact ⟨.ref (s.heap.objs.size + 1),_,I.laid (t':=s.toks) (λb o e=>ZJ e) (Uj _) (show cj X.prog X.w _ _ _ (.lst vs') from ⟨by rw [lv];exact hz,out,n,rv,by simpa [Uu] using hn⟩),rfl,q _ vs' fr rr⟩
 by_cases h2:ds.length < 2
 ·refine Br pl.isList (by omega) (fin RM vs rfl r' ?_)
  intro J rj
  unfold aQ
  rw [if_pos h2]
  exact rj
 ·unfold oQ at ok
  rw [decide_eq_false h2,abM,R8,R8,R8] at ok
  obtain ⟨o1,o2,o3,o4⟩:=ok
  have o1:=of_decide_eq_true o1
  have o2:=of_decide_eq_true o2
  obtain ⟨k,hk⟩:∃k,fE k ds=true:=by
   unfold Cs at o3
   cases ds with
   | nil=>cases o3
   | cons d r=>
    simp only at o3
    cases z:fJ d with
    | none=>rw [z] at o3;cases o3
    | some k=>rw [z] at o3;exact ⟨k,o3⟩
  have F:HF X.K H s:=iK I
  have un:X.A.in1.in1.units=X.A.units + 2:=rfl
  have ib:∀i∈(aZ (ltB ds) (UT ds.length)).toList,i < ds.length:=λi hi=>by
   have:=((eG (n:=ds.length) (by omega)).run (ltB ds):eF _ _)
   have:=(U_ this).mp (V1.mp hi)
   simpa using this
  refine Bs (κ:=acB k.flag) (q:=ltB ds) pl.isList (by omega) (by omega) (λh' C kp cc=>?_) (λh' kp i j C hi hj cc=>?_) ?_
  ·exact vI (F.keeps kp) hk rs r' (by omega) cc
  ·have hi':i < ds.length:=by omega
   have hj':j < ds.length:=by omega
   have hb:cW (cP ds i) (cP ds j)=some (ltB ds i j):=by
    unfold mP at o4
    have:=SQ.mp (SQ.mp o4 _ (eE hi')) _ (eE hj')
    unfold ltB
    cases z:cW (cP ds i) (cP ds j) with
    | none=>rw [z] at this;cases this
    | some b=>rfl
   have d1:=AU hi'
   have d2:=AU hj'
   exact A5 (F.keeps kp) (jB hk _ (eE hi')) (jB hk _ (eE hj')) hb (eN rs hi') (eN rs hj') (eS r' (by omega)) (eS r' (by omega)) (by rw [un];omega) (by omega) (by omega) cc
  ·have e1:iA (ltB ds) RM=(aZ (ltB ds) (UT ds.length)).toList.map λi=>RM.getD i S3:=by unfold iA;rw [l2,l1]
   rw [e1]
   refine fin _ _ ?_ (nD r' _ λi hi=>l2▸ib i hi) ?_
   ·rw [R3,<-l2]
    have:=((eG (n:=ds.length) (by omega)).run (ltB ds):eF _ _).size_eq
    simpa using this
   ·intro J rj
    unfold aQ
    rw [if_neg h2]
    exact ny rj _ ib
noncomputable def pA:List R->M R
 | [r]=>jC r >>= λxs=>if oQ xs=true then .ok (.l .fresh (aQ xs)) else .bad
 | _=>.bad
end
end DL
namespace DL
open PySem PySem.Spec PyProof.Rows L2
section
variable {X:Cx}{c:C}{e:SM}{g:G R}{pos:Pos}
noncomputable def pC (i:Nat) (f:R->R->M R) (g:G R):G O:=λenv=>match env[i]? with
 | some (some (.d d))=>g env >>= λy=>f (.d d) y >>= λz=>toS z >>= λx=>.ok (.nx (env.set i (some x)))
 | _=>.bad
theorem Bc (i:Nat){x:Str}{pos':Pos}{op:Zv}{r:R2}{f:R->R->M R}(hN:X.N.Nodup) (ho:dw X (XM op) r) (hb:BD c r f) (h:PD X c e g) (hi:X.N[i]?=some x:=by rfl) (hx:Loc X.env.scope x:=by first | exact WA rfl | exact Vu rfl)
  (hf:X.fn x=true\/X.env.scope.names.lookup x=some .local:=by first | exact .inl rfl | exact .inr rfl):xW X c (.AugAssign (.Name x pos') op e pos) (pC i f g):=
 gO (Mq hN hi hx h (λRL s σ H x y v u Q I rx ry q=>OB ho I rx ry q) hf) λE σ H ⟨J,env,sr,w⟩=>by
 unfold pC at w
 split at w
 ·rename_i d hd
  obtain ⟨v,h1,h2⟩:=sr.at_ i _ hd
  refine ⟨v,h1,J,env,sr,aD (aI w) λy wr v' J1 H1 e1 r1=>?_⟩
  have sr1:=sr.ext e1
  refine hb H H J1 H1 (.d d) y v v' _ sr1.hp (Rep.mono e1.j h2) r1 (aD (aI wr) λz wz w' J2 H2 e2 r2=>?_)
  obtain ⟨x,q,wz⟩:=nG wz
  exact wz (σ.set i (some w')) J2 H2 (e1.j.trans e2.j) (sr1.set e2 r2 q)
 ·exact w.elim
end
end DL
namespace DL
open PySem PySem.Spec PyProof.Rows L2 DX
section
variable {M:acg}{A:SW}{E:RX->RZ->Prop}{s:RZ}
theorem Cr {RK:U3}{globals:Se}{closure:List (Str×Se)}{RP:Str}{func:Option Se}{code:RX}{outer:Env}{builtins:Se}{Q:Env->RZ->Prop}
  (hQ:Q (newEnv RK s.heap.objs.size globals (Td (s.heap.objs.size + 1) RK.names closure) RP func code (some outer) builtins) {s with heap:=aaN (s.heap.push {cls:=.type "dict",data:=.dict #[]}) RK.names}):
  So M A (aa_ RK globals closure [] RP func code (some outer) builtins) Q E s:=by
 simp only [aa_,Option.isSome_some,if_true]
 refine RU (wpAny_alloc ?_)
 refine RU (wpAny_layCells _ (λname kind cells=>by cases hkc:kind == Wo <;> simp [hkc]) _ _ _ _ ?_)
 rw [show ({s with heap:=s.heap.push {cls:=.type "dict",data:=.dict #[]}}:RZ).heap.objs.size=s.heap.objs.size + 1 from VG ..]
 simp only [List.forIn_nil]
 exact RU (RY (RY hQ))
theorem jl:∀(names:List (Str×UC)) (n:Nat) (acc:List (Str×Se)) (x:Str),(∀y∈names,y.2=.cell->y.1≠x)->(Td n names acc).lookup x=acc.lookup x
 | [],_,_,_,_=>by unfold Td;rfl
 | (y,k)::r,n,acc,x,h=>by
  have hr:∀z∈r,z.2=.cell->z.1≠x:=λz hz=>h z (R0 _ hz)
  unfold Td
  split
  ·rename_i hk
   rw [jl r _ _ x hr]
   have hy:y≠x:=h (y,k) (R1 ..) (by simpa using hk)
   have:(x == y)=false:=by
    cases q:x == y with
    | false=>rfl
    | true=>exact absurd (eq_of_beq q).symm hy
   rw [T6,this]
  ·exact jl r _ _ x hr
end
theorem wQ:∀(names:List (Str×UC)) (n:Nat) (acc:List (Str×Se)),Td n names acc=Td n names []++acc:=by
 intro names
 suffices ∀(n:Nat) (a b:List (Str×Se)),Td n names (a++b)=Td n names a++b by
  intro n acc
  exact this n [] acc
 induction names with
 | nil=>intro n a b;unfold Td;rfl
 | cons p r ih=>
  obtain ⟨y,k⟩:=p
  intro n a b
  unfold Td
  split
  ·exact ih _ (_::a) b
  ·exact ih _ a b
def cT (names:List (Str×UC)) (x:Str):Bool:=names.any λy=>y.1 == x && y.2 == .cell
theorem fT:∀(names:List (Str×UC)) (n:Nat) (acc:List (Str×Se)) (x:Str),((acc.lookup x).isSome=true\/cT names x=true)->((Td n names acc).lookup x).isSome=true
 | [],_,_,_,h=>by
  unfold Td
  rcases h with h | h
  ·exact h
  ·cases h
 | (y,k)::r,n,acc,x,h=>by
  unfold Td
  have e:cT ((y,k)::r) x=((y == x && k == .cell) || cT r x):=rfl
  rw [e] at h
  split
  ·rename_i hk
   refine fT r _ _ x ?_
   by_cases hx:x=y
   ·left;subst hx;rw [T6];simp
   ·rcases h with h | h
    ·left
     rw [T6]
     cases q:x == y with
     | true=>exact absurd (eq_of_beq q) hx
     | false=>exact h
    ·rw [Vq,R8] at h
     rcases h with h | h
     ·exact absurd (eq_of_beq h.1).symm hx
     ·exact .inr h
  ·rename_i hk
   refine fT r _ _ x ?_
   rcases h with h | h
   ·exact .inl h
   ·rw [Vq,R8] at h
    rcases h with h | h
    ·exact absurd h.2 hk
    ·exact .inr h
theorem fP {names:List (Str×UC)}{n:Nat}{cl:List (Str×Se)}{x:Str}{d:Se}(h:(Td n names cl).lookup x=some d):
  (Td n names []).lookup x=some d\/(cT names x=false/\cl.lookup x=some d):=by
 rw [wQ,List.lookup_append] at h
 cases q:(Td n names []).lookup x with
 | some e=>rw [q] at h;left;simpa using h
 | none=>
  rw [q] at h
  right
  refine ⟨?_,by simpa using h⟩
  cases z:cT names x with
  | false=>rfl
  | true=>
   have:=fT names n [] x (.inr z)
   rw [q] at this
   cases this
theorem oR {RK:U3}{env:Env}{x:Str}(h:(relabel RK env).names.lookup x=some .cell\/(relabel RK env).names.lookup x=some .free):(x,Tz)∈RK.names\/cT RK.names x=true:=by
 unfold relabel at h
 revert h
 generalize RK.names=names
 induction names with
 | nil=>intro h;simp at h
 | cons p r ih=>
  obtain ⟨n,k⟩:=p
  intro h
  rw [Sj] at h
  simp only at h
  by_cases hx:x=n
  ·subst hx
   cases k with
   | free=>exact .inl (R1 ..)
   | cell=>right;unfold cT;simp
   | _=>simp [T6] at h
  ·have e:(x == n)=false:=by simpa using hx
   have h':(r.map λ(n,k)=>if (k == Tz && env.scope.kind == .function && env.kindOf n == some .cell) then (n,Wo) else (n,k)).lookup x=some .cell\/(r.map λ(n,k)=>if (k == Tz && env.scope.kind == .function && env.kindOf n == some .cell) then (n,Wo) else (n,k)).lookup x=some .free:=by
    split at h <;> simpa [T6,e] using h
   rcases ih h' with z | z
   ·exact .inl (R0 _ z)
   ·right
    unfold cT at z ⊢
    rw [W8,z,Bool.or_true]
section
variable {X:Cx}
noncomputable def aX (X:Cx) (own:List Str) (cap:List Nat) (RK:U3) (cl:List (Str×Se)) (C:Se) (s:RZ) (H:Hp) (fp:List Se):Cx:=
 {Lg X own cap RK (Td (C + 1) RK.names cl) C s H fp with fn:=cT RK.names}
theorem IS {RL:List (Se×Obj)}{σ:L2.St}{H:Hp}{s:RZ}{own:List Str}{cap:List Nat}{RK:U3}{cl:List (Str×Se)}{fp:List Se}{h1:TU}(I:Inv X RL σ H s) (hk:RK.kind=.function)
  (hcl:bH X.env.cells RK.names []=some cl) (ck:acC h1 (s.heap.objs.size + 1) (Td (s.heap.objs.size + 1) RK.names [])) (hfp:∀b∈fp,jK X RL H b) (hin:∀b∈fp,b < s.heap.objs.size):(aX X own cap RK cl s.heap.objs.size s H fp).Ok:=by
 obtain ⟨m1,m2⟩:=gx RK.names [] cl hcl (λx c h=>by simp at h)
 have lo:∀{x:Str}{d:Se},(Td (s.heap.objs.size + 1) RK.names []).lookup x=some d->s.heap.objs.size + 1<=d:=fun {x d} h=>(ck.empty _ _ (Wr h)).2
 have old:∀{x:Str}{d:Se},cl.lookup x=some d->d < s.heap.objs.size:=fun {x d} h=>by
  obtain ⟨v,z⟩:=I.cell x d (m1 x d h)
  exact z.lt
 refine ⟨I.ok.mod,hk,I.ok.glob,I.ok.blt,R6 _,λx y d h1 h2=>?_,λx hx=>?_,λx d hf h=>?_,λhc=>I.ok.hd hc,I.ok.frames,.inl rfl,λb hb=>⟨Sv (hin b hb),λx d h=>?_⟩,
  I.bs,SJ I.ok.bsz I.sz,λb o h hb=>?_,λb hb hf=>?_,I.stack,I.stkFree⟩
 ·rcases fP h1 with h1 | ⟨_,h1⟩
  ·rcases fP h2 with h2 | ⟨_,h2⟩
   ·exact name_of_addr ck.apart (Wr h1) (Wr h2)
   ·exact absurd (Sx (old h2) (Vr (lo h1))) (UB _)
  ·rcases fP h2 with h2 | ⟨_,h2⟩
   ·exact absurd (Sx (old h1) (Vr (lo h2))) (UB _)
   ·exact I.ok.inj x y d (m1 x d h1) (m1 y d h2)
 ·refine TF.mp (fT _ _ _ x ?_)
  rcases oR hx with z | z
  ·exact .inl (m2 x (.inr z))
  ·exact .inr z
 ·rcases fP h with h | ⟨z,h⟩
  ·exact Vr (lo h)
  ·have hf':cT RK.names x=true:=hf
   rw [z] at hf'
   cases hf'
 ·rcases fP h with h | ⟨_,h⟩
  ·exact VJ (Sx (hin b hb) (Vr (lo h)))
  ·exact (hfp b hb).2.2.2.2.1 x d (m1 x d h)
 ·rcases (hfp b hb).2.2.2.1 with z | z
  ·exact I.ok.noex b o h z
  ·exact absurd (Sx (Si (I.ok.bs b o h).1) z) (UB _)
 ·rcases Sh.mp (I.stkSub b hf) with e | e
  ·exact (hfp b hb).2.1 e
  ·exact (hfp b hb).2.2.1 e
end
theorem yU {names:List (Str×UC)}{n:Nat}{cl:List (Str×Se)}{x:Str}(h:cT names x=false):(Td n names cl).lookup x=cl.lookup x:=
 jl names n cl x λy hy hk e=>by
  unfold cT at h
  have:=List.any_eq_false.mp h y hy
  simp [hk,e] at this
section
variable {X:Cx}
theorem FN {RL:List (Se×Obj)}{σ:L2.St}{H:Hp}{s:RZ}{own:List Str}{cap:List Nat}{RK:U3}{cl:List (Str×Se)}{fp:List Se}{h1:TU}{m:Str->Option RX}{tk:Nat}(I:Inv X RL σ H s) (ok:(aX X own cap RK cl s.heap.objs.size s H fp).Ok)
  (hcl:bH X.env.cells RK.names []=some cl) (ck:acC h1 (s.heap.objs.size + 1) (Td (s.heap.objs.size + 1) RK.names [])) (hcap:dM X cap=true) (P5:∀j∈cap,∀x,X.N[j]?=some x->(relabel RK X.env).names.lookup x≠some .local)
  (hno:∀j∈cap,∀x,X.N[j]?=some x->cT RK.names x=false) (hns:h1.Ns s.heap.objs.size m) (old:∀b o,s.heap.get? b=some o->h1.get? b=some o):
  Inv (aX X own cap RK cl s.heap.objs.size s H fp) [] (Tu own.length none++cap.map λ(j:Nat)=>(σ[j]?).getD none) H {s with heap:=h1,toks:=tk}:=by
 obtain ⟨m1,m2⟩:=gx RK.names [] cl hcl (λx c h=>by simp at h)
 refine ⟨ok,rfl,I.bare,Un.kept old,⟨m,hns,λi x v q1 q2 q3=>?_⟩,λx d h=>?_,I.hok.fresh (R6 _),λx d h=>?_,λp hp=>absurd (show p∈([]:List (Se×Obj)) from hp) (by simp),I.hok.kept old,?_⟩
 ·obtain ⟨j,h2,h3,h4⟩:=jS q2
  have q1':(own++cap.map λ(j:Nat)=>(X.N[j]?).getD ("":Str))[i]?=some x:=q1
  rw [TR (by exact h2),Ss,h3] at q1'
  have hj:j∈cap:=TV h3
  have hc:(match X.N[j]? with
   | some x=>(match X.env.scope.names.lookup x with
    | some .cell=>true
    | some .free=>true
    | _=>false)
   | none=>false)=true:=by
   unfold dM at hcap
   exact SQ.mp hcap j hj
  cases hx:X.N[j]? with
  | none=>rw [hx] at hc;cases hc
  | some y=>
   rw [aaG,hx] at q1'
   rw [hx] at hc
   have e:y=x:=by simpa using q1'
   subst e
   have kd:X.env.kindOf y=some .cell\/X.env.kindOf y=some .free:=by
    unfold acM
    simp only at hc
    split at hc
    ·rename_i z;exact .inl z
    ·rename_i z;exact .inr z
    ·cases hc
   obtain ⟨mX,nX,lX⟩:=I.loc
   obtain ⟨u,ru,lu⟩:=lX j y v hx h4 (kd.elim (λz=>.inr (.inl z)) λz=>.inr (.inr z))
   refine ⟨u,ru,.inr ?_⟩
   have kd':(relabel RK X.env).names.lookup y=some .cell\/(relabel RK X.env).names.lookup y=some .free:=by
    rcases q3 with z | z | z
    ·exact absurd z (P5 j hj y hx)
    ·exact .inl z
    ·exact .inr z
   refine ⟨kd',?_⟩
   have no:=hno j hj y hx
   have fr:(y,Tz)∈RK.names:=by
    rcases oR kd' with z | z
    ·exact z
    ·rw [no] at z;cases z
   obtain ⟨d,hd⟩:=TF.mp (m2 y (.inr fr))
   refine ⟨d,(yU no).trans hd,?_⟩
   rcases lu with ⟨z,_⟩ | ⟨_,d',hd',z⟩
   ·rcases kd with k | k <;> (rw [k] at z;cases z)
   ·have:=m1 y d hd
    rw [hd'] at this
    cases this
    obtain ⟨o,ho,hod⟩:=z
    exact ⟨o,old _ _ ho,hod⟩
 ·rcases fP h with h | ⟨_,h⟩
  ·exact ⟨none,(ck.empty _ _ (Wr h)).1⟩
  ·obtain ⟨v,o,ho,hod⟩:=I.cell x d (m1 x d h)
   exact ⟨v,o,old _ _ ho,hod⟩
 ·rcases fP h with h | ⟨_,h⟩
  ·exact I.hok.fresh (Vr (ck.empty _ _ (Wr h)).2)
  ·exact I.freeC x d (m1 x d h)
 ·show _=(own++cap.map λ(j:Nat)=>(X.N[j]?).getD ("":Str)).length
  simp
end
theorem LW (h:TU) (names:List (Str×UC)):(aaN (h.push {cls:=.type "dict",data:=.dict #[]}) names).Ns h.objs.size (λ_=>none):=
 (Heap.Ns.new h (.type "dict")).keeps λb o e=>aaO _ _ _ _ e
theorem DO (h:TU) (names:List (Str×UC)):acC (aaN (h.push {cls:=.type "dict",data:=.dict #[]}) names) (h.objs.size + 1) (Td (h.objs.size + 1) names []):=by
 have:=cellsFrom_ok names (h.push {cls:=.type "dict",data:=.dict #[]}) (h.objs.size + 1) [] ⟨λ_ _ hm=>(nomatch hm),UW⟩ (by rw [VG];exact R6 _)
 rw [VG] at this
 exact this
noncomputable def fh (X:Cx) (cap:List Nat) (RK:U3):Bool:=cap.all λj=>match X.N[j]? with
 | some x=>!cT RK.names x
 | none=>true
section
variable {X:Cx}{c:C}
theorem iG {cells:List (Str×Se)}{names names2:List (Str×UC)}{cl:List (Str×Se)}{n:Nat}(h:bH cells names []=some cl)
  (hn:(names2.all λy=>!(y.2 == .free) || ((names.any λz=>z.1 == y.1 && z.2 == .free) || cT names y.1))=true):(bH (Td n names cl) names2 []).isSome=true:=by
 obtain ⟨_,m2⟩:=gx names [] cl h (λx c h=>by simp at h)
 have go:∀(l:List (Str×UC)) (cs:List (Str×Se)),(l.all λy=>!(y.2 == .free) || ((names.any λz=>z.1 == y.1 && z.2 == .free) || cT names y.1))=true->(bH (Td n names cl) l cs).isSome=true:=by
  intro l
  induction l with
  | nil=>intro cs _;rfl
  | cons y r ih=>
   obtain ⟨y,k⟩:=y
   intro cs hl
   rw [Vy,R8] at hl
   unfold bH
   split
   ·rename_i hk
    have h1:=hl.1
    simp only [hk,UR,abM,Vq] at h1
    have:((Td n names cl).lookup y).isSome=true:=by
     refine fT names n cl y ?_
     rcases h1 with z | z
     ·obtain ⟨q,hq,e⟩:=UN.mp z
      rw [R8] at e
      have e1:q=(y,Tz):=by
       obtain ⟨q1,q2⟩:=q
       have a1:q1=y:=eq_of_beq e.1
       have a2:q2=Tz:=by simpa using e.2
       rw [a1,a2]
      exact .inl (m2 y (.inr (e1▸hq)))
     ·exact .inr z
    obtain ⟨a,ha⟩:=TF.mp this
    rw [ha]
    exact ih _ hl.2
   ·exact ih _ hl.2
 exact go names2 [] hn
end
section
variable {X:Cx}{c:C}{e:SM}{es:List SM}{g:G R}{pos:Pos}
theorem EV {p:Pos}{gs:G (List R)}(hu:X.A.units + 64 < Uh) (ha:jg X c (e::es) gs) (hm:X.mg "sorted"=none) (hK:X.K=c.K:=by rfl) (hg:Gl X "sorted":=by rfl)
  (he:R_ (e::es) X.env=(false,eval e X.env)::R_ es X.env:=by rfl) (hpl:(Us pos (R_ es X.env)).any (·.1)=false:=by rfl):QD X c (.Call (.Name "sorted" p) (e::es) [] pos) (gN pA gs):=have ha:=ha.h;⟨
 gG (o_ hu) (by
  intro He J H xs vs Q hp rs w
  unfold pA at w
  split at w
  ·obtain ⟨v,rfl,r⟩:=rs.one
   obtain ⟨xs,q,w⟩:=kC w
   obtain ⟨p,vs,rfl,h1,h2⟩:=RR.list hp r q
   split at w
   ·rename_i ok
    rw [hK]
    exact ⟨p,vs,xs,rfl,h1,h2.mono hp.sub,ok,λl vs' hl rr=>w _ _ _ (Ext.new hp.sub hl _) (ia hp hl (rr _ h2))⟩
   ·exact w.elim
  ·exact w.elim) iY hm ha hg (by decide) (by decide) he hpl⟩
theorem ES (i:Nat){x:Str}{pos':Pos}(hN:X.N.Nodup) (h:QD X c e g) (hi:X.N[i]?=some x:=by rfl) (hx:Loc X.env.scope x:=by first | exact WA rfl | exact Vu rfl) (hf:X.fn x=true\/X.env.scope.names.lookup x=some .local:=by first | exact .inl rfl | exact .inr rfl):
  gR X c (.AugAssign (.Name x pos') .Mult e pos) (pC i uH g):=have h:=h.h;⟨Bc i hN Jh (yf (λi j h=>A4 h) λ_ _ _=>.int _) h hi hx hf⟩
theorem ER (i:Nat){x:Str}{pos':Pos}(hN:X.N.Nodup) (h:QD X c e g) (hi:X.N[i]?=some x:=by rfl) (hx:Loc X.env.scope x:=by first | exact WA rfl | exact Vu rfl) (hf:X.fn x=true\/X.env.scope.names.lookup x=some .local:=by first | exact .inl rfl | exact .inr rfl):
  gR X c (.AugAssign (.Name x pos') .Add e pos) (pC i yy g):=have h:=h.h;⟨Bc i hN Jg (gK λ_ _ _=>.int _) h hi hx hf⟩
theorem ET {x y:Str}{px p1 py:Pos}{k:Nat}{pos':Pos}{t:mL}(h:QD X c e g) (ht:x6 X c [.Name x px,.Name y py] t) (QT:X.calm=true:=by rfl) (hK:X.K=c.K:=by rfl)
  (hm:(Tg [.Starred (.Name x px) p1,.Name y py] X.env).map (·.2)=(Tg [.Name x px,.Name y py] X.env).map (·.2):=by rfl) (hs:Vw [.Tuple [.Starred (.Name x px) p1,.Name y py] k pos'] e pos.line X.env=pure false:=by rfl) (hw:W6 [.Tuple [.Starred (.Name x px) p1,.Name y py] k pos'] e X.env=pure none:=by rfl)
  (h1:(Tg [.Tuple [.Starred (.Name x px) p1,.Name y py] k pos'] X.env).map (·.2)=[assign (.Tuple [.Starred (.Name x px) p1,.Name y py] k pos') X.env]:=by rfl):gR X c (.Assign [.Tuple [.Starred (.Name x px) p1,.Name y py] k pos'] e pos) (sW t g):=⟨GK h.h ht.h QT hK rfl rfl hm hs hw h1⟩
theorem Jd {K:RV}{x RP:Str}{st:Vj}{f T:Se}{oc oT:RX}{od an dT:Option Se}{osl sT:Array (Option RX)}{kV doc pm cdv ct:RX}{n:Nat}(l:K.lookup f=some ⟨oc,od,.func (Sb x RP (aT st) (aO st) (ay st) (.ref T) kV doc pm an cdv ct),osl⟩)
  (cd:Vd K cdv RP=true) (k:TM K (.ref f)=true) (lT:K.lookup T=some ⟨oT,dT,.seq #[.none] n,sT⟩):nI K x RP st f (Sb x RP (aT st) (aO st) (ay st) (.ref T) kV doc pm an cdv ct):=
 ⟨⟨oc,od,T,_,n,kV,doc,pm,an,cdv,ct,osl,rfl,l,cd,lT,rfl⟩,k⟩
end
end DL
namespace K51
open PySem DL
def KY:List Str:=["many","depth","told","step"]
noncomputable def Ef:G O:=(aJ (br 2 (gC (.int 1)))
 (aJ (gm (cA (ao (af 1) aE)) (aC 3) (pC 2 uH (af 0)))
 (bO (af 2))))
def r_ (as:List S):M R:=fin (Ef (bh KY as))
def xV:List Str:=["told","kept","one"]
noncomputable def pJ:G O:=(aJ (br 1 (gD aW))
 (aJ (gm (nT (gN pA (ao (af 0) aE))) (aC 2) (cu (pD (gE (mw (af 1))) (bQ (g2 (eU true) (g2 bA (af 1) (yG (gC (.int 1)))) (af 2)))) (mq 1 (af 2)) eH))
 (bO (gN bX (ao (af 1) aE)))))
def gr (as:List S):M R:=fin (pJ (bh xV as))
def Ft:List Str:=["world","row","ahead","last","many","marks","arrows","same","bearing","loops","outward","inward"]
noncomputable def yJ:G O:=(aJ (cu (bQ (g2 (eU false) (gN jn (ao (af 1) aE)) (gC (.int 0)))) (bO (bI aW)) eH)
 (aJ (sW (bw (aC 2) (bw (aC 3) cZ)) (af 1))
 (aJ (kJ (c_ 3 (bw (aC 4) (bw (aC 5) (bw (aC 6) cZ)))) (af 0))
 (aJ (br 7 (gN bX (ao (bF 1 [3] (dH (af 2)) (aC 0) b9 (g2 (eU false) (af 0) (af 1))) aE)))
 (aJ (br 8 (gN bX (ao (bF 2 [3] (dH (af 5)) (c_ 2 (bw (aC 0) (bw (aC 1) cZ))) b9 (g2 (iI false) (af 2) (af 1))) aE)))
 (aJ (br 9 (gN bX (ao (bF 2 [3] (dH (af 6)) (c_ 2 (bw (aC 0) (bw (aC 1) cZ))) b9 (g2 (iI false) (bI (aA (af 2) (aA (af 2) aW))) (af 1))) aE)))
 (aJ (br 10 (gN bX (ao (bF 2 [2,3] (dH (af 6)) (c_ 2 (bw (aC 0) (bw (aC 1) cZ))) b9 (gN bX (ao (bF 1 [3,1] (dH (af 2)) (aC 0) b9 (g2 (iI false) (bI (aA (af 1) (aA (af 0) aW))) (af 2))) aE))) aE)))
 (aJ (br 11 (gN bX (ao (bF 2 [2,3] (dH (af 6)) (c_ 2 (bw (aC 0) (bw (aC 1) cZ))) b9 (gN bX (ao (bF 1 [3,1] (dH (af 2)) (aC 0) b9 (g2 (iI false) (bI (aA (af 0) (aA (af 1) aW))) (af 2))) aE))) aE)))
 (bO (bI (aA (af 7) (aA (af 8) (aA (af 9) (aA (af 10) (aA (af 11) aW)))))))))))))))
def jj (as:List S):M R:=fin (yJ (bh Ft as))
def Fv:List Str:=["world","depth","row","face"]
noncomputable def yK (Fr:List S->M R):G O:=(aJ (br 3 (gN (aS 2 K51.jj) (ao (af 0) (ao (af 2) aE))))
 (aJ (cu (bQ (g2 (eU false) (af 1) (gC (.int 0)))) (bO (bI (aA (af 3) (aA (bI aW) aW)))) eH)
 (bO (bI (aA (af 3) (aA (gN (aS 1 K51.gr) (ao (bF 1 [0,1,2] (cA (ao (g2 bA (af 0) (gC (.int 0))) aE)) (aC 0) b9 (gN (aS 3 Fr) (ao (af 1) (ao (g2 FW (af 2) (gC (.int 1))) (ao (g2 dW (af 3) (bI (aA (af 0) aW))) aE))))) aE)) aW))))))
noncomputable def iu:Nat->List S->M R
 | 0,_=>.bad
 | k + 1,as=>fin (yK (iu k) (bh Fv as))
def BG:List Str:=["_law_script","_law_k"]
noncomputable def sY:G O:=(aJ (cu (bQ (g2 (kI λi j=>.bl (decide (i < j))) (af 1) (gN jn (ao (af 0) aE)))) (bO (g2 fR (g2 bA (af 0) (af 1)) (g2 Ll (gC (.int 10)) (gC (.int 64))))) eH)
 (bO (gC (.int 0))))
def cQ (as:List S):M R:=fin (sY (bh BG as))
def zV:List Str:=["_law_cell_here","_law_many","_law_letters","_law_sign","_law_stem","_law_found","_law_k","_law_other","_law_name"]
noncomputable def qR:G O:=(aJ (br 2 (gC (.str "abcdefghijklmnopqrstuvwxyz")))
 (aJ (br 3 (g2 bA (af 2) (g2 fR (g2 i6 (af 0) (gC (.int 3))) (gC (.int 26)))))
 (aJ (br 4 (g2 gA (af 3) (g2 cU (gC (.int 1)) (g2 fR (g2 i6 (af 0) (gC (.int 78))) (gC (.int 7))))))
 (aJ (br 5 (gD aW))
 (aJ (gm (cA (ao (af 1) aE)) (aC 6) (aJ (br 7 (g2 bA (af 2) (g2 fR (g2 cU (g2 i6 (af 0) (gC (.int 546))) (g2 gA (gC (.int 9)) (af 6))) (gC (.int 26)))))
 (aJ (br 8 (g2 bA (gD (aA (g2 cU (af 4) (af 7)) (aA (g2 cU (af 7) (af 4)) (aA (g2 gA (af 3) (g2 cU (af 6) (gC (.int 2)))) aW)))) (g2 fR (af 0) (gC (.int 3)))))
 (aJ (cu (bQ (g2 (eU false) (af 8) (gC (.str "or")))) (br 8 (gC (.str "orx"))) eH)
 (mq 5 (af 8))))))
 (bO (gN mY (ao (af 5) aE))))))))
def fW (as:List S):M R:=fin (qR (bh zV as))
def BF:List Str:=["_law_cell_here","_law_size","_law_found","_law_k"]
noncomputable def sX:G O:=(aJ (br 2 (gD aW))
 (aJ (gm (cA (ao (af 1) aE)) (aC 3) (aJ (mq 2 (g2 (eU false) (g2 fR (af 0) (gC (.int 2))) (gC (.int 1))))
 (br 0 (g2 i6 (af 0) (gC (.int 2))))))
 (bO (af 2))))
def gI (as:List S):M R:=fin (sX (bh BF as))
def zX:List Str:=["_law_names_here","_law_many","_law_cells","_law_marks","_law_k","_law_bits_here","_law_arrows"]
noncomputable def qT:G O:=(aJ (br 3 (gD aW))
 (aJ (gm (cA (ao (gN jn (ao (g2 bA (af 0) (gC (.int 0))) aE)) aE)) (aC 4) (aJ (br 5 (gN (aS 2 K51.gI) (ao (g2 bA (af 2) (af 4)) (ao (af 1) aE))))
 (mq 3 (bI (aA (g2 bA (g2 bA (af 0) (gC (.int 0))) (af 4)) (aA (gN bX (ao (bF 1 [5] (cA (ao (af 1) aE)) (aC 0) (mw (g2 bA (af 1) (af 0))) (af 0)) aE)) aW))))))
 (aJ (br 6 (gD aW))
 (aJ (gm (cA (ao (gN jn (ao (g2 bA (af 0) (gC (.int 1))) aE)) aE)) (aC 4) (aJ (br 5 (gN (aS 2 K51.gI) (ao (g2 bA (af 2) (g2 cU (gC (.int 3)) (af 4))) (ao (g2 gA (af 1) (af 1)) aE))))
 (mq 6 (bI (aA (g2 bA (g2 bA (af 0) (gC (.int 1))) (af 4)) (aA (gN bX (ao (bF 1 [5,1] (cA (ao (g2 gA (af 1) (af 1)) aE)) (aC 0) (mw (g2 bA (af 1) (af 0))) (bI (aA (g2 i6 (af 0) (af 2)) (aA (g2 fR (af 0) (af 2)) aW)))) aE)) aW))))))
 (bO (bI (aA (af 1) (aA (gN bX (ao (af 3) aE)) (aA (gN bX (ao (af 6) aE)) aW)))))))))
def fC (as:List S):M R:=fin (qT (bh zX as))
end K51
namespace WP
open PySem DL K01
def Wp {α:Type}(m:M α) (P:α->Prop):Prop:=∃a,m=.ok a/\P a
section
variable {α β:Type}{m:M α}{P P':α->Prop}{a:α}{env:Ev}{Q:O->Prop}{t u:G O}{g:G R}{r r':R}{i:Nat}{b:G Bool}
theorem Wp.of (h:m=.ok a) (p:P a):Wp m P:=⟨a,h,p⟩
theorem Wp.mono (h:Wp m P) (k:∀a,P a->P' a):Wp m P':=let ⟨a,h1,h2⟩:=h;⟨a,h1,k a h2⟩
theorem Wp.eq (h:Wp m (·=a)):m=.ok a:=let ⟨_,h1,h2⟩:=h;h2▸h1
theorem oE {P:R->Prop}(h:Wp (t env) λo=>∃r,o=.rt r/\P r):Wp (fin (t env)) P:=by
 obtain ⟨_,h1,r,rfl,h2⟩:=h
 exact ⟨r,by rw [h1];rfl,h2⟩
theorem nE (h:Wp (t env) λo=>∃e,o=.nx e):fin (t env)=.ok (.d .non):=by
 obtain ⟨_,h1,r,rfl⟩:=h
 rw [h1];rfl
theorem b_ (h:Wp (t env) (·=.rt r)):fin (t env)=.ok r:=by
 rw [h.eq];rfl
theorem cF (h:Wp (t env) λo=>match o with
 | .nx e=>Wp (u e) Q
 | o=>Q o):Wp (aJ t u env) Q:=by
 obtain ⟨o,h1,h2⟩:=h
 show Wp (t env >>= _) Q
 rw [h1]
 cases o with
 | nx e=>exact h2
 | rt r=>exact ⟨_,rfl,h2⟩
 | bk e=>exact ⟨_,rfl,h2⟩
 | ct e=>exact ⟨_,rfl,h2⟩
theorem gq {x:S}(h:g env=.ok r) (h2:toS r=.ok x) (k:Q (.nx (env.set i (some x)))):Wp (br i g env) Q:=⟨_,by show (g env >>= _)=_;rw [h,aM,h2];rfl,k⟩
theorem bC {x:S}(h:g env=.ok r) (h2:toS r=.ok x) (k:Wp (u (env.set i (some x))) Q):Wp (aJ (br i g) u env) Q:=cF (gq h h2 k)
theorem bP (h:g env=.ok r) (h2:rF r=.ok r') (k:Q (.rt r')):Wp (bO g env) Q:=⟨_,MK h h2,k⟩
theorem jN (k:Q (.nx env)):Wp (eH env) Q:=⟨_,rfl,k⟩
theorem OY (k:Wp (u env) Q):Wp (aJ eH u env) Q:=cF (jN k)
theorem ig (h:b env=.ok true) (k:Wp (t env) Q):Wp (cu b t u env) Q:=by rw [A1 h];exact k
theorem pO (h:b env=.ok false) (k:Wp (u env) Q):Wp (cu b t u env) Q:=by rw [yM h];exact k
theorem Cj {c:Bool}(h:b env=.ok c) (k1:c=true->Wp (t env) Q) (k2:c=false->Wp (u env) Q):Wp (cu b t u env) Q:=by
 cases c with
 | true=>exact ig h (k1 rfl)
 | false=>exact pO h (k2 rfl)
theorem OX {v:G O}(h:b env=.ok false) (k:Wp (aJ u v env) Q):Wp (aJ (cu b t u) v env) Q:=by
 have:aJ (cu b t u) v env=aJ u v env:=by unfold aJ;rw [yM h]
 rw [this];exact k
theorem eO {v:G O}(h:b env=.ok false) (k:Wp (v env) Q):Wp (aJ (cu b t eH) v env) Q:=OX h (OY k)
theorem qx {xs:List D}{d:D}(h0:env[i]?=some (some (.own xs))) (h:g env=.ok r) (h2:toD r=.ok d) (hl:xs.length<=1000) (k:Q (.nx (env.set i (some (.own (xs++[d])))))):Wp (mq i g env) Q:=by
 refine ⟨_,?_,k⟩
 unfold mq
 rw [h0]
 show (g env >>= _)=_
 rw [h,aM,h2,aM,if_pos (ZK hl (by decide))]
theorem NW {xs:List D}{d:D}(h0:env[i]?=some (some (.own xs))) (h:g env=.ok r) (h2:toD r=.ok d) (hl:xs.length<=1000) (k:Wp (u (env.set i (some (.own (xs++[d]))))) Q):Wp (aJ (mq i g) u env) Q:=cF (qx h0 h h2 hl k)
theorem Ci {gi:G (List D)}{tg:GT}{ds:List D}(h:gi env=.ok ds) (k:Wp (fF tg u ds env) Q):Wp (gm gi tg u env) Q:=by rw [Lm h];exact k
theorem jz {gi:G (List D)}{tg:GT}{ds:List D}{v:G O}(h:gi env=.ok ds) (k:Wp (fF tg t ds env) λo=>match o with
 | .nx e=>Wp (v e) Q
 | o=>Q o):Wp (aJ (gm gi tg t) v env) Q:=cF (Ci h k)
theorem ug {tg:GT}(I:Nat->Ev->Prop) (ds:List D) (h0:I 0 env) (step:∀(k:Nat) (hk:k < ds.length) (env:Ev),I k env->∃e,tg ds[k] env=.ok e/\Wp (u e) λo=>∃e,o=.nx e/\I (k + 1) e)
  (k:∀e,I ds.length e->Q (.nx e)):Wp (fF tg u ds env) Q:=by
 have key:∀(es:List D) (i:Nat) (env:Ev),ds.drop i=es->i<=ds.length->I i env->Wp (fF tg u es env) Q:=by
  intro es
  induction es with
  | nil=>
   intro i env hd hi hI
   have:i=ds.length:=by
    have:=congrArg V_ hd
    rw [VD] at this
    simp at this;omega
   subst this
   exact ⟨_,rfl,k _ hI⟩
  | cons d es ih=>
   intro i env hd hi hI
   have hlt:i < ds.length:=by
    have:=congrArg V_ hd
    rw [VD] at this
    simp at this;omega
   have e1:=V5 hlt
   rw [hd] at e1
   obtain ⟨q1,q2⟩:=ac3 e1
   obtain ⟨e,h1,_,h2,e2,rfl,h3⟩:=step i hlt env hI
   unfold fF
   rw [q1,h1,aM,h2,aM]
   exact ih (i + 1) e2 q2.symm (by omega) h3
 exact key ds 0 env rfl (SG _) h0
theorem oF {tg:GT}{n:Nat}(I:Nat->Ev->Prop) (h0:I 0 env) (step:∀(k:Nat),k < n->∀env,I k env->∃e,tg (.int k) env=.ok e/\Wp (u e) λo=>∃e,o=.nx e/\I (k + 1) e)
  (k:∀e,I n e->Q (.nx e)):Wp (fF tg u (fD 0 n) env) Q:=by
 have hl:(fD 0 n).length=n:=by simp [fD]
 refine ug I (fD 0 n) h0 (λj hj env hI=>?_) (by rw [hl];exact k)
 obtain ⟨e,h1,h2⟩:=step j (by rw [hl] at hj;exact hj) env hI
 refine ⟨e,?_,h2⟩
 rw [<-h1]
 simp [fD]
theorem n1 {f:List R->M R}{x z:R}(hx:g env=.ok x) (hf:f [x]=.ok z):gN f (ao g aE) env=.ok z:=ND hx hf
theorem two {f:R->R->M R}{h:G R}{x y z:R}(hx:g env=.ok x) (hy:h env=.ok y) (hf:f x y=.ok z):g2 f g h env=.ok z:=by
 show (g env >>= _)=_
 rw [hx,aM,hy,aM,hf]
theorem c1 {F:List S->M R}{x z:R}(hx:g env=.ok x) (hF:F [fV x]=.ok z):gN (aS 1 F) (ao g aE) env=.ok (mZ z):=by
 show (ao g aE env >>= _)=_
 unfold ao aE
 rw [hx]
 show (match F [fV x] with | .ok r=>M.ok (mZ r) | _=>M.bad)=_
 rw [hF]
theorem c2 {F:List S->M R}{h:G R}{x y z:R}(hx:g env=.ok x) (hy:h env=.ok y) (hF:F [fV x,fV y]=.ok z):gN (aS 2 F) (ao g (ao h aE)) env=.ok (mZ z):=by
 show (ao g (ao h aE) env >>= _)=_
 unfold ao aE
 rw [hx,hy]
 show (match F [fV x,fV y] with | .ok r=>M.ok (mZ r) | _=>M.bad)=_
 rw [hF]
theorem c3 {F:List S->M R}{h k:G R}{x y w z:R}(hx:g env=.ok x) (hy:h env=.ok y) (hw:k env=.ok w) (hF:F [fV x,fV y,fV w]=.ok z):gN (aS 3 F) (ao g (ao h (ao k aE))) env=.ok (mZ z):=by
 show (ao g (ao h (ao k aE)) env >>= _)=_
 unfold ao aE
 rw [hx,hy,hw]
 show (match F [fV x,fV y,fV w] with | .ok r=>M.ok (mZ r) | _=>M.bad)=_
 rw [hF]
theorem c4 {F:List S->M R}{h k l:G R}{x y w v z:R}(hx:g env=.ok x) (hy:h env=.ok y) (hw:k env=.ok w) (hv:l env=.ok v) (hF:F [fV x,fV y,fV w,fV v]=.ok z):gN (aS 4 F) (ao g (ao h (ao k (ao l aE)))) env=.ok (mZ z):=by
 show (ao g (ao h (ao k (ao l aE))) env >>= _)=_
 unfold ao aE
 rw [hx,hy,hw,hv]
 show (match F [fV x,fV y,fV w,fV v] with | .ok r=>M.ok (mZ r) | _=>M.bad)=_
 rw [hF]
theorem j5 (h:g env=.ok r) (k:Wp (u env) Q):Wp (aJ (jy g) u env) Q:=cF ⟨.nx env,by show (g env >>= _)=_;rw [h];rfl,k⟩
theorem ie {cap:List Nat}{gi:G (List D)}{ge:G R}{α:Type}{xs:List α}(a b:α->D) (f:α->D) (hi:gi env=.ok (xs.map λx=>.tup [a x,b x])) (hl:xs.length<=1000)
  (h:∀x∈xs,∃r,ge (some (.d (a x))::some (.d (b x))::cE 0 cap env)=.ok r/\toD r=.ok (f x)):bF 2 cap gi (c_ 2 (bw (aC 0) (bw (aC 1) cZ))) b9 ge env=.ok (.l .fresh (xs.map f)):=by
 have key:∀(es:List α) (x y:Option S),(∀d∈es,d∈xs)->cR (c_ 2 (bw (aC 0) (bw (aC 1) cZ))) b9 ge (es.map λx=>.tup [a x,b x]) (x::y::cE 0 cap env)=.ok (es.map f):=by
  intro es
  induction es with
  | nil=>exact λ_ _ _=>rfl
  | cons d es ih=>
   intro x y hm
   obtain ⟨r,h1,h2⟩:=h d (hm d R1)
   rw [Sj]
   unfold cR
   show (ge (some (.d (a d))::some (.d (b d))::cE 0 cap env) >>= _)=_
   rw [h1,aM,h2,aM]
   show (cR _ b9 ge _ (some (.d (a d))::some (.d (b d))::cE 0 cap env) >>= _)=_
   rw [ih _ _ λe he=>hm e (R0 _ he)]
   rfl
 unfold bF
 rw [hi,aM,if_pos (gF (by rw [R3];exact hl))]
 show (cR _ b9 ge _ (none::none::cE 0 cap env) >>= _)=_
 rw [key xs none none λ_ h=>h]
 rfl
theorem MM (n:Nat):fD 0 n=(R7 n).map dN:=by simp [fD]
theorem gZ {gs:G (List R)}{n:Nat}(hg:gs env=.ok [.d (.int (n:Int))]) (h:n<=1000):cA gs env=.ok ((R7 n).map dN):=by rw [pZ hg h,MM]
theorem iz {cap:List Nat}{gi:G (List D)}{ge:G R}{α:Type}{xs:List α}{h:α->D}(f:α->D) (hi:gi env=.ok (xs.map h)) (hl:xs.length<=1000000)
  (hb:∀x∈xs,∃r,ge (some (.d (h x))::cE 0 cap env)=.ok r/\toD r=.ok (f x)):bF 1 cap gi (aC 0) b9 ge env=.ok (.l .fresh (xs.map f)):=by
 have key:∀(es:List α) (x:Option S),(∀d∈es,d∈xs)->cR (aC 0) b9 ge (es.map h) (x::cE 0 cap env)=.ok (es.map f):=by
  intro es
  induction es with
  | nil=>exact λ_ _=>rfl
  | cons d es ih=>
   intro x hm
   obtain ⟨r,h1,h2⟩:=hb d (hm d R1)
   rw [Sj]
   unfold cR
   show (ge (some (.d (h d))::cE 0 cap env) >>= _)=_
   rw [h1,aM,h2,aM]
   show (cR (aC 0) b9 ge _ (some (.d (h d))::cE 0 cap env) >>= _)=_
   rw [ih _ λe he=>hm e (R0 _ he)]
   rfl
 unfold bF
 rw [hi,aM,if_pos (by rw [S4,R3];omega)]
 show (cR (aC 0) b9 ge _ (none::cE 0 cap env) >>= _)=_
 rw [key xs none λ_ h=>h]
 rfl
theorem lK {cap:List Nat}{gi:G (List D)}{ge:G R}{gts:G Bool}{α:Type}{xs:List α}{h:α->D}(p:α->Bool) (f:α->D) (hi:gi env=.ok (xs.map h)) (hl:xs.length<=1000000)
  (hb:∀x∈xs,gts (some (.d (h x))::cE 0 cap env)=.ok (p x)/\(p x=true->∃r,ge (some (.d (h x))::cE 0 cap env)=.ok r/\toD r=.ok (f x))):bF 1 cap gi (aC 0) gts ge env=.ok (.l .fresh ((xs.filter p).map f)):=by
 have key:∀(es:List α) (x:Option S),(∀d∈es,d∈xs)->cR (aC 0) gts ge (es.map h) (x::cE 0 cap env)=.ok ((es.filter p).map f):=by
  intro es
  induction es with
  | nil=>exact λ_ _=>rfl
  | cons d es ih=>
   intro x hm
   obtain ⟨h0,h1⟩:=hb d (hm d R1)
   rw [Sj]
   unfold cR
   show (gts (some (.d (h d))::cE 0 cap env) >>= _)=_
   rw [h0,aM]
   cases q:p d with
   | true=>
    obtain ⟨r,h1,h2⟩:=h1 q
    rw [if_pos rfl]
    show (ge (some (.d (h d))::cE 0 cap env) >>= _)=_
    rw [h1,aM,h2,aM]
    show (cR (aC 0) gts ge _ (some (.d (h d))::cE 0 cap env) >>= _)=_
    rw [ih _ λe he=>hm e (R0 _ he),Yj q]
    rfl
   | false=>
    rw [if_neg (by decide),Yk (by simp [q])]
    exact ih _ λe he=>hm e (R0 _ he)
 unfold bF
 rw [hi,aM,if_pos (by rw [S4,R3];omega)]
 show (cR (aC 0) gts ge _ (none::cE 0 cap env) >>= _)=_
 rw [key xs none λ_ h=>h]
 rfl
theorem dz {x:R}(h:g env=.ok x):ao g aE env=.ok [x]:=by
 show (g env >>= _)=_
 rw [h]
 rfl
theorem bu:aW env=.ok []:=rfl
theorem aF {gs:G (List D)}{d:D}{ds:List D}(h:g env=.ok r) (h2:toD r=.ok d) (k:gs env=.ok ds):aA g gs env=.ok (d::ds):=by
 show (g env >>= _)=_
 rw [h,aM,h2,aM,k]
 rfl
theorem bz {gs:G (List D)}{ds:List D}(h:gs env=.ok ds) (hl:ds.length<=1000):bI gs env=.ok (.d (.tup ds)):=by
 show (gs env >>= _)=_
 rw [h,aM,if_pos (gF hl)]
theorem pQ {gs:G (List D)}{ds:List D}(h:gs env=.ok ds) (hl:ds.length<=1000):gD gs env=.ok (.l .fresh ds):=by
 show (gs env >>= _)=_
 rw [h,aM,if_pos (gF hl)]
theorem nc {α:Type}{xs:List α}{h:α->D}(f:R) (hf:g8 f=.ok (xs.map h)) (i:Int) (h0:0<=i) (hi:i < xs.length):∃x∈xs,bA f (.d (.int i))=.ok (.d (h x)):=by
 obtain ⟨k,rfl⟩:=Int.eq_ofNat_of_zero_le h0
 have hk:k < xs.length:=by omega
 refine ⟨xs[k],T7 hk,?_⟩
 have h1:(xs.map h)[k]?=some (h xs[k]):=by rw [Ss,Sg hk];rfl
 cases f with
 | d x=>
  cases x with
  | tup ys=>cases hf;exact j_ h1
  | lst ys=>cases hf;unfold bA;simp only [g8,aM,j4 h1]
  | _=>cases hf
 | l m x=>cases hf;exact sO h1
 | mo _ _=>cases hf
 | mb _ _=>cases hf
 | mf _ _=>cases hf
theorem Dd {xs:List D}(h:env[i]?=some (some (.own xs))) (k:Wp (t (env.set i (some (.d (.lst xs))))) Q):Wp (jM i t env) Q:=by
 have:jM i t env=t (env.set i (some (.d (.lst xs)))):=by unfold jM;rw [h]
 rw [this];exact k
theorem Nv {tg:GT}{d:D}{e:Ev}(h:g env=.ok r) (h2:toD r=.ok d) (h3:tg d env=.ok e) (k:Q (.nx e)):Wp (kJ tg g env) Q:=⟨_,by show (g env >>= _)=_;rw [h,aM,h2,aM,h3];rfl,k⟩
theorem qD {tg:GT}{d:D}{e:Ev}(h:g env=.ok r) (h2:toD r=.ok d) (h3:tg d env=.ok e) (k:Wp (u e) Q):Wp (aJ (kJ tg g) u env) Q:=cF (Nv h h2 h3 k)
theorem MR {tg:mL}{xs:List D}{z:D}{e:Ev}(h:g env=.ok (.d (.tup (xs++[z])))) (hl:xs.length + 1<=1000) (h3:tg [.lst xs,z] env=.ok e) (k:Wp (u e) Q):Wp (aJ (sW tg g) u env) Q:=by
 refine cF ⟨.nx e,?_,k⟩
 unfold sW
 rw [h]
 simp only [aM,toD,Vk,Y_,Sy,YK,hl,if_true,h3]
theorem ye {α:Type}(xs:List α) (z:α):L2.lJ (xs++[z]) (-1)=some z:=by
 unfold L2.lJ L2.yP
 rw [if_neg (by decide),if_pos (by simp;omega)]
 rw [show ((-1:Int) + ((xs++[z]).length:Nat)).toNat=xs.length by simp;omega]
 simp
theorem Jl (xs:List D) (z:D):bA (.d (.tup (xs++[z]))) (.d (.int (-1)))=.ok (.d z):=by
 unfold bA
 simp only [g8,aM,ye]
theorem Jk (m:Md) (xs:List D) (z:D):bA (.l m (xs++[z])) (.d (.int (-1)))=.ok (.d z):=by
 unfold bA
 simp only [g8,aM,ye]
theorem Cc (neg:Bool) (x:D) (ys:List D) (h:deps ys<=60) (hx:dep x<=60):iI neg (.d x) (.d (.tup ys))=.ok (.d (.bl (if neg then !inD x ys else inD x ys))):=by
 show (if deps ys<=60/\dep x<=60 then M.ok (R.d (.bl (if neg then !inD x ys else inD x ys))) else M.bad)=_
 rw [if_pos ⟨h,hx⟩]
theorem sL (neg:Bool) (x y:R) (h:dep x.dat<=60) (hx:dep y.dat<=60):eU neg x y=.ok (.d (.bl (if neg then !bg x.dat y.dat else bg x.dat y.dat))):=by
 unfold eU
 rw [if_pos ⟨h,hx⟩]
theorem dc {n:Nat}:∀{xs:List D},(∀x∈xs,dep x<=n)->deps xs<=n
 | [],_=>SG _
 | x::xs,h=>by
  have h1:=h x R1
  have h2:=dc (xs:=xs) λy hy=>h y (R0 _ hy)
  simp only [deps]
  omega
theorem Li (xs:List Nat):deps (xs.map dN)<=60:=dc λx hx=>by
 obtain ⟨k,_,rfl⟩:=R4.mp hx
 exact SG _
theorem D0 (xs:List (Nat×Nat)):deps (xs.map dP)<=60:=dc λx hx=>by
 obtain ⟨k,_,rfl⟩:=R4.mp hx
 exact (by decide:(1:Nat)<=60)
theorem BA {tb:G Bool}(I:Nat->Ev->Prop) (step:∀d env,I d env->(tb env=.ok false/\Q (.nx env))\/(tb env=.ok true/\Wp (t env) λo=>match o with
  | .nx e=>∃d',d' < d/\I d' e
  | .rt r=>Q (.rt r)
  | _=>False)):∀(n d:Nat) (env:Ev),I d env->d < n->Wp (lC tb t n env) Q
 | 0,d,env,_,h=>absurd h (Tr _)
 | n + 1,d,env,hI,h=>by
  unfold lC
  rcases step d env hI with ⟨h1,h2⟩ | ⟨h1,o,h2,h3⟩
  ·rw [h1]
   exact ⟨_,rfl,h2⟩
  ·rw [h1,aM,if_pos rfl,h2,aM]
   cases o with
   | nx e=>
    obtain ⟨d',hd,hI'⟩:=h3
    exact BA I step n d' e hI' (by omega)
   | rt r=>exact ⟨_,rfl,h3⟩
   | bk e=>exact h3.elim
   | ct e=>exact h3.elim
theorem Km {tb:G Bool}{n:Nat}(I:Nat->Ev->Prop) (d:Nat) (hd:d < n) (h0:I d env) (step:∀d env,I d env->(tb env=.ok false/\Wp (u env) Q)\/(tb env=.ok true/\Wp (t env) λo=>match o with
  | .nx e=>∃d',d' < d/\I d' e
  | .rt r=>Q (.rt r)
  | _=>False)):Wp (aJ (yI n tb t) u env) Q:=cF (BA I (λd env h=>by
  rcases step d env h with h | ⟨h1,h2⟩
  ·exact .inl h
  ·refine .inr ⟨h1,h2.mono λo ho=>?_⟩
   cases o <;> exact ho) n d env h0 hd)
theorem Nx {d:D}{f:R->R->M R}{y z:R}{x:S}(h0:env[i]?=some (some (.d d))) (h:g env=.ok y) (hf:f (.d d) y=.ok z) (h2:toS z=.ok x) (k:Q (.nx (env.set i (some x)))):Wp (pC i f g env) Q:=by
 refine ⟨_,?_,k⟩
 unfold pC
 rw [h0]
 show (g env >>= _)=_
 rw [h,aM,hf,aM,h2]
 rfl
end
end WP
namespace K51
open PySem DL K01 WP
def dF (ns:List Int) (k:Nat):Int:=(ns.map λx=>x % 10 ^ 64).getD k 0
theorem kF (ns:List Int) (k:Nat):0<=dF ns k:=by
 unfold dF
 rw [S9,Ss]
 cases ns[k]? with
 | none=>exact Int.le_refl _
 | some x=>exact VO _ (by decide)
theorem Dg (ns:List Int) (k:Nat):cQ [.bor (ns.map D.int),.d (.int k)]=.ok (.d (.int (dF ns k))):=by
 refine b_ (cF (Cj (c:=decide ((k:Int) < ((ns.map D.int).length:Nat))) rfl (λh=>?_) λh=>?_))
 ·have h:k < ns.length:=by simpa using h
  have e:(ns.map D.int)[k]?=some (.int ns[k]):=by rw [Ss,Sg h];rfl
  refine bP (two (two rfl rfl (sO e)) rfl (je _ _ (by decide))) rfl ?_
  unfold dF
  rw [S9,Ss,Sg h]
  rfl
 ·have h:ns.length<=k:=by simpa using h
  refine jN (bP rfl rfl ?_)
  unfold dF
  rw [S9,Ss,List.getElem?_eq_none (by omega)]
  rfl
theorem Kh (b n:Nat):(iC ⟨#[b]⟩ n).length=n:=by
 rw [Jt,IQ,UH]
theorem AA (c:Int) (hc:0<=c) (m:Nat) (hm:m<=3):∃ss:List Str,fW [.d (.int c),.d (.int m)]=.ok (.l .fresh (ss.map .str))/\ss.length=m:=by
 have key:Wp (fW [.d (.int c),.d (.int m)]) λr=>∃ss:List Str,r=.l .fresh (ss.map .str)/\ss.length=m:=by
  refine oE (bC rfl rfl (bC (two rfl rfl (Em (c / 3 % 26) (by omega) (by omega))) rfl ?_))
  generalize 97 + (c / 3 % 26).toNat=b
  refine bC (two rfl rfl (Ik _ (1 + c / 78 % 7) (by omega) (by omega) (show 1<=1000 by decide))) rfl ?_
  have hst:(iC ⟨#[b]⟩ (1 + c / 78 % 7).toNat).length<=8:=by rw [Kh];omega
  generalize iC ⟨#[b]⟩ (1 + c / 78 % 7).toNat=stem at hst
  refine bC rfl rfl (jz (pZ (n:=m) rfl (by omega)) ?_)
  refine oF (n:=m) (λk env=>∃(ss:List Str) (x y z:Option S),env=[some (.d (.int c)),some (.d (.int m)),some (.d (.str "abcdefghijklmnopqrstuvwxyz")),some (.d (.str ⟨#[b]⟩)),some (.d (.str stem)),some (.own (ss.map .str)),x,y,z]/\ss.length=k) ⟨[],none,none,none,rfl,rfl⟩ ?_ ?_
  ·rintro k hk _ ⟨ss,x,y,z,rfl,hl⟩
   refine ⟨_,rfl,?_⟩
   refine bC (two rfl rfl (Em ((c / 546 + 9 * k) % 26) (by omega) (by omega))) rfl ?_
   generalize 97 + ((c / 546 + 9 * k) % 26).toNat=o
   obtain ⟨nm,hnm⟩:∃nm:Str,g2 bA (gD (aA (g2 cU (af 4) (af 7)) (aA (g2 cU (af 7) (af 4)) (aA (g2 gA (af 3) (g2 cU (af 6) (gC (.int 2)))) aW)))) (g2 fR (af 0) (gC (.int 3))) [some (.d (.int c)),some (.d (.int m)),some (.d (.str "abcdefghijklmnopqrstuvwxyz")),some (.d (.str ⟨#[b]⟩)),some (.d (.str stem)),some (.own (ss.map .str)),some (.d (.int k)),some (.d (.str ⟨#[o]⟩)),z]=.ok (.d (.str nm)):=by
    have h1:=Il stem ⟨#[o]⟩ (by show _ + 1<=1000;omega)
    have h2:=Il ⟨#[o]⟩ stem (by show 1 + _<=1000;omega)
    have h3:=Ik ⟨#[b]⟩ (k + 2) (by omega) (by omega) (show 1<=1000 by decide)
    have hg:gD (aA (g2 cU (af 4) (af 7)) (aA (g2 cU (af 7) (af 4)) (aA (g2 gA (af 3) (g2 cU (af 6) (gC (.int 2)))) aW))) [some (.d (.int c)),some (.d (.int m)),some (.d (.str "abcdefghijklmnopqrstuvwxyz")),some (.d (.str ⟨#[b]⟩)),some (.d (.str stem)),some (.own (ss.map .str)),some (.d (.int k)),some (.d (.str ⟨#[o]⟩)),z]=.ok (.l .fresh [.str (stem++⟨#[o]⟩),.str (⟨#[o]⟩++stem),.str (iC ⟨#[b]⟩ ((k:Int) + 2).toNat)]):=by
     have l3:(3:Nat)<=sizeLine:=by decide
     simp only [gD,aA,aW,g2,af,gC,S.rd,List.getElem?_cons_zero,List.getElem?_cons_succ,aM,h1,h2,zN,h3,toD,Tq,Vs,l3,if_true]
    have hcs:c % 3=0\/c % 3=1\/c % 3=2:=by omega
    rcases hcs with h | h | h
    ·exact ⟨_,two hg (je c 3 (by decide)) (by rw [h];rfl)⟩
    ·exact ⟨_,two hg (je c 3 (by decide)) (by rw [h];rfl)⟩
    ·exact ⟨_,two hg (je c 3 (by decide)) (by rw [h];rfl)⟩
   refine bC hnm rfl (cF (Cj (c:=bg (.str nm) (.str "or")) rfl (λh=>gq rfl rfl ?_) λh=>jN ?_))
   ·exact qx rfl rfl rfl (by rw [R3];omega) ⟨_,rfl,ss++[("orx":Str)],_,_,_,by rw [SA];rfl,by rw [Sy,hl];rfl⟩
   ·exact qx rfl rfl rfl (by rw [R3];omega) ⟨_,rfl,ss++[nm],_,_,_,by rw [SA];rfl,by rw [Sy,hl];rfl⟩
  ·rintro _ ⟨ss,x,y,z,rfl,hl⟩
   refine bP (n1 rfl (sorted_strs _ _ (by omega))) rfl ⟨_,rfl,_,rfl,?_⟩
   unfold qE
   simp [hl]
 obtain ⟨_,h,ss,rfl,hl⟩:=key
 exact ⟨ss,h,hl⟩
theorem Df (c:Int) (m:Nat) (hm:m<=64):∃bs:List Bool,gI [.d (.int c),.d (.int m)]=.ok (.l .fresh (bs.map .bl))/\bs.length=m:=by
 have key:Wp (gI [.d (.int c),.d (.int m)]) λr=>∃bs:List Bool,r=.l .fresh (bs.map .bl)/\bs.length=m:=by
  refine oE (bC rfl rfl (jz (pZ (n:=m) rfl (by omega)) ?_))
  refine oF (n:=m) (λk env=>∃(bs:List Bool) (c:Int) (x:Option S),env=[some (.d (.int c)),some (.d (.int m)),some (.own (bs.map .bl)),x]/\bs.length=k) ⟨[],c,none,rfl,rfl⟩ ?_ ?_
  ·rintro k hk _ ⟨bs,c,x,rfl,hl⟩
   refine ⟨_,rfl,NW rfl rfl rfl (by rw [R3];omega) (gq rfl rfl ⟨_,rfl,bs++[c % 2 == 1],c / 2,_,by rw [SA];rfl,by rw [Sy,hl];rfl⟩)⟩
  ·rintro _ ⟨ss,x,y,rfl,hl⟩
   exact bP rfl rfl ⟨_,rfl,_,rfl,hl⟩
 obtain ⟨_,h,ss,rfl,hl⟩:=key
 exact ⟨ss,h,hl⟩
theorem Mx (bs:List Bool) (m:Nat) (hm:m<=8):xo m ((R7 m).filter λp=>bs.getD p false):=by
 refine ⟨?_,Za _ VH,λx hx=>?_⟩
 ·exact SJ (TJ _ _) (by simpa using hm)
 ·simpa using (SY.mp hx).1
theorem Mp (bs:List Bool) (m:Nat) (h1:1<=m) (hm:m<=8):sA m (((R7 (m * m)).filter λp=>bs.getD p false).map λp=>(p / m,p % m)):=by
 have Qh:m * m<=64:=WJ hm hm
 refine ⟨?_,?_,λx hx=>?_⟩
 ·rw [R3]
  refine SJ (TJ _ _) (by simpa using Qh)
 ·rw [S_]
  refine WE ?_ (Za _ VH)
  intro p q hpq
  have e1:=aaP p m
  have e2:=aaP q m
  have h3:p / m<=q / m:=Nat.div_le_div_right (by omega)
  by_cases h:p / m < q / m
  ·exact .inl h
  ·have e:p / m=q / m:=by omega
   refine .inr ⟨e,?_⟩
   rw [e] at e1
   show p % m < q % m
   omega
 ·obtain ⟨p,hp,rfl⟩:=R4.mp hx
  have:p < m * m:=by simpa using (SY.mp hp).1
  exact ⟨Nat.div_lt_of_lt_mul this,XY _ (by omega)⟩
theorem Pj (bs:List Bool) (m k:Nat) (hl:bs.length=m) (hk:k < m):bA (.l .bor (bs.map D.bl)) (.d (.int k))=.ok (.d (.bl (bs.getD k false))):=by
 refine sO ?_
 rw [Ss,Sg (by omega),S9,Sg (by omega)]
 rfl
theorem AQ (bs:List Bool) (m k:Nat) (hl:bs.length=m) (hk:k < m):bA (.l .own (bs.map D.bl)) (.d (.int k))=.ok (.d (.bl (bs.getD k false))):=by
 refine sO ?_
 rw [Ss,Sg (by omega),S9,Sg (by omega)]
 rfl
theorem KR (m:Nat) (h1:1<=m) (hm:m<=8) (A B:List Str) (hA:A.length<=3) (hB:B.length<=3) (cs:List Int) (hc:cs.length=6):
  ∃ms rs,fC [.d (.tup [.lst (A.map .str),.lst (B.map .str)]),.d (.int m),.bor (cs.map .int)]=.ok (.d (Wd.d ⟨m,ms,rs⟩))/\ms.map TQ=A/\rs.map TQ=B/\(∀r∈ms,xo m r.2)/\∀r∈rs,sA m r.2:=by
 have key:Wp (fC [.d (.tup [.lst (A.map .str),.lst (B.map .str)]),.d (.int m),.bor (cs.map .int)]) λr=>∃ms rs,r=.d (Wd.d ⟨m,ms,rs⟩)/\ms.map TQ=A/\rs.map TQ=B/\(∀r∈ms,xo m r.2)/\∀r∈rs,sA m r.2:=by
  have Qh:m * m<=64:=WJ hm hm
  have tm:gA (.d (.int m)) (.d (.int m))=.ok (.d (.int ((m * m:Nat):Int))):=by rw [Bt _ _ (by omega) (by omega)];simp
  refine oE (bC rfl rfl (jz (pZ (n:=(A.map D.str).length) rfl (by rw [R3];omega)) ?_))
  refine oF (n:=(A.map D.str).length) (λk env=>∃(ms:List (Str×List Nat)) (x y:Option S),env=[some (.d (.tup [.lst (A.map .str),.lst (B.map .str)])),some (.d (.int m)),some (.bor (cs.map .int)),some (.own (ms.map kT)),x,y,none]/\ms.map TQ=A.take k/\∀r∈ms,xo m r.2) ⟨[],none,none,rfl,rfl,λ_ h=>by cases h⟩ ?_ ?_
  ·rintro k hk _ ⟨ms,x,y,rfl,hf,hp⟩
   rw [R3] at hk
   refine ⟨_,rfl,?_⟩
   obtain ⟨c,_,hcc⟩:=nc (xs:=cs) (h:=D.int) (.l .bor (cs.map .int)) rfl k (by omega) (by omega)
   obtain ⟨bs,hb,QS⟩:=Df c m (by omega)
   have hlen:ms.length<=3:=by
    have:=congrArg V_ hf
    rw [R3,UM] at this
    omega
   refine bC (c2 (two rfl rfl hcc) rfl hb) rfl ?_
   refine qx rfl (bz (aF (two rfl rfl (show bA (.d (.lst (A.map D.str))) _=.ok (.d (.str A[k])) from ?_)) rfl (aF (n1 (lK (xs:=R7 m) (h:=dN) (λp=>bs.getD p false) dN (gZ rfl (by omega)) (by simp;omega) ?_) rfl) rfl bu)) (by show 2<=1000;decide)) rfl (by rw [R3];omega) ?_
   ·show bA (.d (.lst (A.map D.str))) (.d (.int k))=_
    unfold bA
    have:(A.map D.str)[k]?=some (.str A[k]):=by rw [Ss,Sg hk];rfl
    simp only [g8,aM,j4 this]
   ·intro p hp'
    have hp':p < m:=by simpa using hp'
    have hb:=AQ bs m p QS hp'
    refine ⟨?_,λ_=>⟨_,rfl,rfl⟩⟩
    show (g2 bA (af 1) (af 0) [some (.d (dN p)),some (.own (bs.map D.bl))] >>= zP)=_
    rw [two (x:=.l .own (bs.map D.bl)) (y:=.d (dN p)) rfl rfl hb]
    rfl
   ·refine ⟨_,rfl,ms++[(A[k],(R7 m).filter λp=>bs.getD p false)],_,_,by rw [SA];rfl,?_,λr hr=>?_⟩
    ·rw [SA,hf,XA,Sg hk]
     rfl
    ·rw [Sz,R9] at hr
     rcases hr with h | h
     ·exact hp r h
     ·rw [h];exact Mx bs m hm
  ·rintro _ ⟨ms,x,y,rfl,hf,hp⟩
   refine bC rfl rfl (jz (pZ (n:=(B.map D.str).length) rfl (by rw [R3];omega)) ?_)
   refine oF (n:=(B.map D.str).length) (λk env=>∃(rs:List (Str×List (Nat×Nat))) (x y:Option S),env=[some (.d (.tup [.lst (A.map .str),.lst (B.map .str)])),some (.d (.int m)),some (.bor (cs.map .int)),some (.own (ms.map kT)),x,y,some (.own (rs.map p5))]/\rs.map TQ=B.take k/\∀r∈rs,sA m r.2) ⟨[],_,_,rfl,rfl,λ_ h=>by cases h⟩ ?_ ?_
   ·rintro k hk _ ⟨rs,x,y,rfl,hf,hp⟩
    rw [R3] at hk
    refine ⟨_,rfl,?_⟩
    obtain ⟨c,_,hcc⟩:=nc (xs:=cs) (h:=D.int) (.l .bor (cs.map .int)) rfl (3 + k) (by omega) (by omega)
    obtain ⟨bs,hb,QS⟩:=Df c (m * m) (by omega)
    have hlen:rs.length<=3:=by
     have:=congrArg V_ hf
     rw [R3,UM] at this
     omega
    refine bC (c2 (two rfl rfl hcc) (two rfl rfl tm) hb) rfl ?_
    refine qx rfl (bz (aF (two rfl rfl (show bA (.d (.lst (B.map D.str))) _=.ok (.d (.str B[k])) from ?_)) rfl (aF (n1 (lK (xs:=R7 (m * m)) (h:=dN) (λp=>bs.getD p false) (λp=>dP (p / m,p % m)) (gZ (dz (two rfl rfl tm)) (by omega)) (by simp;omega) ?_) rfl) rfl bu)) (by show 2<=1000;decide)) rfl (by rw [R3];omega) ?_
    ·show bA (.d (.lst (B.map D.str))) (.d (.int k))=_
     unfold bA
     have:(B.map D.str)[k]?=some (.str B[k]):=by rw [Ss,Sg hk];rfl
     simp only [g8,aM,j4 this]
    ·intro p hp'
     have hp':p < m * m:=by simpa using hp'
     have hb:=AQ bs (m * m) p QS hp'
     refine ⟨?_,λ_=>⟨_,bz (aF (two rfl rfl (qG p m (by omega) (by omega))) rfl (aF (two rfl rfl (je p m (by omega))) rfl bu)) (by show 2<=1000;decide),?_⟩⟩
     ·show (g2 bA (af 1) (af 0) [some (.d (dN p)),some (.own (bs.map D.bl)),some (.d (.int m))] >>= zP)=_
      rw [two (x:=.l .own (bs.map D.bl)) (y:=.d (dN p)) rfl rfl hb]
      rfl
     ·simp [toD,dP]
    ·refine ⟨_,rfl,rs++[(B[k],((R7 (m * m)).filter λp=>bs.getD p false).map λp=>(p / m,p % m))],_,_,by rw [SA,ZL,p5,Sw];rfl,?_,λr hr=>?_⟩
     ·rw [SA,hf,XA,Sg hk]
      rfl
     ·rw [Sz,R9] at hr
      rcases hr with h | h
      ·exact hp r h
      ·rw [h];exact Mp bs m h1 hm
   ·rintro _ ⟨rs,x,y,rfl,hf2,hp2⟩
    rw [R3] at hf hf2
    refine bP (bz (aF rfl rfl (aF rfl rfl (aF rfl rfl bu))) (by show 3<=1000;decide)) rfl ⟨_,rfl,ms,rs,rfl,by rw [hf,WX],by rw [hf2,WX],hp,hp2⟩
 obtain ⟨_,h,ms,rs,rfl,hk⟩:=key
 exact ⟨ms,rs,h,hk⟩
theorem iF (ns:List Int) (i:Int) (k:Nat) (h:i=k):cQ [.bor (ns.map D.int),.d (.int i)]=.ok (.d (.int (dF ns k))):=by
 rw [h];exact Dg ns k
structure gu (w:Wd):Prop where
 lo:1<=w.m
 hi:w.m<=8
 ml:w.ms.length<=3
 al:w.ar.length<=3
theorem qF (xs ys:List D) (h:xs.length + ys.length<=1000):dW (.d (.tup xs)) (.d (.tup ys))=.ok (.d (.tup (xs++ys))):=by
 show (if xs.length + ys.length<=sizeLine then M.ok (R.d (.tup (xs++ys))) else M.bad)=_
 rw [if_pos (gF h)]
theorem Iu (m d:Nat) (hm:m<=8) (hd:d<=6):r_ [.d (.int m),.d (.int d)]=.ok (.d (.int ((m ^ d:Nat):Int))):=by
 refine b_ (bC rfl rfl (jz (pZ (n:=d) rfl (by omega)) ?_))
 refine oF (λk env=>∃x:Option S,env=[some (.d (.int m)),some (.d (.int d)),some (.d (.int ((m ^ k:Nat):Int))),x]) ⟨none,rfl⟩ ?_ ?_
 ·rintro k hk _ ⟨x,rfl⟩
  refine ⟨_,rfl,_,?_,_,rfl,some (.d (.int k)),rfl⟩
  show (uH (.d (.int ((m ^ k:Nat):Int))) (.d (.int m)) >>= _)=_
  rw [show uH (.d (.int ((m ^ k:Nat):Int))) (.d (.int m))=.ok (.d (.int (((m ^ k:Nat):Int) * m))) from Bt _ _ (by omega) (by omega)]
  rw [YN,Int.natCast_mul]
  rfl
 ·rintro _ ⟨x,rfl⟩
  exact bP rfl rfl rfl
noncomputable def lN (w:Wd) (ah:List Nat) (l:Nat):D:=.tup [.tup (ah.map λp=>.bl (bg (dN p) (dN l))),.tup (w.ms.map λr=>.bl (inD (dN l) (r.2.map dN))),.tup (w.ar.map λr=>.bl (inD (dP (l,l)) (r.2.map dP))),
 .tup (w.ar.map λr=>.tup (ah.map λp=>.bl (inD (dP (l,p)) (r.2.map dP)))),.tup (w.ar.map λr=>.tup (ah.map λp=>.bl (inD (dP (p,l)) (r.2.map dP))))]
theorem Lu (l:Nat) (xs:List Nat):iI false (.d (dN l)) (.d (.tup (xs.map dN)))=.ok (.d (.bl (inD (dN l) (xs.map dN)))):=Cc false _ _ (Li xs) (SG _)
theorem yN (l:Nat×Nat) (xs:List (Nat×Nat)):iI false (.d (dP l)) (.d (.tup (xs.map dP)))=.ok (.d (.bl (inD (dP l) (xs.map dP)))):=Cc false _ _ (D0 xs) (by show (1:Nat)<=60;decide)
theorem t5:(5:Nat)<=1000:=by decide
theorem t2:(2:Nat)<=1000:=by decide
theorem KJ (w:Wd) (hw:gu w) (ah:List Nat) (l:Nat) (hl:ah.length<=100):jj [.d w.d,.d (.tup ((ah++[l]).map dN))]=.ok (.d (lN w ah l)):=by
 have ml:=hw.ml
 have al:=hw.al
 refine b_ (eO (b:=bQ _) (show M.ok (bg (.int ((((ah++[l]).map dN).length:Nat):Int)) (.int 0))=.ok false from ?_) ?_)
 ·simp [bg];omega
 refine MR (xs:=ah.map dN) (z:=dN l) (show M.ok (R.d (.tup ((ah++[l]).map dN)))=_ from by rw [SA];rfl) (by rw [R3];omega) rfl ?_
 refine qD rfl rfl rfl ?_
 refine bC (n1 (iz (xs:=ah) (h:=dN) (λp=>.bl (bg (dN p) (dN l))) rfl (by omega) λp _=>⟨_,rfl,rfl⟩) rfl) rfl ?_
 refine bC (n1 (ie (xs:=w.ms) (λr=>.str r.1) (λr=>.tup (r.2.map dN)) (λr=>.bl (inD (dN l) (r.2.map dN))) rfl (by omega) λr _=>⟨_,two rfl rfl (Lu l r.2),rfl⟩) rfl) rfl ?_
 refine bC (n1 (ie (xs:=w.ar) (λr=>.str r.1) (λr=>.tup (r.2.map dP)) (λr=>.bl (inD (dP (l,l)) (r.2.map dP))) rfl (by omega) λr _=>⟨_,two (bz (aF rfl rfl (aF rfl rfl bu)) t2) rfl (yN (l,l) r.2),rfl⟩) rfl) rfl ?_
 refine bC (n1 (ie (xs:=w.ar) (λr=>.str r.1) (λr=>.tup (r.2.map dP)) (λr=>.tup (ah.map λp=>.bl (inD (dP (l,p)) (r.2.map dP)))) rfl (by omega) λr _=>⟨_,n1 (iz (xs:=ah) (h:=dN) (λp=>.bl (inD (dP (l,p)) (r.2.map dP))) rfl (by omega) λp _=>⟨_,two (bz (aF rfl rfl (aF rfl rfl bu)) t2) rfl (yN (l,p) r.2),rfl⟩) rfl,rfl⟩) rfl) rfl ?_
 refine bC (n1 (ie (xs:=w.ar) (λr=>.str r.1) (λr=>.tup (r.2.map dP)) (λr=>.tup (ah.map λp=>.bl (inD (dP (p,l)) (r.2.map dP)))) rfl (by omega) λr _=>⟨_,n1 (iz (xs:=ah) (h:=dN) (λp=>.bl (inD (dP (p,l)) (r.2.map dP))) rfl (by omega) λp _=>⟨_,two (bz (aF rfl rfl (aF rfl rfl bu)) t2) rfl (yN (p,l) r.2),rfl⟩) rfl,rfl⟩) rfl) rfl ?_
 exact bP (bz (aF rfl rfl (aF rfl rfl (aF rfl rfl (aF rfl rfl (aF rfl rfl bu))))) t5) rfl rfl
theorem Ip (w:Wd):jj [.d w.d,.d (.tup [])]=.ok (.d (.tup [])):=rfl
inductive Ty where
 | b | hom (t:Ty) | pr (s t:Ty) | fc
noncomputable def iS:Ty->D->Prop
 | .b,d=>∃k,d=.bl k
 | .hom t,d=>∃xs,d=.tup xs/\xs.length<=1000/\∀x∈xs,iS t x
 | .pr s t,d=>∃x y,d=.tup [x,y]/\iS s x/\iS t y
 | .fc,d=>∃(a b c:List Bool) (e f:List D),d=.tup [.tup (a.map D.bl),.tup (b.map D.bl),.tup (c.map D.bl),.tup e,.tup f]/\a.length<=1000/\b.length<=1000/\c.length<=1000/\e.length<=1000/\f.length<=1000/\(∀x∈e,∃y:List Bool,x=.tup (y.map D.bl)/\y.length<=1000)/\∀x∈f,∃y:List Bool,x=.tup (y.map D.bl)/\y.length<=1000
noncomputable def kH:Ty->Nat
 | .b=>0
 | .hom t=>kH t + 1
 | .pr s t=>max (kH s) (kH t) + 1
 | .fc=>3
theorem mQ (ys:List Bool):dep (.tup (ys.map D.bl))<=1:=by
 have:deps (ys.map D.bl)<=0:=dc λx hx=>by
  obtain ⟨k,_,rfl⟩:=R4.mp hx
  exact SG _
 simp only [dep]
 omega
theorem kh:∀{t:Ty}{d:D},iS t d->dep d<=kH t
 | .b,_,⟨k,e⟩=>by subst e;exact SG _
 | .hom t,_,⟨xs,e,_,h⟩=>by
  subst e
  have:=dc λx hx=>kh (h x hx)
  simp only [dep,kH]
  omega
 | .pr s t,_,⟨x,y,e,h1,h2⟩=>by
  subst e
  have h1:=kh h1
  have h2:=kh h2
  simp only [dep,deps,kH]
  omega
 | .fc,_,⟨a,b,c,e,f,q,_,_,_,_,_,h1,h2⟩=>by
  subst q
  have ha:=mQ a
  have hb:=mQ b
  have hc:=mQ c
  have he:deps e<=1:=dc λx hx=>by obtain ⟨y,rfl,_⟩:=h1 x hx;exact mQ y
  have hf:deps f<=1:=dc λx hx=>by obtain ⟨y,rfl,_⟩:=h2 x hx;exact mQ y
  simp only [dep,deps,kH] at *
  omega
theorem Es:∀{xs ys:List D},(∀x∈xs.zip ys,(cW x.1 x.2).isSome=true)->(i9 xs ys).isSome=true
 | [],_,_=>rfl
 | _::_,[],_=>rfl
 | x::xs,y::ys,h=>by
  show (if bg x y=true then i9 xs ys else cW x y).isSome=true
  by_cases q:bg x y=true
  ·rw [if_pos q]
   exact Es λz hz=>h z (by rw [Ul];exact R0 _ hz)
  ·rw [if_neg q]
   exact h (x,y) (by rw [Ul];exact R1)
theorem ki {xs ys:List D}(h:∀x∈xs.zip ys,(cW x.1 x.2).isSome=true):(cW (.tup xs) (.tup ys)).isSome=true:=Es h
theorem pR (xs ys:List Bool):(cW (.tup (xs.map D.bl)) (.tup (ys.map D.bl))).isSome=true:=ki λz hz=>by
 obtain ⟨h1,h2⟩:=Vo (a:=z.1) (b:=z.2) hz
 obtain ⟨a,_,h1⟩:=R4.mp h1
 obtain ⟨b,_,h2⟩:=R4.mp h2
 rw [<-h1,<-h2]
 rfl
theorem tu:∀{t:Ty}{x y:D},iS t x->iS t y->(cW x y).isSome=true
 | .b,_,_,⟨k,e⟩,⟨k',e'⟩=>by subst e e';rfl
 | .hom t,_,_,⟨xs,e,_,h⟩,⟨ys,e',_,h'⟩=>by
  subst e e'
  refine ki λz hz=>?_
  obtain ⟨h1,h2⟩:=Vo (a:=z.1) (b:=z.2) hz
  exact tu (h _ h1) (h' _ h2)
 | .pr s t,_,_,⟨x,y,e,h1,h2⟩,⟨x',y',e',h1',h2'⟩=>by
  subst e e'
  refine ki λz hz=>?_
  simp only [Ul,Xu,Sh,Tf,or_false] at hz
  rcases hz with rfl | rfl
  ·exact tu h1 h1'
  ·exact tu h2 h2'
 | .fc,_,_,⟨a,b,c,e,f,q,_,_,_,_,_,h1,h2⟩,⟨a',b',c',e',f',q',_,_,_,_,_,h1',h2'⟩=>by
  subst q q'
  refine ki λz hz=>?_
  simp only [Ul,Xu,Sh,Tf,or_false] at hz
  rcases hz with rfl | rfl | rfl | rfl | rfl
  ·exact pR _ _
  ·exact pR _ _
  ·exact pR _ _
  ·refine ki λz hz=>?_
   obtain ⟨k1,k2⟩:=Vo (a:=z.1) (b:=z.2) hz
   obtain ⟨y,e1,_⟩:=h1 _ k1
   obtain ⟨y',e2,_⟩:=h1' _ k2
   rw [e1,e2]
   exact pR _ _
  ·refine ki λz hz=>?_
   obtain ⟨k1,k2⟩:=Vo (a:=z.1) (b:=z.2) hz
   obtain ⟨y,e1,_⟩:=h2 _ k1
   obtain ⟨y',e2,_⟩:=h2' _ k2
   rw [e1,e2]
   exact pR _ _
end K51
namespace K51
open PySem DL K01 WP
open PySem.W (kas_sort)
theorem jJ (ds:List D):(aQ ds).length=ds.length:=by
 unfold aQ
 by_cases h:ds.length < 2
 ·rw [if_pos h]
 ·rw [if_neg h,R3]
  have:=(eG (n:=ds.length) (by omega)).run (ltB ds)
  have:=this.size_eq
  simpa using this
theorem iN {ds:List D}{x:D}(hx:x∈aQ ds):x∈ds:=by
 unfold aQ at hx
 by_cases h:ds.length < 2
 ·rwa [if_pos h] at hx
 ·rw [if_neg h] at hx
  have hp:=(eG (n:=ds.length) (by omega)).run (ltB ds)
  obtain ⟨i,hi,rfl⟩:=R4.mp hx
  have hi:i∈aZ (ltB ds) (UT ds.length):=by simpa using hi
  have:=(U_ hp).mp hi
  exact eE (by simpa using this)
noncomputable def gS (kept:List D) (one:D):List D:=match kept.getLast? with
 | none=>kept++[one]
 | some z=>if bg z one=true then kept else kept++[one]
def dedup (xs:List D):List D:=xs.foldl gS []
theorem IV (k:List D) (x:D):(gS k x).length<=k.length + 1:=by
 unfold gS
 split
 ·simp
 ·split <;> simp
theorem IW {k:List D}{x y:D}(h:y∈gS k x):y∈k\/y=x:=by
 unfold gS at h
 split at h
 ·simpa using h
 ·split at h
  ·exact .inl h
  ·simpa using h
theorem rG:∀(xs k:List D),(xs.foldl gS k).length<=k.length + xs.length
 | [],k=>by simp
 | x::xs,k=>by
  have h1:=rG xs (gS k x)
  have h2:=IV k x
  simp only [VL,Tq]
  omega
theorem rH {y:D}:∀{xs k:List D},y∈xs.foldl gS k->y∈k\/y∈xs
 | [],k,h=>.inl h
 | x::xs,k,h=>by
  rcases rH (xs:=xs) h with h | h
  ·rcases IW h with h | h
   ·exact .inl h
   ·exact .inr (h▸R1)
  ·exact .inr (R0 _ h)
theorem DZ {y:D}{xs:List D}(h:y∈dedup xs):y∈xs:=by
 rcases rH h with h | h
 ·cases h
 ·exact h
theorem DY (xs:List D):(dedup xs).length<=xs.length:=by
 have:=rG xs []
 rw [Vs,YO] at this
 exact this
theorem DW {k:List D}{x:D}(h:k.getLast?=none\/∃z,k.getLast?=some z/\bg z x=false):gS k x=k++[x]:=by
 unfold gS
 rcases h with h | ⟨z,h,q⟩
 ·rw [h]
 ·rw [h];simp [q]
theorem HP {k:List D}{x z:D}(h:k.getLast?=some z) (q:bg z x=true):gS k x=k:=by
 unfold gS
 rw [h];simp [q]
abbrev OI:G Bool:=pD (gE (mw (af 1))) (bQ (g2 (eU true) (g2 bA (af 1) (yG (gC (.int 1)))) (af 2)))
theorem vJ {k:List D}{z:D}(h:k.getLast?=some z):∃ys,k=ys++[z]:=by
 rcases T_ k with rfl | ⟨ys,y,rfl⟩
 ·cases h
 ·rw [Ua] at h ⊢
  rw [Vk] at h
  cases h
  exact ⟨ys,rfl⟩
theorem JA {k:List D}{x a:D}{a0:Option S}(hk:∀z∈k,dep z<=60) (hx:dep x<=60):∃c,OI [a0,some (.own k),some (.d x)]=.ok c/\gS k x=if c=true then k++[x] else k:=by
 cases q:k.getLast? with
 | none=>
  have:k=[]:=Vh.mp q
  subst this
  exact ⟨true,rfl,rfl⟩
 | some z=>
  obtain ⟨ys,rfl⟩:=vJ q
  refine ⟨!bg z x,?_,?_⟩
  ·show (gE (mw (af 1)) _ >>= _)=_
   rw [show gE (mw (af 1)) [a0,some (.own (ys++[z])),some (.d x)]=.ok false from by
    show M.ok (!(!(ys++[z]).isEmpty))=_
    simp]
   show (g2 _ _ _ _ >>= _)=_
   rw [two (x:=.d z) (y:=.d x) (two (x:=.l .own (ys++[z])) (y:=.d (.int (-1))) rfl rfl (Jk _ _ _)) rfl (sL _ _ _ (hk z (by simp)) hx)]
   rfl
  ·cases r:bg z x with
   | true=>rw [HP q r];rfl
   | false=>rw [DW (.inr ⟨z,q,r⟩)];rfl
theorem wA (xs:List D) (k:Nat) (hk:k < xs.length):(xs.take (k + 1)).foldl gS []=gS ((xs.take k).foldl gS []) xs[k]:=by
 rw [XA,Sg hk,Z_]
 rfl
theorem KL (xs:List D) (h:oQ xs=true) (hl:xs.length<=63) (hd:∀x∈xs,dep x<=50):gr [.bor xs]=.ok (.d (.tup (dedup (aQ xs)))):=by
 have sl:=jJ xs
 have sm:∀x∈aQ xs,dep x<=50:=λx hx=>hd x (iN hx)
 have hs:pA [.l .bor xs]=.ok (.l .fresh (aQ xs)):=by
  show (if oQ xs=true then M.ok (R.l .fresh (aQ xs)) else M.bad)=_
  rw [if_pos h]
 refine b_ (bC rfl rfl (jz (ds:=aQ xs) ?_ ?_))
 ·show (gN pA (ao (af 0) aE) _ >>= _)=_
  rw [n1 (x:=.l .bor xs) rfl hs]
  rfl
 ·refine ug (λk env=>∃x:Option S,env=[some (.bor xs),some (.own (((aQ xs).take k).foldl gS [])),x]) (aQ xs) ⟨none,rfl⟩ ?_ ?_
  ·rintro k hk _ ⟨x,rfl⟩
   refine ⟨_,rfl,?_⟩
   have hb:∀z∈((aQ xs).take k).foldl gS [],dep z<=50:=λz hz=>by
    rcases rH hz with h | h
    ·cases h
    ·exact sm z (W5 h)
   have hlen:=rG ((aQ xs).take k) []
   rw [UM,Vs] at hlen
   obtain ⟨c,h1,h2⟩:=JA (a:=.non) (a0:=some (.bor xs)) (λz hz=>SJ (hb z hz) (by decide)) (SJ (sm _ (T7 hk)) (by decide))
   refine Cj h1 (λhc=>?_) λhc=>?_
   ·rw [hc,if_pos rfl] at h2
    exact qx rfl rfl rfl (by omega) ⟨_,rfl,_,by rw [wA _ _ hk,h2];rfl⟩
   ·rw [hc,if_neg (by decide)] at h2
    exact jN ⟨_,rfl,some (.d (aQ xs)[k]),by rw [wA _ _ hk,h2];rfl⟩
  ·rintro _ ⟨x,rfl⟩
   refine bP (r:=.d (.tup (dedup (aQ xs)))) (n1 rfl ?_) rfl rfl
   rw [WX]
   rfl
end K51
namespace K51
open PySem DL K01 WP
noncomputable def jU (w:Wd) (row:List Nat):D:=match row.getLast? with
 | none=>.tup []
 | some l=>lN w row.dropLast l
theorem kc (w:Wd) (ah:List Nat) (l:Nat):jU w (ah++[l])=lN w ah l:=by
 unfold jU
 rw [Vk,Y_]
theorem G9 (row:List Nat):row=[]\/∃ah l,row=ah++[l]:=by
 rcases T_ row with rfl | ⟨ys,y,rfl⟩
 ·exact .inl rfl
 ·exact .inr ⟨ys,y,Ua⟩
theorem Ay (w:Wd) (hw:gu w) (row:List Nat) (hl:row.length<=100):jj [.d w.d,.d (.tup (row.map dN))]=.ok (.d (jU w row)):=by
 rcases G9 row with rfl | ⟨ah,l,rfl⟩
 ·exact Ip w
 ·rw [kc];exact KJ w hw ah l (by simp at hl;omega)
noncomputable def cY (w:Wd):Nat->List Nat->D
 | 0,row=>.tup [jU w row,.tup []]
 | d + 1,row=>.tup [jU w row,.tup (dedup (aQ ((R7 w.m).map λp=>cY w d (row++[p]))))]
def subs (w:Wd) (d:Nat) (row:List Nat):List D:=(R7 w.m).map λp=>cY w d (row++[p])
noncomputable def rB (w:Wd):Nat->List Nat->D
 | 0,_=>.tup []
 | d + 1,row=>.tup (dedup (aQ (subs w d row)))
theorem ng (w:Wd) (d:Nat) (row:List Nat):cY w d row=.tup [jU w row,rB w d row]:=by
 cases d <;> rfl
noncomputable def KT (f:Ty):Nat->Ty
 | 0=>.pr f (.hom .b)
 | d + 1=>.pr f (.hom (KT .fc d))
theorem xw (f:Ty) (hf:kH f<=3):∀d,kH (KT f d)<=2 * d + 4
 | 0=>by simp only [KT,kH];omega
 | d + 1=>by
  have:=xw .fc (R6 _) d
  simp only [KT,kH]
  omega
theorem yD (w:Wd) (hw:gu w) (ah:List Nat) (l:Nat) (hl:ah.length<=100):iS .fc (lN w ah l):=by
 have ml:=hw.ml
 have al:=hw.al
 refine ⟨ah.map λp=>bg (dN p) (dN l),w.ms.map λr=>inD (dN l) (r.2.map dN),w.ar.map λr=>inD (dP (l,l)) (r.2.map dP),w.ar.map λr=>.tup (ah.map λp=>.bl (inD (dP (l,p)) (r.2.map dP))),w.ar.map λr=>.tup (ah.map λp=>.bl (inD (dP (p,l)) (r.2.map dP))),?_,?_,?_,?_,?_,?_,?_,?_⟩
 ·unfold lN
  simp only [Sw]
  rfl
 ·simp;omega
 ·simp;omega
 ·simp;omega
 ·simp;omega
 ·simp;omega
 ·intro x hx
  obtain ⟨r,_,rfl⟩:=R4.mp hx
  exact ⟨ah.map λp=>inD (dP (l,p)) (r.2.map dP),by rw [Sw];rfl,by simp;omega⟩
 ·intro x hx
  obtain ⟨r,_,rfl⟩:=R4.mp hx
  exact ⟨ah.map λp=>inD (dP (p,l)) (r.2.map dP),by rw [Sw];rfl,by simp;omega⟩
theorem kL (w:Wd) (hw:gu w):∀(d:Nat) (row:List Nat) (f:Ty),row.length + d<=90->iS f (jU w row)->iS (KT f d) (cY w d row)
 | 0,row,f,_,h=>⟨_,_,rfl,h,[],rfl,by simp,λ_ h=>by cases h⟩
 | d + 1,row,f,hl,h=>by
  have hi:=hw.hi
  refine ⟨_,_,rfl,h,_,rfl,?_,λx hx=>?_⟩
  ·have h1:=DY (aQ (subs w d row))
   rw [jJ] at h1
   have h2:(subs w d row).length=w.m:=by simp [subs]
   show (dedup (aQ (subs w d row))).length<=1000
   omega
  ·obtain ⟨p,_,rfl⟩:=R4.mp (iN (DZ hx))
   refine kL w hw d (row++[p]) .fc (by simp;omega) ?_
   rw [kc]
   exact yD w hw row p (by omega)
theorem kB (w:Wd) (hw:gu w) (d:Nat) (row:List Nat) (hl:row.length + d<=80){x:D}(hx:x∈subs w d row):iS (KT .fc d) x:=by
 obtain ⟨p,_,rfl⟩:=R4.mp hx
 refine kL w hw d (row++[p]) .fc (by simp;omega) ?_
 rw [kc]
 exact yD w hw row p (by omega)
theorem AL:∀(ds:List D),(∀d∈ds,fJ d=some .t)->fE .t ds=true
 | [],_=>rfl
 | d::r,h=>by
  unfold fE
  rw [h d R1,AL r λe he=>h e (R0 _ he)]
  rfl
theorem E5 (w:Wd) (d:Nat) (row:List Nat):∀x∈subs w d row,fJ x=some .t:=λx hx=>by
 obtain ⟨p,_,rfl⟩:=R4.mp hx
 show fJ (cY w d (row++[p]))=some .t
 rw [ng,kc]
 rfl
theorem MZ (w:Wd) (hw:gu w) (d:Nat) (row:List Nat) (hd:d<=6) (hl:row.length + d<=80):oQ (subs w d row)=true:=by
 have hi:=hw.hi
 have lo:=hw.lo
 have hn:(subs w d row).length=w.m:=by simp [subs]
 have QU:deps (subs w d row)<=60:=dc λx hx=>by
  have h1:=kh (kB w hw d row hl hx)
  have h2:=xw .fc (R6 _) d
  omega
 have hc:mP (subs w d row)=true:=by
  unfold mP
  rw [SQ]
  intro x hx
  rw [SQ]
  intro y hy
  exact tu (kB w hw d row hl hx) (kB w hw d row hl hy)
 have hh:Cs (subs w d row)=true:=by
  have ha:=AL _ (E5 w d row)
  have hs:=E5 w d row
  generalize subs w d row=L at *
  cases L with
  | nil=>simp at hn;omega
  | cons x L=>
   show (match fJ x with | some k=>fE k (x::L) | none=>false)=true
   rw [hs x R1]
   exact ha
 unfold oQ
 rw [hc,hh,decide_eq_true QU,decide_eq_true (show (subs w d row).length < 64 by omega)]
 simp
theorem Ho (w:Wd) (hw:gu w) (d:Nat) (row:List Nat) (hd:d<=6) (hl:row.length + d<=80):gr [.bor (subs w d row)]=.ok (.d (.tup (dedup (aQ (subs w d row))))):=by
 have hi:=hw.hi
 refine KL _ (MZ w hw d row hd hl) (by simp [subs];omega) λx hx=>?_
 have h1:=kh (kB w hw d row hl hx)
 have h2:=xw .fc (R6 _) d
 omega
theorem xO (w:Wd) (hw:gu w):∀(k d:Nat) (row:List Nat),d < k->d<=6->row.length + d<=80->iu k [.d w.d,.d (.int d),.d (.tup (row.map dN))]=.ok (.d (cY w d row))
 | 0,d,row,h,_,_=>by omega
 | k + 1,0,row,_,_,hl=>by
  refine b_ (bC (c2 rfl rfl (Ay w hw row (by omega))) rfl (cF (ig rfl (bP (bz (aF rfl rfl (aF (bz bu (by decide)) rfl bu)) t2) rfl rfl))))
 | k + 1,d + 1,row,hk,h6,hl=>by
  have hi:=hw.hi
  have ih:=λp=>xO w hw k d (row++[p]) (by omega) (by omega) (by simp;omega)
  have ih':∀p,iu k [.d w.d,.d (.int (((d + 1:Nat):Int) - 1)),.d (.tup (row.map dN++[dN p]))]=.ok (.d (cY w d (row++[p]))):=λp=>by
   have:=ih p
   rw [SA] at this
   rw [show ((d + 1:Nat):Int) - 1=(d:Int) by omega]
   exact this
  refine b_ (bC (c2 rfl rfl (Ay w hw row (by omega))) rfl (eO (b:=bQ _) (show M.ok (bg (.int ((d + 1:Nat):Int)) (.int 0))=.ok false from ?_) ?_))
  ·simp [bg];omega
  refine bP (bz (aF rfl rfl (aF (c1 (iz (xs:=R7 w.m) (h:=dN) (λp=>cY w d (row++[p])) (gZ rfl (by omega)) (by simp;omega) λp _=>⟨_,c3 rfl (two rfl rfl rfl) (two rfl (bz (aF rfl rfl bu) (by show 1<=1000;decide)) (qF _ _ (by simp;omega))) (ih' p),rfl⟩) (Ho w hw d row (by omega) (by omega))) rfl bu)) t2) rfl rfl
end K51
namespace DL
open PySem PySem.Spec PyProof.Rows L2
open PySem.W (KasT kas_sort kas_asc kas_desc kas_rev kas_tail3 kas_descPart kas_count kas_place kas_bin)
theorem run_bind {α β:Type}(q:Nat->Nat->Bool) (f:α->KasT β):∀t:KasT α,aZ q (t.bind f)=aZ q (f (aZ q t))
 | .ret _=>rfl
 | .ask i j k=>run_bind q f (k (q i j))
theorem G_ {n:Nat}{α:Type}{P:α->Prop}{t:KasT α}{q q':Nat->Nat->Bool}(h:fG n P t) (e:∀i j,i < n->j < n->q i j=q' i j):aZ q t=aZ q' t:=by
 induction h with
 | ret _=>rfl
 | @ask i j k h1 h2 _ ih=>
  show aZ q (k (q i j))=aZ q' (k (q' i j))
  rw [e _ _ h1 h2]
  exact ih _
structure Ord (q:Nat->Nat->Bool):Prop where
 asy:∀a b,q a b=true->q b a=false
 tra:∀a b c,q b a=false->q c b=false->q c a=false
section
variable {q:Nat->Nat->Bool}{n:Nat}
abbrev bK (p:Array Nat) (k:Nat):Nat:=p.getD k 0
def Up (q:Nat->Nat->Bool) (p:Array Nat) (k:Nat):Prop:=∀i j,i<=j->j < k->q (bK p j) (bK p i)=false
def Down (q:Nat->Nat->Bool) (p:Array Nat) (k:Nat):Prop:=∀i j,i<=j->j < k->q (bK p i) (bK p j)=false
theorem Ord.pM (O:Ord q) (a:Nat):q a a=false:=by
 cases h:q a a with
 | false=>rfl
 | true=>rw [<-h];exact (O.asy a a h)
theorem getD_eq {p p':Array Nat}{i j:Nat}(h:p[i]?=p'[j]?):bK p i=bK p' j:=by
 show p.getD i 0=p'.getD j 0
 rw [Xj,Xj,h]
theorem iX {p:Array Nat}{i j:Nat}(hj:j<=p.size) (k:Nat):bK (WV p i j) k=if i<=k/\k < j then bK p (i + j - 1 - k) else bK p k:=by
 have e:=getElem?_mirror_all (xs:=p) (i:=i) hj k
 by_cases c:i<=k/\k < j
 ·rw [if_pos c] at e ⊢;exact getD_eq e
 ·rw [if_neg c] at e ⊢;exact getD_eq e
theorem Du {p:Array Nat}{src d:Nat}(hs:src < p.size) (hd:d<=src) (k:Nat):bK (bubble p src d) k=if k=src - d then bK p src else if src - d < k/\k<=src then bK p (k - 1) else bK p k:=by
 have e:=getElem?_bubble hs d hd k
 by_cases c:k=src - d
 ·rw [if_pos c] at e ⊢;exact getD_eq e
 ·rw [if_neg c] at e ⊢
  by_cases c':src - d < k/\k<=src
  ·rw [if_pos c'] at e ⊢;exact getD_eq e
  ·rw [if_neg c'] at e ⊢;exact getD_eq e
theorem iD (p:Array Nat) (i j:Nat):(WV p i j).size=p.size:=mirror_size _ _ _ _
theorem Up.one (O:Ord q) (p:Array Nat):Up q p 1:=λi j h1 h2=>by
 have:i=j:=by omega
 rw [this];exact O.pM _
theorem Up.more (O:Ord q){p:Array Nat}{k:Nat}(h:Up q p k) (h1:1<=k) (e:q (bK p k) (bK p (k - 1))=false):Up q p (k + 1):=λi j hi hj=>by
 by_cases c:j < k
 ·exact h i j hi c
 ·have:j=k:=by omega
  subst this
  by_cases c':i=j
  ·rw [c'];exact O.pM _
  ·exact O.tra _ _ _ (h i (j - 1) (by omega) (by omega)) e
theorem Down.more (O:Ord q){p:Array Nat}{k:Nat}(h:Down q p k) (h1:1<=k) (e:q (bK p (k - 1)) (bK p k)=false):Down q p (k + 1):=λi j hi hj=>by
 by_cases c:j < k
 ·exact h i j hi c
 ·have:j=k:=by omega
  subst this
  by_cases c':i=j
  ·rw [c'];exact O.pM _
  ·exact O.tra _ _ _ e (h i (j - 1) (by omega) (by omega))
theorem yd (O:Ord q) (p:Array Nat):∀(f m:Nat),1<=m->Up q p m->m<=aZ q (WW p f m)/\aZ q (WW p f m)<=m + f/\Up q p (aZ q (WW p f m))/\(aZ q (WW p f m)=m + f\/q (bK p (aZ q (WW p f m))) (bK p (aZ q (WW p f m) - 1))=true)
 | 0,m,h1,h=>⟨R6 _,R6 _,h,.inl rfl⟩
 | f + 1,m,h1,h=>by
  have e:aZ q (WW p (f + 1) m)=if q (bK p m) (bK p (m - 1))=true then m else aZ q (WW p f (m + 1)):=by
   show aZ q (if q (bK p m) (bK p (m - 1))=true then KasT.ret m else WW p f (m + 1))=_
   by_cases c:q (bK p m) (bK p (m - 1))=true
   ·rw [if_pos c,if_pos c];rfl
   ·rw [if_neg c,if_neg c]
  rw [e]
  by_cases c:q (bK p m) (bK p (m - 1))=true
  ·rw [if_pos c]
   exact ⟨R6 _,by omega,h,.inr c⟩
  ·rw [if_neg c]
   obtain ⟨a1,a2,a3,a4⟩:=yd O p f (m + 1) (by omega) (h.more O h1 (by simpa using c))
   refine ⟨by omega,by omega,a3,?_⟩
   rcases a4 with a4 | a4
   ·exact .inl (by omega)
   ·exact .inr a4
def Alike (q:Nat->Nat->Bool) (p:Array Nat) (i j:Nat):Prop:=∀a b,i<=a->a < j->i<=b->b < j->q (bK p a) (bK p b)=false
theorem vZ {p:Array Nat}{i j k:Nat}(hj:j<=p.size) (ha:Alike q p i j) (hd:Down q p j) (O:Ord q):Down q (WV p i j) j:=λa b h1 h2=>by
 rw [iX hj,iX hj]
 by_cases c:i<=a/\a < j
 ·rw [if_pos c]
  by_cases c':i<=b/\b < j
  ·rw [if_pos c'];exact ha _ _ (by omega) (by omega) (by omega) (by omega)
  ·omega
 ·rw [if_neg c]
  by_cases c':i<=b/\b < j
  ·rw [if_pos c']
   exact hd _ _ (by omega) (by omega)
  ·rw [if_neg c'];exact hd _ _ h1 h2
theorem ML {p:Array Nat}{j:Nat}(hj:j<=p.size) (hd:Down q p j):Up q (WV p 0 j) j:=λa b h1 h2=>by
 rw [iX hj,iX hj,if_pos (by omega),if_pos (by omega)]
 exact hd _ _ (by omega) (by omega)
theorem tZ {p:Array Nat}{i j k:Nat}(hj:j<=p.size) (h:j<=k):bK (WV p i j) k=bK p k:=by
 rw [iX hj,if_neg (by omega)]
theorem lM (O:Ord q):∀(f:Nat) (p:Array Nat) (m e:Nat),1<=m->e + 1<=m->m + f<=p.size->Down q p m->Alike q p (m - (e + 1)) m->
  (aZ q (US f p m e)).1.size=p.size/\m<=(aZ q (US f p m e)).2.1/\(aZ q (US f p m e)).2.1<=m + f/\(aZ q (US f p m e)).2.2 + 1<=(aZ q (US f p m e)).2.1/\
  Down q (aZ q (US f p m e)).1 (aZ q (US f p m e)).2.1/\Alike q (aZ q (US f p m e)).1 ((aZ q (US f p m e)).2.1 - ((aZ q (US f p m e)).2.2 + 1)) (aZ q (US f p m e)).2.1
 | 0,p,m,e,h1,h2,h3,h4,h5=>⟨rfl,R6 _,R6 _,h2,h4,h5⟩
 | f + 1,p,m,e,h1,h2,h3,h4,h5=>by
  have solo:∀(p:Array Nat) (m:Nat),Alike q p (m + 1 - (0 + 1)) (m + 1):=λp m a b c1 c2 c3 c4=>by
   have:a=b:=by omega
   rw [this];exact O.pM _
  cases c:q (bK p m) (bK p (m - 1)) with
  | true=>
   have c2:=O.asy _ _ c
   by_cases he:e > 0
   ·have er:aZ q (US (f + 1) p m e)=aZ q (US f (WV p (m - (e + 1)) m) (m + 1) 0):=by
     show aZ q (if q (bK p m) (bK p (m - 1))=true then _ else _)=_
     rw [if_pos c,if_pos he]
    rw [er]
    have hr:=vZ (k:=0) (i:=m - (e + 1)) (by omega:m<=p.size) h5 h4 O
    have hl:bK (WV p (m - (e + 1)) m) (m - 1)=bK p (m - (e + 1)):=by
     rw [iX (by omega),if_pos (by omega)]
     congr 1;omega
    obtain ⟨a0,a1,a2,a3,a4,a5⟩:=lM O f (WV p (m - (e + 1)) m) (m + 1) 0 (by omega) (by omega) (by rw [iD];omega)
     (hr.more O h1 (by
      rw [hl,tZ (by omega) (R6 _)]
      exact O.tra _ _ _ c2 (h5 _ _ (by omega) (by omega) (by omega) (by omega)))) (solo _ _)
    rw [iD] at a0
    exact ⟨a0,by omega,by omega,a3,a4,a5⟩
   ·have er:aZ q (US (f + 1) p m e)=aZ q (US f p (m + 1) 0):=by
     show aZ q (if q (bK p m) (bK p (m - 1))=true then _ else _)=_
     rw [if_pos c,if_neg he]
    rw [er]
    obtain ⟨a0,a1,a2,a3,a4,a5⟩:=lM O f p (m + 1) 0 (by omega) (by omega) (by omega) (h4.more O h1 c2) (solo _ _)
    exact ⟨a0,by omega,by omega,a3,a4,a5⟩
  | false=>
   cases c2:q (bK p (m - 1)) (bK p m) with
   | true=>
    have er:aZ q (US (f + 1) p m e)=(p,m,e):=by
     show aZ q (if q (bK p m) (bK p (m - 1))=true then _ else _)=_
     rw [if_neg (by rw [c];decide)]
     show aZ q (if q (bK p (m - 1)) (bK p m)=true then _ else _)=_
     rw [if_pos c2]
     rfl
    rw [er]
    exact ⟨rfl,R6 _,V8 _ _,h2,h4,h5⟩
   | false=>
    have er:aZ q (US (f + 1) p m e)=aZ q (US f p (m + 1) (e + 1)):=by
     show aZ q (if q (bK p m) (bK p (m - 1))=true then _ else _)=_
     rw [if_neg (by rw [c];decide)]
     show aZ q (if q (bK p (m - 1)) (bK p m)=true then _ else _)=_
     rw [if_neg (by rw [c2];decide)]
    rw [er]
    have hal:Alike q p (m + 1 - (e + 1 + 1)) (m + 1):=λa b d1 d2 d3 d4=>by
     by_cases ea:a=m
     ·subst ea
      by_cases eb:b=a
      ·rw [eb];exact O.pM _
      ·exact O.tra _ _ _ (h5 (a - 1) b (by omega) (by omega) (by omega) (by omega)) c
     ·by_cases eb:b=m
      ·subst eb
       exact O.tra _ _ _ c2 (h5 a (b - 1) (by omega) (by omega) (by omega) (by omega))
      ·exact h5 a b (by omega) (by omega) (by omega) (by omega)
    obtain ⟨a0,a1,a2,a3,a4,a5⟩:=lM O f p (m + 1) (e + 1) (by omega) (by omega) (by omega) (h4.more O h1 c2) hal
    exact ⟨a0,by omega,by omega,a3,a4,a5⟩
def Got (q:Nat->Nat->Bool) (N s:Nat) (r:Nat×Array Nat):Prop:=r.2.size=s/\1<=r.1/\r.1<=N/\Up q r.2 r.1
theorem Bu (O:Ord q){p:Array Nat}{m N:Nat}(h1:1<=m) (hm:m<=N) (hN:N<=p.size) (hd:Down q p m):Got q N p.size (aZ q (ab6 m N p)):=by
 unfold ab6
 rw [run_bind]
 obtain ⟨a1,a2,a3,_⟩:=yd O (WV p 0 m) (N - m) m h1 (ML (by omega) hd)
 exact ⟨iD _ _ _,by show 1<=aZ q (WW _ _ _);omega,by show aZ q (WW _ _ _)<=N;omega,a3⟩
theorem Bb (O:Ord q){p:Array Nat}{m N:Nat}(h1:1<=m) (hm:m + 1<=N) (hN:N<=p.size) (hd:Down q p (m + 1)):Got q N p.size (aZ q (aak m N p)):=by
 unfold aak
 rw [run_bind]
 obtain ⟨a0,a1,a2,a3,a4,a5⟩:=lM O (N - (m + 1)) p (m + 1) 0 (by omega) (by omega) (by omega) hd (λa b c1 c2 c3 c4=>by
  have:a=b:=by omega
  rw [this];exact O.pM _)
 generalize aZ q (US (N - (m + 1)) p (m + 1) 0)=r at *
 obtain ⟨p',m',e'⟩:=r
 simp only at *
 by_cases c:e' > 0
 ·rw [if_pos c]
  have:=Bu (N:=N) O (p:=WV p' (m' - (e' + 1)) m') (m:=m') (by omega) (by omega) (by rw [iD];omega) (vZ (k:=0) (by omega) a5 a4 O)
  rw [iD,a0] at this
  exact this
 ·rw [if_neg c]
  have:=Bu (N:=N) O (p:=p') (m:=m') (by omega) (by omega) (by omega) a4
  rw [a0] at this
  exact this
theorem FJ (O:Ord q){p:Array Nat}{N:Nat}(h1:1<=N) (hN:N<=p.size):Got q N p.size (aZ q (aaJ N p)):=by
 unfold aaJ
 rw [run_bind]
 obtain ⟨a1,a2,a3,a4⟩:=yd O p (N - 1) 1 (R6 _) (Up.one O p)
 generalize aZ q (WW p (N - 1) 1)=m at *
 by_cases c:(m == N)=true
 ·rw [if_pos c]
  exact ⟨rfl,a1,by show m<=N;omega,a3⟩
 ·rw [if_neg c]
  have hm:m + 1<=N:=by
   have:m≠N:=by simpa using c
   omega
  have a4:q (bK p m) (bK p (m - 1))=true:=by
   rcases a4 with h | h
   ·omega
   ·exact h
  have a5:=O.asy _ _ a4
  by_cases c':m > 1
  ·rw [if_pos c']
   show Got q N p.size (aZ q (if q (bK p 0) (bK p (m - 1))=true then _ else _))
   by_cases d:q (bK p 0) (bK p (m - 1))=true
   ·rw [if_pos d]
    exact ⟨rfl,a1,by show m<=N;omega,a3⟩
   ·rw [if_neg d]
    have d:q (bK p 0) (bK p (m - 1))=false:=by simpa using d
    have all:∀a b,a < m->b < m->q (bK p a) (bK p b)=false:=λa b ha hb=>O.tra _ _ _ (O.tra _ _ _ (a3 b (m - 1) (by omega) (by omega)) d) (a3 0 a (by omega) (by omega))
    have hd:Down q (WV p 0 m) m:=λa b h1 h2=>by
     rw [iX (by omega),iX (by omega),if_pos (by omega),if_pos (by omega)]
     exact all _ _ (by omega) (by omega)
    have:=Bb O (p:=WV p 0 m) (m:=m) (N:=N) (by omega) hm (by rw [iD];exact hN) (hd.more O (by omega) (by
     rw [tZ (by omega) (R6 _),iX (by omega),if_pos (by omega),show 0 + m - 1 - (m - 1)=0 by omega]
     exact O.tra _ _ _ a5 d))
    rw [iD] at this
    exact this
  ·rw [if_neg c']
   have:m=1:=by omega
   subst this
   refine Bb O (R6 _) hm hN ?_
   exact Down.more O (λi j h1 h2=>by
    have:i=j:=by omega
    rw [this];exact O.pM _) (R6 _) a5
theorem rO (O:Ord q){p:Array Nat}{k:Nat}(hs:Up q p k):∀(f l r:Nat),l<=r->r<=k->r - l<=f->(∀i,i < l->q (bK p k) (bK p i)=false)->(∀i,r<=i->i < k->q (bK p k) (bK p i)=true)->
  aZ q (Va p k f l r)<=k/\(∀i,i < aZ q (Va p k f l r)->q (bK p k) (bK p i)=false)/\∀i,aZ q (Va p k f l r)<=i->i < k->q (bK p k) (bK p i)=true
 | 0,l,r,h1,h2,h3,h4,h5=>⟨by show l<=k;omega,h4,λi hi=>h5 i (by show r<=i;have:l<=i:=hi;omega)⟩
 | f + 1,l,r,h1,h2,h3,h4,h5=>by
  by_cases c:l ≥ r
  ·have e:aZ q (Va p k (f + 1) l r)=l:=by
    unfold Va
    rw [if_pos c]
    rfl
   rw [e]
   exact ⟨by omega,h4,λi hi=>h5 i (by omega)⟩
  ·cases d:q (bK p k) (bK p ((l + r) / 2)) with
   | true=>
    have e:aZ q (Va p k (f + 1) l r)=aZ q (Va p k f l ((l + r) / 2)):=by
     rw [Va,if_neg c]
     show aZ q (if q (bK p k) (bK p ((l + r) / 2))=true then _ else _)=_
     rw [if_pos d]
    rw [e]
    refine rO O hs f l ((l + r) / 2) (by omega) (by omega) (by omega) h4 λi i1 i2=>?_
    by_cases ci:r<=i
    ·exact h5 i ci i2
    ·cases dd:q (bK p k) (bK p i) with
     | true=>rfl
     | false=>
      have:=O.tra _ _ _ (hs ((l + r) / 2) i i1 i2) dd
      rw [d] at this
      cases this
   | false=>
    have e:aZ q (Va p k (f + 1) l r)=aZ q (Va p k f ((l + r) / 2 + 1) r):=by
     rw [Va,if_neg c]
     show aZ q (if q (bK p k) (bK p ((l + r) / 2))=true then _ else _)=_
     rw [if_neg (by rw [d];decide)]
    rw [e]
    refine rO O hs f ((l + r) / 2 + 1) r (by omega) (by omega) (by omega) (λi hi=>?_) h5
    exact O.tra _ _ _ (hs i ((l + r) / 2) (by omega) (by omega)) d
theorem Lb (O:Ord q){p:Array Nat}{k l:Nat}(hk:k < p.size) (hl:l<=k) (hs:Up q p k) (h1:∀i,i < l->q (bK p k) (bK p i)=false) (h2:∀i,l<=i->i < k->q (bK p k) (bK p i)=true):Up q (bubble p k (k - l)) (k + 1):=λi j hi hj=>by
 rw [Du hk (by omega),Du hk (by omega),show k - (k - l)=l by omega]
 by_cases a:i=l
 ·rw [if_pos a]
  by_cases b:j=l
  ·rw [if_pos b];exact O.pM _
  ·rw [if_neg b,if_pos (by omega)]
   exact O.asy _ _ (h2 (j - 1) (by omega) (by omega))
 ·rw [if_neg a]
  by_cases b:j=l
  ·rw [if_pos b,if_neg (by omega)]
   exact h1 i (by omega)
  ·rw [if_neg b]
   by_cases a':l < i/\i<=k
   ·rw [if_pos a',if_pos (by omega)]
    exact hs _ _ (by omega) (by omega)
   ·rw [if_neg a']
    by_cases b':l < j/\j<=k
    ·rw [if_pos b']
     exact hs _ _ (by omega) (by omega)
    ·rw [if_neg b']
     exact hs _ _ hi (by omega)
theorem Dy (O:Ord q):∀(f:Nat) (p:Array Nat) (k:Nat),k + f<=p.size->Up q p k->Up q (aZ q (abI f p k)) (k + f)
 | 0,p,k,_,h=>h
 | f + 1,p,k,hs,h=>by
  have e:aZ q (abI (f + 1) p k)=aZ q (abI f (bubble p k (k - aZ q (Va p k k 0 k))) (k + 1)):=by
   rw [abI,run_bind]
  rw [e]
  obtain ⟨a1,a2,a3⟩:=rO O h k 0 k (SG _) (R6 _) (by omega) (λi hi=>by omega) (λi h1 h2=>by omega)
  have:=Dy O f (bubble p k (k - aZ q (Va p k k 0 k))) (k + 1) (by rw [bubble_size];omega) (Lb O (by omega) a1 h a2 a3)
  rw [show k + (f + 1)=k + 1 + f by omega]
  exact this
theorem Ks (O:Ord q) (n:Nat) (hn:1<=n):Up q (aZ q (UT n)) n:=by
 unfold UT
 rw [run_bind]
 obtain ⟨a0,a1,a2,a3⟩:=FJ O (p:=(R7 n).toArray) (N:=n) hn (by simp)
 generalize aZ q (aaJ n (R7 n).toArray)=r at *
 have a0:r.2.size=n:=by simpa using a0
 by_cases c:r.1 < n
 ·rw [if_pos c]
  have:=Dy O (n - max r.1 1) r.2 (max r.1 1) (by omega) (by rw [show max r.1 1=r.1 by omega];exact a3)
  rwa [show max r.1 1 + (n - max r.1 1)=n by omega] at this
 ·rw [if_neg c]
  have:r.1=n:=by omega
  rw [this] at a3
  exact a3
end
end DL
namespace DL
open PySem PySem.Spec PyProof.Rows L2
open PySem.W (kas_sort)
def cI (x y:D):Bool:=(cW x y).getD false
structure dR (P:D->Prop):Prop where
 eq:∀x y,P x->P y->(bg x y=true↔x=y)
 lt:∀x y,P x->P y->(cW x y).isSome=true
 asy:∀x y,P x->P y->cI x y=true->cI y x=false
 tri:∀x y,P x->P y->cI x y=false->cI y x=false->x=y
 tra:∀x y z,P x->P y->P z->cI x y=true->cI y z=true->cI x z=true
def gY (xs ys:List D):Bool:=cI (.tup xs) (.tup ys)
theorem jo (x y:D) (xs ys:List D):gY (x::xs) (y::ys)=if bg x y=true then gY xs ys else cI x y:=by
 show (if bg x y=true then i9 xs ys else cW x y).getD false=_
 by_cases h:bg x y=true
 ·rw [if_pos h,if_pos h];rfl
 ·rw [if_neg h,if_neg h];rfl
variable {P R:D->Prop}
theorem j6 (xs ys:List D):bg (.tup xs) (.tup ys)=cB xs ys:=by rw [bg]
theorem gM (x y:D) (xs ys:List D):cB (x::xs) (y::ys)=(bg x y && cB xs ys):=by rw [cB]
structure kE (Q:List D->Prop):Prop where
 eq:∀x y,Q x->Q y->(cB x y=true↔x=y)
 lt:∀x y,Q x->Q y->(i9 x y).isSome=true
 asy:∀x y,Q x->Q y->gY x y=true->gY y x=false
 tri:∀x y,Q x->Q y->gY x y=false->gY y x=false->x=y
 tra:∀x y z,Q x->Q y->Q z->gY x y=true->gY y z=true->gY x z=true
theorem kE.tot {Q:List D->Prop}(h:kE Q):dR λd=>∃xs,d=.tup xs/\Q xs where
 eq:=by
  rintro _ _ ⟨x,rfl,hx⟩ ⟨y,rfl,hy⟩
  rw [j6,h.eq x y hx hy]
  exact ⟨λe=>e▸rfl,λe=>by cases e;rfl⟩
 lt:=by
  rintro _ _ ⟨x,rfl,hx⟩ ⟨y,rfl,hy⟩
  exact h.lt x y hx hy
 asy:=by
  rintro _ _ ⟨x,rfl,hx⟩ ⟨y,rfl,hy⟩
  exact h.asy x y hx hy
 tri:=by
  rintro _ _ ⟨x,rfl,hx⟩ ⟨y,rfl,hy⟩ h1 h2
  rw [h.tri x y hx hy h1 h2]
 tra:=by
  rintro _ _ _ ⟨x,rfl,hx⟩ ⟨y,rfl,hy⟩ ⟨z,rfl,hz⟩
  exact h.tra x y z hx hy hz
theorem A7 (p:dR P){x y z:D}{r s t:List D}(px:P x) (py:P y) (pz:P z) (h:gY r s=true->gY s t=true->gY r t=true) (h1:gY (x::r) (y::s)=true) (h2:gY (y::s) (z::t)=true):gY (x::r) (z::t)=true:=by
 rw [jo] at h1 h2 ⊢
 by_cases e:x=y
 ·subst e
  rw [if_pos ((p.eq x x px px).mpr rfl)] at h1
  by_cases f:x=z
  ·subst f
   rw [if_pos ((p.eq x x px px).mpr rfl)] at h2 ⊢
   exact h h1 h2
  ·rw [if_neg λq=>f ((p.eq x z px pz).mp q)] at h2 ⊢
   exact h2
 ·rw [if_neg λq=>e ((p.eq x y px py).mp q)] at h1
  by_cases f:y=z
  ·subst f
   rw [if_neg λq=>e ((p.eq x y px py).mp q)]
   exact h1
  ·rw [if_neg λq=>f ((p.eq y z py pz).mp q)] at h2
   have h3:=p.tra x y z px py pz h1 h2
   by_cases g:x=z
   ·subst g
    have:=p.asy x x px px h3
    rw [h3] at this
    cases this
   ·rw [if_neg λq=>g ((p.eq x z px pz).mp q)]
    exact h3
theorem kE.cons {Q:List D->Prop}(p:dR P) (h:kE Q):kE λxs=>∃x r,xs=x::r/\P x/\Q r where
 eq:=by
  rintro _ _ ⟨x,r,rfl,px,qr⟩ ⟨y,s,rfl,py,qs⟩
  rw [gM,R8,p.eq x y px py,h.eq r s qr qs]
  exact ⟨λe=>by rw [e.1,e.2],λe=>by cases e;exact ⟨rfl,rfl⟩⟩
 lt:=by
  rintro _ _ ⟨x,r,rfl,px,qr⟩ ⟨y,s,rfl,py,qs⟩
  show (if bg x y=true then i9 r s else cW x y).isSome=true
  split
  ·exact h.lt r s qr qs
  ·exact p.lt x y px py
 asy:=by
  rintro _ _ ⟨x,r,rfl,px,qr⟩ ⟨y,s,rfl,py,qs⟩ hl
  rw [jo] at hl ⊢
  by_cases e:x=y
  ·subst e
   rw [if_pos ((p.eq x x px px).mpr rfl)] at hl ⊢
   exact h.asy r s qr qs hl
  ·rw [if_neg λz=>e ((p.eq x y px py).mp z)] at hl
   rw [if_neg λz=>e ((p.eq y x py px).mp z).symm]
   exact p.asy x y px py hl
 tri:=by
  rintro _ _ ⟨x,r,rfl,px,qr⟩ ⟨y,s,rfl,py,qs⟩ h1 h2
  rw [jo] at h1 h2
  by_cases e:x=y
  ·subst e
   rw [if_pos ((p.eq x x px px).mpr rfl)] at h1 h2
   rw [h.tri r s qr qs h1 h2]
  ·rw [if_neg λz=>e ((p.eq x y px py).mp z)] at h1
   rw [if_neg λz=>e ((p.eq y x py px).mp z).symm] at h2
   exact absurd (p.tri x y px py h1 h2) e
 tra:=by
  rintro _ _ _ ⟨x,r,rfl,px,qr⟩ ⟨y,s,rfl,py,qs⟩ ⟨z,t,rfl,pz,qt⟩ h1 h2
  exact A7 p px py pz (h.tra r s t qr qs qt) h1 h2
theorem kE.nil:kE λxs=>xs=[] where
 eq:=by rintro _ _ rfl rfl;simp [cB]
 lt:=by rintro _ _ rfl rfl;rfl
 asy:=by rintro _ _ rfl rfl h;cases h
 tri:=by rintro _ _ rfl rfl _ _;rfl
 tra:=by rintro _ _ _ rfl rfl rfl h;cases h
theorem dR.list (p:dR P):kE λxs=>∀x∈xs,P x where
 eq:=by
  intro xs
  induction xs with
  | nil=>intro ys _ _;cases ys <;> simp [cB]
  | cons x xs ih=>
   intro ys hx hy
   cases ys with
   | nil=>simp [cB]
   | cons y ys=>
    rw [gM,R8,p.eq x y (hx x R1) (hy y R1),ih ys (λz hz=>hx z (R0 _ hz)) λz hz=>hy z (R0 _ hz)]
    exact ⟨λe=>by rw [e.1,e.2],λe=>by cases e;exact ⟨rfl,rfl⟩⟩
 lt:=by
  intro xs
  induction xs with
  | nil=>intro ys _ _;rfl
  | cons x xs ih=>
   intro ys hx hy
   cases ys with
   | nil=>rfl
   | cons y ys=>
    show (if bg x y=true then i9 xs ys else cW x y).isSome=true
    split
    ·exact ih ys (λz hz=>hx z (R0 _ hz)) λz hz=>hy z (R0 _ hz)
    ·exact p.lt x y (hx x R1) (hy y R1)
 asy:=by
  intro xs
  induction xs with
  | nil=>
   intro ys _ _ h
   cases ys with
   | nil=>cases h
   | cons y ys=>rfl
  | cons x xs ih=>
   intro ys hx hy hl
   cases ys with
   | nil=>cases hl
   | cons y ys=>
    have px:=hx x R1
    have py:=hy y R1
    rw [jo] at hl ⊢
    by_cases e:x=y
    ·subst e
     rw [if_pos ((p.eq x x px px).mpr rfl)] at hl ⊢
     exact ih ys (λz hz=>hx z (R0 _ hz)) (λz hz=>hy z (R0 _ hz)) hl
    ·rw [if_neg λz=>e ((p.eq x y px py).mp z)] at hl
     rw [if_neg λz=>e ((p.eq y x py px).mp z).symm]
     exact p.asy x y px py hl
 tri:=by
  intro xs
  induction xs with
  | nil=>
   intro ys _ _ h1 h2
   cases ys with
   | nil=>rfl
   | cons y ys=>cases h1
  | cons x xs ih=>
   intro ys hx hy h1 h2
   cases ys with
   | nil=>cases h2
   | cons y ys=>
    have px:=hx x R1
    have py:=hy y R1
    rw [jo] at h1 h2
    by_cases e:x=y
    ·subst e
     rw [if_pos ((p.eq x x px px).mpr rfl)] at h1 h2
     rw [ih ys (λz hz=>hx z (R0 _ hz)) (λz hz=>hy z (R0 _ hz)) h1 h2]
    ·rw [if_neg λz=>e ((p.eq x y px py).mp z)] at h1
     rw [if_neg λz=>e ((p.eq y x py px).mp z).symm] at h2
     exact absurd (p.tri x y px py h1 h2) e
 tra:=by
  intro xs
  induction xs with
  | nil=>
   intro ys zs _ _ _ h1 h2
   cases ys with
   | nil=>cases h1
   | cons y ys=>
    cases zs with
    | nil=>cases h2
    | cons z zs=>rfl
  | cons x xs ih=>
   intro ys zs hx hy hz h1 h2
   cases ys with
   | nil=>cases h1
   | cons y ys=>
    cases zs with
    | nil=>cases h2
    | cons z zs=>
     have px:=hx x R1
     have py:=hy y R1
     have pz:=hz z R1
     exact A7 p px py pz (ih ys zs (λz hz=>hx z (R0 _ hz)) (λz hz=>hy z (R0 _ hz)) λw hw=>hz w (R0 _ hw)) h1 h2
theorem N8:dR λd=>∃k,d=.bl k where
 eq:=by rintro _ _ ⟨x,rfl⟩ ⟨y,rfl⟩;simp [bg]
 lt:=by rintro _ _ ⟨x,rfl⟩ ⟨y,rfl⟩;rfl
 asy:=by rintro _ _ ⟨x,rfl⟩ ⟨y,rfl⟩;revert x y;decide
 tri:=by
  rintro _ _ ⟨x,rfl⟩ ⟨y,rfl⟩ h1 h2
  revert h1 h2
  cases x <;> cases y <;> intro h1 h2
  ·rfl
  ·exact absurd h1 (by decide)
  ·exact absurd h2 (by decide)
  ·rfl
 tra:=by rintro _ _ _ ⟨x,rfl⟩ ⟨y,rfl⟩ ⟨z,rfl⟩;revert x y z;decide
theorem ni (x y:Int):cI (.int x) (.int y)=decide (x < y):=rfl
theorem N9:dR λd=>∃k,d=.int k where
 eq:=by rintro _ _ ⟨x,rfl⟩ ⟨y,rfl⟩;simp [bg]
 lt:=by rintro _ _ ⟨x,rfl⟩ ⟨y,rfl⟩;rfl
 asy:=by
  rintro _ _ ⟨x,rfl⟩ ⟨y,rfl⟩ h
  rw [ni,decide_eq_true_eq] at h
  rw [ni,decide_eq_false_iff_not]
  omega
 tri:=by
  rintro _ _ ⟨x,rfl⟩ ⟨y,rfl⟩ h1 h2
  rw [ni,decide_eq_false_iff_not] at h1 h2
  rw [show x=y by omega]
 tra:=by
  rintro _ _ _ ⟨x,rfl⟩ ⟨y,rfl⟩ ⟨z,rfl⟩ h1 h2
  rw [ni,decide_eq_true_eq] at h1 h2 ⊢
  omega
theorem qy (x y:Str):cI (.str x) (.str y)=decide (x.cps.toList < y.cps.toList):=rfl
theorem Kw {x y:Str}(h:x.cps.toList=y.cps.toList):x=y:=by
 obtain ⟨⟨cx⟩⟩:=x
 obtain ⟨⟨cy⟩⟩:=y
 simp only at h
 rw [h]
theorem N_:dR λd=>∃k,d=.str k where
 eq:=by rintro _ _ ⟨x,rfl⟩ ⟨y,rfl⟩;simp [bg]
 lt:=by rintro _ _ ⟨x,rfl⟩ ⟨y,rfl⟩;rfl
 asy:=by
  rintro _ _ ⟨x,rfl⟩ ⟨y,rfl⟩ h
  rw [qy,decide_eq_true_eq] at h
  rw [qy,decide_eq_false_iff_not]
  exact List.lt_asymm h
 tri:=by
  rintro _ _ ⟨x,rfl⟩ ⟨y,rfl⟩ h1 h2
  rw [qy,decide_eq_false_iff_not] at h1 h2
  rw [Kw (aas h2 h1)]
 tra:=by
  rintro _ _ _ ⟨x,rfl⟩ ⟨y,rfl⟩ ⟨z,rfl⟩ h1 h2
  rw [qy,decide_eq_true_eq] at h1 h2 ⊢
  exact List.lt_trans h1 h2
inductive Fm where
 | b | i | s | hom (t:Fm) | tn | tc (x r:Fm)
noncomputable def iw:Fm->D->Prop
 | .b,d=>∃k,d=.bl k
 | .i,d=>∃k,d=.int k
 | .s,d=>∃k,d=.str k
 | .hom t,d=>∃xs,d=.tup xs/\∀x∈xs,iw t x
 | .tn,d=>∃xs,d=.tup xs/\xs=[]
 | .tc x r,d=>∃xs,d=.tup xs/\∃y ys,xs=y::ys/\iw x y/\iw r (.tup ys)
theorem dR.tail {Q:List D->Prop}(h:dR R) (k:∀xs,Q xs->R (.tup xs)):kE Q where
 eq:=λx y hx hy=>by
  have:=h.eq _ _ (k x hx) (k y hy)
  rw [j6] at this
  rw [this]
  exact ⟨λe=>by cases e;rfl,λe=>e▸rfl⟩
 lt:=λx y hx hy=>h.lt _ _ (k x hx) (k y hy)
 asy:=λx y hx hy=>h.asy _ _ (k x hx) (k y hy)
 tri:=λx y hx hy h1 h2=>by
  have:=h.tri _ _ (k x hx) (k y hy) h1 h2
  cases this;rfl
 tra:=λx y z hx hy hz=>h.tra _ _ _ (k x hx) (k y hy) (k z hz)
theorem dQ:∀t:Fm,dR (iw t)
 | .b=>N8
 | .i=>N9
 | .s=>N_
 | .hom t=>(dQ t).list.tot
 | .tn=>kE.nil.tot
 | .tc x r=>(kE.cons (dQ x) (dR.tail (Q:=λys=>iw r (.tup ys)) (dQ r) λ_ h=>h)).tot
theorem NZ (ds:List D):(aQ ds).length=ds.length:=by
 unfold aQ
 by_cases h:ds.length < 2
 ·rw [if_pos h]
 ·rw [if_neg h,R3]
  have:=((eG (n:=ds.length) (by omega)).run (ltB ds)).size_eq
  simpa using this
theorem Jy (ds:List D):(R7 ds.length).map (cP ds)=ds:=by
 refine V9 (by simp) λi h1 h2=>?_
 rw [Yu,List.getElem_range]
 unfold cP
 rw [S9,Sg h2]
 rfl
theorem gP (ds:List D):(aQ ds).Perm ds:=by
 unfold aQ
 by_cases h:ds.length < 2
 ·rw [if_pos h]
 ·rw [if_neg h]
  have hp:=(eG (n:=ds.length) (by omega)).run (ltB ds)
  have hq:(aZ (ltB ds) (UT ds.length)).toList.Perm (R7 ds.length):=by
   have:=Array.perm_iff_toList_perm.mp hp
   simpa using this
  have:=hq.map (cP ds)
  rwa [Jy] at this
theorem zG (p:dR P) (ds:List D) (h:∀x∈ds,P x):(aQ ds).Pairwise λx y=>cI y x=false:=by
 unfold aQ
 by_cases h2:ds.length < 2
 ·rw [if_pos h2]
  match ds,h2 with
  | [],_=>exact .nil
  | [x],_=>exact Um _ _
 ·rw [if_neg h2]
  have hn:0 < ds.length:=by omega
  have hb:=eG (n:=ds.length) hn
  have at_P:∀i,i < ds.length->P (cP ds i):=λi hi=>h _ (eE hi)
  let q':Nat->Nat->Bool:=λi j=>if i < ds.length then (if j < ds.length then ltB ds i j else true) else false
  have hq:aZ (ltB ds) (UT ds.length)=aZ q' (UT ds.length):=G_ hb λi j hi hj=>by simp [q',hi,hj]
  have O:Ord q':=by
   constructor
   ·intro a b hab
    by_cases ha:a < ds.length <;> by_cases hb:b < ds.length <;> simp [q',ha,hb] at hab ⊢
    exact p.asy _ _ (at_P a ha) (at_P b hb) hab
   ·intro a b c hab hbc
    by_cases ha:a < ds.length <;> by_cases hb:b < ds.length <;> by_cases hc:c < ds.length <;> simp [q',ha,hb,hc] at hab hbc ⊢
    have h1:cI (cP ds b) (cP ds a)=false:=hab
    have h2:cI (cP ds c) (cP ds b)=false:=hbc
    show cI (cP ds c) (cP ds a)=false
    cases g:cI (cP ds c) (cP ds a) with
    | false=>rfl
    | true=>
     have pa:=at_P a ha
     have pb:=at_P b hb
     have pc:=at_P c hc
     cases g2:cI (cP ds a) (cP ds b) with
     | true=>
      have:=p.tra _ _ _ pc pa pb g g2
      rw [this] at h2;cases h2
     | false=>
      rw [<-p.tri _ _ pb pa h1 g2] at g
      rw [g] at h2;cases h2
  have up:=Ks O ds.length (by omega)
  have hs:=(hb.run (ltB ds))
  rw [hq] at hs ⊢
  have hsz:(aZ q' (UT ds.length)).size=ds.length:=by simpa using hs.size_eq
  generalize aZ q' (UT ds.length)=A at *
  rw [S_,TY]
  intro i j hi hj hij
  rw [Sa] at hi hj
  have:=up i j (by omega) (by omega)
  have e:∀k (hk:k < A.size),bK A k=A.toList[k]'(by rw [Sa];exact hk):=λk hk=>by
   show A.getD k 0=_
   simp [Ux,hk]
  rw [e i hi,e j hj] at this
  have l:∀k (hk:k < A.size),A.toList[k]'(by rw [Sa];exact hk) < ds.length:=λk hk=>by
   rw [<-e k hk];exact hs.lt hn k
  have li:=l i hi
  have lj:=l j hj
  simp only [q',li,lj,if_true] at this
  exact this
end DL
namespace K52
open PySem DL
end K52
namespace K52
open PySem DL K01 WP K51
variable {P:D->Prop}
theorem NB (p:dR P){x y:D}(px:P x) (py:P y) (h:cI y x=false) (n:x≠y):cI x y=true:=by
 cases g:cI x y with
 | true=>rfl
 | false=>exact absurd (p.tri x y px py g h) n
theorem pM (p:dR P){x:D}(px:P x):cI x x=false:=by
 cases g:cI x x with
 | false=>rfl
 | true=>have:=p.asy x x px px g;rw [g] at this;cases this
theorem jx (p:dR P):∀(xs k:List D),(∀x∈k,P x)->(∀x∈xs,P x)->k.Pairwise (λa b=>cI a b=true)->(∀a∈k,∀x∈xs,cI x a=false)->xs.Pairwise (λa b=>cI b a=false)->
  (xs.foldl gS k).Pairwise (λa b=>cI a b=true)/\∀y,y∈xs.foldl gS k↔y∈k\/y∈xs
 | [],k,_,_,hs,_,_=>⟨hs,λy=>by simp⟩
 | x::xs,k,hk,hx,hs,hc,hp=>by
  have px:=hx x R1
  have hx':∀y∈xs,P y:=λy hy=>hx y (R0 _ hy)
  obtain ⟨p1,p2⟩:=Uk.mp hp
  rw [VL]
  cases q:k.getLast? with
  | none=>
   have hk0:k=[]:=Vh.mp q
   subst hk0
   obtain ⟨a1,a2⟩:=jx p xs [x] (λy hy=>by rw [R9.mp hy];exact px) hx' (Um _ _) (λa ha y hy=>by rw [R9.mp ha];exact p1 y hy) p2
   exact ⟨a1,λy=>by rw [show gS [] x=[x] from rfl,a2];simp⟩
  | some z=>
   obtain ⟨ys,rfl⟩:=vJ q
   have pz:=hk z (by simp)
   by_cases e:z=x
   ·subst e
    rw [HP q ((p.eq z z pz pz).mpr rfl)]
    obtain ⟨a1,a2⟩:=jx p xs (ys++[z]) hk hx' hs (λa ha y hy=>hc a ha y (R0 _ hy)) p2
    refine ⟨a1,λy=>?_⟩
    rw [a2]
    simp only [Sz,Sh,Tf,or_false]
    constructor
    ·rintro (h | h)
     ·exact .inl h
     ·exact .inr (.inr h)
    ·rintro (h | h | h)
     ·exact .inl h
     ·exact .inl (.inr h)
     ·exact .inr h
   ·have hne:bg z x=false:=by
     cases g:bg z x with
     | false=>rfl
     | true=>exact absurd ((p.eq z x pz px).mp g) e
    rw [DW (.inr ⟨z,q,hne⟩)]
    have Rk:=NB p pz px (hc z (by simp) x R1) e
    have hall:∀a∈ys++[z],cI a x=true:=λa ha=>by
     rcases Sz.mp ha with h | h
     ·have:=(Uq.mp hs).2.2 a h z (by simp)
      exact p.tra a z x (hk a ha) pz px this Rk
     ·rw [R9.mp h];exact Rk
    obtain ⟨a1,a2⟩:=jx p xs (ys++[z]++[x]) (λy hy=>by
      rcases Sz.mp hy with h | h
      ·exact hk y h
      ·rw [R9.mp h];exact px) hx' (Uq.mpr ⟨hs,Um _ _,λa ha b hb=>by rw [R9.mp hb];exact hall a ha⟩)
     (λa ha y hy=>by
      rcases Sz.mp ha with h | h
      ·exact hc a h y (R0 _ hy)
      ·rw [R9.mp h];exact p1 y hy) p2
    refine ⟨a1,λy=>?_⟩
    rw [a2]
    simp only [Sz,Sh,Tf,or_false]
    constructor
    ·rintro ((h | h) | h)
     ·exact .inl h
     ·exact .inr (.inl h)
     ·exact .inr (.inr h)
    ·rintro (h | h | h)
     ·exact .inl (.inl h)
     ·exact .inl (.inr h)
     ·exact .inr h
theorem nN (p:dR P) (L:List D) (h:∀x∈L,P x):(dedup (aQ L)).Pairwise (λa b=>cI a b=true)/\∀y,y∈dedup (aQ L)↔y∈L:=by
 have hm:∀x,x∈aQ L↔x∈L:=λx=>(gP L).mem_iff
 obtain ⟨a1,a2⟩:=jx p (aQ L) [] (λ_ z=>by cases z) (λx hx=>h x ((hm x).mp hx)) .nil (λ_ z=>by cases z) (zG p L h)
 exact ⟨a1,λy=>by rw [show dedup (aQ L)=(aQ L).foldl gS [] from rfl,a2,hm];simp⟩
theorem ua (p:dR P):∀{A B:List D},(∀x∈A,P x)->A.Pairwise (λa b=>cI a b=true)->B.Pairwise (λa b=>cI a b=true)->(∀y,y∈A↔y∈B)->A=B
 | [],[],_,_,_,_=>rfl
 | [],b::B,_,_,_,h=>by have:=(h b).mpr R1;cases this
 | a::A,[],_,_,_,h=>by have:=(h a).mp R1;cases this
 | a::A,b::B,hp,hA,hB,h=>by
  obtain ⟨a1,a2⟩:=Uk.mp hA
  obtain ⟨b1,b2⟩:=Uk.mp hB
  have pa:=hp a R1
  have pb:=hp b ((h b).mpr R1)
  have e:a=b:=by
   rcases Sh.mp ((h a).mp R1) with e | e
   ·exact e
   ·rcases Sh.mp ((h b).mpr R1) with f | f
    ·exact f.symm
    ·have:=p.asy _ _ pa pb (a1 b f)
     rw [b1 a e] at this
     cases this
  subst e
  have:A=B:=by
   refine ua p (λx hx=>hp x (R0 _ hx)) a2 b2 λy=>⟨λhy=>?_,λhy=>?_⟩
   ·rcases Sh.mp ((h y).mp (R0 _ hy)) with e | e
    ·subst e
     have:=a1 y hy
     rw [pM p pa] at this;cases this
    ·exact e
   ·rcases Sh.mp ((h y).mpr (R0 _ hy)) with e | e
    ·subst e
     have:=b1 y hy
     rw [pM p pa] at this;cases this
    ·exact e
  rw [this]
theorem GC (p:dR P){A B:List D}(hA:∀x∈A,P x) (h:∀y,y∈A↔y∈B):dedup (aQ A)=dedup (aQ B):=by
 obtain ⟨a1,a2⟩:=nN p A hA
 obtain ⟨b1,b2⟩:=nN p B λx hx=>hA x ((h x).mpr hx)
 exact ua p (λx hx=>hA x ((a2 x).mp hx)) a1 b1 λy=>by rw [a2,b2,h]
noncomputable def toF:Ty->Fm
 | .b=>.b
 | .hom t=>.hom (toF t)
 | .pr s t=>.tc (toF s) (.tc (toF t) .tn)
 | .fc=>.tc (.hom .b) (.tc (.hom .b) (.tc (.hom .b) (.tc (.hom (.hom .b)) (.tc (.hom (.hom .b)) .tn))))
theorem sF (ys:List Bool):iw (.hom .b) (.tup (ys.map D.bl)):=⟨_,rfl,λx hx=>by
 obtain ⟨k,_,rfl⟩:=R4.mp hx
 exact ⟨k,rfl⟩⟩
theorem gp:∀{t:Ty}{d:D},iS t d->iw (toF t) d
 | .b,_,h=>h
 | .hom t,_,⟨xs,e,_,h⟩=>⟨xs,e,λx hx=>gp (h x hx)⟩
 | .pr s t,_,⟨x,y,e,h1,h2⟩=>⟨_,e,x,[y],rfl,gp h1,_,rfl,y,[],rfl,gp h2,[],rfl,rfl⟩
 | .fc,_,⟨a,b,c,e,f,q,_,_,_,_,_,h1,h2⟩=>⟨_,q,_,_,rfl,sF a,_,rfl,_,_,rfl,sF b,_,rfl,_,_,rfl,sF c,_,rfl,_,_,rfl,⟨_,rfl,λx hx=>by
   obtain ⟨y,rfl,_⟩:=h1 x hx;exact sF y⟩,_,rfl,_,_,rfl,⟨_,rfl,λx hx=>by
   obtain ⟨y,rfl,_⟩:=h2 x hx;exact sF y⟩,[],rfl,rfl⟩
theorem Im (t:Ty):dR (iS t) where
 eq:=λx y hx hy=>(dQ (toF t)).eq x y (gp hx) (gp hy)
 lt:=λx y hx hy=>(dQ (toF t)).lt x y (gp hx) (gp hy)
 asy:=λx y hx hy=>(dQ (toF t)).asy x y (gp hx) (gp hy)
 tri:=λx y hx hy=>(dQ (toF t)).tri x y (gp hx) (gp hy)
 tra:=λx y z hx hy hz=>(dQ (toF t)).tra x y z (gp hx) (gp hy) (gp hz)
end K52
namespace DL
open PySem PySem.Spec PyProof.Rows L2
section
variable {X:Cx}{c:C}{e a b:SM}{es elts:List SM}{pos tp:Pos}{kk:Nat}
noncomputable def K9:R->M (List D)
 | .d (.tup xs)=>.ok xs
 | .d (.lst xs)=>.ok xs
 | _=>.bad
noncomputable def PM (gs:G (List R)):G (List D):=λenv=>gs env >>= λrs=>match rs with
 | [x,y]=>K9 x >>= λxs=>K9 y >>= λys=>.ok (List.zipWith (λa b=>.tup [a,b]) xs ys)
 | _=>.bad
theorem FE:bT X (.type "range") (λxs H Q=>∃j:Int,xs=[.int j]/\∀p,H p=none->Q (.ref p) (upd H p (.rng 0 j))):=by
 intro RL s σ H xs us Q I r h
 obtain ⟨j,rfl,q⟩:=h
 obtain ⟨u,rfl,t,rfl⟩:=vals1 r
 refine call_range_1 ⟨.ref s.heap.objs.size,_,I.laid (λb o e=>R5 _ e) (R6 _) (show cj X.prog X.w _ _ _ (.rng 0 j) from ⟨_,_,_,Sd _ rfl⟩),rfl,q _ (I.hok.fresh (R6 _))⟩
def lQ (n:Nat):List V:=(R7 n).map λ(k:Nat)=>V.int k
theorem Hu {n:Nat}{acc:Array RX}(h:ItemsOf (λi v=>∃t,v=.int (0 + (i:Int) * 1) t) acc n):Vals (lQ n) acc.toList:=by
 have key:∀(us:List RX) (i:Nat),(∀j v,us[j]?=some v->∃t:Tok,v=aaz ((i + j:Nat):Int) t)->Vals ((List.range' i us.length).map λ(k:Nat)=>V.int k) us:=by
  intro us
  induction us with
  | nil=>exact λi _=>.nil
  | cons u us ih=>
   intro i hj
   obtain ⟨t,e⟩:=hj 0 u rfl
   rw [Tq,List.range'_succ,Sj]
   refine .cons ⟨t,by rw [e];rfl⟩ (ih (i + 1) λj v hv=>?_)
   obtain ⟨t,e⟩:=hj (j + 1) v (by simpa using hv)
   exact ⟨t,by rw [e];congr 2;omega⟩
 have e:acc.toList.length=n:=by rw [Sa];exact h.1
 unfold lQ
 rw [List.range_eq_range',<-e]
 refine key acc.toList 0 λj v hv=>?_
 obtain ⟨t,q⟩:=h.2 j v (by simpa using hv)
 exact ⟨t,by rw [q];congr 1;omega⟩
theorem wK (hc:X.calm=true):bT X (.type "list") (λxs H Q=>∃(p:Se) (j:Int),xs=[.ref p]/\H p=some (.rng 0 j)/\-(2 ^ 24)<=j/\j<=2 ^ 24/\∀l,H l=none->Q (.ref l) (upd H l (.lst (lQ j.toNat)))):=by
 intro RL s σ H xs us Q I r h
 obtain ⟨p,j,rfl,hp,h0,h1,q⟩:=h
 obtain ⟨u,rfl,rx⟩:=vals1 r
 cases rx
 obtain ⟨t,u,v,ho⟩:=I.hok p _ hp
 have hn:Yc 0 j 1=(j.toNat:Int):=by rw [abA];split <;> omega
 refine call_list_range (I.ok.hd hc) ho (small_one (by decide) (by decide) (by omega) (by omega)) hn (by omega) λh' tk acc' c' kp e hi=>?_
 have hv:=Hu hi
 refine ⟨.ref s.heap.objs.size,_,I.laid kp (R6 _) (show cj X.prog X.w _ h' _ (.lst (lQ j.toNat)) from ⟨?_,acc'.toList,c',hv,e⟩),rfl,q _ (I.hok.fresh (R6 _))⟩
 unfold lQ
 rw [R3,Uz]
 show j.toNat<=2 ^ 24
 omega
noncomputable def HR (gs:G (List R)):G R:=λenv=>gs env >>= λrs=>match rs with
 | [.d (.int j)]=>if below 16777216 j then .ok (.l .fresh (fD 0 j.toNat)) else .bad
 | _=>.bad
theorem G8 {K:RV}{J:Hp}(n:Nat):aH K J (fD 0 n) (lQ n):=by
 unfold fD lQ
 generalize R7 n=ks
 induction ks with
 | nil=>exact .nil
 | cons k ks ih=>
  rw [Sj,Sj,Int.zero_add]
  exact .cons (.int _) ih
end
end DL
namespace DL
open PySem PySem.Spec PyProof.Rows L2 DX
section
variable {X:Cx}{c:C}{e a:SM}{es:List SM}{ga g:G R}{pos:Pos}{L:List Str}{T:Str->Bool}
theorem CF {p p2 pos2:Pos}{gs:G (List R)}(ha:jg X c [a] gs) (hm:X.mg "range"=none) (hm2:X.mg "list"=none) (hc:X.calm=true:=by rfl) (hK:X.K=c.K:=by rfl) (hg:Gl X "range":=by rfl) (QC:Gl X "list":=by rfl)
  (hs:R_ [a] X.env=(false,eval a X.env)::R_ [] X.env:=by rfl) (hs0:(Us pos (R_ [] X.env)).any (·.1)=false:=by rfl) (hs2:R_ [acY (.Name "range" p) [a] [] pos] X.env=(false,eval (acY (.Name "range" p) [a] [] pos) X.env)::R_ [] X.env:=by rfl) (RC:(Us pos2 (R_ [] X.env)).any (·.1)=false:=by rfl):
  QD X c (.Call (.Name "list" p2) [.Call (.Name "range" p) [a] [] pos] [] pos2) (HR gs):=by
 have ha:=ha.h
 refine ⟨?_⟩
 have h1:=lS (p:=p) (pos:=pos) FE hg hm boot_range ha (by decide) (by decide) hs hs0
 have h2:=lS (p:=p2) (pos:=pos2) (wK hc) QC hm2 BY (eW h1 g_ hs2) (by decide) (by decide) hs2 RC
 refine fq h2 λσ H Q ⟨J,env,sr,w⟩=>?_
 refine ⟨J,env,sr,aD (aI w) λrs wr vs J1 H1 e1 r1=>?_⟩
 split at wr
 ·rename_i j
  obtain ⟨v,rfl,r⟩:=r1.one
  cases r
  split at wr
  ·rename_i hb
   obtain ⟨b1,b2⟩:=eu.mp hb
   refine ⟨j,rfl,λq hq=>?_⟩
   refine ⟨q,j,rfl,b8,by omega,by omega,λl hl=>?_⟩
   have hp1:=sr.hp.ext e1
   have e2:=Ext.new hp1.sub hq (.rng 0 j)
   have hp2:=hp1.ext e2
   have hr:RR c H1 J1 (upd (upd H1 q (.rng 0 j)) l (.lst (lQ j.toNat))) (.l .fresh (fD 0 j.toNat)) (.ref l):=by
    obtain ⟨a,us,x1,x2,x3,x4,x5⟩:=ia (c:=c) hp2 hl (G8 j.toNat)
    exact ⟨a,us,x1,x2,x3,e2.h.free x4,x5⟩
   exact wr _ _ _ ((e1.trans e2).trans (Ext.new hp2.sub hl _)) (by
    obtain ⟨a,us,x1,x2,x3,x4,x5⟩:=hr
    exact ⟨a,us,x1,x2,x3,e1.h.free x4,x5⟩)
  ·exact wr.elim
 ·exact wr.elim
end
end DL
namespace DL
open PySem PySem.Spec PyProof.Rows L2
end DL
namespace DL
open PySem PySem.Spec PyProof.Rows L2 DX
open PySem.W (KasT kas_sort kas_ask)
noncomputable def isInt:D->Bool
 | .int _=>true
 | _=>false
def qY (ds:List D):Bool:=decide (ds.length < 64) && ds.all isInt
theorem A3 {K:RV}{J:Hp}:∀{ds:List D}{vs:List V}{us:List RX},ds.all isInt=true->aH K J ds vs->Vals vs us->∃ns,Wa us ns
 | _,_,_,_,.nil,.nil=>⟨[],.nil⟩
 | d::ds,_,_,h,.cons r rs,.cons v vs=>by
  (rw [Vy,R8] at h)
  obtain ⟨ns,hn⟩:=A3 h.2 rs vs
  cases d with
  | int i=>
   cases r
   obtain ⟨t,rfl⟩:=v
   exact ⟨i::ns,.cons i t hn⟩
  | _=>cases h.1
section
variable {X:Cx}{c:C}{e:SM}{es:List SM}{pos:Pos}
theorem ym:bT X (.builtin "sorted") (λxs H Q=>∃p vs ds,xs=[.ref p]/\cH X.K H p vs/\aH X.K H ds vs/\qY ds=true/\∀l vs',H l=none->(∀J,aH X.K J ds vs->aH X.K J (aQ ds) vs')->Q (.ref l) (upd H l (.lst vs'))):=by
 intro RL s σ H xs us Q I r h
 obtain ⟨p,vs,ds,rfl,hq,rs,ok,q⟩:=h
 obtain ⟨u,rfl,rx⟩:=vals1 r
 cases rx
 obtain ⟨RM,r',pl,hz⟩:=I.list hq
 have l1:vs.length=RM.length:=r'.length
 have l2:ds.length=vs.length:=rs.length
 have fr:H (s.heap.objs.size + 1)=none:=I.hok.fresh (Uj _)
 have fin:∀(out:List RX) (vs':List V),vs'.length=vs.length->Vals vs' out->(∀J,aH X.K J ds vs->aH X.K J (aQ ds) vs')->∃v H',Inv X RL σ H' {s with heap:=ZI s.heap RM out.toArray}/\RelV v (.ref (s.heap.objs.size + 1))/\Q v H':=λout vs' lv rv rr=>by
  obtain ⟨n,hn⟩:=aaj s.heap RM out.toArray
  exact ⟨.ref (s.heap.objs.size + 1),_,I.laid (t':=s.toks) (λb o e=>ZJ e) (Uj _) (show cj X.prog X.w _ _ _ (.lst vs') from ⟨by rw [lv];exact hz,out,n,rv,by simpa [Uu] using hn⟩),rfl,q _ vs' fr rr⟩
 unfold qY at ok
 rw [R8] at ok
 obtain ⟨o1,o2⟩:=ok
 have o1:=of_decide_eq_true o1
 by_cases h2:ds.length < 2
 ·refine Br pl.isList (by omega) (fin RM vs rfl r' ?_)
  intro J rj
  unfold aQ
  rw [if_pos h2]
  exact rj
 ·have ib:∀i∈(aZ (ltB ds) (UT ds.length)).toList,i < ds.length:=λi hi=>by
   have:=((eG (n:=ds.length) (by omega)).run (ltB ds):eF _ _)
   have:=(U_ this).mp (V1.mp hi)
   simpa using this
  obtain ⟨ns,hI⟩:=A3 o2 rs r'
  refine Bs (κ:=abN) (q:=ltB ds) pl.isList (by omega) (by omega) (λh' C kp cc=>?_) (λh' kp i j C hi hj cc=>?_) ?_
  ·have hl:2<=RM.length:=by omega
   clear fin l1 r' pl
   match RM,hI,hl with
   | v1::v2::r,hI,_=>rw [keyKind_ints hI];exact RY cc
  ·have hi':i < ds.length:=by omega
   have hj':j < ds.length:=by omega
   have ai:=SQ.mp o2 _ (eE hi')
   have aj:=SQ.mp o2 _ (eE hj')
   have r1:=eN rs hi'
   have r2:=eN rs hj'
   have v1:=eS r' (i:=i) (by omega)
   have v2:=eS r' (i:=j) (by omega)
   show So _ _ (keyLt' abN (RM.getD i S3) (RM.getD j S3)) _ _ _
   rw [aba]
   have e:ltB ds i j=(cW (cP ds i) (cP ds j)).getD false:=rfl
   rw [e] at cc
   generalize cP ds i=di at ai r1 cc
   generalize cP ds j=dj at aj r2 cc
   generalize vs.getD i V.non=wi at r1 v1
   generalize vs.getD j V.non=wj at r2 v2
   cases di with
   | int a=>
    cases dj with
    | int b=>
     cases r1;cases r2
     obtain ⟨t1,q1⟩:=v1
     obtain ⟨t2,q2⟩:=v2
     rw [q1,q2]
     refine ab7 ?_
     unfold cW at cc
     exact cc
    | _=>cases aj
   | _=>cases ai
  ·have e1:iA (ltB ds) RM=(aZ (ltB ds) (UT ds.length)).toList.map λi=>RM.getD i S3:=by unfold iA;rw [l2,l1]
   rw [e1]
   refine fin _ _ ?_ (nD r' _ λi hi=>l2▸ib i hi) ?_
   ·rw [R3,<-l2]
    have:=((eG (n:=ds.length) (by omega)).run (ltB ds):eF _ _).size_eq
    simpa using this
   ·intro J rj
    unfold aQ
    rw [if_neg h2]
    exact ny rj _ ib
noncomputable def mW:List R->M R
 | [r]=>jC r >>= λxs=>if oQ xs=true then .ok (.l .fresh (aQ xs)) else if qY xs=true then .ok (.l .fresh (aQ xs)) else .bad
 | _=>.bad
theorem bT.or {f:RX}{r1 r2:List V->Hp->VK->Prop}(h1:bT X f r1) (h2:bT X f r2):bT X f (λxs H Q=>r1 xs H Q\/r2 xs H Q):=λRL s σ H xs us Q I rv h=>h.elim (h1 RL s σ H xs us Q I rv) (h2 RL s σ H xs us Q I rv)
theorem vO {p:Pos}{gs:G (List R)}(hu:X.A.units + 64 < Uh) (ha:jg X c (e::es) gs) (hm:X.mg "sorted"=none) (hK:X.K=c.K:=by rfl) (hg:Gl X "sorted":=by rfl)
  (he:R_ (e::es) X.env=(false,eval e X.env)::R_ es X.env:=by rfl) (hpl:(Us pos (R_ es X.env)).any (·.1)=false:=by rfl):QD X c (.Call (.Name "sorted" p) (e::es) [] pos) (gN mW gs):=have ha:=ha.h;⟨
 gG (bT.or (o_ hu) ym) (by
  intro He J H xs vs Q hp rs w
  unfold mW at w
  split at w
  ·obtain ⟨v,rfl,r⟩:=rs.one
   obtain ⟨xs,q,w⟩:=kC w
   obtain ⟨p,vs,rfl,h1,h2⟩:=RR.list hp r q
   rw [hK]
   split at w
   ·rename_i ok
    exact .inl ⟨p,vs,xs,rfl,h1,h2.mono hp.sub,ok,λl vs' hl rr=>w _ _ _ (Ext.new hp.sub hl _) (ia hp hl (rr _ h2))⟩
   ·split at w
    ·rename_i ok
     exact .inr ⟨p,vs,xs,rfl,h1,h2.mono hp.sub,ok,λl vs' hl rr=>w _ _ _ (Ext.new hp.sub hl _) (ia hp hl (rr _ h2))⟩
    ·exact w.elim
  ·exact w.elim) iY hm ha hg (by decide) (by decide) he hpl⟩
end
end DL
namespace DL
open PySem PySem.Spec PyProof.Rows L2 DX
section
variable {X:Cx}{c:C}{e:SM}{es:List SM}{pos:Pos}
theorem any_range (ks:List Bool):(R7 ks.length).any (λi=>ks.getD i false)=ks.any id:=by
 induction ks with
 | nil=>rfl
 | cons k r ih=>
  rw [Tq,Wz,W8,Xv,W8]
  simp only [Zo]
  rw [<-ih]
  rfl
theorem DF (hc:X.calm=true):bT X (.builtin "any") (λxs H Q=>∃(p:Se) (ks:List Bool),xs=[.ref p]/\cH X.K H p (ks.map V.bl)/\Q (.bl (ks.any id)) H):=by
 intro RL s σ H xs us Q I r h
 obtain ⟨p,ks,rfl,hq,q⟩:=h
 obtain ⟨u,rfl,rx⟩:=vals1 r
 cases rx
 obtain ⟨RM,r',pl,hz⟩:=I.list hq
 have hi:=rY r'
 subst hi
 have Q9:p≠s.heap.objs.size:=by
  obtain ⟨o,h1,_⟩:=pl.isList
  exact Sv (Si h1)
 refine call_any_walk (XR pl.isList ⟨s.heap.objs.size,_,_,_,_,_,(λi=>ks.getD i false),rfl,acN (A:=X.A.in1) (show X.A.in1.handled=none from I.ok.hd hc) s.heap.objs.size p Q9 (ks.map Vm).toArray,⟨⟨_,Sd _ rfl,rfl,rfl⟩,aat pl.isList _⟩,?_,λh' tk k=>?_⟩)
 ·intro i v s' Q' E' hP hQ
  have e:∃k,ks[i]?=some k/\v=.bool k:=by
   have hP':(ks.map Vm)[i]?=some v:=by simpa using hP
   rw [Ss] at hP'
   cases z:ks[i]? with
   | none=>rw [z] at hP';cases hP'
   | some k=>rw [z] at hP';cases hP';exact ⟨k,rfl,rfl⟩
  obtain ⟨k,e1,rfl⟩:=e
  simp only at hQ
  rw [S9,e1] at hQ
  exact Tt hQ
 ·have sz:(ks.map Vm).toArray.size=ks.length:=by simp
  rw [sz,any_range]
  refine ⟨.bl (ks.any id),H,?_,rfl,q⟩
  refine I.kept λb o e=>k b o (λz=>?_) (R5 _ e)
  have:b=s.heap.objs.size:=by simpa using z
  exact absurd (this▸Si e) (UB _)
noncomputable def yz:List R->M R
 | [r]=>jC r >>= λxs=>match jw xs with
  | some ks=>.ok (.d (.bl (ks.any id)))
  | none=>.bad
 | _=>.bad
theorem DA:Tj "any"=some (.builtin "any"):=by decide +kernel
theorem JY {p:Pos}{gs:G (List R)}(ha:jg X c (e::es) gs) (hm:X.mg "any"=none) (hK:X.K=c.K:=by rfl) (hc:X.calm=true:=by rfl) (hg:Gl X "any":=by rfl)
  (he:R_ (e::es) X.env=(false,eval e X.env)::R_ es X.env:=by rfl) (hpl:(Us pos (R_ es X.env)).any (·.1)=false:=by rfl):QD X c (.Call (.Name "any" p) (e::es) [] pos) (gN yz gs):=have ha:=ha.h;⟨
 gG (DF hc) (by
  intro He J H xs vs Q hp rs w
  unfold yz at w
  split at w
  ·obtain ⟨v,rfl,r⟩:=rs.one
   obtain ⟨xs,q,w⟩:=kC w
   obtain ⟨p,vs,rfl,h1,h2⟩:=RR.list hp r q
   split at w
   ·rename_i ks z
    have:=o9 z h2
    subst this
    exact ⟨p,ks,rfl,by rw [hK];exact h1,w _ J H (Ext.refl hp.sub) (.bl _)⟩
   ·exact w.elim
  ·exact w.elim) DA hm ha hg (by decide) (by decide) he hpl⟩
end
end DL
namespace ST
open PySem PySem.SetTable
theorem uK (xs:Array Nat) (j:Nat) (hs:xs.toList.Pairwise (· < ·)):∀(f lo hi:Nat),hi<=xs.size->lo<=hi->hi - lo<=f->(∀i,i < lo->xs.getD i 0 < j)->(∀i,hi<=i->i < xs.size->j<=xs.getD i 0)->
  below.go xs j f lo hi<=xs.size/\(∀i,i < below.go xs j f lo hi->xs.getD i 0 < j)/\∀i,below.go xs j f lo hi<=i->i < xs.size->j<=xs.getD i 0
 | 0,lo,hi,h1,h2,h3,h4,h5=>by
  have:lo=hi:=by omega
  subst this
  exact ⟨h1,h4,h5⟩
 | f + 1,lo,hi,h1,h2,h3,h4,h5=>by
  have mono:∀a b,a<=b->b < xs.size->xs.getD a 0<=xs.getD b 0:=λa b hab hb=>by
   rcases ZM hab with h | h
   ·have:=TY.mp hs a b (by simpa using VM h hb) (by simpa using hb) h
    simp [Ux,VM h hb,hb] at this ⊢
    omega
   ·rw [h];exact R6 _
  unfold below.go
  by_cases c:lo < hi
  ·rw [if_pos c]
   have hm:(lo + hi) / 2 < xs.size:=by omega
   have e:xs.getD ((lo + hi) / 2) j=xs.getD ((lo + hi) / 2) 0:=by simp [Ux,hm]
   by_cases d:xs.getD ((lo + hi) / 2) j < j
   ·simp only [d,if_true]
    rw [e] at d
    exact uK xs j hs f _ hi h1 (by omega) (by omega) (λi hi'=>ZK (mono i ((lo + hi) / 2) (by omega) hm) d) h5
   ·simp only [d,if_false]
    rw [e] at d
    exact uK xs j hs f lo _ (by omega) (by omega) (by omega) h4 (λi hi' hs'=>SJ (by omega) (mono ((lo + hi) / 2) i hi' hs'))
  ·rw [if_neg c]
   have:lo=hi:=by omega
   subst this
   exact ⟨h1,h4,h5⟩
theorem nK (xs:Array Nat) (j:Nat) (hs:xs.toList.Pairwise (· < ·)):below xs j<=xs.size/\(∀i,i < below xs j->xs.getD i 0 < j)/\∀i,below xs j<=i->i < xs.size->j<=xs.getD i 0:=
 uK xs j hs xs.size 0 xs.size (R6 _) (SG _) (by omega) (λi h=>absurd h (Tr _)) (λi h1 h2=>by omega)
theorem below_at {xs:Array Nat}{i j:Nat}(hs:xs.toList.Pairwise (· < ·)) (h:xs[i]?=some j):below xs j=i:=by
 obtain ⟨hi,e⟩:=Tn.mp h
 obtain ⟨b1,b2,b3⟩:=nK xs j hs
 have g:xs.getD i 0=j:=by simp [Ux,hi,e]
 rcases VU (below xs j) i with c | c | c
 ·have h1:=b3 (below xs j) (R6 _) (by omega)
  have:=TY.mp hs (below xs j) i (by simpa using VM c hi) (by simpa using hi) c
  simp [Ux,VM c hi] at h1
  simp at this
  omega
 ·exact c
 ·have:=b2 i c
  omega
theorem qc {t:Te}{i j:Nat}(hs:t.place.toList.Pairwise (· < ·)) (h:t.place[i]?=some j):t.slot j=.live i:=by
 unfold slot
 rw [below_at hs h]
 show (if (t.place[i]? == some j)=true then Slot.live i else _)=_
 rw [h]
 simp
theorem t9 {t:Te}{j:Nat}(hd:t.dummies=#[]) (h:j∉t.place.toList):t.slot j=.empty:=by
 unfold slot
 have h1:(t.place[below t.place j]? == some j)=false:=by
  rw [beq_eq_false_iff_ne]
  intro z
  exact h (by
   obtain ⟨hi,e⟩:=Tn.mp z
   rw [<-e]
   simp)
 have h2:has t.dummies j=false:=by rw [hd];rfl
 simp only [h1,h2,Sk,if_false]
noncomputable def st (mask:Nat) (h:Int):Nat->Probe
 | 0=>({mask:=mask,place:=#[],dummies:=#[],finger:=0,led:=true,moves:=0,plain:=true}:Te).probeStart h
 | n + 1=>({mask:=mask,place:=#[],dummies:=#[],finger:=0,led:=true,moves:=0,plain:=true}:Te).advance (st mask h n)
abbrev pos (mask:Nat) (h:Int) (n:Nat):Nat:=(st mask h n).j
theorem oA (mask:Nat) (h:Int):∀n,(st mask h n).dummy=none
 | 0=>rfl
 | n + 1=>by
  unfold st advance
  split
  ·exact oA mask h n
  ·exact oA mask h n
noncomputable def tn (mask:Nat) (h:Int):Nat->Nat×Nat
 | 0=>(bits h % (mask + 1),bits h)
 | k + 1=>leap mask (tn mask h k).1 (tn mask h k).2
theorem v5 (mask:Nat) (h:Int):∀(m n:Nat) (i p j:Nat),st mask h n={j:=j,more:=m,i:=i,perturb:=p,dummy:=none}->st mask h (n + m)={j:=j + m,more:=0,i:=i,perturb:=p,dummy:=none}
 | 0,n,i,p,j,e=>e
 | m + 1,n,i,p,j,e=>by
  have e1:st mask h (n + 1)={j:=j + 1,more:=m,i:=i,perturb:=p,dummy:=none}:=by
   show advance _ (st mask h n)=_
   rw [e]
   unfold advance
   simp
  have:=v5 mask h m (n + 1) i p (j + 1) e1
  rw [show n + (m + 1)=n + 1 + m by omega,this]
  congr 1;omega
theorem Bx (mask:Nat) (h:Int):∀k,∃n,n<=10 * k/\st mask h n={j:=(tn mask h k).1,more:=runEnd mask (tn mask h k).1 - (tn mask h k).1,i:=(tn mask h k).1,perturb:=(tn mask h k).2,dummy:=none}
 | 0=>⟨0,R6 _,rfl⟩
 | k + 1=>by
  obtain ⟨n,hn,e⟩:=Bx mask h k
  have hm:runEnd mask (tn mask h k).1 - (tn mask h k).1<=9:=by unfold runEnd;split <;> omega
  have:=v5 mask h _ n _ _ _ e
  refine ⟨n + (runEnd mask (tn mask h k).1 - (tn mask h k).1) + 1,by omega,?_⟩
  show advance _ (st mask h (n + (runEnd mask (tn mask h k).1 - (tn mask h k).1)))=_
  rw [this]
  unfold advance
  simp
  exact ⟨rfl,rfl,rfl,rfl⟩
theorem ud (mask:Nat) (h:Int):∀k,(tn mask h k).2=bits h / 32 ^ k
 | 0=>by simp [tn]
 | k + 1=>by
  show (tn mask h k).2 / 32=_
  rw [ud mask h k,YB,YN]
theorem II (h:Int):bits h < 2 ^ 64:=by
 unfold bits
 have:=Vb h (b:=2 ^ 64) (by decide)
 omega
def Eo (mask i:Nat):Nat:=(i * 5 + 1) % (mask + 1)
noncomputable def gX (mask:Nat):Nat->Nat->Nat
 | 0,i=>i
 | r + 1,i=>Eo mask (gX mask r i)
theorem zO (mask:Nat) (h:Int):∀r,(tn mask h (12 + r)).1=gX mask r (tn mask h 12).1
 | 0=>rfl
 | r + 1=>by
  show (leap mask (tn mask h (12 + r)).1 (tn mask h (12 + r)).2).1=Eo mask (gX mask r (tn mask h 12).1)
  rw [<-zO mask h r,ud]
  unfold leap Eo
  have:bits h / 32 ^ (12 + r) / 32=0:=by
   rw [YB,<-YN]
   refine Nat.div_eq_of_lt (Sx (II h) ?_)
   refine SJ (show 2 ^ 64<=32 ^ 13 by decide) (Vl (by decide) (by omega))
  rw [this]
theorem OC:∀i:Fin 8,∀j:Fin 8,(R7 8).any (λr=>gX 7 r i.val == j.val)=true:=by decide +kernel
theorem Nq:∀i:Fin 32,∀j:Fin 32,(R7 32).any (λr=>gX 31 r i.val == j.val)=true:=by decide +kernel
def Lh:List Nat:=(R7 128).map λr=>gX 127 r 0
theorem AS:∀j:Fin 128,Lh.contains j.val=true:=by decide +kernel
theorem IP:gX 127 128 0=0:=by decide +kernel
theorem nY (mask:Nat):∀a b i,gX mask (a + b) i=gX mask a (gX mask b i)
 | 0,b,i=>by rw [YO];rfl
 | a + 1,b,i=>by
  rw [show a + 1 + b=(a + b) + 1 by omega]
  show Eo mask (gX mask (a + b) i)=Eo mask (gX mask a (gX mask b i))
  rw [nY mask a b i]
def lI (mask:Nat):Prop:=mask=7\/mask=31\/mask=127
theorem DV {mask:Nat}(hm:lI mask) (i j:Nat) (hi:i<=mask) (hj:j<=mask):∃r,r<=mask/\gX mask r i=j:=by
 rcases hm with rfl | rfl | rfl
 ·have:=OC ⟨i,by omega⟩ ⟨j,by omega⟩
  rw [UN] at this
  obtain ⟨r,h1,h2⟩:=this
  exact ⟨r,by have:=Sq.mp h1;omega,by simpa using h2⟩
 ·have:=Nq ⟨i,by omega⟩ ⟨j,by omega⟩
  rw [UN] at this
  obtain ⟨r,h1,h2⟩:=this
  exact ⟨r,by have:=Sq.mp h1;omega,by simpa using h2⟩
 ·have hi':=AS ⟨i,by omega⟩
  have hj':=AS ⟨j,by omega⟩
  rw [List.contains_iff_mem] at hi' hj'
  obtain ⟨a,ha,ea⟩:=R4.mp hi'
  obtain ⟨b,hb,eb⟩:=R4.mp hj'
  have ha:=Sq.mp ha
  have hb:=Sq.mp hb
  have ea:gX 127 a 0=i:=ea
  have eb:gX 127 b 0=j:=eb
  by_cases c:a<=b
  ·refine ⟨b - a,by omega,?_⟩
   rw [<-ea,<-nY,show b - a + a=b by omega]
   exact eb
  ·refine ⟨128 + b - a,by omega,?_⟩
   rw [<-ea,<-nY,show 128 + b - a + a=b + 128 by omega,nY,IP]
   exact eb
theorem CY (mask:Nat) (h:Int) (k:Nat):(tn mask h k).1<=mask:=by
 cases k with
 | zero=>exact WG (XY _ (by omega))
 | succ k=>exact WG (XY _ (by omega))
theorem visits {mask:Nat}(hm:lI mask) (h:Int) (j:Nat) (hj:j<=mask):∃n,n<=10 * (mask + 12)/\pos mask h n=j:=by
 obtain ⟨r,hr,e⟩:=DV hm (tn mask h 12).1 j (CY mask h 12) hj
 obtain ⟨n,hn,q⟩:=Bx mask h (12 + r)
 refine ⟨n,by omega,?_⟩
 show (st mask h n).j=j
 rw [q]
 show (tn mask h (12 + r)).1=j
 rw [zO,e]
theorem sP {mask:Nat}(hm:lI mask) (h:Int) (P:List Nat) (hP:P.length<=mask):∃n,n<=10 * (mask + 12)/\pos mask h n∉P/\∀m,m < n->pos mask h m∈P:=by
 have ex:∃j,j<=mask/\j∉P:=by
  by_cases c:∀j,j<=mask->j∈P
  ·exfalso
   have:(R7 (mask + 1)).length<=P.length:=SS U7 λj hj=>c j (by have:=Sq.mp hj;omega)
   rw [Uz] at this
   omega
  ·exact UE λz=>c λj hj=>UE λy=>z ⟨j,hj,y⟩
 obtain ⟨j,hj,hn⟩:=ex
 obtain ⟨n,hn1,hn2⟩:=visits hm h j hj
 have key:∀k,k<=n->(∃m,m<=k/\pos mask h m∉P/\∀m',m' < m->pos mask h m'∈P)\/∀m,m<=k->pos mask h m∈P:=by
  intro k
  induction k with
  | zero=>
   intro _
   by_cases c:pos mask h 0∈P
   ·exact .inr λm hm=>by rw [show m=0 by omega];exact c
   ·exact .inl ⟨0,R6 _,c,λm' h'=>absurd h' (Tr _)⟩
  | succ k ih=>
   intro hk
   rcases ih (by omega) with ⟨m,h1,h2⟩ | h1
   ·exact .inl ⟨m,by omega,h2⟩
   ·by_cases c:pos mask h (k + 1)∈P
    ·exact .inr λm hm=>by
      by_cases d:m<=k
      ·exact h1 m d
      ·rw [show m=k + 1 by omega];exact c
    ·exact .inl ⟨k + 1,R6 _,c,λm' h'=>h1 m' (by omega)⟩
 rcases key n (R6 _) with ⟨m,h1,h2,h3⟩ | h1
 ·exact ⟨m,by omega,h2,h3⟩
 ·exact absurd (h1 n (R6 _)) (by rw [hn2];exact hn)
def Reach (mask:Nat) (P:List Nat) (h:Int) (j:Nat):Prop:=∃n,pos mask h n=j/\∀m,m < n->pos mask h m∈P
theorem Reach.mono {mask:Nat}{P P':List Nat}{h:Int}{j:Nat}(r:Reach mask P h j) (s:∀x∈P,x∈P'):Reach mask P' h j:=
 let ⟨n,h1,h2⟩:=r;⟨n,h1,λm hm=>s _ (h2 m hm)⟩
structure Tab (t:Te) (es:Array (Int×RX)) (L:List (Nat×Int×RX)):Prop where
 dm:t.dummies=#[]
 pl:t.place.toList=L.map (·.1)
 en:es.toList=L.map (·.2)
 so:(L.map (·.1)).Pairwise (· < ·)
 bd:∀e∈L,e.1<=t.mask
 mo:lI t.mask
 fl:L.length<=t.mask
 pr:∀e∈L,Reach t.mask (L.map (·.1)) e.2.1 e.1
section
variable {t:Te}{es:Array (Int×RX)}{L:List (Nat×Int×RX)}
theorem Tab.at_ (T:Tab t es L){i:Nat}{e:Nat×Int×RX}(h:L[i]?=some e):t.place[i]?=some e.1/\es[i]?=some e.2:=by
 constructor
 ·rw [<-TH,T.pl,Ss,h];rfl
 ·rw [<-TH,T.en,Ss,h];rfl
theorem Tab.sop (T:Tab t es L):t.place.toList.Pairwise (· < ·):=by rw [T.pl];exact T.so
theorem zc (T:Tab t es L) (hashAt:Nat->Int) (hA:∀i e,es[i]?=some e->hashAt i=e.1) (h:Int) (n0:Nat) (hf:pos t.mask h n0∉L.map (·.1)) (hb:∀m,m < n0->pos t.mask h m∈L.map (·.1)):
  ∀(d n F:Nat),n0 - n=d->n<=n0->d < F->∃m,n<=m/\m<=n0/\(∀k,n<=k->k < m->∀e∈L,e.1=pos t.mask h k->e.2.1≠h)/\
   ((m=n0/\probe.go t hashAt h F (st t.mask h n)=some (.empty (pos t.mask h n0) none))\/(m < n0/\∃i e,L[i]?=some e/\e.1=pos t.mask h m/\e.2.1=h/\probe.go t hashAt h F (st t.mask h n)=some (.candidate (pos t.mask h m) i (st t.mask h (m + 1)))))
 | d,n,0,_,_,h=>absurd h (Tr _)
 | d,n,F + 1,hd,hn,hF=>by
  by_cases c:n=n0
  ·subst c
   refine ⟨n,R6 _,R6 _,λk h1 h2=>by omega,.inl ⟨rfl,?_⟩⟩
   unfold probe.go
   rw [t9 T.dm (by rw [T.pl];exact hf)]
   show some (Met.empty _ (st t.mask h n).dummy)=_
   rw [oA]
  ·obtain ⟨e,he,ej⟩:=R4.mp (hb n (by omega))
   obtain ⟨i,hi,rfl⟩:=UQ.mp he
   have hL:L[i]?=some L[i]:=Sg hi
   obtain ⟨p1,p2⟩:=T.at_ hL
   have hs:t.slot (pos t.mask h n)=.live i:=qc T.sop (by rw [p1,ej])
   have hh:=hA i _ p2
   have uniq:∀e∈L,e.1=pos t.mask h n->e=L[i]:=λe he q=>by
    obtain ⟨k,hk,rfl⟩:=UQ.mp he
    have:k=i:=by
     have sw:=TY.mp T.so
     rcases VU k i with c | c | c
     ·have:=sw k i (by simpa using hk) (by simpa using hi) c
      simp at this
      omega
     ·exact c
     ·have:=sw i k (by simpa using hi) (by simpa using hk) c
      simp at this
      omega
    subst this;rfl
   by_cases q:L[i].2.1=h
   ·refine ⟨n,R6 _,by omega,λk h1 h2=>by omega,.inr ⟨by omega,i,L[i],hL,ej,q,?_⟩⟩
    unfold probe.go
    rw [hs]
    show (if (hashAt i == h)=true then _ else _)=_
    rw [hh,q,if_pos (by simp)]
    rfl
   ·obtain ⟨m,m1,m2,m3,m4⟩:=zc T hashAt hA h n0 hf hb (n0 - (n + 1)) (n + 1) F rfl (by omega) (by omega)
    have eg:probe.go t hashAt h (F + 1) (st t.mask h n)=probe.go t hashAt h F (st t.mask h (n + 1)):=by
     rw [probe.go,hs]
     show (if (hashAt i == h)=true then _ else _)=_
     rw [hh,if_neg (by simpa using q)]
     rfl
    rw [eg]
    refine ⟨m,by omega,m2,λk h1 h2 e he' ek=>?_,m4⟩
    by_cases z:k=n
    ·subst z
     rw [uniq e he' ek];exact q
    ·exact m3 k (by omega) h2 e he' ek
theorem oK {α:Type}(xs:Array α) (p:Nat) (x:α) (hp:p<=xs.size):(insertAt xs p x).toList=xs.toList.take p++x::xs.toList.drop p:=by
 unfold insertAt
 simp
 (exact YC (by simp))
theorem Tab.put (T:Tab t es L) (h:Int) (x:RX) (n0:Nat) (hf:pos t.mask h n0∉L.map (·.1)) (hb:∀m,m < n0->pos t.mask h m∈L.map (·.1)) (hj:pos t.mask h n0<=t.mask) (hl:L.length + 1<=t.mask):
  ∃L',Tab (t.put (pos t.mask h n0)).1 (insertAt es (t.put (pos t.mask h n0)).2 (h,x)) L'/\L'.Perm ((pos t.mask h n0,h,x)::L):=by
 obtain ⟨b1,b2,b3⟩:=nK t.place (pos t.mask h n0) T.sop
 generalize hp:below t.place (pos t.mask h n0)=p at b1 b2 b3
 have hsz:t.place.size=L.length:=by rw [<-Sa,T.pl,R3]
 have hes:es.size=L.length:=by rw [<-Sa,T.en,R3]
 have perm:(L.take p++(pos t.mask h n0,h,x)::L.drop p).Perm ((pos t.mask h n0,h,x)::L):=by
  have:=Yv (a:=(pos t.mask h n0,h,x)) (l₁:=L.take p) (l₂:=L.drop p)
  rwa [VP] at this
 have e1:(t.put (pos t.mask h n0))=({t with place:=insertAt t.place p (pos t.mask h n0),dummies:=#[]},p):=by
  unfold SetTable.put
  rw [hp,T.dm]
  rfl
 rw [e1]
 have getP:∀i (hi:i < L.length),t.place.getD i 0=L[i].1:=λi hi=>by
  have:=(T.at_ (Sg hi)).1
  have hi':i < t.place.size:=by omega
  simp [Ux,hi']
  rw [Vi hi'] at this
  exact Tp this
 refine ⟨L.take p++(pos t.mask h n0,h,x)::L.drop p,⟨rfl,?_,?_,?_,λe he=>?_,T.mo,?_,λe he=>?_⟩,perm⟩
 ·show (insertAt t.place p (pos t.mask h n0)).toList=_
  rw [oK _ _ _ b1,T.pl]
  simp [W9,W_]
 ·show (insertAt es p (h,x)).toList=_
  rw [oK _ _ _ (by omega),T.en]
  simp [W9,W_]
 ·rw [SA,Sj,Uq]
  refine ⟨?_,?_,?_⟩
  ·rw [W9]
   exact T.so.sublist (ZX _ _)
  ·rw [Uk]
   refine ⟨λa ha=>?_,?_⟩
   ·obtain ⟨e,he,rfl⟩:=R4.mp ha
    obtain ⟨i,hi,rfl⟩:=UQ.mp he
    rw [aaa]
    rw [VD] at hi
    have:=b3 (p + i) (by omega) (by omega)
    rw [getP _ (by omega)] at this
    rcases ZM this with c | c
    ·exact c
    ·exact absurd (R4.mpr ⟨L[p + i],T7 _,c.symm⟩) hf
   ·rw [W_]
    exact T.so.sublist (List.drop_sublist _ _)
  ·intro a ha b hb
   obtain ⟨e,he,rfl⟩:=R4.mp ha
   obtain ⟨i,hi,rfl⟩:=UQ.mp he
   rw [List.getElem_take]
   rw [UM] at hi
   have h1:=b2 i (by omega)
   rw [getP _ (by omega)] at h1
   (rcases Sh.mp hb with rfl | hb)
   ·exact h1
   ·obtain ⟨e,he,rfl⟩:=R4.mp hb
    obtain ⟨k,hk,rfl⟩:=UQ.mp he
    rw [aaa]
    rw [VD] at hk
    have:=b3 (p + k) (by omega) (by omega)
    rw [getP _ (by omega)] at this
    omega
 ·rcases Sh.mp (perm.mem_iff.mp he) with rfl | he
  ·exact hj
  ·exact T.bd e he
 ·rw [perm.length_eq];exact hl
 ·have sub:∀y∈L.map (·.1),y∈(L.take p++(pos t.mask h n0,h,x)::L.drop p).map (·.1):=λy hy=>by
   obtain ⟨e,he,rfl⟩:=R4.mp hy
   exact R4.mpr ⟨e,perm.mem_iff.mpr (R0 _ he),rfl⟩
  rcases Sh.mp (perm.mem_iff.mp he) with rfl | he
  ·exact ⟨n0,rfl,λm hm=>sub _ (hb m hm)⟩
  ·exact (T.pr e he).mono sub
end
theorem nA (mask:Nat) (h:Int) (n i p m:Nat) (e:st mask h n={j:=i,more:=m,i:=i,perturb:=p,dummy:=none}):∀r,r<=m->st mask h (n + r)={j:=i + r,more:=m - r,i:=i,perturb:=p,dummy:=none}
 | 0,_=>e
 | r + 1,hr=>by
  show advance _ (st mask h (n + r))=_
  rw [nA mask h n i p m e r (by omega)]
  unfold advance
  rw [if_pos (by show m - r > 0;omega)]
  show Probe.mk _ _ _ _ _=_
  congr 1
theorem Fb (mask:Nat) (h:Int) (k n:Nat) (e:st mask h n={j:=(tn mask h k).1,more:=runEnd mask (tn mask h k).1 - (tn mask h k).1,i:=(tn mask h k).1,perturb:=(tn mask h k).2,dummy:=none}):
  st mask h (n + (runEnd mask (tn mask h k).1 - (tn mask h k).1) + 1)={j:=(tn mask h (k + 1)).1,more:=runEnd mask (tn mask h (k + 1)).1 - (tn mask h (k + 1)).1,i:=(tn mask h (k + 1)).1,perturb:=(tn mask h (k + 1)).2,dummy:=none}:=by
 show advance _ (st mask h (n + (runEnd mask (tn mask h k).1 - (tn mask h k).1)))=_
 rw [nA mask h n _ _ _ e _ (R6 _)]
 unfold advance
 simp
 exact ⟨rfl,rfl,rfl,rfl⟩
theorem vt (mask:Nat) (h:Int) (owner:Array (Option Nat)) (G:List Nat) (ho:∀j,j<=mask->((owner.getD j (some 0)).isNone=true↔j∉G)):
  ∀(f k n:Nat),st mask h n={j:=(tn mask h k).1,more:=runEnd mask (tn mask h k).1 - (tn mask h k).1,i:=(tn mask h k).1,perturb:=(tn mask h k).2,dummy:=none}->(∀m,m < n->pos mask h m∈G)->
   (∃n',layClean.free mask owner f (tn mask h k).1 (tn mask h k).2=some (pos mask h n')/\pos mask h n'<=mask/\pos mask h n'∉G/\∀m,m < n'->pos mask h m∈G)\/(layClean.free mask owner f (tn mask h k).1 (tn mask h k).2=none/\∀r,r < f->(tn mask h (k + r)).1∈G)
 | 0,k,n,e,hb=>.inr ⟨rfl,λr hr=>absurd hr (Tr _)⟩
 | f + 1,k,n,e,hb=>by
  have hi:=CY mask h k
  have re:runEnd mask (tn mask h k).1<=mask/\(tn mask h k).1<=runEnd mask (tn mask h k).1:=by unfold runEnd;split <;> omega
  unfold layClean.free
  cases q:(R7 (runEnd mask (tn mask h k).1 + 1 - (tn mask h k).1)).find? λr=>(owner.getD ((tn mask h k).1 + r) (some 0)).isNone with
  | some r=>
   have h1:=List.find?_some q
   have h2:=Sq.mp (List.mem_of_find?_eq_some q)
   have h3:pos mask h (n + r)=(tn mask h k).1 + r:=by
    show (st mask h (n + r)).j=_
    rw [nA mask h n _ _ _ e r (by omega)]
   refine .inl ⟨n + r,?_,?_,?_,?_⟩
   ·show some _=_
    rw [h3]
   ·rw [h3];omega
   ·rw [h3];exact (ho _ (by omega)).mp h1
   ·intro m hm
    by_cases c:m < n
    ·exact hb m c
    ·obtain ⟨s,rfl⟩:∃s,m=n + s:=⟨m - n,by omega⟩
     have h4:pos mask h (n + s)=(tn mask h k).1 + s:=by
      show (st mask h (n + s)).j=_
      rw [nA mask h n _ _ _ e s (by omega)]
     rw [h4]
     refine UE λz=>?_
     have z':=(ho ((tn mask h k).1 + s) (by omega)).mpr z
     rw [List.find?_eq_some_iff_append] at q
     obtain ⟨_,as,bs,eq,hall⟩:=q
     have hs:s∈as:=by
      have hlen:as.length=r:=by
       have hl:as.length < (R7 (runEnd mask (tn mask h k).1 + 1 - (tn mask h k).1)).length:=by rw [eq];simp
       have e3:(R7 (runEnd mask (tn mask h k).1 + 1 - (tn mask h k).1))[as.length]?=some r:=by rw [eq];simp
       rw [Uz] at hl
       rw [Wc hl] at e3
       exact Tp e3
      have e4:(R7 (runEnd mask (tn mask h k).1 + 1 - (tn mask h k).1))[s]?=some s:=Wc (by omega)
      rw [eq,UD (by omega)] at e4
      exact TV e4
     have:=hall s hs
     rw [z'] at this
     exact absurd this (by decide)
  | none=>
   have hall:=ZN.mp q
   have occ:∀s,s<=runEnd mask (tn mask h k).1 - (tn mask h k).1->(tn mask h k).1 + s∈G:=λs hs=>UE λz=>by
    have z':=(ho ((tn mask h k).1 + s) (by omega)).mpr z
    exact hall s (Sq.mpr (by omega)) z'
   have nb:∀m,m < n + (runEnd mask (tn mask h k).1 - (tn mask h k).1) + 1->pos mask h m∈G:=λm hm=>by
    by_cases c:m < n
    ·exact hb m c
    ·obtain ⟨s,rfl⟩:∃s,m=n + s:=⟨m - n,by omega⟩
     have h4:pos mask h (n + s)=(tn mask h k).1 + s:=by
      show (st mask h (n + s)).j=_
      rw [nA mask h n _ _ _ e s (by omega)]
     rw [h4]
     exact occ s (by omega)
   rcases vt mask h owner G ho f (k + 1) _ (Fb mask h k n e) nb with ⟨n',g1,g2',g3⟩ | ⟨g1,g2'⟩
   ·exact .inl ⟨n',g1,g2',g3⟩
   ·refine .inr ⟨g1,λr hr=>?_⟩
    cases r with
    | zero=>have:=occ 0 (SG _);exact this
    | succ r=>have:=g2' r (by omega);rwa [show k + (r + 1)=k + 1 + r by omega]
theorem Jc {mask:Nat}(hm:lI mask) (h:Int) (owner:Array (Option Nat)) (G:List Nat) (hG:G.length<=mask) (ho:∀j,j<=mask->((owner.getD j (some 0)).isNone=true↔j∉G)):
  ∃n',layClean.free mask owner (turns mask) (bits h % (mask + 1)) (bits h)=some (pos mask h n')/\pos mask h n'<=mask/\pos mask h n'∉G/\∀m,m < n'->pos mask h m∈G:=by
 rcases vt mask h owner G ho (turns mask) 0 0 rfl (λm hm=>absurd hm (Tr _)) with a | ⟨_,b⟩
 ·exact a
 ·exfalso
  have all:∀j,j<=mask->j∈G:=λj hj=>by
   obtain ⟨r,hr,e⟩:=DV hm (tn mask h 12).1 j (CY mask h 12) hj
   have:=b (12 + r) (by unfold turns;omega)
   rw [YO,zO,e] at this
   exact this
  have:(R7 (mask + 1)).length<=G.length:=SS U7 λj hj=>all j (by have:=Sq.mp hj;omega)
  rw [Uz] at this
  omega
structure Own (mask:Nat) (owner:Array (Option Nat)) (G:List Nat) (hs:List Int):Prop where
 sz:owner.size=mask + 1
 ln:G.length=hs.length
 nd:G.Nodup
 bd:∀j∈G,j<=mask
 at_:∀j,j<=mask->owner.getD j none=if j∈G then some (G.idxOf j) else none
 pr:∀k (h1:k < G.length) (h2:k < hs.length),Reach mask G hs[k] G[k]
theorem Own.occ {mask:Nat}{owner:Array (Option Nat)}{G:List Nat}{hs:List Int}(O:Own mask owner G hs):∀j,j<=mask->((owner.getD j (some 0)).isNone=true↔j∉G):=λj hj=>by
 have e:owner.getD j (some 0)=owner.getD j none:=by
  have:j < owner.size:=by rw [O.sz];omega
  simp [Ux,this]
 rw [e,O.at_ j hj]
 split <;> simp_all
theorem Own.step {mask:Nat}{owner:Array (Option Nat)}{G:List Nat}{hs:List Int}(O:Own mask owner G hs) (hm:lI mask) (hl:hs.length<=mask) (h:Int):
  ∃j,layClean.free mask owner (turns mask) (bits h % (mask + 1)) (bits h)=some j/\Own mask (owner.setIfInBounds j (some hs.length)) (G++[j]) (hs++[h]):=by
 obtain ⟨n',e,b,f,r⟩:=Jc hm h owner G (by rw [O.ln];exact hl) O.occ
 refine ⟨_,e,⟨by rw [Array.size_setIfInBounds,O.sz],by simp [O.ln],?_,λj hj=>?_,λj hj=>?_,λk h1 h2=>?_⟩⟩
 ·rw [WH]
  refine ⟨O.nd,by simp,λa ha b hb=>?_⟩
  rw [R9] at hb
  subst hb
  intro z;subst z;exact f ha
 ·rcases Sz.mp hj with h1 | h1
  ·exact O.bd j h1
  ·rw [R9.mp h1];exact b
 ·have hsz:j < owner.size:=by rw [O.sz];omega
  by_cases c:j=pos mask h n'
  ·subst c
   rw [if_pos (by simp)]
   simp [Ux,hsz]
   rw [aab,if_neg f]
   simp [O.ln]
  ·have e1:(owner.setIfInBounds (pos mask h n') (some hs.length)).getD j none=owner.getD j none:=by
    simp [Ux,hsz]
    rw [Array.getElem_setIfInBounds_ne]
    exact λz=>c z.symm
   rw [e1,O.at_ j hj]
   by_cases d:j∈G
   ·rw [if_pos d,if_pos (UP _ d),aab,if_pos d]
   ·rw [if_neg d,if_neg (by simp [d,c])]
 ·have sub:∀x∈G,x∈G++[pos mask h n']:=λx hx=>UP _ hx
  by_cases c:k < G.length
  ·have:=(O.pr k c (by rw [<-O.ln];exact c)).mono sub
   rw [XZ c,XZ (by rw [<-O.ln];exact c)]
   exact this
  ·have hk:k=G.length:=by simp at h1;omega
   subst hk
   have e1:(G++[pos mask h n'])[G.length]=pos mask h n':=by simp
   have e2:(hs++[h])[G.length]=h:=by simp [O.ln]
   rw [e1,e2]
   exact ⟨n',rfl,λm hm=>sub _ (r m hm)⟩
theorem yT {mask:Nat}(hm:lI mask):∀(rest hs:List Int) (owner:Array (Option Nat)) (G:List Nat),Own mask owner G hs->(hs++rest).length<=mask->∃owner' G',rest.foldl (λacc h=>do
  let (owner,k) <-acc
  let j <-layClean.free mask owner (turns mask) (bits h % (mask + 1)) (bits h)
  pure (owner.setIfInBounds j (some k),k + 1)) (some (owner,hs.length))=some (owner',(hs++rest).length)/\Own mask owner' G' (hs++rest)
 | [],hs,owner,G,O,_=>⟨owner,G,by simp,by simpa using O⟩
 | h::rest,hs,owner,G,O,hl=>by
  obtain ⟨j,e,O'⟩:=O.step hm (by simp at hl;omega) h
  obtain ⟨owner',G',e2,O2⟩:=yT hm rest (hs++[h]) _ _ O' (by simpa using hl)
  refine ⟨owner',G',?_,by simpa using O2⟩
  rw [VL]
  have e3:(do
   let (owner,k) <-some (owner,hs.length)
   let j <-layClean.free mask owner (turns mask) (bits h % (mask + 1)) (bits h)
   pure (owner.setIfInBounds j (some k),k + 1):Option (Array (Option Nat)×Nat))=some (owner.setIfInBounds j (some hs.length),(hs++[h]).length):=by
   show Option.bind (layClean.free mask owner (turns mask) (bits h % (mask + 1)) (bits h)) _=_
   rw [e]
   simp
  rw [e3]
  simpa using e2
theorem JF (mask:Nat):Own mask (Array.replicate (mask + 1) none) [] []:=
 ⟨by simp,rfl,Vg,λj h=>absurd h (by simp),λj hj=>by simp [Ux],λk h1=>absurd h1 (by simp)⟩
theorem En {mask:Nat}(hm:lI mask) (hs:Array Int) (hl:hs.size<=mask):∃owner G,layClean mask hs=some owner/\Own mask owner G hs.toList:=by
 obtain ⟨owner,G,e,O⟩:=yT hm hs.toList [] _ [] (JF mask) (by simpa using hl)
 refine ⟨owner,G,?_,by simpa using O⟩
 unfold layClean
 rw [<-Array.foldl_toList]
 have e':=congrArg (Option.map (·.1)) e
 exact e'
theorem Jr {t:Te}{es:Array (Int×RX)}{mask:Nat}(hm:lI mask) (finger moves:Nat) (led plain:Bool) (hl:es.size<=mask):
  ∃t' RT L',laid mask finger moves led plain (es.map (·.1))=some (t',RT)/\t'.mask=mask/\t'.led=led/\t'.plain=plain/\Tab t' (RT.filterMap (es[·]?)) L'/\(RT.filterMap (es[·]?)).toList.Perm es.toList:=by
 obtain ⟨owner,G,e,O⟩:=En hm (es.map (·.1)) (by simpa using hl)
 have hlen:G.length=es.size:=by rw [O.ln];simp
 (let live:=(R7 (mask + 1)).filterMap λj=>(owner.getD j none).map (j,·))
 have lv:∀p,p∈live↔p.1∈G/\p.2=G.idxOf p.1:=λp=>by
  show p∈(R7 (mask + 1)).filterMap _↔_
  rw [Wi]
  constructor
  ·rintro ⟨j,hj,q⟩
   have hj':j<=mask:=by have:=Sq.mp hj;omega
   rw [O.at_ j hj'] at q
   by_cases c:j∈G
   ·rw [if_pos c] at q
    have q:(j,G.idxOf j)=p:=by simpa using q
    subst q
    exact ⟨c,rfl⟩
   ·rw [if_neg c] at q;exact absurd q (by simp)
  ·rintro ⟨h1,h2⟩
   refine ⟨p.1,Sq.mpr (by have:=O.bd _ h1;omega),?_⟩
   rw [O.at_ _ (O.bd _ h1),if_pos h1]
   show some (p.1,G.idxOf p.1)=some p
   rw [<-h2]
 have so1:live.Pairwise λa b=>a.1 < b.1:=by
  show ((R7 (mask + 1)).filterMap _).Pairwise _
  rw [Yl]
  refine VH.imp ?_
  intro a b hab x hx y hy
  cases q1:owner.getD a none with
  | none=>rw [q1] at hx;exact absurd hx (by simp)
  | some k1=>cases q2:owner.getD b none with
   | none=>rw [q2] at hy;exact absurd hy (by simp)
   | some k2=>
    rw [q1] at hx;rw [q2] at hy
    have hx:(a,k1)=x:=by simpa using hx
    have hy:(b,k2)=y:=by simpa using hy
    subst hx;subst hy;exact hab
 have ord:(live.map (·.2)).Perm (R7 es.size):=by
  rw [Xr _ U7]
  ·intro k
   rw [R4,Sq]
   constructor
   ·rintro ⟨p,hp,rfl⟩
    obtain ⟨h1,h2⟩:=(lv p).mp hp
    rw [h2,<-hlen]
    exact Ti h1
   ·intro hk
    rw [<-hlen] at hk
    exact ⟨(G[k],k),(lv _).mpr ⟨T7 _,(O.nd.idxOf_getElem k hk).symm⟩,rfl⟩
  ·show (live.map (·.2)).Pairwise _
   rw [S_]
   refine (Vc.mp so1).imp ?_
   rintro a b ⟨ha,hb,hab⟩ z
   obtain ⟨a1,a2⟩:=(lv a).mp ha
   obtain ⟨b1,b2⟩:=(lv b).mp hb
   rw [a2,b2] at z
   have ga:=VI (Ti a1)
   have gb:=VI (Ti b1)
   have:a.1=b.1:=by
    rw [<-ga,<-gb]
    congr 1
   omega
 have inR:∀p∈live,∃h:p.2 < es.size,True:=λp hp=>by
  have:p.2∈live.map (·.2):=R4.mpr ⟨p,hp,rfl⟩
  exact ⟨Sq.mp (ord.mem_iff.mp this),trivial⟩
 let L':=live.map λp=>(p.1,es.getD p.2 default)
 have eL:(live.map (·.2)).toArray.filterMap (es[·]?)=(L'.map (·.2)).toArray:=by
  rw [List.filterMap_toArray]
  congr 1
  show abb _ (live.map _)=(live.map _).map _
  rw [ZA,Sw]
  have:∀(l:List (Nat×Nat)),(∀p∈l,p∈live)->abb ((λx=>es[x]?) ∘ λx=>x.snd) l=acI ((λx=>x.snd) ∘ λp=>(p.fst,es.getD p.snd default)) l:=by
   intro l
   induction l with
   | nil=>intro _;rfl
   | cons p l ih=>
    intro hl
    obtain ⟨hp,_⟩:=inR p (hl p (by simp))
    rw [List.filterMap_cons_some (b:=es.getD p.2 default)]
    ·rw [Sj,ih λq hq=>hl q (by simp [hq])]
     rfl
    ·show es[p.2]?=_
     simp [Ux,hp]
  exact this live λp hp=>hp
 have eP:L'.map (·.1)=live.map (·.1):=by
  show (live.map _).map _=_
  rw [Sw];rfl
 have memP:∀j,j∈live.map (·.1)↔j∈G:=λj=>by
  rw [R4]
  constructor
  ·rintro ⟨p,hp,rfl⟩;exact ((lv p).mp hp).1
  ·intro h;exact ⟨(j,G.idxOf j),(lv _).mpr ⟨h,rfl⟩,rfl⟩
 have lenL:L'.length=es.size:=by
  have:=ord.length_eq
  rw [R3,Uz] at this
  show (live.map _).length=_
  rw [R3,this]
 refine ⟨{mask,place:=(live.map (·.1)).toArray,dummies:=#[],finger,led,moves,plain},(live.map (·.2)).toArray,L',?_,rfl,rfl,rfl,⟨rfl,?_,?_,?_,λx hx=>?_,hm,?_,λx hx=>?_⟩,?_⟩
 ·unfold laid
  rw [e]
  rfl
 ·show (live.map (·.1)).toArray.toList=_
  rw [eP]
 ·rw [eL]
 ·rw [eP,S_];exact so1
 ·obtain ⟨p,hp,rfl⟩:=R4.mp hx
  exact O.bd _ ((lv p).mp hp).1
 ·show L'.length<=mask
  rw [lenL];exact hl
 ·obtain ⟨p,hp,rfl⟩:=R4.mp hx
  obtain ⟨h1,h2⟩:=(lv p).mp hp
  obtain ⟨hs,_⟩:=inR p hp
  have r:=O.pr p.2 (by omega) (by simpa using hs)
  have e1:G[p.2]'(by omega)=p.1:=by
   have:=VI (Ti h1)
   rw [<-this]
   congr 1
  have e2:((es.map (·.1)).toList[p.2]'(by simpa using hs))=(es.getD p.2 default).1:=by
   simp [Ux,hs]
  rw [e1,e2] at r
  show Reach mask (L'.map (·.1)) (es.getD p.2 default).1 p.1
  refine r.mono λy hy=>?_
  rw [eP]
  exact (memP y).mpr hy
 ·rw [eL]
  show (L'.map (·.2)).Perm es.toList
  have e1:(live.map (·.2)).map (λk=>es.getD k default)=L'.map (·.2):=by
   show _=(live.map _).map _
   rw [Sw,Sw];rfl
  rw [<-e1]
  refine (ord.map _).trans ?_
  have:(R7 es.size).map (λk=>es.getD k default)=es.toList:=by
   refine V9 (by simp) λi h1 h2=>?_
   simp at h1
   simp [Ux,h1]
  rw [this]
theorem vU {t:Te}{es:Array (Int×RX)}{w:Nat}(hm:lI (sizeAbove w - 1)) (hl:es.size<=sizeAbove w - 1):
  ∃t' RT L',t.relaid (es.map (·.1)) w=some (t',RT)/\t'.mask=sizeAbove w - 1/\t'.led=t.led/\t'.plain=t.plain/\Tab t' (RT.filterMap (es[·]?)) L'/\(RT.filterMap (es[·]?)).toList.Perm es.toList:=
 Jr (t:=t) hm t.finger (t.movedTo (sizeAbove w - 1)) t.led t.plain hl
end ST
namespace DL
open PySem PySem.Spec PyProof.Rows L2
mutual
noncomputable def jT:D->Nat
 | .int _=>1
 | .tup xs=>fj xs + 1
 | _=>0
noncomputable def fj:List D->Nat
 | []=>0
 | x::xs=>jT x + fj xs
end
theorem qO:∀{ds:List D},areKeys ds=true->∀d∈ds,isKey d=true
 | [],_,_,h=>nomatch h
 | x::xs,h,d,hm=>by
  unfold areKeys at h
  rw [R8] at h
  (rcases Sh.mp hm with rfl | hm)
  ·exact h.1
  ·exact qO h.2 d hm
mutual
theorem yS:∀{d e:D},isKey d=true->isKey e=true->bg d e=true->d=e
 | .int i,.int j,_,_,h=>by simp [bg] at h;rw [h]
 | .tup xs,.tup ys,hd,he,h=>by
  unfold isKey at hd he
  simp only [bg] at h
  rw [keys_eq hd he h]
 | .int _,.tup _,_,_,h=>by simp [bg] at h
 | .tup _,.int _,_,_,h=>by simp [bg] at h
theorem keys_eq:∀{ds es:List D},areKeys ds=true->areKeys es=true->cB ds es=true->ds=es
 | [],[],_,_,_=>rfl
 | x::xs,y::ys,hd,he,h=>by
  unfold areKeys at hd he
  rw [R8] at hd he
  simp only [cB,R8] at h
  rw [yS hd.1 he.1 h.1,keys_eq hd.2 he.2 h.2]
 | [],_::_,_,_,h=>by simp [cB] at h
 | _::_,[],_,_,h=>by simp [cB] at h
end
theorem uM {d e:D}(hd:isKey d=true) (he:isKey e=true):bg d e=true↔d=e:=⟨yS hd he,λh=>by rw [h];exact gy _⟩
theorem HF.keep {K:RV}{J:Hp}{s s':RZ}(F:HF K J s) (k:∀b o,s.heap.get? b=some o->s'.heap.get? b=some o):HF K J s':=
 ⟨λa xs h=>let ⟨RM,r,o,ho,p⟩:=F.t a xs h;⟨RM,r,o,k _ _ ho,p⟩,λa xs h=>let ⟨RM,r,o,ho,p⟩:=F.l a xs h;⟨RM,r,o,k _ _ ho,p⟩,λa h=>let ⟨o,ho,p⟩:=F.e a h;⟨o,k _ _ ho,p⟩,λa ep RS h=>let ⟨o,es,ho,p⟩:=F.d a ep RS h;⟨o,es,k _ _ ho,p⟩⟩
section
variable {prog:Sm}{w:SO}{E:RX->RZ->Prop}{K:RV}{J:Hp}
noncomputable def Dh (prog:Sm) (w:SO) (A:SW) (K:RV) (J:Hp) (d:D) (u:RX):Prop:=
 ∀(E:RX->RZ->Prop) (s:RZ) (Q:Int->RZ->Prop),HF K J s->Q (bU d) {s with toks:=s.toks + jT d}->So (Su prog w) A (pyHash u) Q E s
inductive j3 (prog:Sm) (w:SO) (A:SW) (K:RV) (J:Hp):List D->List RX->Prop
 | nil:j3 prog w A K J [] []
 | cons {d:D}{u:RX}{ds:List D}{us:List RX}:Dh prog w A K J d u->j3 prog w A K J ds us->j3 prog w A K J (d::ds) (u::us)
theorem tw:∀(a b:List D),cD (a++b)=cD a++cD b
 | [],b=>rfl
 | x::a,b=>by show bU x::cD (a++b)=_;rw [tw a b];rfl
theorem sI:∀(a b:List D),fj (a++b)=fj a + fj b
 | [],b=>by show fj b=0 + _;omega
 | x::a,b=>by show jT x + fj (a++b)=jT x + fj a + fj b;rw [sI a b];omega
theorem F_ {A:SW}{s:RZ}{a:Se}{o:Obj}{RM:List RX}{n:Nat}{ds:List D}{Q:Int->RZ->Prop}(N:HF K J s) (ho:s.heap.get? a=some o) (hc:o.cls=.type "tuple") (hd:o.data=.seq RM.toArray n) (hu:A.units < Uh)
  (hl:j3 prog w A.in1 K J ds RM) (h:Q (abr (Tv (cD ds))) {s with toks:=s.toks + (fj ds + 1)}):So (Su prog w) A (pyHash (.ref a)) Q E s:=by
 have hT:s.TypeIs (.ref a) "tuple":=⟨o,ho,hc⟩
 unfold pyHash
 (first | unfold pyHashByItsType | skip)
 (first | refine RU (wpAny_cRoomFor_or (.inr hu) ?_) | skip)
 (refine RU (VN hT VV.lookup ?_))
 (show So _ _ (if (some (Yg "tuple.__hash__") == some S3)=true then _ else _) Q E s)
 (rw [if_neg (by rw [beq_builtin_none];exact SN)])
 (refine RU (VN hT VV.lookup ?_))
 (show So _ _ (callSpecialIfBoundUnlessNone? (.ref a) "__hash__" _ >>= _) Q E s)
 (refine RU (wpAny_callSpecialIfBoundUnlessNone?_slot hT VV (S6 VV hT F.entry_tuple_hash ?_ (F.args_tuple_hash_1 _))))
 (show So _ _ (VZ (.ref a) >>= _) _ _ s)
 (refine RU (wpAny_tupleItemsOf ho hd ?_))
 refine RU ?_
 rw [<-Ws]
 refine U6 _
  (λrest (b:Array Int) s'=>∃done left,ds=done++left/\j3 prog w A.in1 K J left rest/\b.toList=cD done/\s'={s with toks:=s.toks + fj done})
  _ ?_ ?_ _ _ ⟨[],ds,rfl,hl,rfl,rfl⟩
 ·(rintro x rest b s' ⟨done,left,rfl,hl,hb,rfl⟩)
  cases hl with
  | @cons k _ ks' _ h1 hl'=>
   refine RU (h1 _ _ _ ⟨N.t,N.l,N.e,N.d⟩ ?_)
   have e1:(b.push (bU k)).toList=cD (done++[k]):=by rw [aac,tw,hb];rfl
   have e2:s.toks + fj done + jT k=s.toks + fj (done++[k]):=by rw [sI];show _=s.toks + (fj done + (jT k + 0));omega
   first
    | exact RY ⟨done++[k],ks',by simp,hl',e1,by rw [e2]⟩
    | exact RU (RY (RY ⟨done++[k],ks',by simp,hl',e1,by rw [e2]⟩))
 ·(rintro b s' ⟨done,left,rfl,hl,hb,rfl⟩)
  cases hl
  rw [UZ] at h
  (show So _ _ (retInt (Tv b.toList)) _ _ _)
  rw [hb]
  refine wpAny_ret_mkInt ?_
  show So _ _ (if (decide (-(2:Int) ^ 63<=Tv (cD done)) && decide (Tv (cD done) < 2 ^ 63))=true then _ else _) Q E _
  unfold abr at h
  by_cases hr:(decide (-(2:Int) ^ 63<=Tv (cD done)) && decide (Tv (cD done) < 2 ^ 63))=true
  ·rw [if_pos hr]
   rw [if_pos hr] at h
   (exact RY (by simpa [abO] using h))
  ·rw [if_neg hr]
   rw [if_neg hr] at h
   (exact RU (XS (RY (by simpa [abO] using h))))
mutual
theorem u7:∀(d:D) (v:V) (u:RX) (A:SW) (s:RZ),HF K J s->isKey d=true->Rep K J d v->RelV v u->A.units + dep d < Uh->Dh prog w A K J d u
 | .int i,v,u,A,s,N,hk,hr,rv,hu=>λE s' Q N' h=>by
  cases hr
  obtain ⟨t,rfl⟩:=rv
  exact Yo h
 | .tup ds,v,u,A,s,N,hk,hr,rv,hu=>λE s' Q N' h=>by
  cases hr with
  | tup h1 hs=>
   cases rv
   obtain ⟨RM,r,o,ho,hc,n,hd⟩:=N'.t _ _ h1
   exact F_ N' ho hc hd (by unfold dep at hu;omega) (zU ds _ _ A.in1 s N hk hs r (by rw [in1_units];unfold dep at hu;omega)) h
 | .non,v,u,A,s,N,hk,hr,rv,hu=>nomatch hk
 | .bl _,v,u,A,s,N,hk,hr,rv,hu=>nomatch hk
 | .str _,v,u,A,s,N,hk,hr,rv,hu=>nomatch hk
 | .lst _,v,u,A,s,N,hk,hr,rv,hu=>nomatch hk
 | .emp,v,u,A,s,N,hk,hr,rv,hu=>nomatch hk
 | .exn _ _ _,v,u,A,s,N,hk,hr,rv,hu=>nomatch hk
 | .dct _ _,v,u,A,s,N,hk,hr,rv,hu=>nomatch hk
theorem zU:∀(ds:List D) (vs:List V) (us:List RX) (A:SW) (s:RZ),HF K J s->areKeys ds=true->aH K J ds vs->Vals vs us->A.units + deps ds < Uh->j3 prog w A K J ds us
 | [],vs,us,A,s,N,hk,hr,rv,hu=>by
  cases hr;cases rv;exact .nil
 | d::ds,vs,us,A,s,N,hk,hr,rv,hu=>by
  unfold areKeys at hk
  rw [R8] at hk
  unfold deps at hu
  cases hr with
  | cons a b=>
   cases rv with
   | cons c e=>exact .cons (u7 d _ _ A s N hk.1 a c (by omega)) (zU ds _ _ A s N hk.2 b e (by omega))
end
end
def iy (K:RV) (J:Hp) (n:Nat) (u:RX):Prop:=∃d v,isKey d=true/\dep d<=n/\Rep K J d v/\RelV v u
section
variable {prog:Sm}{w:SO}{E:RX->RZ->Prop}{K:RV}{J:Hp}{A:SW}{s:RZ}
theorem yR {n:Nat}:∀{ds:List D}{vs:List V}{us:List RX},areKeys ds=true->deps ds<=n->aH K J ds vs->Vals vs us->∀u∈us,iy K J n u
 | _,_,_,_,_,.nil,.nil=>λu h=>nomatch h
 | d::ds,_,_,hk,hn,.cons a b,.cons c e=>λu h=>by
  unfold areKeys at hk
  rw [R8] at hk
  unfold deps at hn
  (rcases Sh.mp h with rfl | h)
  ·exact ⟨d,_,hk.1,by omega,a,c⟩
  ·exact yR hk.2 (by omega) b e u h
theorem iy.cases' {n:Nat}{u:RX}(N:HF K J s) (h:iy K J n u):(∃i t,u=.int i t)\/∃a o RM m k,u=.ref a/\s.heap.get? a=some o/\o.cls=.type "tuple"/\o.data=.seq RM m/\n=k + 1/\∀y∈RM.toList,iy K J k y:=by
 obtain ⟨d,v,hk,hn,hr,rv⟩:=h
 cases d with
 | int i=>
  cases hr
  obtain ⟨t,rfl⟩:=rv
  exact .inl ⟨_,_,rfl⟩
 | tup ds=>
  cases hr with
  | tup h1 hs=>
   cases rv
   obtain ⟨RM,r,o,ho,hc,m,hd⟩:=N.t _ _ h1
   unfold dep at hn
   obtain ⟨k,rfl⟩:∃k,n=k + 1:=⟨n - 1,by omega⟩
   exact .inr ⟨_,o,_,m,k,rfl,ho,hc,hd,rfl,yR hk (by omega) hs r⟩
 | _=>cases hk
theorem nv:∀(n:Nat){u:RX}{Q:Bool->RZ->Prop},HF K J s->iy K J n u->Q true s->So (Su prog w) A (eqIsQuiet n u) Q E s
 | n,u,Q,N,hk,h=>by
  rcases hk.cases' N with ⟨i,t,rfl⟩ | ⟨a,o,RM,m,k,rfl,ho,hc,hd,rfl,hi⟩
  ·rw [eqIsQuiet_byValue _ rfl]
   exact RY h
  ·have hT:s.TypeIs (.ref a) "tuple":=⟨o,ho,hc⟩
   unfold eqIsQuiet
   (refine RU (VN hT F.slot_tuple_eq.lookup ?_))
   (show So _ _ (abq (.ref a) (.type "tuple") >>= _) _ _ s)
   (refine RU (WY hT isSubtype_tuple_tuple ?_))
   (simp only [UR,Sk,if_false])
   (refine RU (Zh ho hd ?_))
   refine RU ?_
   show So _ _ (forIn RM _ _) _ _ s
   rw [<-Ws]
   refine U6 _ (λrest r s'=>r.1=none/\s=s'/\∀v∈rest,iy K J k v) _ ?_ ?_ _ _ ⟨rfl,rfl,hi⟩
   ·(rintro v rest r s' ⟨hr,rfl,hall⟩)
    refine RU (nv k N (hall v R1) ?_)
    (simp only [UR,Sk,if_false])
    (exact RY ⟨rfl,rfl,λu hu'=>hall u (R0 _ hu')⟩)
   ·(rintro ⟨r1,r2⟩ s' ⟨hr,rfl,_⟩)
    simp only at hr
    subst hr
    exact RY h
theorem EL:∀(n:Nat){u:RX}{Q:Bool->RZ->Prop},HF K J s->iy K J n u->Q true s->So (Su prog w) A (hashByValue n u) Q E s
 | n,u,Q,N,hk,h=>by
  rcases hk.cases' N with ⟨i,t,rfl⟩ | ⟨a,o,RM,m,k,rfl,ho,hc,hd,rfl,hi⟩
  ·cases n <;> exact RY h
  ·have hT:s.TypeIs (.ref a) "tuple":=⟨o,ho,hc⟩
   unfold hashByValue
   (refine RU (VN hT VV.lookup ?_))
   show So _ _ (ab5 (.ref a) >>= _) _ _ s
   (refine RU (Zh ho hd ?_))
   refine RU ?_
   show So _ _ (forIn RM _ _) _ _ s
   rw [<-Ws]
   refine U6 _ (λrest r s'=>r.1=none/\s=s'/\∀v∈rest,iy K J k v) _ ?_ ?_ _ _ ⟨rfl,rfl,hi⟩
   ·(rintro v rest r s' ⟨hr,rfl,hall⟩)
    refine RU (EL k N (hall v R1) ?_)
    (simp only [UR,Sk,if_false])
    (exact RY ⟨rfl,rfl,λu hu'=>hall u (R0 _ hu')⟩)
   ·(rintro ⟨r1,r2⟩ s' ⟨hr,rfl,_⟩)
    simp only at hr
    subst hr
    exact RY h
theorem nk:∀(n:Nat){u:RX}{Q:Bool->RZ->Prop},HF K J s->iy K J n u->Q false s->So (Su prog w) A (aad n u) Q E s
 | n,u,Q,N,hk,h=>by
  rcases hk.cases' N with ⟨i,t,rfl⟩ | ⟨a,o,RM,m,k,rfl,ho,hc,hd,rfl,hi⟩
  ·cases n <;> exact RY h
  ·have hT:s.TypeIs (.ref a) "tuple":=⟨o,ho,hc⟩
   unfold aad
   (refine RU (WO hT ?_))
   dsimp only
   (refine RU (RY ?_))
   (simp only [UR,Sk,if_false])
   (refine RU (Zh ho hd ?_))
   dsimp only
   refine RU ?_
   show So _ _ (forIn RM _ _) _ _ s
   rw [<-Ws]
   refine U6 _ (λrest r s'=>r.1=none/\s=s'/\∀v∈rest,iy K J k v) _ ?_ ?_ _ _ ⟨rfl,rfl,hi⟩
   ·(rintro v rest r s' ⟨hr,rfl,hall⟩)
    refine RU (nk k N (hall v R1) ?_)
    (simp only [Sk,if_false])
    (exact RY ⟨rfl,rfl,λu hu'=>hall u (R0 _ hu')⟩)
   ·(rintro ⟨r1,r2⟩ s' ⟨hr,rfl,_⟩)
    simp only at hr
    subst hr
    exact RY h
theorem Nb {x:RX}{ys:List RX}{Q:Bool->RZ->Prop}(N:HF K J s) (hx:iy K J 8 x) (hy:∀y∈ys,iy K J 8 y) (h:Q false s):So (Su prog w) A (X0 x ys) Q E s:=by
 unfold X0
 refine RU ?_
 refine U6 _ (λrest r s'=>r.1=none/\s=s'/\∀v∈rest,iy K J 8 v) _ ?_ ?_ _ _ ⟨rfl,rfl,hy⟩
 ·(rintro v rest r s' ⟨hr,rfl,hall⟩)
  have nx:∀u∈rest,iy K J 8 u:=λu hu'=>hall u (R0 _ hu')
  dsimp only
  have hv:=hall v R1
  split
  ·split
   ·exact RY ⟨rfl,rfl,nx⟩
   ·refine RU (nv 8 N hx ?_)
    (simp only [UR,Sk,if_false])
    refine RU (nv 8 N hv ?_)
    (simp only [UR,Sk,if_false])
    refine RU (nk 8 N hx ?_)
    (simp only [Sk,if_false])
    refine RU (nk 8 N hv ?_)
    (simp only [Sk,if_false])
    exact RY ⟨rfl,rfl,nx⟩
  ·split
   ·exact RY ⟨rfl,rfl,nx⟩
   ·refine RU (nv 8 N hx ?_)
    (simp only [UR,Sk,if_false])
    refine RU (nv 8 N hv ?_)
    (simp only [UR,Sk,if_false])
    refine RU (nk 8 N hx ?_)
    (simp only [Sk,if_false])
    refine RU (nk 8 N hv ?_)
    (simp only [Sk,if_false])
    exact RY ⟨rfl,rfl,nx⟩
 ·(rintro ⟨r1,r2⟩ s' ⟨hr,rfl,_⟩)
  simp only at hr
  subst hr
  exact RY h
end
end DL
namespace DL
open PySem PySem.Spec PyProof.Rows L2 ST
def KV (K:RV) (J:Hp) (u:RX) (d:D):Prop:=(∃a,u=.ref a)/\isKey d=true/\dep d<=8/\∃v,Rep K J d v/\RelV v u
theorem KV.key {K:RV}{J:Hp}{u:RX}{d:D}(h:KV K J u d):iy K J 8 u:=let ⟨_,a,b,v,c,e⟩:=h;⟨d,v,a,b,c,e⟩
inductive fB (K:RV) (J:Hp):List (Int×RX)->List D->Prop
 | nil:fB K J [] []
 | cons {h:Int}{x:RX}{d:D}{es:List (Int×RX)}{ks:List D}:h=bU d->KV K J x d->fB K J es ks->fB K J ((h,x)::es) (d::ks)
section
variable {K:RV}{J:Hp}
theorem fB.length {es:List (Int×RX)}{ks:List D}(h:fB K J es ks):es.length=ks.length:=by
 induction h with
 | nil=>rfl
 | cons _ _ _ ih=>simp [ih]
theorem fB.at_ {es:List (Int×RX)}{ks:List D}(h:fB K J es ks):∀{i:Nat}{e:Int×RX},es[i]?=some e->∃d,ks[i]?=some d/\KV K J e.2 d/\e.1=bU d:=by
 induction h with
 | nil=>intro i e q;simp at q
 | @cons hh x d es ks h1 h2 _ ih=>
  intro i e q
  cases i with
  | zero=>simp at q;subst q;exact ⟨d,rfl,h2,h1⟩
  | succ i=>simp at q;obtain ⟨d',a,b⟩:=ih q;exact ⟨d',by simpa using a,b⟩
theorem fB.mem {es:List (Int×RX)}{ks:List D}(h:fB K J es ks):∀e∈es,∃d∈ks,KV K J e.2 d/\e.1=bU d:=λe he=>by
 obtain ⟨i,hi⟩:=YQ.mp he
 obtain ⟨d,h1,h2⟩:=h.at_ hi
 exact ⟨d,TV h1,h2⟩
theorem fB.back {es:List (Int×RX)}{ks:List D}(h:fB K J es ks){i:Nat}{d:D}(q:ks[i]?=some d):∃e,es[i]?=some e/\KV K J e.2 d/\e.1=bU d:=by
 have hi:i < es.length:=by rw [h.length];exact (SI.mp q).1
 obtain ⟨d',h1,h2⟩:=h.at_ (Sg hi)
 rw [q] at h1;cases h1
 exact ⟨_,Sg hi,h2⟩
theorem fB.perm {es es':List (Int×RX)}(p:es.Perm es'):∀{ks:List D},fB K J es ks->∃ks',ks.Perm ks'/\fB K J es' ks':=by
 induction p with
 | nil=>intro ks h;exact ⟨ks,.refl _,h⟩
 | cons x _ ih=>
  intro ks h
  cases h with
  | cons h1 h2 h3=>obtain ⟨ks',a,b⟩:=ih h3;exact ⟨_,a.cons _,.cons h1 h2 b⟩
 | swap x y l=>
  intro ks h
  cases h with
  | cons h1 h2 h3=>cases h3 with
   | cons h4 h5 h6=>exact ⟨_,.swap _ _ _,.cons h4 h5 (.cons h1 h2 h6)⟩
 | trans _ _ ih1 ih2=>
  intro ks h
  obtain ⟨k1,a,b⟩:=ih1 h
  obtain ⟨k2,c,d⟩:=ih2 b
  exact ⟨k2,a.trans c,d⟩
end
theorem cO {t:Te}{es:Array (Int×RX)}{L:List (Nat×Int×RX)}(T:Tab t es L):t.fits es.size=true:=by
 have h1:t.place.size=L.length:=by rw [<-Sa,T.pl,R3]
 have h2:es.size=L.length:=by rw [<-Sa,T.en,R3]
 have h3:t.fill=L.length:=by unfold ZO;rw [T.dm,h1];rfl
 unfold SetTable.fits
 rw [h1,h2,h3]
 simp [T.fl]
theorem Kz {t:Te}{es:Array (Int×RX)}{L:List (Nat×Int×RX)}(T:Tab t es L):t.gaveWay=false:=by
 unfold SetTable.gaveWay
 rcases T.mo with h | h | h <;> rw [h] <;> rfl
section
variable {prog:Sm}{w:SO}{E:RX->RZ->Prop}{K:RV}{J:Hp}{A:SW}{s:RZ}
theorem search {a:Se}{o:Obj}{es:Array (Int×RX)}{ep:Nat}{t:Te}{L:List (Nat×Int×RX)}{ks:List D}{x:RX}{d:D}{Q:SetFound->RZ->Prop}(N:HF K J s) (ho:s.heap.get? a=some o) (hd:o.data=.set es ep t) (T:Tab t es L) (en:fB K J es.toList ks)
  (hx:KV K J x d) (hu:A.units + 8 < Uh) (n0:Nat) (hf:pos t.mask (bU d) n0∉L.map (·.1)) (hb:∀m,m < n0->pos t.mask (bU d) m∈L.map (·.1)) (hn0:n0<=10 * (t.mask + 12))
  (q1:d∈ks->Q (.there none) s) (q2:d∉ks->Q (.free (pos t.mask (bU d) n0) false) s):
  ∀(fuel n:Nat) (stand:Option SetTable.Probe),n<=n0->n0 - n < fuel->stand.getD (t.probeStart (bU d))=st t.mask (bU d) n->(∀k,k < n->∀(i:Nat) (e:Nat×Int×RX),L[i]?=some e->e.1=pos t.mask (bU d) k->ks[i]?≠some d)->
   So (Su prog w) A (abP a x (bU d) true fuel stand) Q E s
 | 0,n,stand,h1,h2,h3,h4=>absurd h2 (Tr _)
 | fuel + 1,n,stand,h1,h2,h3,h4=>by
  have esL:∀i,es[i]?=(L[i]?).map (λe:Nat×Int×RX=>e.2):=λi=>by rw [<-TH,T.en,Ss]
  unfold abP
  refine RU (Ub ho hd (cO T) ?_)
  dsimp only
  rw [Kz T]
  (simp only [Sk,if_false])
  rw [h3]
  obtain ⟨m,m1,m2,m3,m4⟩:=zc T (λi=>(es[i]?.map (·.1)).getD 0) (λi e q=>by rw [q];rfl) (bU d) n0 hf hb (n0 - n) n (10 * abd t.mask) rfl h1 (by unfold abd;omega)
  generalize hP:SetTable.probe t _ (bU d) (st t.mask (bU d) n)=r
  rcases m4 with ⟨rfl,m4⟩ | ⟨m5,i,e,m6,m7,m8,m4⟩
  ·have:r=_:=hP.symm.trans m4
   subst this
   dsimp only
   refine RY (q2 λhm=>?_)
   obtain ⟨i,hi⟩:=YQ.mp hm
   obtain ⟨e,e1,e2,e3⟩:=en.back hi
   rw [TH,esL] at e1
   obtain ⟨e',e4,rfl⟩:=Option.map_eq_some_iff.mp e1
   have hm':=TV e4
   obtain ⟨k,k1,k2⟩:=T.pr _ hm'
   rw [e3] at k1 k2
   have kl:k < m:=by
    rcases VU k m with c | c | c
    ·exact c
    ·subst c;rw [k1] at hf;exact absurd (R4.mpr ⟨_,hm',rfl⟩) hf
    ·exact absurd (k2 m c) hf
   by_cases c:k < n
   ·exact h4 k c i e' e4 k1.symm hi
   ·exact m3 k (by omega) kl e' hm' k1.symm e3
  ·have:r=_:=hP.symm.trans m4
   subst this
   dsimp only
   have hei:es[i]?=some e.2:=by rw [esL,m6];rfl
   obtain ⟨d',f1,f2,f3⟩:=en.at_ (by rw [TH];exact hei)
   obtain ⟨⟨ya,g0⟩,g1,g2',v',g3,g4⟩:=id f2
   obtain ⟨_,x1,x2,v,x3,x4⟩:=id hx
   obtain ⟨j,hh,y⟩:=e
   dsimp only at g0 g4 m7 m8 hei
   subst g0
   have cmp:=mU N A g3 x3 g4 x4 (by omega) (by omega) (by omega)
   have pass:∀(k:Sem SetFound),So (Su prog w) A k Q E s->So (Su prog w) A (if (!t.led)=true then do
     let c <-X0 x (acI (λx=>x.snd) (Array.filter (λx=>x.fst == bU d) es).toList)
     if c=true then do unsupported "set:the-search-would-show-the-table";k else k
     else k) Q E s:=λk hk=>by
    split
    ·refine RU (Nb N hx.key (λy hy=>?_) ?_)
     ·obtain ⟨e',he',rfl⟩:=R4.mp hy
      have:e'∈es.toList:=by
       rw [Array.toList_filter] at he'
       exact (SY.mp he').1
      obtain ⟨d2,_,h2,_⟩:=en.mem e' this
      exact h2.key
     ·(simp only [Sk,if_false])
      exact hk
    ·exact hk
   refine pass _ ?_
   rw [hei]
   dsimp only
   refine RU (SD (cmp _ _ _ _ ?_))
   refine RU (Ub ho hd (cO T) ?_)
   dsimp only
   by_cases c:bg d' d=true
   ·rw [c]
    (simp only [abH,if_true])
    refine RY (q1 ?_)
    rw [<-yS g1 x1 c]
    exact TV f1
   ·rw [Bool.not_eq_true] at c
    rw [c]
    have sm:t.sameMemory t.moves t.mask=some true:=by unfold SetTable.sameMemory;simp
    have sl:t.slot (pos t.mask (bU d) m)=.live i:=qc T.sop (by rw [<-m7];exact (T.at_ m6).1)
    rw [sm]
    simp only [VF,Sk,if_false,if_true]
    rw [sl]
    dsimp only
    rw [hei]
    dsimp only
    refine RU (wpAny_isSame_ref_self ?_)
    simp only [if_true]
    (refine RU (RY ?_))
    dsimp only
    refine search N ho hd T en hx hu n0 hf hb hn0 q1 q2 fuel (m + 1) _ (by omega) (by omega) rfl λk hk i2 e2 z1 z2 z3=>?_
    by_cases c1:k < n
    ·exact h4 k c1 i2 e2 z1 z2 z3
    ·by_cases c2:k < m
     ·obtain ⟨dd,w1,_,w3⟩:=en.at_ (i:=i2) (e:=e2.2) (by rw [TH,esL,z1];rfl)
      rw [z3] at w1;cases w1
      exact m3 k (by omega) c2 e2 (TV z1) z2 w3
     ·obtain rfl:k=m:=by omega
      have hi2:i2=i:=by
       obtain ⟨p1,p2⟩:=SI.mp z1
       obtain ⟨p3,p4⟩:=SI.mp m6
       have sw:=TY.mp T.so
       rcases VU i2 i with c | c | c
       ·have:=sw i2 i (by simpa using p1) (by simpa using p3) c
        simp [p2,p4] at this
        omega
       ·exact c
       ·have:=sw i i2 (by simpa using p3) (by simpa using p1) c
        simp [p2,p4] at this
        omega
      subst hi2
      rw [f1] at z3
      cases z3
      rw [gy] at c
      exact absurd c (by decide)
end
structure iU (K:RV) (J:Hp) (h:TU) (a:Se) (led:Bool) (ks:List D) (es:Array (Int×RX)) (ep:Nat) (t:Te):Prop where
 at_:h.get? a=some {cls:=.type "set",dict:=none,data:=.set es ep t}
 tab:∃L,Tab t es L
 pl:t.plain=true
 ld:t.led=led
 rm:ks.length * 5 < t.mask * 3
 en:fB K J es.toList ks
 nd:ks.Nodup
theorem D3 (mask i:Nat) (h:i<=mask):i + (aaQ mask i - i)<=mask:=by unfold aaQ;split <;> omega
theorem Ii (mask:Nat) (h:Int):∀n,(ST.st mask h n).j + (ST.st mask h n).more<=mask
 | 0=>D3 mask _ (WG (XY _ (by omega)))
 | n + 1=>by
  have ih:=Ii mask h n
  show (Yw _ (ST.st mask h n)).j + (Yw _ (ST.st mask h n)).more<=mask
  unfold Yw
  split
  ·dsimp only;omega
  ·exact D3 mask _ (WG (XY _ (by omega)))
theorem zb (mask:Nat) (h:Int) (n:Nat):ST.pos mask h n<=mask:=by have:=Ii mask h n;show (ST.st mask h n).j<=mask;omega
theorem AF:Uo 20=32:=by decide +kernel
theorem AG:Uo 76=128:=by decide +kernel
theorem nC {t:Te}{es:Array (Int×RX)}{L:List (Nat×Int×RX)}(T:Tab t es L):L.length=es.size:=by rw [<-Sa,T.en,R3]
section
variable {prog:Sm}{w:SO}{E:RX->RZ->Prop}{K:RV}{J:Hp}{A:SW}{s:RZ}
theorem NU {a:Se}{es:Array (Int×RX)}{ep:Nat}{t:Te}{led:Bool}{L:List (Nat×Int×RX)}{ks:List D}{Q:Unit->RZ->Prop}(ho:s.heap.get? a=some {cls:=.type "set",dict:=none,data:=.set es ep t}) (T:Tab t es L) (hp:t.plain=true) (hl:t.led=led)
  (en:fB K J es.toList ks) (nd:ks.Nodup) (W:Nat) (hW:(Uo W=32/\ks.length=5)\/(Uo W=128/\ks.length=19))
  (h:∀(h':TU) ks' es' ep' t',Tw a s.heap h'->ks.Perm ks'->iU K J h' a led ks' es' ep' t'->Q () {s with heap:=h'}):So (Su prog w) A (setRelay a W) Q E s:=by
 have hsz:es.size=ks.length:=by rw [<-Sa,en.length]
 have hm:lI (Uo W - 1):=by rcases hW with ⟨h,_⟩ | ⟨h,_⟩ <;> rw [h];exact .inr (.inl rfl);exact .inr (.inr rfl)
 obtain ⟨t',RT,L',e1,e2,e3,e4,e5,e6⟩:=vU (t:=t) (es:=es) hm (by rcases hW with ⟨h,_⟩ | ⟨h,_⟩ <;> rw [h] <;> omega)
 unfold setRelay
 refine RU (Ub ho rfl (cO T) ?_)
 dsimp only
 rw [if_neg (by rw [S4];rcases hW with ⟨h,_⟩ | ⟨h,_⟩ <;> rw [h] <;> omega)]
 have sz':(RT.filterMap (es[·]?)).size=es.size:=by
  rw [<-Sa,e6.length_eq,Sa]
 rw [e1]
 have cnd:((RT.filterMap (es[·]?)).size != es.size)=false:=by rw [sz'];simp
 refine RU (We (a:=(RT.filterMap (es[·]?),t')) ?_ ?_)
 ·show (if ((RT.filterMap (es[·]?)).size != es.size)=true then _ else pure (RT.filterMap (es[·]?),t'))=_
  rw [cnd]
  rfl
 ·dsimp only
  obtain ⟨ks',p1,p2⟩:=en.perm e6.symm
  refine WI ho rfl ?_ (by rw [sz',S4];rcases hW with ⟨_,h⟩ | ⟨_,h⟩ <;> omega)
  have hg:=Uc (X3 (RT.filterMap (es[·]?)) t') ho rfl
  refine h _ ks' _ _ _ (T8 _ _ _) p1 ⟨hg,⟨L',e5⟩,e4.trans hp,e3.trans hl,?_,p2,p1.nodup_iff.mp nd⟩
  rw [<-p1.length_eq,e2]
  rcases hW with ⟨h,h'⟩ | ⟨h,h'⟩ <;> rw [h,h'] <;> omega
theorem IC {a:Se}{es:Array (Int×RX)}{ep:Nat}{t:Te}{led:Bool}{ks:List D}{x:RX}{d:D}{Q:Bool->RZ->Prop}(N:HF K J s) (S:iU K J s.heap a led ks es ep t) (hx:KV K J x d) (hu:A.units + 8 < Uh) (hl:ks.length < 76)
  (q1:d∈ks->Q false s) (q2:d∉ks->∀(h':TU) ks' es' ep' t',Tw a s.heap h'->(d::ks).Perm ks'->iU K J h' a led ks' es' ep' t'->Q true {s with heap:=h'}):
  So (Su prog w) A (YR a x (bU d)) Q E s:=by
 obtain ⟨L,T⟩:=S.tab
 have lenL:L.length=ks.length:=by rw [nC T,<-Sa,S.en.length]
 obtain ⟨n0,b1,b2,b3⟩:=sP T.mo (bU d) (L.map (·.1)) (by rw [R3];exact T.fl)
 have hj:pos t.mask (bU d) n0<=t.mask:=zb _ _ _
 (unfold YR abe)
 refine SD (RU (Ub S.at_ rfl (cO T) ?_))
 dsimp only
 have ns:byScan x es=false:=by
  obtain ⟨⟨xa,rfl⟩,_⟩:=hx
  rfl
 rw [ns]
 (simp only [Sk,if_false])
 unfold setSearch
 refine RU (search N S.at_ rfl T S.en hx hu n0 b2 b3 b1 (λhm=>?_) (λhm=>?_) 100000 0 none (SG _) (by rcases T.mo with h | h | h <;> rw [h] at b1 <;> omega) rfl (λk hk=>absurd hk (Tr _)))
 ·exact RY (q1 hm)
 ·dsimp only
  refine RU (Ub S.at_ rfl (cO T) ?_)
  dsimp only
  obtain ⟨L',T',pm⟩:=T.put (bU d) x n0 b2 b3 hj (by have:=S.rm;rcases T.mo with h | h | h <;> rw [h] at this <;> omega)
  have fl:(t.put (pos t.mask (bU d) n0)).1.mask=t.mask/\(t.put (pos t.mask (bU d) n0)).1.plain=t.plain/\(t.put (pos t.mask (bU d) n0)).1.led=t.led:=⟨rfl,rfl,rfl⟩
  generalize t.put (pos t.mask (bU d) n0)=tp at T' fl ⊢
  obtain ⟨t',p⟩:=tp
  dsimp only at T' fl ⊢
  obtain ⟨f1,f2,f3⟩:=fl
  have en':∃ks',(d::ks).Perm ks'/\fB K J (Ud es p (bU d,x)).toList ks':=by
   refine fB.perm (es:=(bU d,x)::es.toList) ?_ (.cons rfl hx S.en)
   rw [T'.en,T.en]
   have:=pm.map (·.2)
   exact this.symm
  obtain ⟨ks',p1,p2⟩:=en'
  have nd':ks'.Nodup:=p1.nodup_iff.mp (UG.mpr ⟨hm,S.nd⟩)
  have lk:ks'.length=ks.length + 1:=by rw [<-p1.length_eq];rfl
  rw [f2,S.pl]
  simp only [if_true]
  refine RU (EL 8 N hx.key ?_)
  simp only [if_true]
  have esz:(Ud es p (bU d,x)).size=ks'.length:=by rw [<-Sa,p2.length]
  refine RU (WI S.at_ rfl ?_ (by rw [esz,S4];omega))
  have hg:=Uc (X3 (Ud es p (bU d,x)) t') S.at_ rfl
  have hfill:t'.fill=ks'.length:=by
   unfold ZO
   rw [T'.dm,<-Sa,T'.pl,R3,nC T',esz]
   rfl
  have hes:es.size=ks.length:=by rw [<-Sa,S.en.length]
  split
  ·rename_i c
   simp only [WK,VB] at c
   unfold WZ at c
   rw [hfill,f1,decide_eq_true_eq] at c
   have rm:=S.rm
   refine RU (NU (s:={s with heap:=s.heap.update a (X3 (Ud es p (bU d,x)) t')}) hg T' (f2.trans S.pl) (f3.trans S.ld) p2 nd' _ ?_ λh' ks2 es2 ep2 t2 g1 g2' g3=>?_)
   ·rw [hes]
    unfold WL
    rw [if_neg (by omega)]
    rcases T.mo with h | h | h
    ·rw [h] at c rm
     have:ks.length + 1=5:=by omega
     rw [this]
     exact .inl ⟨AF,by omega⟩
    ·rw [h] at c rm
     have:ks.length + 1=19:=by omega
     rw [this]
     exact .inr ⟨AG,by omega⟩
    ·rw [h] at c;omega
   ·exact RY (q2 hm h' ks2 es2 ep2 t2 ((T8 _ _ _).trans g1) (p1.trans g2') g3)
  ·rename_i c
   simp only [WK,VB] at c
   unfold WZ at c
   rw [hfill,f1,decide_eq_true_eq] at c
   exact RY (q2 hm _ ks' _ _ _ (T8 _ _ _) p1 ⟨hg,⟨L',T'⟩,f2.trans S.pl,f3.trans S.ld,by rw [f1];omega,p2,nd'⟩)
end
theorem iU.keep {K:RV}{J:Hp}{h h':TU}{a:Se}{led:Bool}{ks:List D}{es:Array (Int×RX)}{ep:Nat}{t:Te}(S:iU K J h a led ks es ep t) (e:∀o,h.get? a=some o->h'.get? a=some o):iU K J h' a led ks es ep t:=
 ⟨e _ S.at_,S.tab,S.pl,S.ld,S.rm,S.en,S.nd⟩
section
variable {prog:Sm}{w:SO}{A:SW}{R:aaB->RZ->Prop}{I:Se}{fp wr:List Se}{G:Array Zu->Array Zu->Prop}{n:Nat}{P:Nat->RX->Prop}{St:Nat->RZ->Prop}{K:RV}{J:Hp}
theorem Ht (W:WalksS prog w A.in1 I fp wr G n P St) (S:Se) (hSf:S∉fp) (val:Nat->D) (hval:∀i v,P i v->KV K J v (val i)){s0:RZ}(N0:HF K J s0) (hnew:∀b∈S::wr,s0.heap.get? b=none) (hu:A.in1.units + 8 < Uh) (hn:n<=76){led:Bool}:
  ∀(k i:Nat) (s:RZ) (ks:List D) (es:Array (Int×RX)) (ep:Nat) (t:Te),n - i=k->i<=n->St i s->(∀b o,s0.heap.get? b=some o->s.heap.get? b=some o)->iU K J s.heap S led ks es ep t->(∀d,d∈ks↔d∈(R7 i).map val)->
   (∀s' ks' es' ep' t',Moved (S::wr) G s s'->iU K J s'.heap S led ks' es' ep' t'->(∀d,d∈ks'↔d∈(R7 n).map val)->R (.ok (.ret .none)) s')->
   (U4 (Su prog w) A (.builtin "set.update.loop" ⟨[.ref S,.ref I],[]⟩) R s):=by
 (have Qy:S∉wr:=λh=>hSf (W.sub _ h))
 (have hsub:∀b∈wr,b∈S::wr:=λb hb=>R0 _ hb)
 have old:∀b o,s0.heap.get? b=some o->b∉S::wr:=λb o e hm=>by rw [hnew b hm] at e;cases e
 intro k
 induction k with
 | zero=>
  intro i s ks es ep t hk hi hst hb hS hm hR
  have hin:i=n:=by omega
  subst hin
  refine UJ TZ ?_
  rw [Ur SK _]
  (show So _ A.in1 (Wv (.ref I) >>= _) _ _ s)
  refine RU (W.done s _ _ hst λs' P6=>?_)
  (show So _ A.in1 (ret S3) _ _ s')
  exact RY (hR s' ks es ep t (P6.mono hsub) (hS.keep λo e=>P6.heap S o Qy e) hm)
 | succ k ih=>
  intro i s ks es ep t hk hi hst hb hS hm hR
  have hlt:i < n:=by omega
  have hlen:ks.length<=i:=by
   have:=SS hS.nd (λd hd=>(hm d).mp hd)
   simpa using this
  refine UJ TZ ?_
  rw [Ur SK _]
  (show So _ A.in1 (Wv (.ref I) >>= _) _ _ s)
  refine RU (W.item i s _ _ hlt hst λv s' hP Qe P6=>?_)
  have hx:=hval i v hP
  obtain ⟨_,x1,x2,vv,x3,x4⟩:=id hx
  have hS':=hS.keep (h':=s'.heap) λo e=>P6.heap S o Qy e
  have hb':∀b o,s0.heap.get? b=some o->s'.heap.get? b=some o:=λb o e=>P6.heap b o (λhm=>old b o e (hsub b hm)) (hb b o e)
  have N':HF K J s':=N0.keep hb'
  have mem':∀(ks':List D),(∀d,d∈ks'↔d=val i\/d∈ks)->∀d,d∈ks'↔d∈(R7 (i + 1)).map val:=λks' h d=>by
   rw [h d,hm d,Xk,SA,Sz]
   simp only [Sj,WQ,R9]
   exact Or.comm
  show So _ A.in1 (holding [v] (setAdd S v) >>= _) _ _ s'
  (refine RU (SD ?_))
  unfold setAdd
  refine SD ?_
  refine RU (u7 (val i) vv v A.in1 s' N' x1 x3 x4 (by omega) _ _ _ N' ?_)
  refine IC (s:={s' with toks:=s'.toks + jT (val i)}) (⟨N'.t,N'.l,N'.e,N'.d⟩:HF K J {s' with toks:=s'.toks + jT (val i)}) hS' hx hu (by omega) (λhin=>?_) (λhin h' ks' es' ep' t' Qx Q8 QN=>?_)
  ·refine RY ⟨VX SK _,ih (i + 1) _ ks es ep t (by omega) hlt (W.frame _ s' _ _ Qe (V8 _ _) λb hb o e=>e) hb' hS' (mem' ks λd=>⟨.inr,λh=>h.elim (λh=>h▸hin) id⟩) λs'' ks'' es'' ep'' t'' hm'' hS'' Qh=>?_⟩
   exact hR s'' ks'' es'' ep'' t'' (Zr W.gtrans ((P6.mono hsub).then_heap (V8 _ _) λb o hb e=>e) hm'') hS'' Qh
  ·refine RY ⟨VX SK _,ih (i + 1) _ ks' es' ep' t' (by omega) hlt (W.frame _ s' _ _ Qe (V8 _ _) λb hb o e=>?_) (λb o e=>?_) QN (mem' ks' λd=>?_) λs'' ks'' es'' ep'' t'' hm'' hS'' Qh=>?_⟩
   ·(rw [Qx.2 b (λh:b=S=>hSf (by rw [<-h];exact hb))];exact e)
   ·show h'.get? b=some o
    rw [Qx.2 b (λh:b=S=>old b o e (by rw [h];exact R1))]
    exact hb' b o e
   ·rw [<-Q8.mem_iff,Sh]
   ·refine hR s'' ks'' es'' ep'' t'' (Zr W.gtrans ((P6.mono hsub).then_heap (V8 _ _) λb o hb e=>?_) hm'') hS'' Qh
    (rw [Qx.2 b (λh:b=S=>hb (by rw [h];exact R1))];exact e)
end
theorem CP {K:RV}{J:Hp}{h:TU}{a:Se}{led:Bool}(e:h.get? a=some {cls:=.type "set",dict:=none,data:=.set #[] 0 (.fresh 0 0 led)}):iU K J h a led [] #[] 0 (.fresh 0 0 led):=
 ⟨e,⟨[],⟨rfl,rfl,rfl,UW,(λ_ h=>nomatch h),.inl rfl,SG _,(λ_ h=>nomatch h)⟩⟩,rfl,rfl,(show 0 * 5 < 7 * 3 by decide),.nil,Vg⟩
end DL
namespace ST
open PySem PySem.SetTable
theorem yg {xs:Array Nat}{i j:Nat}(hs:xs.toList.Pairwise (· < ·)) (hi:i<=xs.size) (h1:∀k,k < i->xs.getD k 0 < j) (h2:∀k,i<=k->k < xs.size->j<=xs.getD k 0):below xs j=i:=by
 obtain ⟨b1,b2,b3⟩:=nK xs j hs
 rcases VU (below xs j) i with c | c | c
 ·have:=h1 _ c
  have:=b3 _ (R6 _) (by omega)
  omega
 ·exact c
 ·have:=b2 _ c
  have:=h2 i (R6 _) (by omega)
  omega
theorem BW {xs:Array Nat}(hs:xs.toList.Pairwise (· < ·)):below xs 0=0:=yg hs (SG _) (λk h=>absurd h (Tr _)) λk _ _=>SG _
theorem BV {xs:Array Nat}{i j:Nat}(hs:xs.toList.Pairwise (· < ·)) (h:xs[i]?=some j):below xs (j + 1)=i + 1:=by
 obtain ⟨hi,e⟩:=Tn.mp h
 have sw:=TY.mp hs
 have gd:∀k (hk:k < xs.size),xs.getD k 0=xs[k]:=λk hk=>by simp [Ux,hk]
 refine yg hs (by omega) (λk hk=>?_) (λk h1 h2=>?_)
 ·rw [gd k (by omega)]
  by_cases c:k=i
  ·subst c;omega
  ·have:=sw k i (by simp;omega) (by simpa using hi) (by omega)
   simp at this
   omega
 ·rw [gd k h2]
  have:=sw i k (by simpa using hi) (by simpa using h2) (by omega)
  simp at this
  omega
theorem vN {α:Type}(next:Nat->Nat):∀(f k:Nat) (left:List α) (out:Array α),f=left.length->(aao next f k left out).toList.Perm (out.toList++left)
 | 0,k,left,out,h=>by
  have:left=[]:=UU.mp h.symm
  subst this
  unfold aao
  simp
 | f + 1,k,left,out,h=>by
  have hl:next k % left.length < left.length:=XY _ (by omega)
  unfold aao
  rw [Sg hl]
  dsimp only
  refine (vN next f (k + 1) _ _ (by rw [Zb];simp [hl];omega)).trans ?_
  rw [aac,VY]
  (refine ab8 _ ?_)
  have e1:left.eraseIdx (next k % left.length)=left.take (next k % left.length)++left.drop (next k % left.length + 1):=Vt _ _
  have e2:left=left.take (next k % left.length)++left[next k % left.length]::left.drop (next k % left.length + 1):=by
   rw [WB,VP]
  rw [e1,WR]
  exact (Yv.symm).trans (aaR e2.symm)
theorem Cu {α:Type}(next:Nat->Nat) (xs:Array α):(aaS next xs).toList.Perm xs.toList:=by
 have h:=vN next xs.size 0 xs.toList #[] (by simp)
 rw [show (#[]:Array α).toList++xs.toList=xs.toList from rfl] at h
 exact h
end ST
namespace DL
open PySem PySem.Spec PyProof.Rows L2 ST
structure iV (h:TU) (a:Se) (led:Bool) (es:Array (Int×RX)) (ep:Nat) (t:Te):Prop where
 at_:h.get? a=some {cls:=.type "set",dict:=none,data:=.set es ep t}
 tab:∃L,Tab t es L
 pl:t.plain=true
 ld:t.led=led
theorem iV.keep {h h':TU}{a:Se}{led:Bool}{es:Array (Int×RX)}{ep:Nat}{t:Te}(S:iV h a led es ep t) (e:∀o,h.get? a=some o->h'.get? a=some o):iV h' a led es ep t:=⟨e _ S.at_,S.tab,S.pl,S.ld⟩
theorem iU.wk {K:RV}{J:Hp}{h:TU}{a:Se}{led:Bool}{ks:List D}{es:Array (Int×RX)}{ep:Nat}{t:Te}(S:iU K J h a led ks es ep t):iV h a led es ep t:=⟨S.at_,S.tab,S.pl,S.ld⟩
abbrev lR (w:SO):Bool:=!w.params.followText "set-order"
noncomputable def fN (w:SO) (a ep:Nat) (es:Array (Int×RX)):Array (Int×RX):=if w.params.followText "set-order"=true then aaS (w.params.setOrder a ep) es else es
theorem mH (w:SO) (a ep:Nat) (es:Array (Int×RX)):(fN w a ep es).toList.Perm es.toList:=by
 unfold fN
 split
 ·exact Cu _ _
 ·exact .refl _
theorem mJ (w:SO) (a ep:Nat) (es:Array (Int×RX)):(fN w a ep es).size=es.size:=by
 rw [<-Sa,(mH w a ep es).length_eq,Sa]
abbrev oM (a:Se) (slot i n ep:Nat):Obj:={cls:=.type "set_iterator",data:=.fields #[.int slot 0,.int i 0,.ref a,.int n 0,.int ep 0]}
theorem sJ:acJ table "set.__iter__"=some Wb.«frozenset.__iter__»:=
 (abf (id':="frozenset.__iter__") (by kernel_rfl) rfl (by decide +kernel) (by kernel_rfl))
theorem fM:Slot "set_iterator" "__next__" "set_iterator.__next__":=
 (.of (owner:="set_iterator") (n:="__next__") (by rw [YS,WS];kernel_rfl) (by decide +kernel) (by decide +kernel) (by decide +kernel)
  (by first | exact .inl (by decide +kernel) | exact .inr (by decide +kernel)) (by rw [XC];kernel_rfl))
theorem oH:acJ table "set_iterator.__next__"=some Wb.«set_iterator.__next__»:=(entryFor_of_tree (by kernel_rfl))
theorem o8 (a:RX):argsOk "set_iterator.__next__" ⟨[a],[]⟩:=by unfold argsOk;kernel_rfl
section
variable {prog:Sm}{w:SO}{A:SW}{E:RX->RZ->Prop}{s:RZ}
theorem Ge {a:Se}{led:Bool}{es:Array (Int×RX)}{ep:Nat}{t:Te}{Q:RX->RZ->Prop}(S:iV s.heap a led es ep t)
  (hQ:Q (.ref s.heap.objs.size) {s with heap:=s.heap.push (oM a 0 0 es.size ep)}):So (Su prog w) A (XN (.ref a)) Q E s:=by
 obtain ⟨L,T⟩:=S.tab
 have hT:s.TypeIs (.ref a) "set":=⟨_,S.at_,rfl⟩
 refine X4 hT aaT (S6 aaT hT sJ ?_ (F.args_set_iter_1 _))
 show So _ _ (X5 a >>= _) _ _ s
 unfold X5
 refine RU (RU (Xl S.at_ rfl (cO T) (RY ?_)))
 unfold setDrawn abw
 refine RU (RU (Ub S.at_ rfl (cO T) (RU (RU (U8 (RY (RY ?_)))))))
 dsimp only
 split
 ·rename_i c
  have c:(!w.params.followText "set-order" && (!t.plain && decide (es.size > 1)))=true:=c
  rw [S.pl] at c
  simp at c
 ·(refine RU (RY ?_))
  refine RU (wpAny_setEpoch_of S.at_ rfl (cO T) ?_)
  (refine RU (SX ?_))
  exact RY ⟨_,rfl,"set_iterator",_,⟨_,Sd _ rfl,rfl⟩,fM.lookup,hQ⟩
theorem zC {a:Se}{es:Array (Int×RX)}{ep:Nat}{t:Te}{slot i:Nat}{Q:Option (RX×Nat)->RZ->Prop}(S:iV s.heap a (lR w) es ep t) (hb:w.params.followText "set-order"=false->V7 t.place slot=i)
  (q1:∀e slot',(fN w a ep es)[i]?=some e->(w.params.followText "set-order"=false->V7 t.place slot'=i + 1)->Q (some (e.2,slot')) s) (q2:(fN w a ep es)[i]?=none->Q none s):
  So (Su prog w) A (setNext a slot i ep) Q E s:=by
 obtain ⟨L,T⟩:=S.tab
 unfold setNext abw
 refine RU (Ub S.at_ rfl (cO T) ?_)
 dsimp only
 (refine RU (RU (U8 (RY ?_))))
 dsimp only
 cases bt:w.params.followText "set-order" with
 | true=>
  rw [show (Su prog w).w.params.followText "set-order"=true from bt]
  simp only [if_true,bne_self_eq_false,Sk,if_false]
  unfold setWalk abw
  refine RU (RU (Ub S.at_ rfl (cO T) ?_))
  dsimp only
  (refine RU (RU (U8 (RY ?_))))
  dsimp only
  rw [show (Su prog w).w.params.followText "set-order"=true from bt]
  simp only [if_true]
  refine RU (U8 (RY ?_))
  dsimp only
  have ew:fN w a ep es=aaS ((Su prog w).w.params.setOrder a ep) es:=by unfold fN;rw [if_pos bt];rfl
  rw [ew] at q1 q2
  cases q:(aaS ((Su prog w).w.params.setOrder a ep) es)[i]? with
  | none=>exact RY (q2 q)
  | some e=>exact RY (q1 e slot q λz=>absurd (bt.symm.trans z) (by decide))
 | false=>
  rw [show (Su prog w).w.params.followText "set-order"=false from bt]
  (simp only [Sk,if_false])
  have ew:fN w a ep es=es:=by unfold fN;rw [if_neg (by rw [bt];decide)]
  rw [ew] at q1 q2
  have QZ:t.led=true:=by rw [S.ld];show (!w.params.followText "set-order")=true;rw [bt];rfl
  split
  ·rename_i c
   have c:(!t.plain && decide (es.size > 1))=true:=c
   rw [S.pl] at c
   simp at c
  ·refine RU (We (a:=()) ?_ ?_)
   ·show (if (!t.led && !es.isEmpty)=true then _ else pure ())=pure ()
    rw [QZ]
    rfl
   ·rw [hb bt]
    cases q:es[i]? with
    | none=>exact RY (q2 q)
    | some e=>
     have hlen:i < t.place.size:=by
      have h1:=(Tn.mp q).1
      have h2:t.place.size=es.size:=by rw [<-Sa,T.pl,R3,nC T]
      omega
     have ep':t.place[i]?=some t.place[i]:=Vi hlen
     rw [ep']
     exact RY (q1 e _ q λ_=>BV T.sop ep')
theorem Gx {I a:Se}{es:Array (Int×RX)}{ep:Nat}{t:Te}{slot i:Nat}{Q:Option RX->RZ->Prop}(hne:a≠I) (S:iV s.heap a (lR w) es ep t) (hI:s.heap.get? I=some (oM a slot i es.size ep)) (hb:w.params.followText "set-order"=false->V7 t.place slot=i) (hi:i < es.size)
  (hQ:∀h' slot' e,(fN w a ep es)[i]?=some e->h'.get? I=some (oM a slot' (i + 1) es.size ep)->(w.params.followText "set-order"=false->V7 t.place slot'=i + 1)->Tw I s.heap h'->Q (some e.2) {s with heap:=h'}):
  So (Su prog w) A (Wv (.ref I)) Q E s:=by
 obtain ⟨L,T⟩:=S.tab
 have hT:s.TypeIs (.ref I) "set_iterator":=⟨_,hI,rfl⟩
 unfold Wv
 refine RU (Wm (Ui (name:=WN "__next__") hT fM (S6 fM hT oH ?_ (o8 _))))
 show So _ _ (fieldsOf (.ref I) >>= _) _ _ s
 refine RU (XD hI rfl ?_)
 dsimp only
 refine RU (Xl S.at_ rfl (cO T) ?_)
 simp only [bne_self_eq_false,Sk,if_false,Uv]
 refine RU (zC S hb (λe slot' q1 q2=>?_) λq=>?_)
 ·dsimp only
  refine RU (Xw hI (by simp) λh1 g1 b1=>?_)
  refine RU (Xw (s:={s with heap:=h1}) g1 (by simp) λh2 g2' b2=>?_)
  exact RY ⟨_,rfl,RY (hQ h2 slot' e q1 (g2'.trans (by simp [abm])) q2 (b1.trans b2))⟩
 ·exfalso
  have:=(Array.getElem?_eq_none_iff.mp q)
  rw [mJ] at this
  omega
theorem IY {I a:Se}{es:Array (Int×RX)}{ep:Nat}{t:Te}{slot:Nat}{Q:Option RX->RZ->Prop}(hh:A.handled=none) (S:iV s.heap a (lR w) es ep t) (hI:s.heap.get? I=some (oM a slot es.size es.size ep)) (hb:w.params.followText "set-order"=false->V7 t.place slot=es.size)
  (hQ:∀h',acD I s.heap h'->Q none {s with heap:=h'}):So (Su prog w) A (Wv (.ref I)) Q E s:=by
 obtain ⟨L,T⟩:=S.tab
 have hT:s.TypeIs (.ref I) "set_iterator":=⟨_,hI,rfl⟩
 unfold Wv
 refine RU (Wm (Ui (name:=WN "__next__") hT fM (S6 fM hT oH ?_ (o8 _))))
 show So _ _ (fieldsOf (.ref I) >>= _) _ _ s
 refine RU (XD hI rfl ?_)
 dsimp only
 refine RU (Xl S.at_ rfl (cO T) ?_)
 simp only [bne_self_eq_false,Sk,if_false,Uv]
 refine RU (zC S hb (λe slot' q1 q2=>?_) λq=>?_)
 ·exfalso
  have:=(Tn.mp q1).1
  rw [mJ] at this
  omega
 ·dsimp only
  refine RU (Xw hI (by simp) λh1 g1 b1=>?_)
  refine RU ?_
  simp only [newExc,newTuple]
  (refine RU (SX ?_ (by size_fits)))
  (refine RU (m:=XG _ _) (We (a:=S3) (by first | rfl | (simp only [XG];rfl)) ?_))
  (refine SX ?_ (by size_fits))
  simp only [raiseNew]
  (refine RU (abQ ?_))
  (first | rw [show A.in1.handled=none from hh] | rw [hh])
  (refine RU (RY (wpAny_throw ?_)))
  (refine RU (WY (T:="StopIteration") (b:=true) ⟨_,Sd _ rfl,rfl⟩ abg ?_))
  exact RY (hQ _ ((b1.extBut.push _).push _))
end
theorem w_:typeLookup (.type "set") "__len__"=pure (some (.builtin "set.__len__")):=by rw [YS,WS];kernel_rfl
theorem Fe {M:acg}{A:SW}{E:RX->RZ->Prop}{s:RZ}{α:Type}{c:Prop} [Decidable c] {m1 m2:Sem α}{Q:α->RZ->Prop}(hc:c) (h:So M A m1 Q E s):So M A (if c then m1 else m2) Q E s:=by rw [if_pos hc];exact h
theorem Gb {prog:Sm}{w:SO}{A:SW}{E:RX->RZ->Prop}{s:RZ}{a:Se}{Q:Bool->RZ->Prop}(hT:s.TypeIs (.ref a) "set") (hQ:Q false s):So (Su prog w) A (Xm (.ref a)) Q E s:=by
 have sp:splitId "set.__len__"=some ("set","__len__"):=by decide +kernel
 (unfold Xm)
 refine RU (VN hT w_ ?_)
 dsimp -zeta only
 rw [sp]
 dsimp -zeta only
 refine RU (m:=abq (.ref a) (.type "set")) (WY hT sub_set_self ?_)
 (show So _ _ (if (!true)=true then _ else _) _ _ _)
 rw [if_neg (by decide)]
 refine Fe (by decide +kernel) ?_
 (refine RU (WO hT ?_))
 exact RY hQ
theorem qd:Slot "set_iterator" "__iter__" "set_iterator.__iter__":=
 ((.of (owner:="set_iterator") (n:="__iter__") (by rw [YS,WS];kernel_rfl) (by decide +kernel) (by decide +kernel) (by decide +kernel)
  ((by first | exact .inl (by decide +kernel) | exact .inr (by decide +kernel))) (by rw [XC];kernel_rfl)))
theorem wU:acJ table "set_iterator.__iter__"=some Wb.«dict_keyiterator.__iter__»:=
 (abf (id':="dict_keyiterator.__iter__") (by kernel_rfl) rfl (by decide +kernel) (by kernel_rfl))
theorem yc (a:RX):argsOk "set_iterator.__iter__" ⟨[a],[]⟩:=by unfold argsOk;kernel_rfl
section
variable {prog:Sm}{w:SO}{A:SW}{E:RX->RZ->Prop}{s:RZ}
def ir (w:SO) (a ep:Nat) (es:Array (Int×RX)):List RX:=(fN w a ep es).toList.map (·.2)
theorem Fd (hh:A.handled=none) (I a:Se) (hne:a≠I){es:Array (Int×RX)}{ep:Nat}{t:Te}:
  Walks prog w A I [I,a] [I] es.size (λi v=>(ir w a ep es)[i]?=some v) (λi h=>∃slot,h.get? I=some (oM a slot i es.size ep)/\iV h a (lR w) es ep t/\(w.params.followText "set-order"=false->V7 t.place slot=i)) where
 sub:=λ_ hb=>by simp at hb;simp [hb]
 frame:=λ_ _ _ ⟨slot,h1,h2,h3⟩ hk=>⟨slot,hk I (by simp) _ h1,h2.keep λo e=>hk a (by simp) o e,h3⟩
 item:=λi s Q E hi ⟨slot,h1,h2,h3⟩ hQ=>by
  refine Gx hne h2 h1 h3 hi λh' slot' e q1 q2 q3 q4=>?_
  refine hQ e.2 h' s.toks ?_ ⟨slot',q2,h2.keep λo e=>?_,q3⟩ λb o hb e=>?_
  ·unfold ir;rw [Ss,TH,q1];rfl
  ·rw [q4.2 a hne];exact e
  ·exact q4.extBut b o (λh=>hb (by simp [h])) e
 done:=λs Q E ⟨slot,h1,h2,h3⟩ hQ=>IY hh h2 h1 h3 λh' he=>hQ h' s.toks λb o hb e=>he b o (λh=>hb (by simp [h])) e
 self:=λi s Q E ⟨slot,h1,h2,h3⟩ hQ=>by
  have hT:s.TypeIs (.ref I) "set_iterator":=⟨_,h1,rfl⟩
  refine X4 hT qd (S6 qd hT wU ?_ (yc _))
  show So _ _ (ret (.ref I)) _ _ s
  exact RY ⟨_,rfl,"set_iterator",_,hT,fM.lookup,hQ⟩
theorem Al {a:Se}{es:Array (Int×RX)}{ep:Nat}{t:Te}{Q:List RX->RZ->Prop}(hh:A.handled=none) (S:iV s.heap a (lR w) es ep t) (hn:es.size<=76)
  (hQ:∀(h':TU) (tk:Nat),(∀b o,s.heap.get? b=some o->h'.get? b=some o)->s.heap.objs.size < h'.objs.size->Q (ir w a ep es) {s with heap:=h',toks:=tk}):So (Su prog w) A (collect (.ref a)) Q E s:=by
 have ha:a < s.heap.objs.size:=Si S.at_
 have hT:s.TypeIs (.ref a) "set":=⟨_,S.at_,rfl⟩
 unfold collect
 (refine RU (Zi (UJ F.entry_proto_collect ?_)))
 (rw [Ur F.plain_proto_collect _])
 show So _ A.in1 (acy [] >>= λl=>again (.builtin "list.__iadd__" ⟨[l,.ref a],[]⟩)) _ _ s
 (refine RU (SX ?_))
 (refine RY ⟨VX aae _,UJ F.entry_list_iadd ?_⟩)
 (rw [Ur aae _])
 generalize Ry:({cls:=.type "list",data:=.seq ([]:List RX).toArray}:Obj)=l0
 have S1:iV (s.heap.push l0) a (lR w) es ep t:=S.keep λo e=>R5 _ e
 have hT1:Wt {s with heap:=s.heap.push l0} (.ref a) "set":=⟨_,S1.at_,rfl⟩
 show So _ A.in1 (Xn (.ref s.heap.objs.size) (.ref a) (.ref s.heap.objs.size)) _ _ _
 (unfold Xn)
 refine RU (WO hT1 ?_)
 have h1:abx (.ref s.heap.objs.size) (.ref a)=false:=by
  show (s.heap.objs.size == a)=false
  exact beq_eq_false_iff_ne.mpr (VJ ha)
 have h2:(VQ "set" == VQ "list")=false:=by decide
 have h3:(VQ "set" == VQ "tuple")=false:=by decide
 (simp only [h1,h2,h3,abF,Sk,if_false])
 refine RU (Ge S1 ?_)
 (refine RU (SD ?_))
 have z1:(s.heap.push l0).objs.size=s.heap.objs.size + 1:=VG _ _
 rw [z1]
 have S2:iV ((s.heap.push l0).push (oM a 0 0 es.size ep)) a (lR w) es ep t:=S1.keep λo e=>R5 _ e
 have hT2:Wt {s with heap:=(s.heap.push l0).push (oM a 0 0 es.size ep)} (.ref a) "set":=⟨_,S2.at_,rfl⟩
 refine Gb hT2 ?_
 refine Fe (by decide +kernel) ?_
 (refine RU (XS ?_))
 subst Ry
 have hI:((s.heap.push {cls:=.type "list",data:=.seq ([]:List RX).toArray}).push (oM a 0 0 es.size ep)).get? (s.heap.objs.size + 1)=some (oM a 0 0 es.size ep):=by rw [<-z1];exact Sd _ rfl
 have hS₁:((s.heap.push {cls:=.type "list",data:=.seq ([]:List RX).toArray}).push (oM a 0 0 es.size ep)).get? s.heap.objs.size=some {cls:=.type "list",data:=.seq ([]:List RX).toArray}:=R5 _ (Sd _ rfl)
 refine RU ?_
 (show So _ A.in1 (updateSeq s.heap.objs.size (·.push .none) >>= λ_=>updateSeq s.heap.objs.size (·.pop)) _ _ _)
 (refine RU (Xh hS₁ rfl ?_))
 (have hS₂:=Uc (T9 (·.push S3)) hS₁ rfl)
 (refine Xh hS₂ rfl ?_)
 (have hS₃:=Uc (T9 (·.pop)) hS₂ rfl)
 have oth:∀b o,b≠s.heap.objs.size->((s.heap.push {cls:=.type "list",data:=.seq ([]:List RX).toArray}).push (oM a 0 0 es.size ep)).get? b=some o->
   ((((s.heap.push {cls:=.type "list",data:=.seq ([]:List RX).toArray}).push (oM a 0 0 es.size ep)).update s.heap.objs.size (T9 (·.push S3))).update s.heap.objs.size (T9 (·.pop))).get? b=some o:=
  (λb o hb e=>(Wy _ _ (UX hb)).trans ((Wy _ _ (UX hb)).trans e))
 have hne:a≠s.heap.objs.size + 1:=Sv (Uy ha)
 have hSf:s.heap.objs.size∉[s.heap.objs.size + 1,a]:=by
  simp only [Sh,Tf,or_false,not_or]
  exact ⟨Sv (U5 _),VJ ha⟩
 obtain ⟨L,T⟩:=S.tab
 refine RY ⟨VX F.plain_extend_loop _,codeAny_extend_loopS ((Fd (A:=A.in1) (prog:=prog) (w:=w) (es:=es) (ep:=ep) (t:=t) hh (s.heap.objs.size + 1) a hne).toS) (by rw [S4];omega) _ hSf _ es.size 0 _ _ _ rfl (SG _)
  ⟨0,oth _ _ (VJ (U5 _)) hI,S2.keep λo e=>oth _ _ (Sv ha) e,λ_=>BW T.sop⟩ hS₃ (ItemsOf.nil _) λs' acc' c' hm hS' hacc=>?_⟩
 (show So _ A (load s.heap.objs.size >>= _) _ _ s')
 (refine RU (wpAny_load hS' ?_))
 have eacc:acc'.toList=ir w a ep es:=by
  obtain ⟨z,q⟩:=hacc
  have lw:(ir w a ep es).length=es.size:=by unfold ir;rw [R3,Sa,mJ]
  refine V9 (by rw [Sa,z,lw]) λi x1 x2=>?_
  have this:(ir w a ep es)[i]?=some (acc'[i]'(by simpa using x1)):=q i _ (Vi (by simpa using x1))
  rw [Sg x2] at this
  (exact (Tp this).symm)
 refine RY ?_
 rw [eacc]
 (obtain ⟨h',g',d',tk',os'⟩:=s')
 (have eg:g'=s.gens:=hm.gens)
 (have ed:d'=s.drawn:=hm.drawn)
 have eo:os'=s.os:=hm.os
 subst eg;subst ed;subst eo
 refine hQ h' tk' (λb o e=>?_) (Si hS')
 have lb:=Si e
 refine hm.heap b o ?_ (oth b o (Sv lb) (R5 _ (R5 _ e)))
 simp only [Sh,Tf,or_false,not_or]
 exact ⟨Sv lb,Sv (Uy lb)⟩
end
theorem wg:isSubtype (.type "tuple") (.type "set")=pure false:=by rw [XC];kernel_rfl
theorem we:isSubtype (.type "tuple") (.type "frozenset")=pure false:=by rw [XC];kernel_rfl
abbrev eK (led:Bool):Obj:={cls:=.type "set",dict:=none,data:=.set #[] 0 (.fresh 0 0 led)}
abbrev cL (w:SO):Bool:=!w.params.followText "set-order"
section
variable {prog:Sm}{w:SO}{A:SW}{E:RX->RZ->Prop}{s:RZ}{K:RV}{J:Hp}
theorem zB (a:RX){Q₁:RX->RZ->Prop}(h:Q₁ (.ref s.heap.objs.size) {s with heap:=s.heap.push (eK (cL w))}):
  (U4 (Su prog w) A (.call (.builtin "set.__new__") ⟨[.type "set",a],[]⟩) (wants Q₁ E) s):=by
 refine (Wu ?_)
 (show So _ A.in1 (do Yr "set.__new__" ⟨[.type "set",a],[]⟩;again (.builtin "set.__new__" ⟨[.type "set",a],[]⟩)) _ _ s)
 refine RU (We (PySem.F.newCall_set_1 a) (RY ⟨VX aaU _,UJ F.entry_set_new ?_⟩))
 (rw [Ur aaU _])
 (unfold Wb.«set.__new__» aa4)
 have hsub:=sub_set_self
 (obtain ⟨hp,g,d,tk,os⟩:=s)
 dsimp only
 wp_walk
 (refine U8 (RY ?_))
 dsimp only
 simp only [newObj]
 (refine RU (wpAny_alloc (RY ?_)))
 exact RY h
theorem zD {l:Se}{items:Array RX}{ds:List D}{Q:RX->RZ->Prop}(N:HF K J s) (hh:A.handled=none) (hl:s.heap.IsTuple l items) (hz:items.size=ds.length) (hi:∀i v,items[i]?=some v->KV K J v (ds.getD i .non)) (hn:ds.length<=76) (hu:A.units + 16 < Uh)
  (h:∀(h':TU) (tk:Nat) ks es ep t,iU K J h' s.heap.objs.size (cL w) ks es ep t->(∀d,d∈ks↔d∈ds)->(∀b o,b < s.heap.objs.size->s.heap.get? b=some o->h'.get? b=some o)->Q (.ref s.heap.objs.size) {s with heap:=h',toks:=tk}):
  (So (Su prog w) A (call (.type "set") [.ref l]) Q E s):=by
 (obtain ⟨c,tl,Q3⟩:=TL.mro)
 (have hmade:=TL.made)
 have hsub:=TL.sub
 (refine Y4 (Wu ?_))
 (show So _ _ (callAny (.type "set") _) _ _ _)
 (refine RY ⟨ZP _ (by decide +kernel),UJ aaf ?_⟩)
 (rw [ZQ (YT "set" [.ref l] []) rfl])
 (have h1:=TL.notType)
 (have h2:=TL.canCreate)
 have hct:=YD (.ref l)
 (repeat (any_goals (first | assumption | wp_step)))
 refine U9 (zB (.ref l) (E:=E) (Q₁:=λobj s₁=>obj=.ref s.heap.objs.size/\s₁={s with heap:=s.heap.push (eK (cL w))}) ⟨rfl,rfl⟩) λr s₁ hr=>?_
 cases r with
 | error e=>exact hr
 | ok fl=>
  cases fl with
  | ret obj=>
   obtain ⟨rfl,rfl⟩:=hr
   have hS:(s.heap.push (eK (cL w))).get? s.heap.objs.size=some (eK (cL w)):=Sd _ rfl
   have hT:Wt {s with heap:=s.heap.push (eK (cL w))} (.ref s.heap.objs.size) "set":=⟨_,hS,rfl⟩
   (have hli:=TL.init.lookup)
   (have hbi:=TL.init.bind (.ref s.heap.objs.size))
   (repeat (any_goals (first | assumption | wp_step)))
   refine U9 (W4 (R:=wants (λr s₂=>r=.none/\∃h' tk ks es ep t,s₂={s with heap:=h',toks:=tk}/\iU K J h' s.heap.objs.size (cL w) ks es ep t/\(∀d,d∈ks↔d∈ds)/\
     (∀b o,b < s.heap.objs.size->s.heap.get? b=some o->h'.get? b=some o)) E) TL.init.plain aau ((aav hT ?_))) λr₂ s₂ hr₂=>?_
   ·obtain ⟨ol,QH,hcl,nl,hdl⟩:=id hl
    have Qd:(s.heap.push (eK (cL w))).get? l=some ol:=R5 _ QH
    have Rb:=wg
    have Ra:=we
    have hne:(VQ "tuple" == VQ "dict")=false:=by decide
    have hl1:(s.heap.push (eK (cL w))).IsTuple l items:=⟨_,Qd,hcl,nl,hdl⟩
    have Rn:Wt {s with heap:=s.heap.push (eK (cL w))} (.ref l) "tuple":=⟨_,Qd,hcl⟩
    (unfold Wb.«set.__init__» noKeywords Xa)
    generalize QM:XN=PI
    wp_walk
    subst QM
    refine (Xs hl1 ?_)
    refine (RU (Zi ?_))
    (have hlS:l < s.heap.objs.size:=Si QH)
    have z1:(s.heap.push (eK (cL w))).objs.size=s.heap.objs.size + 1:=VG _ _
    have Qu:l≠(s.heap.push (eK (cL w))).objs.size:=by rw [z1];exact Sv (Uy hlS)
    have hSf:s.heap.objs.size∉[(s.heap.push (eK (cL w))).objs.size,l]:=by
     rw [z1]
     simp only [Sh,Tf,or_false,not_or]
     (exact ⟨Sv (U5 _),VJ hlS⟩)
    have hno:∀b,s.heap.objs.size<=b->s.heap.get? b=none:=λb hb=>by
     cases q:s.heap.get? b with
     | none=>rfl
     | some o=>exact absurd (Si q) (acO.mpr hb)
    have hval:∀(i:Nat) (v:RX),items[i]?=some v->KV K J v (ds.getD i .non):=hi
    have all:(R7 items.size).map (λi=>ds.getD i .non)=ds:=by
     refine V9 (by simp [hz]) λi a b=>?_
     simp [b]
    refine Ht (A:=A.in1.in1) (K:=K) (J:=J) (s0:=s) (led:=cL w) ((aaI (A:=A.in1.in1.in1) (by simp [hh]) (s.heap.push (eK (cL w))).objs.size l Qu items).toS) s.heap.objs.size hSf (λi=>ds.getD i .non) hval N (λb hb=>hno b ?_) (by simp only [in1_units];omega) (by omega) items.size 0 _ [] #[] 0 (.fresh 0 0 (cL w)) (by omega) (SG _) ⟨⟨_,Sd _ rfl,rfl,rfl⟩,hl1.push _⟩ (λb o e=>R5 _ (R5 _ e)) (CP (R5 _ hS)) (λd=>by simp) λs' ks es ep t hm hS' hmem=>?_
    ·(rcases Sh.mp hb with rfl | hb)
     ·exact R6 _
     ·rw [R9.mp hb,z1];exact Uj _
    ·rw [all] at hmem
     (obtain ⟨h',g',d',tk',os'⟩:=s')
     (have eg:g'=s.gens:=hm.gens)
     (have ed:d'=s.drawn:=hm.drawn)
     have eo:os'=s.os:=hm.os
     subst eg;subst ed;subst eo
     show So _ _ _ _ _ _
     refine RY ?_
     (show So _ _ (ret S3) _ _ _)
     refine RY ⟨rfl,h',tk',ks,es,ep,t,rfl,hS',hmem,λb o hb e=>?_⟩
     refine hm.heap b o ?_ (R5 _ (R5 _ e))
     rw [z1]
     simp only [Sh,Tf,or_false,not_or]
     exact ⟨Sv hb,Sv (Uy hb)⟩
   ·cases r₂ with
    | error e=>exact hr₂
    | ok fl₂=>
     cases fl₂ with
     | ret r=>
      obtain ⟨rfl,h',tk,ks,es,ep,t,rfl,hS',hm',hk'⟩:=hr₂
      (repeat (any_goals (first | assumption | wp_step)))
      exact h _ _ _ _ _ _ hS' hm' hk'
     | _=>exact hr₂.elim
  | _=>exact hr.elim
end
end DL
namespace DL
open PySem PySem.Spec PyProof.Rows L2 ST
open PySem.W (KasT kas_sort kas_ask)
section
variable {prog:Sm}{w:SO}{A:SW}{E:RX->RZ->Prop}{s:RZ}
theorem sortedS {a:Se}{es:Array (Int×RX)}{ep:Nat}{t:Te}{κ:abJ}{q:Nat->Nat->Bool}{Q:RX->RZ->Prop}{vs:List RX}(hv:ir w a ep es=vs) (hh:A.handled=none) (S:iV s.heap a (lR w) es ep t) (hn:es.size<=76)
  (hs:vs.length < 2\/(2<=vs.length/\vs.length < 64/\
   (∀h' tk C,(∀b o,s.heap.get? b=some o->h'.get? b=some o)->C κ {s with heap:=h',toks:=tk}->So (Su prog w) A.in1.in1 (abK vs.toArray) C (λ_ _=>False) {s with heap:=h',toks:=tk})/\
   ∀h' tk,(∀b o,s.heap.get? b=some o->h'.get? b=some o)->∀i j C,i < vs.length->j < vs.length->C (q i j) {s with heap:=h',toks:=tk}->kas_ask prog w A.in1.in1 κ vs i j C {s with heap:=h',toks:=tk}))
  (h:∀h' tk l n,(∀b o,s.heap.get? b=some o->h'.get? b=some o)->s.heap.objs.size<=l->h'.get? l=some (Uu "list" (if vs.length < 2 then vs else iA q vs).toArray n)->Q (.ref l) {s with heap:=h',toks:=tk}):So (Su prog w) A (call (.builtin "sorted") [.ref a]) Q E s:=by
 have sl:vs.length<=sizeLine:=by rcases hs with h | ⟨_,h,_⟩ <;> rw [S4] <;> omega
 refine (V6 aaM aal aam (aan _) ?_)
 unfold Wb.«sorted»
 refine RU (m:=abv "sorted" 1 1 _) ((RY ?_))
 refine RU (Al hh S hn λh1 tk1 k1 le0=>?_)
 rw [hv]
 refine RU (Wq ?_ sl)
 have le1:s.heap.objs.size<=h1.objs.size:=YG le0
 have gL:(h1.push (Uu "list" vs.toArray 0)).get? h1.objs.size=some (Uu "list" vs.toArray 0):=Sd _ rfl
 have kp:∀b o,s.heap.get? b=some o->b≠h1.objs.size/\(h1.push (Uu "list" vs.toArray 0)).get? b=some o:=λb o e=>by
  have e1:=k1 b o e
  exact ⟨Sv (Si e1),R5 _ e1⟩
 have kend:∀out b o,s.heap.get? b=some o->(abu (h1.push (Uu "list" vs.toArray 0)) h1.objs.size vs out).get? b=some o:=λout b o e=>by
  obtain ⟨g1,g2'⟩:=kp b o e
  rw [sortedHeap_old g1 (Si g2')]
  exact g2'
 dsimp only
 rcases hs with h2 | ⟨h2,h64,hk,hc⟩
 ·refine RU (SD (S6 Xy ⟨_,gL,rfl⟩ Xi (tK gL h2 ⟨_,rfl,?_⟩) (Xz _)))
  obtain ⟨n,hn'⟩:=abR (out:=vs.toArray) gL
  rw [if_pos h2] at h
  exact RY ⟨_,rfl,h _ tk1 _ n (kend _) le1 hn'⟩
 ·refine RU (SD (S6 Xy ⟨_,gL,rfl⟩ Xi (tL (κ:=κ) (q:=q) gL h2 h64 (λh' C k c=>?_) (λh' k i j C hi hj c=>?_) ⟨_,rfl,?_⟩) (Xz _)))
  ·exact hk h' tk1 C (λb o e=>k b o (kp b o e).1 (kp b o e).2) c
  ·exact hc h' tk1 (λb o e=>k b o (kp b o e).1 (kp b o e).2) i j C hi hj c
  ·obtain ⟨n,hn'⟩:=abR (out:=(iA q vs).toArray) gL
   rw [if_neg (by omega)] at h
   exact RY ⟨_,rfl,h _ tk1 _ n (kend _) le1 hn'⟩
end
mutual
noncomputable def formOf:D->Fm
 | .int _=>.i
 | .tup xs=>AW xs
 | _=>.b
noncomputable def AW:List D->Fm
 | []=>.tn
 | x::xs=>.tc (formOf x) (AW xs)
end
noncomputable def qw:Fm->D->Bool
 | .i,.int _=>true
 | .tn,.tup xs=>xs.isEmpty
 | .tc x r,.tup (y::ys)=>qw x y && qw r (.tup ys)
 | _,_=>false
theorem rL:∀(f:Fm) (d:D),qw f d=true->iw f d
 | .i,.int k,_=>⟨k,rfl⟩
 | .tn,.tup [],_=>⟨[],rfl,rfl⟩
 | .tc x r,.tup (y::ys),h=>by
  unfold qw at h
  rw [R8] at h
  exact ⟨_,rfl,y,ys,rfl,rL x y h.1,rL r (.tup ys) h.2⟩
noncomputable def HY:List D->Bool
 | []=>true
 | d::r=>(match fJ d with
  | some k=>fE k (d::r)
  | none=>false) && (d::r).all (qw (formOf d))
def pT (ds:List D):Bool:=decide (ds.length < 64) && (areKeys ds && (decide (deps ds<=8) && HY ds))
theorem GB {ds:List D}(h:HY ds=true):∃k f,∀d∈ds,fJ d=some k/\iw f d:=by
 cases ds with
 | nil=>exact ⟨.i,.i,λ_ h=>nomatch h⟩
 | cons d r=>
  unfold HY at h
  rw [R8] at h
  cases q:fJ d with
  | none=>rw [q] at h;cases h.1
  | some k=>
   rw [q] at h
   exact ⟨k,formOf d,λx hx=>⟨jB h.1 x hx,rL _ _ (SQ.mp h.2 x hx)⟩⟩
theorem nO {n:Nat}:∀{ds:List D},deps ds<=n->∀d∈ds,dep d<=n
 | [],_,_,h=>nomatch h
 | x::r,hn,d,h=>by
  unfold deps at hn
  (rcases Sh.mp h with rfl | h)
  ·omega
  ·exact nO (ds:=r) (by omega) d h
theorem nJ {k:Hd}:∀{ds:List D},(∀d∈ds,fJ d=some k)->fE k ds=true
 | [],_=>rfl
 | x::r,h=>by
  unfold fE
  rw [h x (R1 ..),nJ λd hd=>h d (R0 _ hd)]
  cases k <;> rfl
structure Od (ds:List D) (k:Hd) (f:Fm):Prop where
 ln:ds.length < 64
 ky:areKeys ds=true
 dp:deps ds<=8
 al:∀d∈ds,fJ d=some k/\iw f d
theorem y_ {ds:List D}(h:pT ds=true):∃k f,Od ds k f:=by
 unfold pT at h
 rw [R8,R8,R8] at h
 obtain ⟨h1,h2,h3,h4⟩:=h
 obtain ⟨k,f,h5⟩:=GB h4
 exact ⟨k,f,of_decide_eq_true h1,h2,of_decide_eq_true h3,h5⟩
abbrev oq (X:Cx) (H0:Hp) (a:Se) (ds:List D):HO:=.ext λh=>∃ks es ep t,iU X.K H0 h a (cL X.w) ks es ep t/\∀d,d∈ks↔d∈ds
section
variable {X:Cx}
theorem Nu {K:RV}{J:Hp}{k:Hd}{f:Fm}{ds:List D}{vs:List V}{us:List RX}(o:Od ds k f) (rs:aH K J ds vs) (rv:Vals vs us):∀i v,us.toArray[i]?=some v->KV K J v (ds.getD i .non):=λi v q=>by
 have l1:vs.length=us.length:=rv.length
 have l2:ds.length=vs.length:=rs.length
 have hi:i < us.length:=by
  have:=(Tn.mp q).1
  simpa using this
 have e:us.getD i S3=v:=by
  simp at q
  simp [YU,q]
 have r1:=eN rs (i:=i) (by omega)
 have r2:=eS rv (i:=i) (by omega)
 rw [e] at r2
 have m:=eE (ds:=ds) (i:=i) (by omega)
 refine ⟨?_,qO o.ky _ m,nO o.dp _ m,_,r1,r2⟩
 have hh:=(o.al _ m).1
 generalize cP ds i=d at r1 hh
 generalize vs.getD i V.non=vv at r1 r2
 cases d with
 | tup xs=>cases r1 with
  | tup _ _=>cases r2;exact ⟨_,rfl⟩
 | _=>cases hh
theorem DJ (hu:X.A.units + 64 < Uh) (hc:X.calm=true):bT X (.type "set") (λxs H Q=>∃p vs ds J0,xs=[.ref p]/\cV X.K H p vs/\aU J0 H/\aH X.K J0 ds vs/\pT ds=true/\∀l,H l=none->Q (.ref l) (upd H l (oq X J0 l ds))):=by
 intro RL s σ H xs us Q I r h
 obtain ⟨p,vs,ds,J0,rfl,hq,sm,rs,oks,q⟩:=h
 obtain ⟨u,rfl,rx⟩:=vals1 r
 cases rx
 obtain ⟨k,f,o⟩:=y_ oks
 have N:HF X.K J0 s:=HF.of (c:=⟨X.K,H,H,λ_=>True⟩) I sm
 obtain ⟨RM,r',pt,hz⟩:=I.tuple hq
 refine zD N (I.ok.hd hc) pt (by simp [<-r'.length,rs.length]) (Nu o rs r') (by have:=o.ln;omega) (by omega) λh' tk ks es ep t S hm kp=>?_
 exact ⟨.ref s.heap.objs.size,_,I.laid (t':=tk) (λb o e=>kp b o (Si e) e) (R6 _) (show cj X.prog X.w _ _ _ (oq X J0 s.heap.objs.size ds) from ⟨⟨ks,es,ep,t,S,hm⟩,⟨_,S.at_⟩,λh1 h2 ⟨ks,es,ep,t,S,hm⟩ e=>⟨ks,es,ep,t,S.keep e,hm⟩⟩),rfl,q _ (I.hok.fresh (R6 _))⟩
end
noncomputable def dd:List D->List D
 | []=>[]
 | x::xs=>if (dd xs).any (bg x)=true then dd xs else x::dd xs
def cS (ds:List D):List D:=aQ (dd ds)
section
variable {P:D->Prop}
theorem xu (p:dR P):∀(ds:List D),(∀x∈ds,P x)->(dd ds).Nodup/\∀y,y∈dd ds↔y∈ds
 | [],_=>⟨Vg,λ_=>.rfl⟩
 | x::xs,h=>by
  obtain ⟨h1,h2⟩:=xu p xs λy hy=>h y (R0 _ hy)
  have px:=h x (R1 ..)
  have eqv:(dd xs).any (bg x)=true↔x∈xs:=by
   rw [UN]
   constructor
   ·rintro ⟨z,hz,e⟩
    have hz':=(h2 z).mp hz
    rw [(p.eq x z px (h z (R0 _ hz'))).mp e]
    exact hz'
   ·intro hx
    exact ⟨x,(h2 x).mpr hx,(p.eq x x px px).mpr rfl⟩
  unfold dd
  by_cases c:(dd xs).any (bg x)=true
  ·rw [if_pos c]
   refine ⟨h1,λy=>?_⟩
   rw [h2 y,Sh]
   exact ⟨.inr,λz=>z.elim (λe=>e▸eqv.mp c) id⟩
  ·rw [if_neg c]
   refine ⟨UG.mpr ⟨λz=>c (eqv.mpr ((h2 x).mp z)),h1⟩,λy=>?_⟩
   rw [Sh,Sh,h2 y]
theorem zR (p:dR P):∀{A B:List D},(∀x∈A,P x)->A.Pairwise (λa b=>cI a b=true)->B.Pairwise (λa b=>cI a b=true)->(∀y,y∈A↔y∈B)->A=B
 | [],[],_,_,_,_=>rfl
 | [],b::B,_,_,_,h=>by cases (h b).mpr R1
 | a::A,[],_,_,_,h=>by cases (h a).mp R1
 | a::A,b::B,hp,hA,hB,h=>by
  obtain ⟨a1,a2⟩:=Uk.mp hA
  obtain ⟨b1,b2⟩:=Uk.mp hB
  have pa:=hp a R1
  have pb:=hp b ((h b).mpr R1)
  have no:∀z,P z->cI z z=true->False:=λz pz q=>by
   have:=p.asy z z pz pz q
   rw [q] at this;cases this
  have e:a=b:=by
   rcases Sh.mp ((h a).mp R1) with e | e
   ·exact e
   ·rcases Sh.mp ((h b).mpr R1) with f | f
    ·exact f.symm
    ·exact (no a pa (p.tra _ _ _ pa pb pa (a1 b f) (b1 a e))).elim
  subst e
  have:A=B:=by
   refine zR p (λx hx=>hp x (R0 _ hx)) a2 b2 λy=>⟨λhy=>?_,λhy=>?_⟩
   ·rcases Sh.mp ((h y).mp (R0 _ hy)) with e | e
    ·subst e;exact (no y pa (a1 y hy)).elim
    ·exact e
   ·rcases Sh.mp ((h y).mpr (R0 _ hy)) with e | e
    ·subst e;exact (no y pa (b1 y hy)).elim
    ·exact e
  rw [this]
theorem nB (p:dR P){ds:List D}(h:∀x∈ds,P x) (nd:ds.Nodup):(aQ ds).Pairwise λa b=>cI a b=true:=by
 have up:=zG p ds h
 have pm:=gP ds
 have nd':(aQ ds).Nodup:=pm.nodup_iff.mpr nd
 have both:=acP up nd'
 refine (Vc.mp both).imp ?_
 rintro a b ⟨ha,hb,h1,h2⟩
 cases q:cI a b with
 | true=>rfl
 | false=>exact absurd (p.tri a b (h a (pm.mem_iff.mp ha)) (h b (pm.mem_iff.mp hb)) q h1) h2
theorem zH (p:dR P){ds ks:List D}(h:∀x∈ds,P x) (nd:ks.Nodup) (hm:∀d,d∈ks↔d∈ds):aQ ks=cS ds:=by
 obtain ⟨h1,h2⟩:=xu p ds h
 have hk:∀x∈ks,P x:=λx hx=>h x ((hm x).mp hx)
 have hd:∀x∈dd ds,P x:=λx hx=>h x ((h2 x).mp hx)
 exact zR p (λx hx=>hk x ((gP ks).mem_iff.mp hx)) (nB p hk nd) (nB p hd h1) λy=>by
  rw [(gP ks).mem_iff,hm y]
  show _↔y∈aQ (dd ds)
  rw [(gP (dd ds)).mem_iff,h2 y]
theorem kZ (p:dR P){ds:List D}(h:∀x∈ds,P x):(cS ds).Pairwise (λa b=>cI a b=true)/\∀d,d∈cS ds↔d∈ds:=by
 obtain ⟨h1,h2⟩:=xu p ds h
 exact ⟨nB p (λx hx=>h x ((h2 x).mp hx)) h1,λd=>by show d∈aQ (dd ds)↔_;rw [(gP (dd ds)).mem_iff,h2 d]⟩
end
theorem fB.reps {K:RV}{J:Hp}{es:List (Int×RX)}{ks:List D}(h:fB K J es ks):∃vs,aH K J ks vs/\Vals vs (es.map (·.2)):=by
 induction h with
 | nil=>exact ⟨_,.nil,.nil⟩
 | cons _ hk _ ih=>
  obtain ⟨vs,h1,h2⟩:=ih
  obtain ⟨_,_,_,v,r,rv⟩:=hk
  exact ⟨v::vs,.cons r h1,.cons rv h2⟩
section
variable {X:Cx}
theorem B0 (hu:X.A.units + 64 < Uh) (hc:X.calm=true):bT X (.builtin "sorted") (λxs H Q=>∃p ds J0,xs=[.ref p]/\H p=some (oq X J0 p ds)/\aU J0 H/\pT ds=true/\∀l vs',H l=none->aH X.K J0 (cS ds) vs'->Q (.ref l) (upd H l (.lst vs'))):=by
 intro RL s σ H xs us Q I r h
 obtain ⟨p,ds,J0,rfl,hp,sm,oks,q⟩:=h
 obtain ⟨u,rfl,rx⟩:=vals1 r
 cases rx
 obtain ⟨k,f,o⟩:=y_ oks
 have hh:X.A.handled=none:=I.ok.hd hc
 have N:HF X.K J0 s:=HF.of (c:=⟨X.K,H,H,λ_=>True⟩) I sm
 obtain ⟨⟨ks,es,ep,t,S,hm⟩,_⟩:=(show cj X.prog X.w H s.heap p (oq X J0 p ds) from I.hok p _ hp)
 obtain ⟨ks',pm,en'⟩:=S.en.perm (mH X.w p ep es).symm
 have nd':ks'.Nodup:=pm.nodup_iff.mp S.nd
 have hm':∀d,d∈ks'↔d∈ds:=λd=>by rw [<-pm.mem_iff,hm d]
 obtain ⟨vs,rs,rv⟩:=en'.reps
 have hv:ir X.w p ep es=(fN X.w p ep es).toList.map (·.2):=rfl
 rw [<-hv] at rv
 generalize hits:ir X.w p ep es=RM at rv
 have l1:vs.length=RM.length:=rv.length
 have l2:ks'.length=vs.length:=rs.length
 have len:ks'.length<=ds.length:=SS nd' λd hd=>(hm' d).mp hd
 have l64:=o.ln
 have les:es.size=ks'.length:=by rw [<-Sa,S.en.length,pm.length_eq]
 have tot:=dQ f
 have out:=zH tot (λx hx=>(o.al x hx).2) nd' hm'
 have fin:∀(h':TU) (tk:Nat) (l:Se) (n:Nat) (ot:List RX) (vs':List V),vs'.length=vs.length->Vals vs' ot->aH X.K J0 (aQ ks') vs'->(∀b o,s.heap.get? b=some o->h'.get? b=some o)->s.heap.objs.size<=l->h'.get? l=some (Uu "list" ot.toArray n)->EP X RL σ Q (.ref l) {s with heap:=h',toks:=tk}:=λh' tk l n ot vs' lv rv' rr kp hl hg=>by
  refine ⟨.ref l,_,I.laid (t':=tk) kp hl (show cj X.prog X.w _ _ _ (.lst vs') from ⟨by rw [lv,S4];omega,ot,n,rv',by simpa [Uu] using hg⟩),rfl,q l vs' (I.hok.fresh hl) (by rw [<-out];exact rr)⟩
 have un:X.A.in1.in1.units=X.A.units + 2:=rfl
 refine sortedS (κ:=acB k.flag) (q:=ltB ks') (vs:=RM) hits hh S.wk (by omega) ?_ λh' tk l n kp hl hg=>?_
 ·by_cases h2:RM.length < 2
  ·exact .inl h2
  ·refine .inr ⟨by omega,by omega,λh' tk C kp cc=>?_,λh' tk kp i j C hi hj cc=>?_⟩
   ·exact vI (N.keep kp) (nJ λd hd=>(o.al d ((hm' d).mp hd)).1) rs rv (by omega) cc
   ·have hi':i < ks'.length:=by omega
    have hj':j < ks'.length:=by omega
    have mi:=(hm' _).mp (eE hi')
    have mj:=(hm' _).mp (eE hj')
    have hb:cW (cP ks' i) (cP ks' j)=some (ltB ks' i j):=by
     have:=tot.lt _ _ (o.al _ mi).2 (o.al _ mj).2
     unfold ltB
     cases z:cW (cP ks' i) (cP ks' j) with
     | none=>rw [z] at this;cases this
     | some b=>rfl
    have d1:=nO o.dp _ mi
    have d2:=nO o.dp _ mj
    exact A5 (N.keep kp) (o.al _ mi).1 (o.al _ mj).1 hb (eN rs hi') (eN rs hj') (eS rv (by omega)) (eS rv (by omega)) (by rw [un];omega) (by omega) (by omega) cc
 ·by_cases h2:RM.length < 2
  ·rw [if_pos h2] at hg
   refine fin h' tk l n RM vs rfl rv ?_ kp hl hg
   unfold aQ
   rw [if_pos (by omega)]
   exact rs
  ·rw [if_neg h2] at hg
   have ib:∀i∈(aZ (ltB ks') (UT ks'.length)).toList,i < ks'.length:=λi hi=>by
    have:=((eG (n:=ks'.length) (by omega)).run (ltB ks'):eF _ _)
    have:=(U_ this).mp (V1.mp hi)
    simpa using this
   have e1:iA (ltB ks') RM=(aZ (ltB ks') (UT ks'.length)).toList.map λi=>RM.getD i S3:=by unfold iA;rw [l2,l1]
   rw [e1] at hg
   refine fin h' tk l n _ _ ?_ (nD rv _ λi hi=>l2▸ib i hi) ?_ kp hl hg
   ·rw [R3,<-l2]
    have:=((eG (n:=ks'.length) (by omega)).run (ltB ks'):eF _ _).size_eq
    simpa using this
   ·unfold aQ
    rw [if_neg (by omega)]
    exact ny rs _ ib
end
end DL
namespace DL
open PySem PySem.Spec PyProof.Rows L2 ST
end DL
namespace DL
open PySem PySem.Spec PyProof.Rows L2 DX
end DL
namespace DL
open PySem PySem.Spec PyProof.Rows L2 ST PySem.SetTable
section
variable {t:Te}{es:Array (Int×RX)}{L:List (Nat×Int×RX)}
theorem tU (T:Tab t es L) (h:Int) (n0:Nat) (hf:pos t.mask h n0∉L.map (·.1)) (hb:∀m,m < n0->pos t.mask h m∈L.map (·.1)):
  ∀(d n F:Nat),n0 - n=d->n<=n0->d < F->probe.go t (λ_=>h + 1) h F (st t.mask h n)=some (.empty (pos t.mask h n0) none)
 | d,n,0,_,_,h=>absurd h (Tr _)
 | d,n,F + 1,hd,hn,hF=>by
  by_cases c:n=n0
  ·subst c
   unfold probe.go
   rw [t9 T.dm (by rw [T.pl];exact hf)]
   show some (Met.empty _ (st t.mask h n).dummy)=_
   rw [oA]
  ·obtain ⟨e,he,ej⟩:=R4.mp (hb n (by omega))
   obtain ⟨i,hi,rfl⟩:=UQ.mp he
   have hs:t.slot (pos t.mask h n)=.live i:=qc T.sop (by rw [(T.at_ (Sg hi)).1,ej])
   have eg:probe.go t (λ_=>h + 1) h (F + 1) (st t.mask h n)=probe.go t (λ_=>h + 1) h F (st t.mask h (n + 1)):=by
    rw [probe.go,hs]
    show (if (h + 1 == h)=true then _ else _)=_
    rw [if_neg (by rw [beq_iff_eq];omega)]
    rfl
   rw [eg]
   exact tU T h n0 hf hb (n0 - (n + 1)) (n + 1) F rfl (by omega) (by omega)
theorem D6 (T:Tab t es L) (h:Int) (n0:Nat) (hf:pos t.mask h n0∉L.map (·.1)) (hb:∀m,m < n0->pos t.mask h m∈L.map (·.1)) (hn0:n0<=10 * (t.mask + 12)):t.freeSlot h=some (pos t.mask h n0,false):=by
 have e:t.probe (λ_=>h + 1) h (t.probeStart h)=some (.empty (pos t.mask h n0) none):=tU T h n0 hf hb n0 0 (10 * turns t.mask) rfl (SG _) (by unfold turns;omega)
 unfold SetTable.freeSlot
 rw [e]
 rfl
theorem Js (T:Tab t es L) (h:Int) (x:RX) (n0:Nat) (hf:pos t.mask h n0∉L.map (·.1)) (hb:∀m,m < n0->pos t.mask h m∈L.map (·.1)) (hn0:n0<=10 * (t.mask + 12)) (hl:L.length + 1<=t.mask):
  layNew t es h x=(insertAt es (t.put (pos t.mask h n0)).2 (h,x),(t.put (pos t.mask h n0)).1,false,false):=by
 obtain ⟨L',T',_⟩:=T.put h x n0 hf hb (zb _ _ _) hl
 have fit:=cO T'
 unfold layNew
 rw [D6 T h n0 hf hb hn0]
 dsimp only
 unfold SetTable.orStandIn
 rw [fit]
 rfl
theorem Gm {mask finger moves:Nat}{led plain:Bool}{t':Te}{RT:Array Nat}(hm:lI mask) (hl:es.size<=mask) (e:laid mask finger moves led plain (es.map (·.1))=some (t',RT)):RT.toList.Perm (R7 es.size):=by
 obtain ⟨owner,G,e0,O⟩:=En hm (es.map (·.1)) (by simpa using hl)
 have hlen:G.length=es.size:=by rw [O.ln];simp
 (let live:=(R7 (mask + 1)).filterMap λj=>(owner.getD j none).map (j,·))
 have lv:∀p,p∈live↔p.1∈G/\p.2=G.idxOf p.1:=λp=>by
  show p∈(R7 (mask + 1)).filterMap _↔_
  rw [Wi]
  constructor
  ·rintro ⟨j,hj,q⟩
   have hj':j<=mask:=by have:=Sq.mp hj;omega
   rw [O.at_ j hj'] at q
   by_cases c:j∈G
   ·rw [if_pos c] at q
    have q:(j,G.idxOf j)=p:=by simpa using q
    subst q
    exact ⟨c,rfl⟩
   ·rw [if_neg c] at q;exact absurd q (by simp)
  ·rintro ⟨h1,h2⟩
   refine ⟨p.1,Sq.mpr (by have:=O.bd _ h1;omega),?_⟩
   rw [O.at_ _ (O.bd _ h1),if_pos h1]
   show some (p.1,G.idxOf p.1)=some p
   rw [<-h2]
 have so1:live.Pairwise λa b=>a.1 < b.1:=by
  show ((R7 (mask + 1)).filterMap _).Pairwise _
  rw [Yl]
  refine VH.imp ?_
  intro a b hab x hx y hy
  cases q1:owner.getD a none with
  | none=>rw [q1] at hx;exact absurd hx (by simp)
  | some k1=>cases q2:owner.getD b none with
   | none=>rw [q2] at hy;exact absurd hy (by simp)
   | some k2=>
    rw [q1] at hx;rw [q2] at hy
    have hx:(a,k1)=x:=by simpa using hx
    have hy:(b,k2)=y:=by simpa using hy
    subst hx;subst hy;exact hab
 have ord:(live.map (·.2)).Perm (R7 es.size):=by
  rw [Xr _ U7]
  ·intro k
   rw [R4,Sq]
   constructor
   ·rintro ⟨p,hp,rfl⟩
    obtain ⟨h1,h2⟩:=(lv p).mp hp
    rw [h2,<-hlen]
    exact Ti h1
   ·intro hk
    rw [<-hlen] at hk
    exact ⟨(G[k],k),(lv _).mpr ⟨T7 _,(O.nd.idxOf_getElem k hk).symm⟩,rfl⟩
  ·show (live.map (·.2)).Pairwise _
   rw [S_]
   refine (Vc.mp so1).imp ?_
   rintro a b ⟨ha,hb,hab⟩ z
   obtain ⟨a1,a2⟩:=(lv a).mp ha
   obtain ⟨b1,b2⟩:=(lv b).mp hb
   rw [a2,b2] at z
   have ga:=VI (Ti a1)
   have gb:=VI (Ti b1)
   have:a.1=b.1:=by
    rw [<-ga,<-gb]
    congr 1
   omega
 unfold laid at e
 rw [e0] at e
 have e1:(live.map (·.2)).toArray=RT:=by
  have:=Tp e
  exact congrArg ac4 this
 rw [<-e1]
 exact ord
theorem EY {w:Nat}(hm:lI (sizeAbove w - 1)) (hl:es.size<=sizeAbove w - 1):∃t' es' L',relayAll t es w=(es',t',false)/\t'.mask=sizeAbove w - 1/\t'.led=t.led/\t'.plain=t.plain/\Tab t' es' L'/\es'.toList.Perm es.toList:=by
 obtain ⟨t',RT,L',e1,e2,e3,e4,e5,e6⟩:=vU (t:=t) (es:=es) hm hl
 have od:RT.toList.Perm (R7 es.size):=Gm hm hl e1
 refine ⟨t',RT.filterMap (es[·]?),L',?_,e2,e3,e4,e5,e6⟩
 unfold relayAll
 rw [e1]
 dsimp only
 have c1:coversAll RT es.size=true:=by unfold coversAll;exact List.isPerm_iff.mpr od
 rw [c1,cO e5]
 rfl
end
end DL
namespace DL
open PySem PySem.Spec PyProof.Rows L2 ST
inductive eZ:List (Int×RX)->List Int->Prop
 | nil:eZ [] []
 | cons {i:Int}{k:Tok}{es:List (Int×RX)}{ns:List Int}:eZ es ns->eZ ((V0 i,.int i k)::es) (i::ns)
theorem eZ.perm {es es':List (Int×RX)}(p:es.Perm es'):∀{ns:List Int},eZ es ns->∃ns',ns.Perm ns'/\eZ es' ns':=by
 induction p with
 | nil=>intro ns h;exact ⟨ns,.refl _,h⟩
 | cons x _ ih=>
  intro ns h
  cases h with
  | cons h3=>obtain ⟨ns',a,b⟩:=ih h3;exact ⟨_,a.cons _,.cons b⟩
 | swap x y l=>
  intro ns h
  cases h with
  | cons h3=>cases h3 with
   | cons h6=>exact ⟨_,.swap _ _ _,.cons (.cons h6)⟩
 | trans _ _ ih1 ih2=>
  intro ns h
  obtain ⟨k1,a,b⟩:=ih1 h
  obtain ⟨k2,c,d⟩:=ih2 b
  exact ⟨k2,a.trans c,d⟩
theorem eZ.length {es:List (Int×RX)}{ns:List Int}(h:eZ es ns):es.length=ns.length:=by
 induction h with
 | nil=>rfl
 | cons _ ih=>simp [ih]
structure jk (h:TU) (a:Se) (led:Bool) (ns:List Int) (es:Array (Int×RX)) (ep:Nat) (t:Te):Prop where
 at_:h.get? a=some {cls:=.type "set",dict:=none,data:=.set es ep t}
 tab:∃L,Tab t es L
 pl:t.plain=true
 ld:t.led=led
 rm:ns.length * 5 < t.mask * 3
 en:eZ es.toList ns
 nd:ns.Nodup
section
variable {w:SO}{prog:Sm}{E:RX->RZ->Prop}{A:SW}{s:RZ}
theorem eZ.elems {es:List (Int×RX)}{ns:List Int}(h:eZ es ns):ElemsOf (ZW prog w) es:=by
 induction h with
 | nil=>exact λe he=>nomatch he
 | @cons i k es ns _ ih=>
  intro e he
  (rcases Sh.mp he with rfl | he)
  ·exact ⟨⟨i,aby _ _ _ _,rfl⟩,rfl⟩
  ·exact ih e he
theorem eZ.find {es:List (Int×RX)}{ns:List Int}(h:eZ es ns) (i:Int):(es.findIdx? λe=>(ZW prog w).is i e.2)=none↔i∉ns:=by
 rw [List.findIdx?_eq_none_iff]
 induction h with
 | nil=>simp
 | @cons j k es ns _ ih=>
  rw [Sh,not_or,<-ih]
  have e:(ZW prog w).is i (.int j k)=decide (i=j):=KeyKind.is_eq_decide (aby prog w j k) i
  constructor
  ·intro h
   refine ⟨λz=>?_,λx hx=>h x (R0 _ hx)⟩
   have:=h _ R1
   rw [e,z] at this
   simp at this
  ·rintro ⟨h1,h2⟩ x hx
   (rcases Sh.mp hx with rfl | hx)
   ·rw [e];simpa using h1
   ·exact h2 x hx
theorem add_int {a:Se}{es:Array (Int×RX)}{ep:Nat}{t:Te}{led:Bool}{ns:List Int}{i:Int}{k:Tok}{Q:Bool->RZ->Prop}(S:jk s.heap a led ns es ep t) (hl:ns.length < 76)
  (q1:i∈ns->Q false s) (q2:i∉ns->∀(h':TU) ns' es' ep' t',Tw a s.heap h'->(i::ns).Perm ns'->jk h' a led ns' es' ep' t'->Q true {s with heap:=h'}):
  So (Su prog w) A (YR a (.int i k) (V0 i)) Q E s:=by
 obtain ⟨L,T⟩:=S.tab
 have lenL:L.length=ns.length:=by rw [nC T,<-Sa,S.en.length]
 have hes:es.size=ns.length:=by rw [<-Sa,S.en.length]
 obtain ⟨n0,b1,b2,b3⟩:=sP T.mo (V0 i) (L.map (·.1)) (by rw [R3];exact T.fl)
 (unfold YR abe)
 refine SD (RU (Ub S.at_ rfl (cO T) ?_))
 dsimp only
 have sc:byScan (.int i k) es=true:=byScan_of (prog:=prog) (w:=w) (knd:=ZW prog w) rfl (by unfold scanBound;omega) S.en.elems
 rw [sc]
 simp only [if_true]
 unfold setAddByScan
 refine RU ?_
 (refine RU (XS ?_))
 refine RU (wpAny_setScan_of (knd:=ZW prog w) (k:=i) (aby _ _ _ _) S.at_ rfl (cO T) S.en.elems ?_)
 cases hr:List.findIdx? (λe=>(ZW prog w).is i e.2) es.toList with
 | some j=>
  dsimp only
  have hin:i∈ns:=UE λz=>by
   have:=(S.en.find (prog:=prog) (w:=w) i).mpr z
   rw [hr] at this;cases this
  exact RY (RY (q1 hin))
 | none=>
  dsimp only
  have hm:i∉ns:=(S.en.find i).mp hr
  have rm:=S.rm
  have ln:=Js T (V0 i) (.int i k) n0 b2 b3 b1 (by rcases T.mo with h | h | h <;> rw [h] at rm ⊢ <;> omega)
  rw [ln]
  dsimp only
  (refine RU (We (a:=()) rfl ?_))
  obtain ⟨L',T',pm⟩:=T.put (V0 i) (.int i k) n0 b2 b3 (zb _ _ _) (by rcases T.mo with h | h | h <;> rw [h] at rm ⊢ <;> omega)
  have fl:(t.put (pos t.mask (V0 i) n0)).1.mask=t.mask/\(t.put (pos t.mask (V0 i) n0)).1.plain=t.plain/\(t.put (pos t.mask (V0 i) n0)).1.led=t.led:=⟨rfl,rfl,rfl⟩
  generalize t.put (pos t.mask (V0 i) n0)=tp at T' fl ⊢
  obtain ⟨t',p⟩:=tp
  dsimp only at T' fl ⊢
  obtain ⟨f1,f2,f3⟩:=fl
  obtain ⟨ns',p1,p2⟩:∃ns',(i::ns).Perm ns'/\eZ (Ud es p (V0 i,.int i k)).toList ns':=by
   refine eZ.perm (es:=(V0 i,.int i k)::es.toList) ?_ (.cons S.en)
   rw [T'.en,T.en]
   exact (pm.map (·.2)).symm
  have nd':ns'.Nodup:=p1.nodup_iff.mp (UG.mpr ⟨hm,S.nd⟩)
  have lk:ns'.length=ns.length + 1:=by rw [<-p1.length_eq];rfl
  rw [f2,S.pl]
  simp only [if_true]
  (refine RU (We (a:=true) rfl ?_))
  simp only [if_true]
  have esz:(Ud es p (V0 i,aaz i k)).size=ns'.length:=by rw [<-Sa,p2.length]
  refine RU (WI S.at_ rfl ?_ (by rw [esz,S4];omega))
  have hg:=Uc (X3 (Ud es p (V0 i,.int i k)) t') S.at_ rfl
  have hfill:t'.fill=ns'.length:=by
   unfold ZO
   rw [T'.dm,<-Sa,T'.pl,R3,nC T',esz]
   rfl
  split
  ·rename_i c
   simp only [WK,VB] at c
   unfold WZ at c
   rw [hfill,f1,decide_eq_true_eq] at c
   have hW:(Uo (WL ns'.length)=32/\ns'.length=5)\/(Uo (WL ns'.length)=128/\ns'.length=19):=by
    unfold WL
    rw [if_neg (by omega)]
    rcases T.mo with h | h | h
    ·rw [h] at c rm
     have:ns'.length=5:=by omega
     rw [this]
     exact .inl ⟨AF,rfl⟩
    ·rw [h] at c rm
     have:ns'.length=19:=by omega
     rw [this]
     exact .inr ⟨AG,rfl⟩
    ·rw [h] at c;omega
   have hmo:lI (Uo (WL ns'.length) - 1):=by rcases hW with ⟨h,_⟩ | ⟨h,_⟩ <;> rw [h];exact .inr (.inl rfl);exact .inr (.inr rfl)
   rw [esz]
   obtain ⟨t2,es2,L2,g1,g2',g3,g4,g5,g6⟩:=EY (t:=t') (es:=Ud es p (V0 i,.int i k)) hmo (by rw [esz];rcases hW with ⟨h,h'⟩ | ⟨h,h'⟩ <;> rw [h] <;> omega)
   rw [g1]
   dsimp only
   (refine RU (We (a:=()) rfl ?_))
   obtain ⟨ns2,r1,r2⟩:=p2.perm g6.symm
   have es2z:es2.size=ns'.length:=by rw [<-Sa,r2.length,r1.length_eq]
   refine RU (WI (s:={s with heap:=s.heap.update a (X3 (Ud es p (V0 i,.int i k)) t')}) hg rfl ?_ (by rw [es2z,S4];omega))
   have QC:=Uc (X3 es2 t2) hg rfl
   refine RY (RY (q2 hm _ ns2 _ _ _ ((T8 _ _ _).trans (T8 _ _ _)) (p1.trans r1) ⟨QC,⟨L2,g5⟩,g4.trans (f2.trans S.pl),g3.trans (f3.trans S.ld),?_,r2,r1.nodup_iff.mp nd'⟩))
   rw [<-r1.length_eq,g2']
   rcases hW with ⟨h,h'⟩ | ⟨h,h'⟩ <;> rw [h,h'] <;> omega
  ·rename_i c
   simp only [WK,VB] at c
   unfold WZ at c
   rw [hfill,f1,decide_eq_true_eq] at c
   exact RY (RY (q2 hm _ ns' _ _ _ (T8 _ _ _) p1 ⟨hg,⟨L',T'⟩,f2.trans S.pl,f3.trans S.ld,by rw [f1];omega,p2,nd'⟩))
end
theorem jk.keep {h h':TU}{a:Se}{led:Bool}{ns:List Int}{es:Array (Int×RX)}{ep:Nat}{t:Te}(S:jk h a led ns es ep t) (e:∀o,h.get? a=some o->h'.get? a=some o):jk h' a led ns es ep t:=
 ⟨e _ S.at_,S.tab,S.pl,S.ld,S.rm,S.en,S.nd⟩
section
variable {w:SO}{prog:Sm}{R:aaB->RZ->Prop}{A:SW}{I:Se}{fp wr:List Se}{G:Array Zu->Array Zu->Prop}{n:Nat}{P:Nat->RX->Prop}{St:Nat->RZ->Prop}
theorem Fc (W:WalksS prog w A.in1 I fp wr G n P St) (S:Se) (hSf:S∉fp) (val:Nat->Int) (hval:∀i v,P i v->∃t,v=.int (val i) t) (hn:n<=76){led:Bool}:
  ∀(k i:Nat) (s:RZ) (ns:List Int) (es:Array (Int×RX)) (ep:Nat) (t:Te),n - i=k->i<=n->St i s->jk s.heap S led ns es ep t->(∀d,d∈ns↔d∈(R7 i).map val)->
   (∀s' ns' es' ep' t',Moved (S::wr) G s s'->jk s'.heap S led ns' es' ep' t'->(∀d,d∈ns'↔d∈(R7 n).map val)->R (.ok (.ret .none)) s')->
   (U4 (Su prog w) A (.builtin "set.update.loop" ⟨[.ref S,.ref I],[]⟩) R s):=by
 (have Qy:S∉wr:=λh=>hSf (W.sub _ h))
 (have hsub:∀b∈wr,b∈S::wr:=λb hb=>R0 _ hb)
 intro k
 induction k with
 | zero=>
  intro i s ns es ep t hk hi hst hS hm hR
  have hin:i=n:=by omega
  subst hin
  refine UJ TZ ?_
  rw [Ur SK _]
  (show So _ A.in1 (Wv (.ref I) >>= _) _ _ s)
  refine RU (W.done s _ _ hst λs' P6=>?_)
  (show So _ A.in1 (ret S3) _ _ s')
  exact RY (hR s' ns es ep t (P6.mono hsub) (hS.keep λo e=>P6.heap S o Qy e) hm)
 | succ k ih=>
  intro i s ns es ep t hk hi hst hS hm hR
  have hlt:i < n:=by omega
  have hlen:ns.length<=i:=by
   have:=SS hS.nd (λd hd=>(hm d).mp hd)
   simpa using this
  refine UJ TZ ?_
  rw [Ur SK _]
  (show So _ A.in1 (Wv (.ref I) >>= _) _ _ s)
  refine RU (W.item i s _ _ hlt hst λv s' hP Qe P6=>?_)
  obtain ⟨tk,rfl⟩:=hval i v hP
  have hS':=hS.keep (h':=s'.heap) λo e=>P6.heap S o Qy e
  have mem':∀(ns':List Int),(∀d,d∈ns'↔d=val i\/d∈ns)->∀d,d∈ns'↔d∈(R7 (i + 1)).map val:=λns' h d=>by
   rw [h d,hm d,Xk,SA,Sz]
   simp only [Sj,WQ,R9]
   exact Or.comm
  show So _ A.in1 (holding [.int (val i) tk] (setAdd S (.int (val i) tk)) >>= _) _ _ s'
  (refine RU (SD ?_))
  unfold setAdd
  refine SD ?_
  (refine RU (Yo ?_))
  refine add_int (s:={s' with toks:=s'.toks + 1}) hS' (by omega) (λhin=>?_) (λhin h' ns' es' ep' t' Qx Q8 QN=>?_)
  ·refine RY ⟨VX SK _,ih (i + 1) _ ns es ep t (by omega) hlt (W.frame _ s' _ _ Qe (Uj _) λb hb o e=>e) hS' (mem' ns λd=>⟨.inr,λh=>h.elim (λh=>h▸hin) id⟩) λs'' ns'' es'' ep'' t'' hm'' hS'' Qh=>?_⟩
   exact hR s'' ns'' es'' ep'' t'' (Zr W.gtrans ((P6.mono hsub).then_heap (Uj _) λb o hb e=>e) hm'') hS'' Qh
  ·refine RY ⟨VX SK _,ih (i + 1) _ ns' es' ep' t' (by omega) hlt (W.frame _ s' _ _ Qe (Uj _) λb hb o e=>?_) QN (mem' ns' λd=>?_) λs'' ns'' es'' ep'' t'' hm'' hS'' Qh=>?_⟩
   ·(rw [Qx.2 b (λh:b=S=>hSf (by rw [<-h];exact hb))];exact e)
   ·rw [<-Q8.mem_iff,Sh]
   ·refine hR s'' ns'' es'' ep'' t'' (Zr W.gtrans ((P6.mono hsub).then_heap (Uj _) λb o hb e=>?_) hm'') hS'' Qh
    (rw [Qx.2 b (λh:b=S=>hb (by rw [h];exact R1))];exact e)
end
theorem CQ {h:TU}{a:Se}{led:Bool}(e:h.get? a=some {cls:=.type "set",dict:=none,data:=.set #[] 0 (.fresh 0 0 led)}):jk h a led [] #[] 0 (.fresh 0 0 led):=
 ⟨e,⟨[],⟨rfl,rfl,rfl,UW,(λ_ h=>nomatch h),.inl rfl,SG _,(λ_ h=>nomatch h)⟩⟩,rfl,rfl,(show 0 * 5 < 7 * 3 by decide),.nil,Vg⟩
section
variable {w:SO}{prog:Sm}{A:SW}{s:RZ}{E:RX->RZ->Prop}
theorem wZ {l:Se}{items:Array RX}{ds:List Int}{Q:RX->RZ->Prop}(hh:A.handled=none) (hl:s.heap.IsTuple l items) (hz:items.size=ds.length) (hi:∀(i:Nat) (v:RX),items[i]?=some v->∃t,v=.int (ds.getD i 0) t) (hn:ds.length<=76)
  (h:∀(h':TU) (tk:Nat) ks es ep t,jk h' s.heap.objs.size (cL w) ks es ep t->(∀d,d∈ks↔d∈ds)->(∀b o,b < s.heap.objs.size->s.heap.get? b=some o->h'.get? b=some o)->Q (.ref s.heap.objs.size) {s with heap:=h',toks:=tk}):
  (So (Su prog w) A (call (.type "set") [.ref l]) Q E s):=by
 (obtain ⟨c,tl,Q3⟩:=TL.mro)
 (have hmade:=TL.made)
 have hsub:=TL.sub
 (refine Y4 (Wu ?_))
 (show So _ _ (callAny (.type "set") _) _ _ _)
 (refine RY ⟨ZP _ (by decide +kernel),UJ aaf ?_⟩)
 (rw [ZQ (YT "set" [.ref l] []) rfl])
 (have h1:=TL.notType)
 (have h2:=TL.canCreate)
 have hct:=YD (.ref l)
 (repeat (any_goals (first | assumption | wp_step)))
 refine U9 (zB (.ref l) (E:=E) (Q₁:=λobj s₁=>obj=.ref s.heap.objs.size/\s₁={s with heap:=s.heap.push (eK (cL w))}) ⟨rfl,rfl⟩) λr s₁ hr=>?_
 cases r with
 | error e=>exact hr
 | ok fl=>
  cases fl with
  | ret obj=>
   obtain ⟨rfl,rfl⟩:=hr
   have hS:(s.heap.push (eK (cL w))).get? s.heap.objs.size=some (eK (cL w)):=Sd _ rfl
   have hT:Wt {s with heap:=s.heap.push (eK (cL w))} (.ref s.heap.objs.size) "set":=⟨_,hS,rfl⟩
   (have hli:=TL.init.lookup)
   (have hbi:=TL.init.bind (.ref s.heap.objs.size))
   (repeat (any_goals (first | assumption | wp_step)))
   refine U9 (W4 (R:=wants (λr s₂=>r=.none/\∃h' tk ks es ep t,s₂={s with heap:=h',toks:=tk}/\jk h' s.heap.objs.size (cL w) ks es ep t/\(∀d,d∈ks↔d∈ds)/\
     (∀b o,b < s.heap.objs.size->s.heap.get? b=some o->h'.get? b=some o)) E) TL.init.plain aau ((aav hT ?_))) λr₂ s₂ hr₂=>?_
   ·obtain ⟨ol,QH,hcl,nl,hdl⟩:=id hl
    have Qd:(s.heap.push (eK (cL w))).get? l=some ol:=R5 _ QH
    have Rb:=wg
    have Ra:=we
    have hne:(VQ "tuple" == VQ "dict")=false:=by decide
    have hl1:(s.heap.push (eK (cL w))).IsTuple l items:=⟨_,Qd,hcl,nl,hdl⟩
    have Rn:Wt {s with heap:=s.heap.push (eK (cL w))} (.ref l) "tuple":=⟨_,Qd,hcl⟩
    (unfold Wb.«set.__init__» noKeywords Xa)
    generalize QM:XN=PI
    wp_walk
    subst QM
    refine (Xs hl1 ?_)
    refine (RU (Zi ?_))
    (have hlS:l < s.heap.objs.size:=Si QH)
    have z1:(s.heap.push (eK (cL w))).objs.size=s.heap.objs.size + 1:=VG _ _
    have Qu:l≠(s.heap.push (eK (cL w))).objs.size:=by rw [z1];exact Sv (Uy hlS)
    have hSf:s.heap.objs.size∉[(s.heap.push (eK (cL w))).objs.size,l]:=by
     rw [z1]
     simp only [Sh,Tf,or_false,not_or]
     (exact ⟨Sv (U5 _),VJ hlS⟩)
    have hno:∀b,s.heap.objs.size<=b->s.heap.get? b=none:=λb hb=>by
     cases q:s.heap.get? b with
     | none=>rfl
     | some o=>exact absurd (Si q) (acO.mpr hb)
    have hval:∀(i:Nat) (v:RX),items[i]?=some v->∃t,v=.int (ds.getD i 0) t:=hi
    have all:(R7 items.size).map (λi=>ds.getD i 0)=ds:=by
     refine V9 (by simp [hz]) λi a b=>?_
     simp [b]
    refine Fc (A:=A.in1.in1) (led:=cL w) ((aaI (A:=A.in1.in1.in1) (by simp [hh]) (s.heap.push (eK (cL w))).objs.size l Qu items).toS) s.heap.objs.size hSf (λi=>ds.getD i 0) hval (by omega) items.size 0 _ [] #[] 0 (.fresh 0 0 (cL w)) (by omega) (SG _) ⟨⟨_,Sd _ rfl,rfl,rfl⟩,hl1.push _⟩ (CQ (R5 _ hS)) (λd=>by simp) λs' ks es ep t hm hS' hmem=>?_
    ·rw [all] at hmem
     (obtain ⟨h',g',d',tk',os'⟩:=s')
     (have eg:g'=s.gens:=hm.gens)
     (have ed:d'=s.drawn:=hm.drawn)
     have eo:os'=s.os:=hm.os
     subst eg;subst ed;subst eo
     show So _ _ _ _ _ _
     refine RY ?_
     (show So _ _ (ret S3) _ _ _)
     refine RY ⟨rfl,h',tk',ks,es,ep,t,rfl,hS',hmem,λb o hb e=>?_⟩
     refine hm.heap b o ?_ (R5 _ (R5 _ e))
     rw [z1]
     simp only [Sh,Tf,or_false,not_or]
     exact ⟨Sv hb,Sv (Uy hb)⟩
   ·cases r₂ with
    | error e=>exact hr₂
    | ok fl₂=>
     cases fl₂ with
     | ret r=>
      obtain ⟨rfl,h',tk,ks,es,ep,t,rfl,hS',hm',hk'⟩:=hr₂
      (repeat (any_goals (first | assumption | wp_step)))
      exact h _ _ _ _ _ _ hS' hm' hk'
     | _=>exact hr₂.elim
  | _=>exact hr.elim
end
end DL
namespace DL
open PySem PySem.Spec PyProof.Rows L2 ST DX
open PySem.W (KasT kas_sort kas_ask)
theorem jk.wk {h:TU}{a:Se}{led:Bool}{ns:List Int}{es:Array (Int×RX)}{ep:Nat}{t:Te}(S:jk h a led ns es ep t):iV h a led es ep t:=⟨S.at_,S.tab,S.pl,S.ld⟩
noncomputable def By:D->Int
 | .int i=>i
 | _=>0
theorem M_ {ds:List D}(h:ds.all isInt=true):ds=(ds.map By).map .int:=by
 induction ds with
 | nil=>rfl
 | cons d r ih=>
  rw [Vy,R8] at h
  cases d with
  | int i=>rw [Sj,Sj,<-ih h.2];rfl
  | _=>cases h.1
abbrev om (X:Cx) (a:Se) (ms:List Int):HO:=.ext λh=>∃ns es ep t,jk h a (cL X.w) ns es ep t/\∀d,d∈ns↔d∈ms
theorem int_at {K:RV}{J:Hp}{ms:List Int}{vs:List V}{us:List RX}(rs:aH K J (ms.map .int) vs) (rv:Vals vs us):∀(i:Nat) (v:RX),us.toArray[i]?=some v->∃t,v=.int (ms.getD i 0) t:=λi v q=>by
 have l1:vs.length=us.length:=rv.length
 have l2:(ms.map D.int).length=vs.length:=rs.length
 have hi:i < us.length:=by
  have:=(Tn.mp q).1
  simpa using this
 have e:us.getD i S3=v:=by
  simp at q
  simp [YU,q]
 have r1:=eN rs (i:=i) (by omega)
 have r2:=eS rv (i:=i) (by omega)
 rw [e] at r2
 have lm:i < ms.length:=by rw [R3] at l2;omega
 have e2:cP (ms.map D.int) i=.int (ms.getD i 0):=by
  unfold cP
  simp [YU,lm]
 rw [e2] at r1
 generalize vs.getD i V.non=vv at r1 r2
 cases r1
 exact r2
section
variable {X:Cx}
theorem DI (hc:X.calm=true):bT X (.type "set") (λxs H Q=>∃p vs ms J0,xs=[.ref p]/\cV X.K H p vs/\aH X.K J0 (ms.map .int) vs/\ms.length < 64/\∀l,H l=none->Q (.ref l) (upd H l (om X l ms))):=by
 intro RL s σ H xs us Q I r h
 obtain ⟨p,vs,ms,J0,rfl,hq,rs,l64,q⟩:=h
 obtain ⟨u,rfl,rx⟩:=vals1 r
 cases rx
 have hh:X.A.handled=none:=I.ok.hd hc
 have fr:H s.heap.objs.size=none:=I.hok.fresh (R6 _)
 obtain ⟨RM,r',pt,hz⟩:=I.tuple hq
 have lm:(ms.map D.int).length=vs.length:=rs.length
 rw [R3] at lm
 refine wZ hh pt (by simp [<-r'.length,lm]) (int_at rs r') (by omega) λh' tk ks es ep t S hm kp=>?_
 exact ⟨.ref s.heap.objs.size,_,I.laid (t':=tk) (λb o e=>kp b o (Si e) e) (R6 _) (show cj X.prog X.w _ _ _ (om X s.heap.objs.size ms) from ⟨⟨ks,es,ep,t,S,hm⟩,⟨_,S.at_⟩,λh1 h2 ⟨ks,es,ep,t,S,hm⟩ e=>⟨ks,es,ep,t,S.keep e,hm⟩⟩),rfl,q _ fr⟩
theorem eZ.reps {es:List (Int×RX)}{ns:List Int}(h:eZ es ns):∃vs,(∀(K:RV) (J:Hp),aH K J (ns.map .int) vs)/\Vals vs (es.map (·.2))/\Wa (es.map (·.2)) ns:=by
 induction h with
 | nil=>exact ⟨[],λK J=>.nil,.nil,.nil⟩
 | @cons i k es ns _ ih=>
  obtain ⟨vs,h1,h2,h3⟩:=ih
  exact ⟨.int i::vs,λK J=>.cons (.int _) (h1 K J),.cons ⟨k,rfl⟩ h2,.cons i k h3⟩
theorem Ah (hc:X.calm=true):bT X (.builtin "sorted") (λxs H Q=>∃p ms,xs=[.ref p]/\H p=some (om X p ms)/\ms.length < 64/\∀l vs',H l=none->(∀J0,aH X.K J0 (cS (ms.map .int)) vs')->Q (.ref l) (upd H l (.lst vs'))):=by
 intro RL s σ H xs us Q I r h
 obtain ⟨p,ms,rfl,hp,l64,q⟩:=h
 obtain ⟨u,rfl,rx⟩:=vals1 r
 cases rx
 have hh:X.A.handled=none:=I.ok.hd hc
 obtain ⟨⟨ns,es,ep,t,S,hm⟩,_⟩:=(show cj X.prog X.w H s.heap p (om X p ms) from I.hok p _ hp)
 obtain ⟨ns',pm,en'⟩:=S.en.perm (mH X.w p ep es).symm
 have nd':ns'.Nodup:=pm.nodup_iff.mp S.nd
 have hm':∀d,d∈ns'↔d∈ms:=λd=>by rw [<-pm.mem_iff,hm d]
 obtain ⟨vs,rs,rv,hI⟩:=en'.reps
 have hv:ir X.w p ep es=(fN X.w p ep es).toList.map (·.2):=rfl
 rw [<-hv] at rv hI
 generalize hits:ir X.w p ep es=RM at rv hI
 have l1:vs.length=RM.length:=rv.length
 have l2:(ns'.map D.int).length=vs.length:=(rs X.K H).length
 have len:ns'.length<=ms.length:=SS nd' λd hd=>(hm' d).mp hd
 have les:es.size=ns'.length:=by rw [<-Sa,S.en.length,pm.length_eq]
 have ndD:(ns'.map D.int).Nodup:=S_.mpr (WE (λh e=>h (by cases e;rfl)) nd')
 have Q2:∀d,d∈ns'.map D.int↔d∈ms.map D.int:=λd=>by simp only [R4,hm']
 have allI:∀d∈ms.map D.int,iw .i d:=λd hd=>by obtain ⟨i,_,rfl⟩:=R4.mp hd;exact ⟨i,rfl⟩
 have out:=zH (dQ .i) allI ndD Q2
 have lm:(ns'.map D.int).length=ns'.length:=R3 _
 generalize hk:ns'.map D.int=ks' at *
 have fin:∀(h':TU) (tk:Nat) (l:Se) (n:Nat) (ot:List RX) (vs':List V),vs'.length=vs.length->Vals vs' ot->(∀J0,aH X.K J0 (aQ ks') vs')->(∀b o,s.heap.get? b=some o->h'.get? b=some o)->s.heap.objs.size<=l->h'.get? l=some (Uu "list" ot.toArray n)->EP X RL σ Q (.ref l) {s with heap:=h',toks:=tk}:=λh' tk l n ot vs' lv rv' rr kp hl hg=>by
  refine ⟨.ref l,_,I.laid (t':=tk) kp hl (show cj X.prog X.w _ _ _ (.lst vs') from ⟨by rw [lv,S4];omega,ot,n,rv',by simpa [Uu] using hg⟩),rfl,q l vs' (I.hok.fresh hl) (by rw [<-out];exact rr)⟩
 refine sortedS (κ:=abN) (q:=ltB ks') (vs:=RM) hits hh S.wk (by omega) ?_ λh' tk l n kp hl hg=>?_
 ·by_cases h2:RM.length < 2
  ·exact .inl h2
  ·refine .inr ⟨by omega,by omega,λh' tk C kp cc=>?_,λh' tk kp i j C hi hj cc=>?_⟩
   ·have hl:2<=RM.length:=by omega
    clear fin l1 rv hits
    match RM,hI,hl with
    | v1::v2::r,hI,_=>rw [keyKind_ints hI];exact RY cc
   ·have hi':i < ks'.length:=by omega
    have hj':j < ks'.length:=by omega
    have ai:=allI _ ((Q2 _).mp (eE hi'))
    have aj:=allI _ ((Q2 _).mp (eE hj'))
    have r1:=eN (rs X.K H) hi'
    have r2:=eN (rs X.K H) hj'
    have v1:=eS rv (i:=i) (by omega)
    have v2:=eS rv (i:=j) (by omega)
    show So _ _ (keyLt' abN (RM.getD i S3) (RM.getD j S3)) _ _ _
    rw [aba]
    have e:ltB ks' i j=(cW (cP ks' i) (cP ks' j)).getD false:=rfl
    rw [e] at cc
    obtain ⟨a,ea⟩:=ai
    obtain ⟨b,eb⟩:=aj
    rw [ea] at r1 cc
    rw [eb] at r2 cc
    generalize vs.getD i V.non=wi at r1 v1
    generalize vs.getD j V.non=wj at r2 v2
    cases r1;cases r2
    obtain ⟨t1,q1⟩:=v1
    obtain ⟨t2,q2⟩:=v2
    rw [q1,q2]
    refine ab7 ?_
    unfold cW at cc
    exact cc
 ·by_cases h2:RM.length < 2
  ·rw [if_pos h2] at hg
   refine fin h' tk l n RM vs rfl rv ?_ kp hl hg
   unfold aQ
   rw [if_pos (by omega)]
   exact λJ0=>rs _ J0
  ·rw [if_neg h2] at hg
   have ib:∀i∈(aZ (ltB ks') (UT ks'.length)).toList,i < ks'.length:=λi hi=>by
    have:=((eG (n:=ks'.length) (by omega)).run (ltB ks'):eF _ _)
    have:=(U_ this).mp (V1.mp hi)
    simpa using this
   have e1:iA (ltB ks') RM=(aZ (ltB ks') (UT ks'.length)).toList.map λi=>RM.getD i S3:=by unfold iA;rw [l2,l1]
   rw [e1] at hg
   refine fin h' tk l n _ _ ?_ (nD rv _ λi hi=>l2▸ib i hi) ?_ kp hl hg
   ·rw [R3,<-l2]
    have:=((eG (n:=ks'.length) (by omega)).run (ltB ks'):eF _ _).size_eq
    simpa using this
   ·unfold aQ
    rw [if_neg (by omega)]
    exact λJ0=>ny (rs _ J0) _ ib
end
end DL
namespace DL
open PySem PySem.Spec PyProof.Rows L2 ST DX
theorem DC:Tj "set"=some (.type "set"):=by decide +kernel
section
variable {X:Cx}{c:C}{e:SM}{pos pos2:Pos}
noncomputable def gz:List R->M R
 | [.d (.tup ys)]=>if pT ys=true then .ok (.l .fresh (cS ys)) else if qY ys=true then .ok (.l .fresh (cS ys)) else .bad
 | _=>.bad
noncomputable def MI (X:Cx):List V->Hp->VK->Prop:=λxs H Q=>∃p vs ms J0,xs=[.ref p]/\cV X.K H p vs/\aH X.K J0 (ms.map .int) vs/\ms.length < 64/\∀l,H l=none->Q (.ref l) (upd H l (om X l ms))
noncomputable def MJ (X:Cx):List V->Hp->VK->Prop:=λxs H Q=>∃p vs ds J0,xs=[.ref p]/\cV X.K H p vs/\aU J0 H/\aH X.K J0 ds vs/\pT ds=true/\∀l,H l=none->Q (.ref l) (upd H l (oq X J0 l ds))
noncomputable def G3 (X:Cx):List V->Hp->VK->Prop:=λxs H Q=>∃p ms,xs=[.ref p]/\H p=some (om X p ms)/\ms.length < 64/\∀l vs',H l=none->(∀J0,aH X.K J0 (cS (ms.map .int)) vs')->Q (.ref l) (upd H l (.lst vs'))
noncomputable def G4 (X:Cx):List V->Hp->VK->Prop:=λxs H Q=>∃p ds J0,xs=[.ref p]/\H p=some (oq X J0 p ds)/\aU J0 H/\pT ds=true/\∀l vs',H l=none->aH X.K J0 (cS ds) vs'->Q (.ref l) (upd H l (.lst vs'))
theorem vP {p p2:Pos}{gs:G (List R)}(hu:X.A.units + 64 < Uh) (ha:jg X c [e] gs) (hm:X.mg "sorted"=none) (hm2:X.mg "set"=none) (hK:X.K=c.K:=by rfl) (hc:X.calm=true:=by rfl) (hg:Gl X "sorted":=by rfl) (QC:Gl X "set":=by rfl)
  (he:R_ [.Call (.Name "set" p2) [e] [] pos2] X.env=(false,eval (.Call (.Name "set" p2) [e] [] pos2) X.env)::R_ [] X.env:=by rfl) (hpl:(Us pos (R_ [] X.env)).any (·.1)=false:=by rfl)
  (Qz:R_ [e] X.env=(false,eval e X.env)::R_ [] X.env:=by rfl) (Q7:(Us pos2 (R_ [] X.env)).any (·.1)=false:=by rfl):
  QD X c (.Call (.Name "sorted" p) [.Call (.Name "set" p2) [e] [] pos2] [] pos) (gN gz gs):=by
 have ha:=ha.h
 refine ⟨?_⟩
 have h1:=lS (p:=p2) (pos:=pos2) (bT.or (show bT X (.type "set") (MJ X) from DJ hu hc) (show bT X (.type "set") (MI X) from DI hc)) QC hm2 DC ha (by decide) (by decide) Qz Q7
 have h2:=rM (p:=p) (pos:=pos) (bT.or (show bT X (.builtin "sorted") (G4 X) from B0 hu hc) (show bT X (.builtin "sorted") (G3 X) from Ah hc)) hg hm iY (eW h1 g_ he) (by decide) (by decide) he hpl
 refine GN (ta:=CW) (f:=gz) (r:=λvs H1 Q=>(MJ X vs H1 λv H2=>G4 X [v] H2 Q\/G3 X [v] H2 Q)\/(MI X vs H1 λv H2=>G4 X [v] H2 Q\/G3 X [v] H2 Q)) h2 rfl ?_
 intro He J H xs vs Q hp rs w
 unfold gz at w
 split at w
 ·rename_i ys
  obtain ⟨v,rfl,r⟩:=rs.one
  cases r with
  | tup h hs=>
   have hT:∀{p:Se}{us:List V},cV c.K J p us->cV X.K H p us:=λh=>by rw [hK];exact fz hp.sub h
   have fin:∀(o:Se->HO) (w:∀w J' H',Ext J H J' H'->RR c H J' H' (.l .fresh (cS ys)) w->Q w H') (l l2:Se) (vs':List V),H l=none->upd H l (o l) l2=none->aH X.K J (cS ys) vs'->Q (.ref l2) (upd (upd H l (o l)) l2 (.lst vs')):=λo w l l2 vs' hl h2 rr=>by
    rw [hK] at rr
    have e1:=Ext.new hp.sub hl (o l)
    have e2:=Ext.new e1.sub h2 (.lst vs')
    exact w _ _ _ (e1.trans e2) (RR.from e1.h (ia (hp.ext e1) h2 rr))
   split at w
   ·rename_i ok
    exact .inl ⟨_,_,ys,J,rfl,hT h,hp.sub,by rw [hK];exact hs,ok,λl hl=>.inl ⟨l,ys,J,rfl,b8,(Ext.new hp.sub hl _).sub,ok,λl2 vs' h2 rr=>fin (λl=>oq X J l ys) w l l2 vs' hl h2 rr⟩⟩
   ·split at w
    ·rename_i ok
     unfold qY at ok
     rw [R8] at ok
     have o1:=of_decide_eq_true ok.1
     have ey:=M_ ok.2
     refine .inr ⟨_,_,ys.map By,J,rfl,hT h,by rw [hK,<-ey];exact hs,by rw [R3];exact o1,λl hl=>.inr ⟨l,ys.map By,rfl,b8,by rw [R3];exact o1,λl2 vs' h2 rr=>?_⟩⟩
     rw [<-ey] at rr
     exact fin (λl=>om X l (ys.map By)) w l l2 vs' hl h2 (rr _)
    ·exact w.elim
 ·exact w.elim
end
end DL
namespace DL
open PySem PySem.Spec PyProof.Rows L2 DX
end DL
namespace K55
open PySem DL
def zY:List Str:=["told","least","most"]
noncomputable def qU:G O:=(cu (pD (gE (bQ (gN (aS 1 K01.oW) (ao (af 0) aE)))) (pD (bQ (g2 (kI λi j=>.bl (decide (i < j))) (af 0) (af 1))) (bQ (g2 (kI λi j=>.bl (decide (j < i))) (af 0) (af 2))))) sV eH)
def cX (as:List S):M R:=fin (qU (bh zY as))
def Nl:List Str:=["world","depth","row","many"]
noncomputable def HV:G O:=(aJ (jy (gN (aS 3 K55.cX) (ao (af 1) (ao (gC (.int 0)) (ao (gC (.int 6)) aE)))))
 (aJ (br 3 (gN (aS 2 K51.r_) (ao (g2 bA (af 0) (gC (.int 0))) (ao (af 1) aE))))
 (aJ (cu (bQ (g2 (kI λi j=>.bl (decide (j < i))) (af 3) (gC (.int 600)))) sV eH)
 (bO (gN (aS 3 (K51.iu 10)) (ao (af 0) (ao (af 1) (ao (Og (bQ (g2 (qQ false) (af 2) (gC .non))) (bI aW) (af 2)) aE))))))))
def jv (as:List S):M R:=fin (HV (bh Nl as))
def zW:List Str:=["_law_cell_here","_law_many","_law_left","_law_found","_law_k"]
noncomputable def qS:G O:=(aJ (br 2 (HR (ao (af 1) aE)))
 (aJ (br 3 (gD aW))
 (aJ (gm (cA (ao (af 1) aE)) (aC 4) (aJ (m9 3 2 (g2 fR (af 0) (gN jn (ao (af 2) aE))))
 (br 0 (g2 i6 (af 0) (gC (.int 9))))))
 (bO (gN bX (ao (af 3) aE))))))
def g7 (as:List S):M R:=fin (qS (bh zW as))
def xR:List Str:=["_law_world_here","_law_order_here","_law_marks","_law_arrows"]
noncomputable def pG:G O:=(aJ (br 2 (bF 2 [1] (dH (g2 bA (af 0) (gC (.int 1)))) (c_ 2 (bw (aC 0) (bw (aC 1) cZ))) b9 (bI (aA (af 0) (aA (gN bX (ao (gN mW (ao (bF 1 [2] (dH (af 1)) (aC 0) b9 (g2 bA (af 1) (af 0))) aE)) aE)) aW)))))
 (aJ (br 3 (bF 2 [1] (dH (g2 bA (af 0) (gC (.int 2)))) (c_ 2 (bw (aC 0) (bw (aC 1) cZ))) b9 (bI (aA (af 0) (aA (gN bX (ao (gN mW (ao (bF 2 [2] (dH (af 1)) (c_ 2 (bw (aC 0) (bw (aC 1) cZ))) b9 (bI (aA (g2 bA (af 2) (af 0)) (aA (g2 bA (af 2) (af 1)) aW)))) aE)) aE)) aW)))))
 (bO (bI (aA (g2 bA (af 0) (gC (.int 0))) (aA (gN bX (ao (af 2) aE)) (aA (gN bX (ao (af 3) aE)) aW)))))))
def iO (as:List S):M R:=fin (pG (bh xR as))
noncomputable def wG:List Str:=["_law_world_here","_law_cell_here","_law_many","_law_marks","_law_arrows","_law_at","_law_thing","_law_some","_law_name","_law_had","_law_now"]
noncomputable def oJ:G O:=(aJ (kJ (c_ 3 (bw (aC 2) (bw (aC 3) (bw (aC 4) cZ)))) (af 0))
 (aJ (cu (bQ (g2 (eU false) (g2 dW (gN jn (ao (af 3) aE)) (gN jn (ao (af 4) aE))) (gC (.int 0)))) (bO (af 0)) eH)
 (aJ (br 5 (g2 fR (af 1) (g2 dW (gN jn (ao (af 3) aE)) (gN jn (ao (af 4) aE)))))
 (aJ (br 6 (g2 fR (g2 i6 (af 1) (gC (.int 6))) (af 2)))
 (aJ (br 7 (af 3))
 (aJ (cu (bQ (g2 (kI λi j=>.bl (decide (j<=i))) (af 5) (gN jn (ao (af 3) aE)))) (aJ (br 5 (g2 FW (af 5) (gN jn (ao (af 3) aE))))
 (aJ (br 6 (bI (aA (af 6) (aA (g2 fR (g2 i6 (af 1) (gC (.int 48))) (af 2)) aW))))
 (br 7 (af 4)))) eH)
 (aJ (kJ (c_ 2 (bw (aC 8) (bw (aC 9) cZ))) (g2 bA (af 7) (af 5)))
 (aJ (br 10 (gN bX (ao (gN gz (ao (g2 dW (af 9) (bI (aA (af 6) aW))) aE)) aE)))
 (aJ (cu (bQ (g2 (iI false) (af 6) (af 9))) (br 10 (gN bX (ao (bF 1 [6] (dH (af 9)) (aC 0) (bQ (g2 (eU true) (af 0) (af 1))) (af 0)) aE))) eH)
 (aJ (br 7 (g2 dW (g2 dW (AY uI (af 7) D_ (Ea (af 5))) (bI (aA (bI (aA (af 8) (aA (af 10) aW))) aW))) (AY uI (af 7) (Ea (g2 dW (af 5) (gC (.int 1)))) D_)))
 (aJ (cu (bQ (D9 "tuple" (af 6))) (bO (bI (aA (af 2) (aA (af 3) (aA (af 7) aW))))) eH)
 (bO (bI (aA (af 2) (aA (af 7) (aA (af 4) aW))))))))))))))))
def eV (as:List S):M R:=fin (oJ (bh wG as))
def Dj:List Str:=["_law_script","_law_sizes","_law_first","_law_second","_law_marks","_law_names_here","_law_one","_law_way","_law_other"]
noncomputable def vA:G O:=(aJ (br 2 (gN (aS 2 K51.cQ) (ao (af 0) (ao (gC (.int 0)) aE))))
 (aJ (br 3 (gN (aS 2 K51.cQ) (ao (af 0) (ao (gC (.int 1)) aE))))
 (aJ (br 4 (gN (aS 2 K51.fW) (ao (g2 i6 (af 3) (gC (.int 20))) (ao (g2 bA (gD (aA (gC (.int 1)) (aA (gC (.int 0)) (aA (gC (.int 2)) (aA (gC (.int 3)) aW))))) (g2 fR (af 3) (gC (.int 4)))) aE))))
 (aJ (jM 4 (br 5 (bI (aA (af 4) (aA (gN (aS 2 K51.fW) (ao (gN (aS 2 K51.cQ) (ao (af 0) (ao (gC (.int 2)) aE))) (ao (g2 bA (gD (aA (gC (.int 1)) (aA (gC (.int 2)) (aA (gC (.int 0)) (aA (gC (.int 1)) (aA (gC (.int 3)) aW)))))) (g2 fR (g2 i6 (af 3) (gC (.int 4))) (gC (.int 5)))) aE))) aW)))))
 (aJ (br 6 (gN (aS 3 K51.fC) (ao (af 5) (ao (g2 bA (af 1) (g2 fR (af 2) (gC (.int 8)))) (ao (bF 1 [0] (cA (ao (gC (.int 6)) aE)) (aC 0) b9 (gN (aS 2 K51.cQ) (ao (af 1) (ao (g2 cU (gC (.int 3)) (af 0)) aE)))) aE)))))
 (aJ (br 7 (g2 fR (g2 i6 (af 2) (gC (.int 8))) (gC (.int 4))))
 (aJ (cu (bQ (g2 (eU false) (af 7) (gC (.int 0)))) (bO (bI (aA (af 6) (aA (gN (aS 3 K51.fC) (ao (af 5) (ao (g2 bA (af 1) (g2 fR (g2 i6 (af 2) (gC (.int 32))) (gC (.int 8)))) (ao (bF 1 [0] (cA (ao (gC (.int 6)) aE)) (aC 0) b9 (gN (aS 2 K51.cQ) (ao (af 1) (ao (g2 cU (gC (.int 9)) (af 0)) aE)))) aE)))) aW)))) eH)
 (aJ (br 8 (gN (aS 2 K55.iO) (ao (af 6) (ao (gN (aS 2 K55.g7) (ao (gN (aS 2 K51.cQ) (ao (af 0) (ao (gC (.int 15)) aE))) (ao (g2 bA (af 6) (gC (.int 0))) aE))) aE))))
 (aJ (cu (bQ (g2 (kI λi j=>.bl (decide (j < i))) (af 7) (gC (.int 1)))) (br 8 (gN (aS 2 K55.eV) (ao (af 8) (ao (gN (aS 2 K51.cQ) (ao (af 0) (ao (gC (.int 9)) aE))) aE)))) eH)
 (aJ (cu (bQ (g2 (eU false) (af 7) (gC (.int 3)))) (br 8 (gN (aS 2 K55.eV) (ao (af 8) (ao (gN (aS 2 K51.cQ) (ao (af 0) (ao (gC (.int 10)) aE))) aE)))) eH)
 (bO (bI (aA (af 6) (aA (af 8) aW))))))))))))))
def jA (as:List S):M R:=fin (vA (bh Dj as))
end K55
namespace K55
open PySem DL K01 WP K51 K52
theorem vp (a b:Nat):bg (dN a) (dN b)=(a == b):=by
 show ((a:Int) == (b:Int))=_
 by_cases h:a=b
 ·subst h;simp
 ·rw [beq_eq_false_iff_ne.mpr h,beq_eq_false_iff_ne.mpr (by omega)]
structure lH (n:Nat) (w:Wd):Prop where
 mp:∀r∈w.ms,r.2.length<=n/\∀p∈r.2,p < w.m
 ap:∀r∈w.ar,r.2.length<=n/\∀p∈r.2,p.1 < w.m/\p.2 < w.m
abbrev Pc (w:Wd):Prop:=lH 30 w
def em (m:Nat) (x:Nat×Nat):Nat:=if x.1=0 then x.2 else x.2 + m
theorem inN (l:Nat) (xs:List Nat):inD (dN l) (xs.map dN)=decide (l∈xs):=by
 unfold inD
 rw [Xv,S8,UN,decide_eq_true_eq]
 constructor
 ·rintro ⟨x,hx,e⟩
  have e:bg (dN x) (dN l)=true:=e
  rw [vp] at e
  rw [<-eq_of_beq e];exact hx
 ·intro h
  exact ⟨l,h,by show bg (dN l) (dN l)=true;rw [vp];simp⟩
theorem vq (a b:Nat×Nat):bg (dP a) (dP b)=decide (a=b):=by
 have:bg (dP a) (dP b)=(bg (dN a.1) (dN b.1) && (bg (dN a.2) (dN b.2) && true)):=by
  show bg (.tup [dN a.1,dN a.2]) (.tup [dN b.1,dN b.2])=_
  rw [j6,gM,gM,cB]
 rw [this,vp,vp,S8]
 obtain ⟨a1,a2⟩:=a
 obtain ⟨b1,b2⟩:=b
 simp
theorem Ls (l:Nat×Nat) (xs:List (Nat×Nat)):inD (dP l) (xs.map dP)=decide (l∈xs):=by
 unfold inD
 rw [Xv,S8,UN,decide_eq_true_eq]
 constructor
 ·rintro ⟨x,hx,e⟩
  have e:bg (dP x) (dP l)=true:=e
  rw [vq,decide_eq_true_eq] at e
  rw [<-e];exact hx
 ·intro h
  exact ⟨l,h,by show bg (dP l) (dP l)=true;rw [vq];simp⟩
theorem fp (i j:Int):dW (.d (.int i)) (.d (.int j))=.ok (.d (.int (i + j))):=rfl
theorem Gk {env:Ev}{Q:O->Prop}{g:G R}{i j k:Nat}{xs zs:List D}(h1:env[i]?=some (some (.own zs))) (h2:env[j]?=some (some (.own xs))) (hij:i≠j) (h:g env=.ok (.d (.int k))) (hk:k < xs.length) (lz:zs.length < 1000) (lx:xs.length<=1000)
  (c:Q (.nx ((env.set j (some (.own (xs.eraseIdx k)))).set i (some (.own (zs++[xs[k]])))))):Wp (m9 i j g env) Q:=by
 refine ⟨_,?_,c⟩
 unfold m9
 rw [h1,h2]
 show (if i=j then M.bad else (g env >>= _))=_
 rw [if_neg hij,h,aM]
 show (if 0<=(k:Int)/\(k:Int).toNat < xs.length/\zs.length < sizeLine/\xs.length<=sizeLine then _ else _)=_
 rw [if_pos ⟨by omega,by simpa using hk,Sx lz (gF (R6 _)),gF lx⟩]
 rw [Uv,Sg hk]
noncomputable def lZ:D->Nat
 | .int i=>i.toNat
 | _=>0
noncomputable def ly:D->Nat×Nat
 | .tup [x,y]=>(lZ x,lZ y)
 | _=>(0,0)
theorem ue (n:Nat):lZ (dN n)=n:=rfl
theorem jZ (n:Nat×Nat):ly (dP n)=n:=rfl
theorem back {α:Type}(h:α->D) (u:D->α) (hu:∀x,u (h x)=x){l:List D}(hl:∀d∈l,∃x,d=h x):(l.map u).map h=l:=by
 rw [Sw]
 refine (UA (g:=id) λd hd=>?_).trans (List.map_id _)
 obtain ⟨x,rfl⟩:=hl d hd
 show h (u (h x))=h x
 rw [hu]
theorem v_ {α:Type}(h:α->D) (u:D->α) (hu:∀x,u (h x)=x) (xs:List α):((aQ (xs.map h)).map u).map h=aQ (xs.map h):=back h u hu λd hd=>by
 obtain ⟨x,_,rfl⟩:=R4.mp (iN hd)
 exact ⟨x,rfl⟩
theorem Bq {α:Type}(h:α->D) (u:D->α) (hu:∀x,u (h x)=x) (xs:List α):∀y∈(aQ (xs.map h)).map u,y∈xs:=λy hy=>by
 obtain ⟨d,hd,rfl⟩:=R4.mp hy
 obtain ⟨x,hx,rfl⟩:=R4.mp (iN hd)
 rw [hu];exact hx
def pF:Fm:=.tc .i (.tc .i .tn)
theorem pK (p:Nat×Nat):iw pF (dP p):=⟨_,rfl,_,_,rfl,⟨_,rfl⟩,_,rfl,_,_,rfl,⟨_,rfl⟩,[],rfl,rfl⟩
theorem HZ (xs:List Nat) (hl:xs.length < 64):qY (xs.map dN)=true:=by
 unfold qY
 rw [R3,decide_eq_true hl,VB,SQ]
 intro d hd
 obtain ⟨x,_,rfl⟩:=R4.mp hd
 rfl
theorem Lq (xs:List (Nat×Nat)):∀d∈xs.map dP,fJ d=some .i:=λd hd=>by
 obtain ⟨x,_,rfl⟩:=R4.mp hd
 rfl
theorem NG (xs:List (Nat×Nat)) (hl:xs.length < 64):oQ (xs.map dP)=true:=by
 have QU:=D0 xs
 have hc:mP (xs.map dP)=true:=by
  unfold mP
  rw [SQ]
  intro x hx
  rw [SQ]
  intro y hy
  obtain ⟨a,_,rfl⟩:=R4.mp hx
  obtain ⟨b,_,rfl⟩:=R4.mp hy
  exact (dQ pF).lt _ _ (pK a) (pK b)
 unfold oQ
 rw [hc,decide_eq_true QU,R3,decide_eq_true hl]
 cases xs with
 | nil=>rfl
 | cons x xs=>
  have hh:Cs ((x::xs).map dP)=true:=by
   show fE .i ((x::xs).map dP)=true
   exact nJ (Lq (x::xs))
  rw [hh]
  simp
theorem OQ (xs:List Nat) (hl:xs.length < 64):mW [.l .fresh (xs.map dN)]=.ok (.l .fresh (aQ (xs.map dN))):=by
 show (if oQ (xs.map dN)=true then M.ok (R.l .fresh (aQ (xs.map dN))) else if qY (xs.map dN)=true then M.ok (R.l .fresh (aQ (xs.map dN))) else .bad)=_
 rw [if_pos (HZ xs hl)]
 split <;> rfl
theorem OR (xs:List (Nat×Nat)) (hl:xs.length < 64):mW [.l .fresh (xs.map dP)]=.ok (.l .fresh (aQ (xs.map dP))):=by
 show (if oQ (xs.map dP)=true then M.ok (R.l .fresh (aQ (xs.map dP))) else if qY (xs.map dP)=true then M.ok (R.l .fresh (aQ (xs.map dP))) else .bad)=_
 rw [if_pos (NG xs hl)]
theorem Gf {ps:List Nat}{p:Nat}(hp:p < ps.length):bA (.d (.tup (ps.map dN))) (.d (dN p))=.ok (.d (dN (ps.getD p 0))):=by
 have h1:(ps.map dN)[p]?=some (dN (ps.getD p 0)):=by rw [Ss,Sg hp];simp [YU,hp]
 exact j_ h1
noncomputable def lg (w:Wd) (ps:List Nat):Wd:=⟨w.m,w.ms.map λr=>(r.1,(aQ ((r.2.map λp=>ps.getD p 0).map dN)).map lZ),w.ar.map λr=>(r.1,(aQ ((r.2.map λp=>(ps.getD p.1 0,ps.getD p.2 0)).map dP)).map ly)⟩
theorem Fo (w:Wd) (hw:gu w) (n:Nat) (hn:n<=40) (hb:lH n w) (ps:List Nat) (hl:ps.length=w.m):iO [.d w.d,.d (.tup (ps.map dN))]=.ok (.d (lg w ps).d):=by
 have ml:=hw.ml
 have al:=hw.al
 refine b_ (bC (ie (xs:=w.ms) (λr=>.str r.1) (λr=>.tup (r.2.map dN)) (λr=>kT (r.1,(aQ ((r.2.map λp=>ps.getD p 0).map dN)).map lZ)) ?_ (by omega) λr hr=>?_) rfl ?_)
 ·show (g2 bA (af 0) (gC (.int 1)) _ >>= _)=_
  rw [two (x:=.d w.d) rfl rfl (LB _ _ _)]
  rfl
 ·obtain ⟨h1,h2⟩:=hb.mp r hr
  refine ⟨_,bz (aF rfl rfl (aF (n1 (n1 (iz (xs:=r.2) (h:=dN) (λp=>dN (ps.getD p 0)) rfl (by omega) λp hp=>⟨_,two rfl rfl (Gf (by rw [hl];exact h2 p hp)),rfl⟩) (x:=.l .fresh (r.2.map λp=>dN (ps.getD p 0))) (z:=.l .fresh (aQ ((r.2.map λp=>ps.getD p 0).map dN))) ?_) rfl) rfl bu)) t2,?_⟩
  ·have:=OQ (r.2.map λp=>ps.getD p 0) (by simp;omega)
   rw [Sw] at this ⊢
   exact this
  ·unfold kT
   rw [v_ dN lZ ue]
   rfl
 refine bC (ie (xs:=w.ar) (λr=>.str r.1) (λr=>.tup (r.2.map dP)) (λr=>p5 (r.1,(aQ ((r.2.map λp=>(ps.getD p.1 0,ps.getD p.2 0)).map dP)).map ly)) ?_ (by omega) λr hr=>?_) rfl ?_
 ·show (g2 bA (af 0) (gC (.int 2)) _ >>= _)=_
  rw [two (x:=.d w.d) rfl rfl (Po _ _ _ _)]
  rfl
 ·obtain ⟨h1,h2⟩:=hb.ap r hr
  refine ⟨_,bz (aF rfl rfl (aF (n1 (n1 (ie (xs:=r.2) (λp=>dN p.1) (λp=>dN p.2) (λp=>dP (ps.getD p.1 0,ps.getD p.2 0)) rfl (by omega) λp hp=>⟨_,bz (aF (two rfl rfl (Gf (by rw [hl];exact (h2 p hp).1))) rfl (aF (two rfl rfl (Gf (by rw [hl];exact (h2 p hp).2))) rfl bu)) t2,rfl⟩) (x:=.l .fresh (r.2.map λp=>dP (ps.getD p.1 0,ps.getD p.2 0))) (z:=.l .fresh (aQ ((r.2.map λp=>(ps.getD p.1 0,ps.getD p.2 0)).map dP))) ?_) rfl) rfl bu)) t2,?_⟩
  ·have:=OR (r.2.map λp=>(ps.getD p.1 0,ps.getD p.2 0)) (by simp;omega)
   rw [Sw] at this ⊢
   exact this
  ·unfold p5
   rw [v_ dP ly jZ]
   rfl
 refine bP (bz (aF (two rfl rfl (i8 _ _)) rfl (aF rfl rfl (aF rfl rfl bu))) (by show 3<=1000;decide)) rfl ?_
 unfold lg Wd.d
 simp only [Sw]
 rfl
theorem Oa (w:Wd) (hw:gu w) (n:Nat) (hb:lH n w) (ps:List Nat) (hl:ps.length=w.m) (hp:∀p∈ps,p < w.m):gu (lg w ps)/\lH n (lg w ps)/\(lg w ps).m=w.m/\(lg w ps).ms.length=w.ms.length/\(lg w ps).ar.length=w.ar.length:=by
 have gd:∀p,p < w.m->ps.getD p 0 < w.m:=λp h=>by
  have h':p < ps.length:=by omega
  rw [show ps.getD p 0=ps[p] by simp [YU,h']]
  exact hp _ (T7 h')
 refine ⟨⟨hw.lo,hw.hi,?_,?_⟩,⟨λr hr=>?_,λr hr=>?_⟩,rfl,R3 _,R3 _⟩
 ·show (w.ms.map _).length<=3
  rw [R3];exact hw.ml
 ·show (w.ar.map _).length<=3
  rw [R3];exact hw.al
 ·obtain ⟨q,hq,rfl⟩:=R4.mp (show r∈w.ms.map _ from hr)
  obtain ⟨h1,h2⟩:=hb.mp q hq
  refine ⟨?_,λp hp'=>?_⟩
  ·show ((aQ _).map lZ).length<=n
   rw [R3,jJ,R3,R3];exact h1
  ·have:=Bq dN lZ ue _ p hp'
   obtain ⟨z,hz,rfl⟩:=R4.mp this
   exact gd z (h2 z hz)
 ·obtain ⟨q,hq,rfl⟩:=R4.mp (show r∈w.ar.map _ from hr)
  obtain ⟨h1,h2⟩:=hb.ap q hq
  refine ⟨?_,λp hp'=>?_⟩
  ·show ((aQ _).map ly).length<=n
   rw [R3,jJ,R3,R3];exact h1
  ·have:=Bq dP ly jZ _ p hp'
   obtain ⟨z,hz,rfl⟩:=R4.mp this
   exact ⟨gd _ (h2 z hz).1,gd _ (h2 z hz).2⟩
theorem OW (xs:List Nat) (hl:xs.length < 64):gz [.d (.tup (xs.map dN))]=.ok (.l .fresh (cS (xs.map dN))):=by
 show (if pT (xs.map dN)=true then M.ok (R.l .fresh (cS (xs.map dN))) else if qY (xs.map dN)=true then M.ok (R.l .fresh (cS (xs.map dN))) else .bad)=_
 rw [if_pos (HZ xs hl)]
 split <;> rfl
theorem NF (xs:List (Nat×Nat)) (hl:xs.length < 64):pT (xs.map dP)=true:=by
 have h1:areKeys (xs.map dP)=true:=by
  induction xs with
  | nil=>rfl
  | cons x xs ih=>
   rw [Sj]
   show (isKey (dP x) && areKeys (xs.map dP))=true
   rw [ih (by simp at hl;omega)]
   rfl
 have h2:deps (xs.map dP)<=8:=dc λd hd=>by
  obtain ⟨x,_,rfl⟩:=R4.mp hd
  exact (by decide:(1:Nat)<=8)
 have h3:HY (xs.map dP)=true:=by
  cases xs with
  | nil=>rfl
  | cons x xs=>
   show (fE .i ((x::xs).map dP) && ((x::xs).map dP).all (qw pF))=true
   rw [nJ (Lq (x::xs)),VB,SQ]
   intro d hd
   obtain ⟨y,_,rfl⟩:=R4.mp hd
   rfl
 unfold pT
 rw [h1,h3,decide_eq_true h2,R3,decide_eq_true hl]
 rfl
theorem MQ (xs:List (Nat×Nat)) (hl:xs.length < 64):gz [.d (.tup (xs.map dP))]=.ok (.l .fresh (cS (xs.map dP))):=by
 show (if pT (xs.map dP)=true then M.ok (R.l .fresh (cS (xs.map dP))) else _)=_
 rw [if_pos (NF xs hl)]
theorem qe {P:D->Prop}(p:dR P){ds:List D}(h:∀x∈ds,P x):(cS ds).length<=ds.length/\∀d∈cS ds,d∈ds:=by
 obtain ⟨h1,h2⟩:=xu p ds h
 refine ⟨?_,λd hd=>((kZ p h).2 d).mp hd⟩
 show (aQ (dd ds)).length<=_
 rw [jJ]
 exact SS h1 λd hd=>(h2 d).mp hd
theorem Lf (xs:List D) (k:Nat) (hk:k<=xs.length):cutD xs none (some (k:Int))=xs.take k:=by
 unfold cutD
 rw [HT.zm,HT.Bp,aaV hk]
 simp
theorem FL (xs:List D) (k:Nat) (hk:k<=xs.length):cutD xs (some (k:Int)) none=xs.drop k:=by
 unfold cutD
 rw [HT.zm,HT.Bp,aaV hk]
 rw [YC (by simp)]
abbrev NV:G O:=(aJ (kJ (c_ 2 (bw (aC 8) (bw (aC 9) cZ))) (g2 bA (af 7) (af 5)))
 (aJ (br 10 (gN bX (ao (gN gz (ao (g2 dW (af 9) (bI (aA (af 6) aW))) aE)) aE)))
 (aJ (cu (bQ (g2 (iI false) (af 6) (af 9))) (br 10 (gN bX (ao (bF 1 [6] (dH (af 9)) (aC 0) (bQ (g2 (eU true) (af 0) (af 1))) (af 0)) aE))) eH)
 (aJ (br 7 (g2 dW (g2 dW (AY uI (af 7) D_ (Ea (af 5))) (bI (aA (bI (aA (af 8) (aA (af 10) aW))) aW))) (AY uI (af 7) (Ea (g2 dW (af 5) (gC (.int 1)))) D_)))
 (aJ (cu (bQ (D9 "tuple" (af 6))) (bO (bI (aA (af 2) (aA (af 3) (aA (af 7) aW))))) eH)
 (bO (bI (aA (af 2) (aA (af 7) (aA (af 4) aW))))))))))
abbrev dD {α:Type}(h:α->D) (r:Str×List α):D:=.tup [.str r.1,.tup (r.2.map h)]
structure Dr {α:Type}(P:α->Prop) (n:Nat) (L:List (Str×List α)):Prop where
 all:∀r∈L,r.2.length<=n/\∀p∈r.2,P p
theorem yX {i:Int}(h:0<=i):∃k:Nat,i=k:=⟨i.toNat,by omega⟩
theorem qB {m:Nat}{ps:List (Nat×Nat)}(h:sA m ps) (hm:m<=4):ps.length<=16:=by
 obtain ⟨_,h2,h3⟩:=h
 have nd:ps.Nodup:=h2.imp fun {a b} hab e=>by subst e;unfold jG at hab;omega
 have sub:∀p∈ps,p∈(R7 16).map λk=>(k / 4,k % 4):=λp hp=>by
  obtain ⟨a,b⟩:=h3 p hp
  refine R4.mpr ⟨p.1 * 4 + p.2,by rw [Sq];omega,?_⟩
  obtain ⟨x,y⟩:=p
  simp only at a b ⊢
  rw [Prod.mk.injEq]
  omega
 have:=SS nd sub
 simpa using this
end K55
namespace DL
open PySem PySem.Spec PyProof.Rows L2 DX
noncomputable def bW (gt:GT) (gts:G Bool) (act:Ev->M (List D×Ev)):List D->Ev->M (List D×Ev)
 | [],env=>.ok ([],env)
 | d::ds,env=>gt d env >>= λe=>gts e >>= λk=>if k=true then act e >>= λr=>bW gt gts act ds r.2 >>= λz=>.ok (r.1++z.1,z.2) else bW gt gts act ds e
def xU (env:Ev) (σ:L2.St) (p:Se):Prop:=∀(j:Nat) (xs:Mn),env[j]?=some (some (mS xs))->σ[j]?≠some (some (.ref p))
structure xK (Acc:Hp->Hp->List D->Prop):Prop where
 ext:∀{J H J' H':Hp}{ys:List D},Acc J H ys->Ext J H J' H'->Acc J' H' ys
noncomputable def uv (X:Cx) (c:C) (p:Se) (Acc:Hp->Hp->List D->Prop) (J2 H2:Hp) (N:Nat) (m:Sem Unit) (act:Ev->M (List D×Ev)):Prop:=
 ∀(RL:List (Se×Obj)) (s:RZ) (σ:L2.St) (H J:Hp) (env:Ev) (ys:List D) (Qf:List D×Ev->Prop),Inv X RL σ H s->Ext J2 H2 J H->SR c J H σ env->xU env σ p->Acc J H ys->ys.length + N<=sizeLine->cJ (act env) Qf c.T->
  So (Su X.prog X.w) X.A m (λ_ s'=>∃σ' H' J' r,Inv X RL σ' H' s'/\Ext J2 H2 J' H'/\aU J J'/\SR c J' H' σ' r.2/\xU r.2 σ' p/\Acc J' H' (ys++r.1)/\r.1.length<=N/\Qf r) (λ_ _=>False) s
abbrev E7 (ifs:List SM) (env:Env):Sem Bool:=forIn ifs true λc r=>if r=true then do let ok <-Ze c env (eval c env);pure (U0 ok) else pure (U0 r)
abbrev lY (RN RO:SM) (ifs:List SM) (it:RX) (env:Env) (act:Sem Unit) (again':Sem Fin):Sem Fin:=do
 Vv RO.pos
 match <-Wv it with
 | none=>pure (.done .next)
 | some v=>
  UY RN it v
  assign RN env v
  let mut ok:=true
  for c in ifs do
   if ok then ok <-Ze c env (eval c env)
  if ok then
   act
  again'
noncomputable def sf (prog:Sm) (w:SO) (A:SW) (e:SM) (depth:Nat) (it acc:RX) (env:Env) (RN:SM) (ifs:List SM) (m:Sem Unit):Prop:=
 ∀(R:aaB->RZ->Prop) (I:Nat->RZ->Prop),(∀n s,I n s->So (Su prog w) A (Wv it) (λr s₁=>match r with
   | none=>R (.ok .next) s₁
   | some v=>So (Su prog w) A (UY RN it v) (λ_ s₁=>So (Su prog w) A (assign RN env v) (λ_ s₂=>
     So (Su prog w) A (E7 ifs env) (λok s₃=>if ok=true then So (Su prog w) A m (λ_ s₅=>∃m,m < n/\I m s₅) (λ_ _=>False) s₃ else ∃m,m < n/\I m s₃) (λ_ _=>False) s₂) (λ_ _=>False) s₁) (λ_ _=>False) s₁) (λ_ _=>False) s)->
  ∀(n:Nat) (s:RZ),I n s->U4 (Su prog w) A (.compLoop e depth it acc env) R s
section
variable {prog:Sm}{w:SO}{A:SW}{RN RO:SM}{ifs:List SM}{RK:U3}{pos:Pos}{it acc:RX}{env:Env}{depth:Nat}{gens:List Ym}{act:Sem Unit}
theorem zQ {R:aaB->RZ->Prop}{I:Nat->RZ->Prop}{E:RX->RZ->Prop}{code:Code}{n:Nat}{s:RZ}{Q:Fin->RZ->Prop}
  (Rm:∀s,R (.ok .next) s->Q (.done .next) s) (Ri:∀s,(∃m,m < n/\I m s)->So (Su prog w) A (again code) Q E s)
  (t:So (Su prog w) A (Wv it) (λr s₁=>match r with
   | none=>R (.ok .next) s₁
   | some v=>So (Su prog w) A (UY RN it v) (λ_ s₁=>So (Su prog w) A (assign RN env v) (λ_ s₂=>
     So (Su prog w) A (E7 ifs env) (λok s₃=>if ok=true then So (Su prog w) A act (λ_ s₅=>∃m,m < n/\I m s₅) (λ_ _=>False) s₃ else ∃m,m < n/\I m s₃) (λ_ _=>False) s₂) (λ_ _=>False) s₁) (λ_ _=>False) s₁) (λ_ _=>False) s):
  So (Su prog w) A (lY RN RO ifs it env act (again code)) Q E s:=by
 refine RU (T5 (RU (Tc t (λr s₁ h₁=>?_) λ_ _ f=>f.elim)))
 cases r with
 | none=>exact RY (Rm _ h₁)
 | some v=>
  refine RU (Tc h₁ (λ_ s₁' h₁'=>?_) λ_ _ f=>f.elim)
  refine RU (Tc h₁' (λ_ s₂ h₂=>RU (Tc h₂ (λok s₃ h₃=>?_) λ_ _ f=>f.elim)) λ_ _ f=>f.elim)
  cases ok with
  | false=>exact Ri _ h₃
  | true=>exact RU (Tc h₃ (λ_ s₅ h₅=>Ri _ h₅) λ_ _ f=>f.elim)
theorem Co {elt:SM}(ht:WM (.ListComp elt gens RK pos) depth it acc env=lY RN RO ifs it env act (again (.compLoop (.ListComp elt gens RK pos) depth it acc env))):sf prog w A (.ListComp elt gens RK pos) depth it acc env RN ifs act:=by
 intro R I turn n s h
 refine codeAny_loop rfl I (λn s hI=>?_) n h
 show So _ A ((WM (.ListComp elt gens RK pos) depth it acc env).onRaise (λx=>do aaW x env;aaX x)) _ _ s
 refine wpAny_noted ?_
 rw [ht]
 exact zQ (λ_ h=>h) (λ_ h=>RY ⟨rfl,h⟩) (turn n s hI)
theorem Cn {kx vx:SM}(ht:WM (.DictComp kx vx gens RK pos) depth it acc env=lY RN RO ifs it env act (again (.compLoop (.DictComp kx vx gens RK pos) depth it acc env))):sf prog w A (.DictComp kx vx gens RK pos) depth it acc env RN ifs act:=by
 intro R I turn n s h
 refine codeAny_loop rfl I (λn s hI=>?_) n h
 show So _ A ((WM (.DictComp kx vx gens RK pos) depth it acc env).onRaise (λx=>do aaW x env;aaX x)) _ _ s
 refine wpAny_noted ?_
 rw [ht]
 exact zQ (λ_ h=>h) (λ_ h=>RY ⟨rfl,h⟩) (turn n s hI)
end
section
variable {X:Cx}{c:C}{p:Se}{Acc:Hp->Hp->List D->Prop}{J2 H2:Hp}{N:Nat}{m:Sem Unit}{act:Ev->M (List D×Ev)}{RN:SM}{ifs:List SM}{gt:GT}{gts:G Bool}{e:SM}{depth:Nat}{acc:RX}{it:Se}{fp:List Se}{tn:Nat->TU->Prop}{It:It}{ds:List D}{J1:Hp}
theorem yV (aR:xK Acc) (hc:X.calm=true) (hx:∀v s,X.xe v s->False) (LP:sf X.prog X.w X.A e depth (.ref it) acc X.env RN ifs m) (hT:iT X c RN gt) (hIf:gj X c ifs gts) (hA:uv X c p Acc J2 H2 N m act) (T:Turn X.prog X.w X.K RN It fp it tn)
  (U:Hp->Hp->Prop) (wk:Walk c It ds J1 U){RL:List (Se×Obj)}{s:RZ}{σ:L2.St}{H J:Hp}{env:Ev}{ys:List D}{Qf:List D×Ev->Prop}(hU:∀J' H',Ext J2 H2 J' H'->aU J J'->U J' H') (I:Inv X RL σ H s) (st:tn 0 s.heap) (fr:∀b∈fp,jK X RL H b) (e2:Ext J2 H2 J H) (sr:SR c J H σ env) (no:xU env σ p) (ac:Acc J H ys)
  (hl:ys.length + ds.length * N<=sizeLine) (w:cJ (bW gt gts act ds env) Qf c.T):
  U4 (Su X.prog X.w) X.A (.compLoop e depth (.ref it) acc X.env) (λr s'=>r=.ok .next/\∃σ' H' J' r',Inv X RL σ' H' s'/\Ext J2 H2 J' H'/\aU J J'/\SR c J' H' σ' r'.2/\xU r'.2 σ' p/\Acc J' H' (ys++r'.1)/\r'.1.length<=ds.length * N/\Qf r') s:=by
 refine LP _ (λn s'=>∃(i:Nat) (σ':L2.St) (H' J':Hp) (env':Ev) (zs:List D),n=ds.length - i/\i<=ds.length/\Inv X RL σ' H' s'/\tn i s'.heap/\(∀b∈fp,H' b=none)/\Ext J2 H2 J' H'/\aU J J'/\SR c J' H' σ' env'/\xU env' σ' p/\Acc J' H' (ys++zs)/\zs.length<=i * N/\
  cJ (bW gt gts act (ds.drop i) env') (λr=>Qf (zs++r.1,r.2)) c.T) ?_ ds.length s ⟨0,σ,H,J,env,[],rfl,SG _,I,st,λb hb=>(fr b hb).1,e2,aU.refl J,sr,no,by rw [UZ];exact ac,by simp,by rw [Zg];exact w⟩
 rintro n s' ⟨i,σ',H',J',env',zs,rfl,hi,I',st',fr',e',sj,sr',no',ac',hz,w'⟩
 have stat:∀{H':Hp},(∀b∈fp,H' b=none)->∀b∈fp,jK X RL H' b:=λhn b hb=>⟨hn b hb,(fr b hb).2⟩
 obtain ⟨wk1,wk2⟩:=wk i J' H' sr'.hp (hU J' H' e' sj)
 by_cases hlt:i < ds.length
 ·obtain ⟨g1,y1⟩:=wk2 ds[i] (by simp [hlt])
  rw [V5 hlt] at w'
  refine Tc (T.item X rfl rfl rfl hc i RL s' σ' H' (λ_ _=>False) I' (stat fr') st' g1) (λr s4 ⟨u,hr,h4⟩=>?_) λ_ _ f=>f.elim
  subst hr
  refine Tc h4 (λ_ s5 ⟨x,H5,I5,r5,y5,st5,fr5⟩=>?_) λ_ _ f=>f.elim
  obtain ⟨J5,e5,rx⟩:=y1 x H5 y5
  have I5':=I5.pinned (stat fr5) (T.obj _ _ st5)
  have again:∀{σ7:L2.St}{H7:Hp}{s7:RZ},Inv X (RL++pW fp s5.heap) σ7 H7 s7->Inv X RL σ7 H7 s7/\tn (i + 1) s7.heap/\(∀b∈fp,H7 b=none):=fun {σ7 H7 s7} I7=>by
   refine ⟨I7.unpinned,T.keep _ _ _ st5 λb hb o e=>(I7.pin (b,o) (S5 _ (S5 _ (jW hb e)))).1,λb hb=>?_⟩
   obtain ⟨o,e,d⟩:=T.obj _ _ st5 b hb
   exact (I7.pin (b,o) (S5 _ (S5 _ (jW hb e)))).2.1
  refine Tc (hT _ s5 σ' H5 x u (λσ6 H6=>∃e6,H6=H5/\SR c J5 H5 σ6 e6/\KO env' σ' e6 σ6/\cJ (gts e6 >>= λk=>if k=true then act e6 >>= λr=>bW gt gts act (ds.drop (i + 1)) r.2 >>= λz=>.ok (r.1++z.1,z.2) else bW gt gts act (ds.drop (i + 1)) e6)
   (λr=>Qf (zs++r.1,r.2)) c.T) I5' r5 ⟨J5,env',ds[i],sr'.ext e5,rx,aD (aI w') λe6 w6 σ6 sr6 ko=>⟨e6,rfl,sr6,ko,w6⟩⟩) (λ_ s6 ⟨σ6,H6,I6,e6,Rl,sr6,ko,w6⟩=>?_) λ_ _ f=>(hx _ _ f).elim
  subst Rl
  have no6:xU e6 σ6 p:=λj xs q z=>by
   obtain ⟨k1,k2⟩:=ko j xs q
   exact no' j xs k1 (k2▸z)
  refine Tc (hIf _ s6 σ6 H6 (λk H7=>∃J7,Ext J5 H6 J7 H7/\cJ (if k=true then act e6 >>= λr=>bW gt gts act (ds.drop (i + 1)) r.2 >>= λz=>.ok (r.1++z.1,z.2) else bW gt gts act (ds.drop (i + 1)) e6)
   (λr=>Qf (zs++r.1,r.2)) c.T) I6 ⟨J5,e6,sr6,aD (aI w6) λk wk J7 H7 e7=>⟨J7,e7,wk⟩⟩) (λk s7 ⟨H7,I7,J7,e7,w7⟩=>?_) λ_ _ f=>(hx _ _ f).elim
  have sr7:=sr6.ext e7
  have ac7:=aR.ext (aR.ext ac' e5) e7
  have x7:=(e'.trans e5).trans e7
  have j7:=(sj.trans e5.j).trans e7.j
  have hm:(i + 1) * N=i * N + N:=by rw [aaY,Nat.one_mul]
  cases k with
  | false=>
   rw [if_neg (by decide)] at w7 ⊢
   obtain ⟨a1,a2,a3⟩:=again I7
   exact ⟨ds.length - (i + 1),by omega,i + 1,σ6,H7,J7,e6,zs,rfl,hlt,a1,a2,a3,x7,j7,sr7,no6,ac7,by omega,w7⟩
  | true=>
   rw [if_pos rfl] at w7 ⊢
   have hN:(i + 1) * N<=ds.length * N:=V2 N hlt
   refine Tc (hA _ s7 σ6 H7 J7 e6 (ys++zs) _ I7 x7 sr7 no6 ac7 (by rw [Sy];omega) (aI w7)) (λ_ s8 ⟨σ8,H8,J8,r,I8,x8,j8,sr8,no8,ac8,l8,w8⟩=>?_) λ_ _ f=>f.elim
   obtain ⟨a1,a2,a3⟩:=again I8
   refine ⟨ds.length - (i + 1),by omega,i + 1,σ8,H8,J8,r.2,zs++r.1,rfl,hlt,a1,a2,a3,x8,j7.trans j8,sr8,no8,by rw [<-VY];exact ac8,by rw [Sy];omega,?_⟩
   refine aD (aI w8) λz q=>?_
   rw [VY]
   exact q
 ·have Rw:i=ds.length:=by omega
  subst Rw
  rw [Yz (R6 _)] at w'
  refine Tc (T.done X rfl rfl rfl hc _ RL s' σ' H' (λ_ _=>False) I' (stat fr') st' (wk1 (R6 _))) (λr s4 ⟨hr,I9⟩=>?_) λ_ _ f=>f.elim
  subst hr
  have w9:Qf (zs++[],env'):=w'
  rw [UZ] at w9
  exact ⟨rfl,σ',H',J',(zs,env'),I9,e',sj,sr',no',ac',hz,w9⟩
end
section
variable {prog:Sm}{w:SO}{A:SW}{R:aaB->RZ->Prop}{s:RZ}{it acc:RX}{env:Env}{RK:U3}{pos:Pos}{g0:Ym}{RN RO:SM}{ifs:List SM}{rest:List Ym}
theorem MY {elt:SM}(h0:U4 (Su prog w) A (.compLoop (.ListComp elt (g0::⟨RN,RO,ifs,0⟩::rest) RK pos) 1 it acc env) R s)
  (h:So (Su prog w) A (XN it) (λit' s'=>U4 (Su prog w) A (.compLoop (.ListComp elt (g0::⟨RN,RO,ifs,0⟩::rest) RK pos) 1 it' acc env) R s') (λ_ _=>False) s):
  U4 (Su prog w) A (.compStart (.ListComp elt (g0::⟨RN,RO,ifs,0⟩::rest) RK pos) 1 it acc env) R s:=by
 refine Wu ?_
 show So _ _ ((aaZ (.ListComp elt (g0::⟨RN,RO,ifs,0⟩::rest) RK pos) 1 it acc env).onRaise (λx=>do aaW x env;Vv aa0)) _ _ s
 refine abS ?_
 unfold aaZ
 show So _ _ (ask >>= _) _ _ s
 refine RU (U8 (wpAny_ite ?_))
 split
 ·first
   | exact RU (RY (RY (YV rfl h0)))
   | exact RY (YV rfl h0)
 ·refine RU (XS ?_)
  show So _ _ (Vv RO.pos >>= _) _ _ s
  exact RU (T5 (RU (Tc h (λit' s' h'=>RY (YV rfl h')) λ_ _ x=>x.elim)))
theorem MX {kx vx:SM}(h0:U4 (Su prog w) A (.compLoop (.DictComp kx vx (g0::⟨RN,RO,ifs,0⟩::rest) RK pos) 1 it acc env) R s)
  (h:So (Su prog w) A (XN it) (λit' s'=>U4 (Su prog w) A (.compLoop (.DictComp kx vx (g0::⟨RN,RO,ifs,0⟩::rest) RK pos) 1 it' acc env) R s') (λ_ _=>False) s):
  U4 (Su prog w) A (.compStart (.DictComp kx vx (g0::⟨RN,RO,ifs,0⟩::rest) RK pos) 1 it acc env) R s:=by
 refine Wu ?_
 show So _ _ ((aaZ (.DictComp kx vx (g0::⟨RN,RO,ifs,0⟩::rest) RK pos) 1 it acc env).onRaise (λx=>do aaW x env;Vv aa0)) _ _ s
 refine abS ?_
 unfold aaZ
 show So _ _ (ask >>= _) _ _ s
 refine RU (U8 (wpAny_ite ?_))
 split
 ·first
   | exact RU (RY (RY (YV rfl h0)))
   | exact RY (YV rfl h0)
 ·refine RU (XS ?_)
  show So _ _ (Vv RO.pos >>= _) _ _ s
  exact RU (T5 (RU (Tc h (λit' s' h'=>RY (YV rfl h')) λ_ _ x=>x.elim)))
end
noncomputable def iW (gi:G (List D)) (gt:GT) (gts:G Bool) (act:Ev->M (List D×Ev)):Ev->M (List D×Ev):=λenv=>gi env >>= λds=>if ds.length<=1000 then bW gt gts act ds env else .bad
abbrev rJ (e RO:SM) (acc:RX) (env:Env):Sem Unit:=do
 let x <-eval RO env
 Vv RO.pos
 let x <-Sl RO env x
 let _ <-runOwn (.compStart e 1 (<-holding [x] (XN x)) acc env) env
section
variable {X:Cx}{c:C}{p:Se}{Acc:Hp->Hp->List D->Prop}{J2 H2:Hp}{N:Nat}{m:Sem Unit}{act:Ev->M (List D×Ev)}{RN RO:SM}{ifs:List SM}{gi:G (List D)}{gt:GT}{gts:G Bool}{e:SM}{acc:RX}
theorem AJ (aR:xK Acc) (hc:X.calm=true) (hx:∀v s,X.xe v s->False) (hs:∀x,Sl RO X.env x=pure x)
  (start:∀(it:Se) (R:aaB->RZ->Prop) (s:RZ),U4 (Su X.prog X.w) X.A (.compLoop e 1 (.ref it) acc X.env) R s->So (Su X.prog X.w) X.A (XN (.ref it)) (λit' s'=>U4 (Su X.prog X.w) X.A (.compLoop e 1 it' acc X.env) R s') (λ_ _=>False) s->U4 (Su X.prog X.w) X.A (.compStart e 1 (.ref it) acc X.env) R s)
  (LP:∀it:Se,sf X.prog X.w X.A e 1 (.ref it) acc X.env RN ifs m) (hi:xX X c RN RO gi) (hT:iT X c RN gt) (hIf:gj X c ifs gts) (hA:uv X c p Acc J2 H2 N m act):
  uv X c p Acc J2 H2 (1000 * N) (rJ e RO acc X.env) (iW gi gt gts act):=by
 intro RL s σ H J env ys Qf I x2 sr no ac hl w
 refine RU (Tc (hi RL s σ H (λIt H1=>∃ds J1,Ext J H J1 H1/\Walk c It ds J1 (λJ' _=>aU J1 J')/\cJ (if ds.length<=1000 then bW gt gts act ds env else .bad) Qf c.T) I ⟨J,env,sr,aD (aI w) λds wd It J1 H1 e1 wk=>⟨ds,J1,e1,wk,wd⟩⟩) (λxv s1 h1=>?_) λv s f=>(hx v s f).elim)
 refine RU (T5 ?_)
 rw [hs xv]
 refine RU (RY (RU (SD (Tc h1 (λitv s2 h2=>?_) λv s f=>(hx v s f).elim))))
 obtain ⟨it,fp,tn,It,H1,rfl,I1,T,st1,f1,ds,J1,e1,wk,w1⟩:=h2
 have hsz:ds.length<=1000:=by
  by_cases z:ds.length<=1000
  ·exact z
  ·rw [if_neg z] at w1;exact w1.elim
 rw [if_pos hsz] at w1
 have hm:ds.length * N<=1000 * N:=V2 N hsz
 have hb:ys.length + ds.length * N<=sizeLine:=SJ (Nat.add_le_add_left hm _) hl
 have run:=yV aR hc hx (LP it) hT hIf hA T (λJ' _=>aU J1 J') wk (λ_ _ _ h=>h) I1 st1 f1 (x2.trans e1) (sr.ext e1) no (aR.ext ac e1) hb w1
 have run':U4 (Su X.prog X.w) X.A (.compLoop e 1 (.ref it) acc X.env) (λr s'=>match r with | .ok f=>So (Su X.prog X.w) X.A (pure ()) (λ_ s'=>∃σ' H' J' r,Inv X RL σ' H' s'/\Ext J2 H2 J' H'/\aU J J'/\SR c J' H' σ' r.2/\xU r.2 σ' p/\Acc J' H' (ys++r.1)/\r.1.length<=1000 * N/\Qf r) (λ_ _=>False) s' | .error e=>cameBackBy (Su X.prog X.w) X.A X.env (λ_ _=>False) e s') s2:=U9 run λr s' ⟨hr,σ',H',J',r',q1,q2,q3,q4,q5,q6,q7,q8⟩=>by
  subst hr
  exact RY ⟨σ',H',J',r',q1,q2,e1.j.trans q3,q4,q5,q6,SJ q7 hm,q8⟩
 exact RU (wpAny_runOwn (h:=none) (start it _ _ run' (T.self _ 0 _ _ _ st1 run')))
end
def gw (ge:G R):Ev->M (List D×Ev):=λe=>ge e >>= λr=>toD r >>= λy=>.ok ([y],e)
def BP (c:C) (p:Se):Hp->Hp->List D->Prop:=λJ H ys=>∃us,H p=some (.lst us)/\J p=none/\aH c.K J ys us
theorem rq {c:C}{p:Se}:xK (BP c p):=⟨fun {J H J' H' ys} ⟨us,h1,h2,h3⟩ e=>⟨us,e.h _ _ h1,e.frz _ (by rw [h1];intro z;cases z) h2,h3.mono e.j⟩⟩
section
variable {X:Cx}{c:C}{p:Se}{J2 H2:Hp}{elt:SM}{ge:G R}
theorem AI (hx:∀v s,X.xe v s->False) (hp2:H2 p=none) (hp0:c.H0 p=none) (hE:PD X c elt ge):uv X c p (BP c p) J2 H2 1 (do let _ <-call (.builtin "list.append") [.ref p,<-eval elt X.env]) (gw ge):=by
 intro RL s σ H J env ys Qf I x2 sr no ⟨us,h1,h2,h3⟩ hl w
 have hlen:ys.length=us.length:=h3.length
 refine RU (Tc (hE _ s σ H (λv H8=>∃J8 y,Ext J H J8 H8/\Rep c.K J8 y v/\Qf ([y],env)) I ⟨J,env,sr,aD (aI w) λr wr v J8 H8 e8 r8=>?_⟩) (λu8 s8 ⟨v8,H8,I8,r8,J8,y,e8,ry,w8⟩=>?_) λv s f=>(hx v s f).elim)
 ·obtain ⟨y,q,wr⟩:=gQ wr
  obtain ⟨J9,e9,_,ry⟩:=freeze e8 r8 q
  exact ⟨J9,y,e9,ry,wr⟩
 have p8:H8 p=some (.lst us):=e8.h _ _ h1
 have J8p:J8 p=none:=e8.frz _ (by rw [h1];intro z;cases z) h2
 refine RU (Tc (pS (X:=X) _ s8 σ H8 (.ref p) [v8] (.ref p) [u8] (λ_ H9=>H9=L2.upd H8 p (.lst (us++[v8]))) I8 rfl (.cons r8 .nil) ⟨_,us,v8,rfl,rfl,p8,by omega,rfl⟩) (λ_ s9 ⟨_,H9,I9,_,h9⟩=>?_) λv s f=>(hx v s f).elim)
 subst h9
 exact RY ⟨σ,_,J8,([y],env),I9,(x2.trans e8).other hp2 J8p,e8.j,(sr.ext e8).other J8p hp0 no,no,⟨us++[v8],b8,J8p,(h3.mono e8.j).append (.cons ry .nil)⟩,R6 _,w8⟩
end
noncomputable def i7 (lim n:Nat) (cap:List Nat) (gi:G (List D)) (gt:GT) (gts:G Bool) (act:Ev->M (List D×Ev)) (fin:List D->M R):G R:=λenv=>gi env >>= λds=>if ds.length<=lim then bW gt gts act ds (cE n cap env) >>= λr=>fin r.1 else .bad
section
variable {X:Cx}{c:C}
theorem nL (own:List Str) (cap:List Nat){e RN RO:SM}{ifs:List SM}{gs:List Ym}{RK:U3}{gi:G (List D)}{gt:GT}{gts:G Bool}{act:Ev->M (List D×Ev)}{fin:List D->M R}{newAcc:Sem RX}{ob:Obj}{o0:Se->HO}{Acc:Se->Hp->Hp->List D->Prop}{N lim:Nat}{m:Se->Env->Sem Unit}
  (hcls:clausesOf e=⟨RN,RO,ifs,0⟩::gs) (hi:o5 X c RN RO gi)
  (hnew:∀(s:RZ) (Q:RX->RZ->Prop) (E:RX->RZ->Prop),Q (.ref s.heap.objs.size) {s with heap:=s.heap.push ob}->So (Su X.prog X.w) X.A newAcc Q E s)
  (hob:∀(h:TU) (H:Hp),cj X.prog X.w H (h.push ob) h.objs.size (o0 h.objs.size))
  (aR:∀p,xK (Acc p)) (a0:∀(p:Se) (J H:Hp),VE < p->H p=some (o0 p)->J p=none->Acc p J H [])
  (hN:lim * N<=sizeLine) (LP:∀(it p:Se) (env:Env),sf X.prog X.w X.A e 0 (.ref it) (.ref p) env RN ifs (m p env))
  (start:∀(it:Se) (acc:RX) (env:Env) (R:aaB->RZ->Prop) (s:RZ),U4 (Su X.prog X.w) X.A (.compLoop e 0 (.ref it) acc env) R s->So (Su X.prog X.w) X.A (XN (.ref it)) (λit' s'=>U4 (Su X.prog X.w) X.A (.compLoop e 0 it' acc env) R s') (notedBy (Su X.prog X.w) X.A env λx s'=>R (.error x) s') s->U4 (Su X.prog X.w) X.A (.compStart e 0 (.ref it) acc env) R s)
  (nofin:∀ys z,fin ys≠.exc z) (hend:∀{p:Se}{J H J' H':Hp}{ys:List D}{r:R},H p=none->Ext J H J' H'->Acc p J' H' ys->fin ys=.ok r->∃J'',Ext J H J'' H'/\RR c H J'' H' r (.ref p))
  (hbody:∀(cl:List (Str×Se)) (C:Se) (s:RZ) (H:Hp) (fp:List Se),bH X.env.cells RK.names []=some cl->iT (aX X own cap RK cl C s H fp) c RN gt/\gj (aX X own cap RK cl C s H fp) c ifs gts/\∀(p:Se) (J2 H2:Hp),H2 p=none->c.H0 p=none->uv (aX X own cap RK cl C s H fp) c p (Acc p) J2 H2 N (m p (aX X own cap RK cl C s H fp).env) act)
  (hk:RK.kind=.function) (hno:fh X cap RK=true) (hnames:(RK.names.all λx=>!(x.2 == .local) || (RK.names.lookup x.1 == some .local))=true)
  (hcl:(bH X.env.cells RK.names []).isSome=true) (hcap:dM X cap=true) (hloc:dS X cap RK=true) (hnd:fK cap=true) (PZ:X.calm=true)
  (hs:∀x,Sl RO X.env x=pure x)
  {RL:List (Se×Obj)}{s:RZ}{σ:L2.St}{H:Hp}{Q:VK}{use:Option (RX->Sem Unit)}{Q0:RX->RZ->Prop}{pos':Pos}(I:Inv X RL σ H s) (h:tD c (i7 lim own.length cap gi gt gts act fin) σ H Q)
  (P4:∀(acc C:Se) (m:Str->Option RX) (s':RZ) (H':Hp) (fl:Flow),s'.heap.Ns C m->((C∈X.ex\/X.s₀.heap.objs.size<=C)/\C≠X.env.locals/\(∀x c,X.env.cells.lookup x=some c->c≠C)/\∀p∈X.pn++RL,p.1≠C)->H' C=none->(∀h'',Tw C s'.heap h''->Inv X RL σ H' {s' with heap:=h''})->Q (.ref acc) H'->ZR (Su X.prog X.w) X.A X.xe use Q0 (.ref acc) C (.ok fl) s'):
  So (Su X.prog X.w) X.A (comprehension e RK X.env pos' newAcc false (eval RO X.env) use) Q0 X.xe s:=by
 obtain ⟨J,env,sr,w⟩:=h
 obtain ⟨cl,hcl⟩:=TF.mp hcl
 have Q4:∀j∈cap,∀x,X.N[j]?=some x->cT RK.names x=false:=λj hj x hx=>by
  have:=SQ.mp hno j hj
  rw [hx] at this
  simpa using this
 have Ql:∀x∈RK.names,x.2=.local->RK.names.lookup x.1=some .local:=λy hy z=>by
  have:=SQ.mp hnames y hy
  rw [z] at this
  simpa using this
 have QG:∀j∈cap,∀x,X.N[j]?=some x->(relabel RK X.env).names.lookup x≠some .local:=λj hj x hx z=>by
  have:=SQ.mp hloc j hj
  rw [hx] at this
  simp only at this
  rw [z] at this
  cases this
 refine wpAny_comprehension_free (use:=use) hcls hs (wR hcl) hk Ql ?_
 refine bS (hi RL s σ H (λIt H1=>∃ds J1,Ext J H J1 H1/\Walk c It ds J1 (λJ' H'=>aU J1 J'/\aU H1 H')/\
  cJ (if ds.length<=lim then bW gt gts act ds (cE own.length cap env) >>= λr=>fin r.1 else .bad) (λr=>∀v J' H',Ext J H J' H'->RR c H J' H' r v->Q v H') c.T) I ⟨J,env,sr,aD (aI w) λds wd It J1 H1 e1 wk=>⟨ds,J1,e1,wk,wd⟩⟩) λxv s1 h1=>bS h1 λitv s2 h2=>?_
 obtain ⟨it,fp,tn,It,H2,rfl,I2,T,st2,f2,ds,J2,e2,wk,w2⟩:=h2
 have hsz:ds.length<=lim:=by
  by_cases z:ds.length<=lim
  ·exact z
  ·rw [if_neg z] at w2;exact w2.elim
 rw [if_pos hsz] at w2
 have w3:=aI w2
 refine hnew s2 _ _ (Cr ?_)
 dsimp only
 generalize QL:s2.heap.push ob=Hs
 have hC:Hs.objs.size=s2.heap.objs.size + 1:=by rw [<-QL,VG]
 have hp2:H2 s2.heap.objs.size=none:=I2.hok.fresh (R6 _)
 have kHs:∀b o,s2.heap.get? b=some o->Hs.get? b=some o:=λb o e=>by rw [<-QL];exact R5 _ e
 have I3:Inv X RL σ (L2.upd H2 s2.heap.objs.size (o0 s2.heap.objs.size)) {s2 with heap:=Hs,toks:=s2.toks}:=I2.laid (t':=s2.toks) kHs (R6 _) (by rw [<-QL];exact hob _ _)
 have f3:∀b∈fp,jK X RL (L2.upd H2 s2.heap.objs.size (o0 s2.heap.objs.size)) b:=λb hb=>by
  obtain ⟨o,ho,_⟩:=T.obj _ _ st2 b hb
  exact ⟨by rw [bE (Sv (Si ho))];exact (f2 b hb).1,(f2 b hb).2⟩
 have hin:∀b∈fp,b < Hs.objs.size:=λb hb=>by
  obtain ⟨o,ho,_⟩:=T.obj _ _ st2 b hb
  exact VM (Si ho) (by rw [hC];exact U5 _)
 obtain ⟨h₁,eh₁⟩:∃h₁,h₁=aaN (Hs.push {cls:=.type "dict",data:=.dict #[]}) RK.names:=⟨_,rfl⟩
 rw [<-eh₁]
 have hns₁:h₁.Ns Hs.objs.size (λ_=>none):=by rw [eh₁];exact LW Hs RK.names
 have ck:acC h₁ (Hs.objs.size + 1) (Td (Hs.objs.size + 1) RK.names []):=by rw [eh₁];exact DO Hs RK.names
 have okC:=IS (own:=own) (cap:=cap) I3 hk hcl ck f3 hin
 have old1:∀b o,Hs.get? b=some o->h₁.get? b=some o:=λb o e=>by rw [eh₁];exact aaO _ _ _ _ (R5 _ e)
 have I4:=FN (tk:=s2.toks) I3 okC hcl ck hcap QG Q4 hns₁ old1
 have sr2:=sr.ext e2
 have srA:SR c J2 (L2.upd H2 s2.heap.objs.size (o0 s2.heap.objs.size)) σ env:=sr2.ext (Ext.new e2.sub hp2 _)
 have J2p:J2 s2.heap.objs.size=none:=e2.sub.free hp2
 have H0p:c.H0 s2.heap.objs.size=none:=sr2.hp.ent.free hp2
 have nown:∀(j:Nat) (xs:Mn),(cE own.length cap env)[j]?=some (some (mS xs))->(Tu own.length none++cap.map λ(j:Nat)=>(σ[j]?).getD none)[j]?≠some (some (.ref s2.heap.objs.size)):=λj xs q z=>by
  obtain ⟨a,h1,h2,h3⟩:=jS q
  obtain ⟨a',h4,h5,h6⟩:=jS z
  rw [h2] at h5;cases h5
  obtain ⟨p,k1,k2,_⟩:=sr2.mine h3
  rw [h6] at k1
  cases k1
  exact k2 hp2
 obtain ⟨hT,hIf,hE⟩:=hbody cl Hs.objs.size {s2 with heap:=Hs,toks:=s2.toks} (L2.upd H2 s2.heap.objs.size (o0 s2.heap.objs.size)) fp hcl
 have fpC:∀{H':Hp},(∀b∈fp,H' b=none)->∀b∈fp,jK (aX X own cap RK cl Hs.objs.size {s2 with heap:=Hs,toks:=s2.toks} (L2.upd H2 s2.heap.objs.size (o0 s2.heap.objs.size)) fp) [] H' b:=fun {H'} hn b hb=>by
  obtain ⟨m1,_⟩:=gx RK.names [] cl hcl (λx c h=>by simp at h)
  refine ⟨hn b hb,Sv (hin b hb),λz=>?_,.inl hb,λx d h=>(fP h).elim (λh=>VJ (Sx (hin b hb) (Vr (ck.empty _ _ (Wr h)).2))) (λh=>(f2 b hb).2.2.2.2.1 x d (m1 x d h.2)),λp hp=>absurd (show p∈([]:List (Se×Obj)) from hp) (by simp)⟩
  rcases Sh.mp (I2.stkSub b z) with e | e
  ·exact (f2 b hb).2.1 e
  ·exact (f2 b hb).2.2.1 e
 have back:∀{pi:List (Se×Obj)}{σ':L2.St}{H':Hp}{s':RZ}{h'':TU},Inv (aX X own cap RK cl Hs.objs.size {s2 with heap:=Hs,toks:=s2.toks} (L2.upd H2 s2.heap.objs.size (o0 s2.heap.objs.size)) fp) pi σ' H' s'->Tw Hs.objs.size s'.heap h''->Inv X RL σ H' {s' with heap:=h''}:=fun {pi σ' H' s' h''} I' sb=>by
  have B:Un (frs X.stack) fp (L2.upd H2 s2.heap.objs.size (o0 s2.heap.objs.size)) H' Hs s'.heap:=I'.base
  have ne2:∀{b:Se}{o:Obj},s2.heap.get? b=some o->b≠s2.heap.objs.size/\b≠Hs.objs.size:=fun {b o} e=>
   ⟨Sv (Si e),Sv (VM (Si e) (by rw [hC];exact U5 _))⟩
  have nH:∀{b:Se}{o:HO},H2 b=some o->L2.upd H2 s2.heap.objs.size (o0 s2.heap.objs.size) b=some o:=fun {b o} e=>by rw [bE (fk e hp2)];exact e
  refine Inv.call' (ch:=fp) (s':={s' with heap:=h''}) I2 I'.os ⟨λb o e n hf hx=>?_,λb o e n hf hx=>?_,λb o e n hx=>?_,λb o e hx=>?_,λb xs e=>B.tups b xs (nH e),λb o u e=>B.frzs b o u (nH e),λb ps e=>B.tbls b ps (nH e)⟩ (Aq I'.hok I'.free sb) I'.bare λb hb=>⟨(f2 b hb).2.2.2.1,(f2 b hb).2.1,(f2 b hb).2.2.2.2.1,(f2 b hb).2.2.2.2.2⟩
  ·exact (sb.2 b (ne2 e).2).trans (B.keep b o (kHs b o e) (by rw [bE (ne2 e).1];exact n) hf hx)
  ·obtain ⟨sl,z⟩:=B.slot b o (kHs b o e) (by rw [bE (ne2 e).1];exact n) hf hx
   exact ⟨sl,(sb.2 b (ne2 e).2).trans z⟩
  ·exact B.free b o (kHs b o e) (by rw [bE (ne2 e).1];exact n) hx
  ·obtain ⟨o',z⟩:=B.there b o (kHs b o e) hx
   exact ⟨o',(sb.2 b (ne2 e).2).trans z⟩
 have run:=λ(s4:RZ) (I4:Inv (aX X own cap RK cl Hs.objs.size {s2 with heap:=Hs,toks:=s2.toks} (L2.upd H2 s2.heap.objs.size (o0 s2.heap.objs.size)) fp) [] _ _ s4) (st4:tn 0 s4.heap)=>yV (X:=aX X own cap RK cl Hs.objs.size {s2 with heap:=Hs,toks:=s2.toks} (L2.upd H2 s2.heap.objs.size (o0 s2.heap.objs.size)) fp) (e:=e) (depth:=0) (acc:=.ref s2.heap.objs.size) (aR _) PZ (λ_ _ f=>f) (LP it _ _) hT hIf (hE s2.heap.objs.size J2 H2 hp2 H0p) T (λJ' H'=>aU J2 J'/\aU H2 H') wk (λJ' H' x _=>⟨x.j,x.h⟩) I4 st4 (fpC λb hb=>(f3 b hb).1) (Ext.new e2.sub hp2 _) (srA.cap own.length cap (Ba hnd)) nown (a0 _ _ _ (K_ I2) b8 J2p) (SJ (by rw [Vs,YO];exact V2 N hsz) hN) w3
 have st4:=T.keep _ _ _ st2 (λb hb o e=>old1 b o (kHs b o e))
 have go:=U9 (run _ I4 st4) (R':=ZR (Su X.prog X.w) X.A X.xe use Q0 (.ref s2.heap.objs.size) Hs.objs.size) λr s' ⟨hr,σ',H',J',r',I9,x9,j9,sr9,no9,ac9,l9,w9⟩=>by
  subst hr
  obtain ⟨mm,hm,_⟩:=I9.loc
  refine P4 s2.heap.objs.size Hs.objs.size mm _ H' _ hm (K8 I2 (by rw [hC];exact Uj _)) I9.free (λh'' sb=>back I9 sb) ?_
  cases q:fin r'.1 with
  | bad=>rw [q] at w9;exact w9.elim
  | exc z=>rw [q] at w9;exact (nofin _ z q).elim
  | ok z=>
   rw [q] at w9
   obtain ⟨J9,x10,rr⟩:=hend (e2.h.free hp2) (e2.trans x9) ac9 q
   exact w9 _ J9 H' x10 rr
 exact start it _ _ _ _ go (T.self _ 0 _ _ _ st4 go)
end
noncomputable def jD (n:Nat) (cap:List Nat) (gi0:G (List D)) (gt0:GT) (gts0:G Bool) (gi1:G (List D)) (gt1:GT) (gts1:G Bool) (ge:G R):G R:=i7 10000 n cap gi0 gt0 gts0 (iW gi1 gt1 gts1 (gw ge)) (λys=>.ok (.l .fresh ys))
theorem KG (elt t0 i0 t1 i1:SM) (f0 f1:List SM) (RK:U3) (pos:Pos) (it acc:RX) (env:Env):
  WM (.ListComp elt [⟨t0,i0,f0,0⟩,⟨t1,i1,f1,0⟩] RK pos) 0 it acc env=(do
   Vv i0.pos
   match <-Wv it with
   | none=>pure (.done .next)
   | some v=>
    UY t0 it v
    assign t0 env v
    let mut ok:=true
    for c in f0 do
     if ok then ok <-Ze c env (eval c env)
    if ok then
     let x <-eval i1 env
     Vv i1.pos
     let x <-Sl i1 env x
     let _ <-runOwn (.compStart (.ListComp elt [⟨t0,i0,f0,0⟩,⟨t1,i1,f1,0⟩] RK pos) 1 (<-holding [x] (XN x)) acc env) env
    again (.compLoop (.ListComp elt [⟨t0,i0,f0,0⟩,⟨t1,i1,f1,0⟩] RK pos) 0 it acc env)):=by rfl
theorem M7 (elt t0 i0 t1 i1:SM) (f0 f1:List SM) (RK:U3) (pos:Pos) (it acc:RX) (env:Env):
  WM (.ListComp elt [⟨t0,i0,f0,0⟩,⟨t1,i1,f1,0⟩] RK pos) 0 it acc env=lY t0 i0 f0 it env (rJ (.ListComp elt [⟨t0,i0,f0,0⟩,⟨t1,i1,f1,0⟩] RK pos) i1 acc env) (again (.compLoop (.ListComp elt [⟨t0,i0,f0,0⟩,⟨t1,i1,f1,0⟩] RK pos) 0 it acc env)):=by
 rw [KG]
 refine bind_congr λ_=>bind_congr λr=>?_
 cases r with
 | none=>rfl
 | some v=>
  refine bind_congr λ_=>bind_congr λ_=>bind_congr λok=>?_
  cases ok with
  | false=>rfl
  | true=>simp only [rJ,bind_assoc,pure_bind,if_true]
theorem M8 (elt t0 i0 t1 i1:SM) (f0 f1:List SM) (RK:U3) (pos:Pos) (it acc:RX) (env:Env):
  WM (.ListComp elt [⟨t0,i0,f0,0⟩,⟨t1,i1,f1,0⟩] RK pos) 1 it acc env=lY t1 i1 f1 it env (do let _ <-call (.builtin "list.append") [acc,<-eval elt env]) (again (.compLoop (.ListComp elt [⟨t0,i0,f0,0⟩,⟨t1,i1,f1,0⟩] RK pos) 1 it acc env)):=by rfl
section
variable {X:Cx}{c:C}
theorem DT (own:List Str) (cap:List Nat){elt t0 i0 t1 i1:SM}{f0 f1:List SM}{RK:U3}{pos:Pos}{gi0 gi1:G (List D)}{gt0 gt1:GT}{gts0 gts1:G Bool}{ge:G R}(hi:o5 X c t0 i0 gi0)
  (hbody:∀(cl:List (Str×Se)) (C:Se) (s:RZ) (H:Hp) (fp:List Se),bH X.env.cells RK.names []=some cl->iT (aX X own cap RK cl C s H fp) c t0 gt0/\gj (aX X own cap RK cl C s H fp) c f0 gts0/\xX (aX X own cap RK cl C s H fp) c t1 i1 gi1/\iT (aX X own cap RK cl C s H fp) c t1 gt1/\gj (aX X own cap RK cl C s H fp) c f1 gts1/\PD (aX X own cap RK cl C s H fp) c elt ge)
  (hk:RK.kind=.function:=by rfl) (hno:fh X cap RK=true:=by rfl) (hnames:(RK.names.all λx=>!(x.2 == .local) || (RK.names.lookup x.1 == some .local))=true:=by rfl)
  (hcl:(bH X.env.cells RK.names []).isSome=true:=by rfl) (hcap:dM X cap=true:=by rfl) (hloc:dS X cap RK=true:=by rfl) (hnd:fK cap=true:=by rfl) (PZ:X.calm=true:=by rfl)
  (hs:∀x,Sl i0 X.env x=pure x:=by intro _;rfl) (hs1:∀(en:Env) x,Sl i1 en x=pure x:=by intro _ _;rfl)
  {RL:List (Se×Obj)}{s:RZ}{σ:L2.St}{H:Hp}{Q:VK}{use:Option (RX->Sem Unit)}{Q0:RX->RZ->Prop}{pos':Pos}(I:Inv X RL σ H s) (h:tD c (jD own.length cap gi0 gt0 gts0 gi1 gt1 gts1 ge) σ H Q)
  (P4:∀(acc C:Se) (m:Str->Option RX) (s':RZ) (H':Hp) (fl:Flow),s'.heap.Ns C m->((C∈X.ex\/X.s₀.heap.objs.size<=C)/\C≠X.env.locals/\(∀x c,X.env.cells.lookup x=some c->c≠C)/\∀p∈X.pn++RL,p.1≠C)->H' C=none->(∀h'',Tw C s'.heap h''->Inv X RL σ H' {s' with heap:=h''})->Q (.ref acc) H'->ZR (Su X.prog X.w) X.A X.xe use Q0 (.ref acc) C (.ok fl) s'):
  So (Su X.prog X.w) X.A (comprehension (.ListComp elt [⟨t0,i0,f0,0⟩,⟨t1,i1,f1,0⟩] RK pos) RK X.env pos' (acy []) false (eval i0 X.env) use) Q0 X.xe s:=by
 refine nL (e:=.ListComp elt [⟨t0,i0,f0,0⟩,⟨t1,i1,f1,0⟩] RK pos) (ob:={cls:=.type "list",dict:=none,data:=.seq ([]:List RX).toArray}) (o0:=λ_=>.lst []) (Acc:=BP c) (N:=1000 * 1) (lim:=10000) (m:=λp env=>rJ (.ListComp elt [⟨t0,i0,f0,0⟩,⟨t1,i1,f1,0⟩] RK pos) i1 (.ref p) env) own cap rfl hi
  (λs Q E q=>SX q) (λh H=>⟨SG _,[],0,.nil,Sd _ rfl⟩) (λp=>rq) (λp J H _ h1 h2=>⟨[],h1,h2,.nil⟩) (by decide) (λit p env=>Co (M7 ..)) (λit acc env R s h0 h=>YE h0 h) (λys z q=>by cases q)
  (fun {p J H J' H' ys r} hp e ⟨us,h1,h2,h3⟩ q=>by cases q;exact ⟨J',e,⟨p,us,rfl,h1,h2,hp,h3⟩⟩) (λcl C s H fp hcc=>?_) hk hno hnames hcl hcap hloc hnd PZ hs I h P4
 obtain ⟨b1,b2,b3,b4,b5,b6⟩:=hbody cl C s H fp hcc
 refine ⟨b1,b2,λp J2 H2 hp2 hp0=>?_⟩
 exact AJ rq PZ (λ_ _ f=>f) (λx=>hs1 _ x) (λit R s h0 h=>MY h0 h) (λit=>Co (M8 ..)) b3 b4 b5 (AI (λ_ _ f=>f) hp2 hp0 b6)
theorem EH (own:List Str) (cap:List Nat){elt t0 i0 t1 i1:SM}{f0 f1:List SM}{RK:U3}{pos:Pos}{gi0 gi1:G (List D)}{gt0 gt1:GT}{gts0 gts1:G Bool}{ge:G R}(hi:o5 X c t0 i0 gi0)
  (hbody:∀(cl:List (Str×Se)) (C:Se) (s:RZ) (H:Hp) (fp:List Se),bH X.env.cells RK.names []=some cl->iT (aX X own cap RK cl C s H fp) c t0 gt0/\gj (aX X own cap RK cl C s H fp) c f0 gts0/\xX (aX X own cap RK cl C s H fp) c t1 i1 gi1/\iT (aX X own cap RK cl C s H fp) c t1 gt1/\gj (aX X own cap RK cl C s H fp) c f1 gts1/\PD (aX X own cap RK cl C s H fp) c elt ge)
  (hk:RK.kind=.function:=by rfl) (hno:fh X cap RK=true:=by rfl) (hnames:(RK.names.all λx=>!(x.2 == .local) || (RK.names.lookup x.1 == some .local))=true:=by rfl)
  (hcl:(bH X.env.cells RK.names []).isSome=true:=by rfl) (hcap:dM X cap=true:=by rfl) (hloc:dS X cap RK=true:=by rfl) (hnd:fK cap=true:=by rfl) (PZ:X.calm=true:=by rfl)
  (hs:∀x,Sl i0 X.env x=pure x:=by intro _;rfl) (hs1:∀(en:Env) x,Sl i1 en x=pure x:=by intro _ _;rfl):PD X c (.ListComp elt [⟨t0,i0,f0,0⟩,⟨t1,i1,f1,0⟩] RK pos) (jD own.length cap gi0 gt0 gts0 gi1 gt1 gts1 ge):=by
 intro RL s σ H Q I h
 rw [abT]
 exact DT own cap hi hbody hk hno hnames hcl hcap hloc hnd PZ hs hs1 I h λacc C m s' H' fl hm hz hf hb q=>⟨m,hm,λh'' sb=>⟨.ref acc,H',hb h'' sb,rfl,q⟩⟩
theorem ED (i:Nat) (own:List Str) (cap:List Nat){elt t0 i0 t1 i1:SM}{f0 f1:List SM}{RK:U3}{pos:Pos}{gi0 gi1:G (List D)}{gt0 gt1:GT}{gts0 gts1:G Bool}{ge:G R}{pos' pos2:Pos}{x:Str}(hN:X.N.Nodup) (hi:o5 X c t0 i0 gi0)
  (hbody:∀(cl:List (Str×Se)) (C:Se) (s:RZ) (H:Hp) (fp:List Se),bH X.env.cells RK.names []=some cl->iT (aX X own cap RK cl C s H fp) c t0 gt0/\gj (aX X own cap RK cl C s H fp) c f0 gts0/\xX (aX X own cap RK cl C s H fp) c t1 i1 gi1/\iT (aX X own cap RK cl C s H fp) c t1 gt1/\gj (aX X own cap RK cl C s H fp) c f1 gts1/\PD (aX X own cap RK cl C s H fp) c elt ge)
  (hk:RK.kind=.function:=by rfl) (hno:fh X cap RK=true:=by rfl) (hnames:(RK.names.all λx=>!(x.2 == .local) || (RK.names.lookup x.1 == some .local))=true:=by rfl)
  (hcl:(bH X.env.cells RK.names []).isSome=true:=by rfl) (hcap:dM X cap=true:=by rfl) (hloc:dS X cap RK=true:=by rfl) (hnd:fK cap=true:=by rfl) (PZ:X.calm=true:=by rfl)
  (hs:∀x,Sl i0 X.env x=pure x:=by intro _;rfl) (hs1:∀(en:Env) x,Sl i1 en x=pure x:=by intro _ _;rfl) (hx:X.N[i]?=some x:=by rfl) (P8:X.env.scope.names.lookup x=some .local:=by rfl)
  (hsw:VC (.ListComp elt [⟨t0,i0,f0,0⟩,⟨t1,i1,f1,0⟩] RK pos) (some (.Name x pos')) pos2.line X.env=pure true:=by rfl):xW X c (.Assign [.Name x pos'] (.ListComp elt [⟨t0,i0,f0,0⟩,⟨t1,i1,f1,0⟩] RK pos) pos2) (br i (jD own.length cap gi0 gt0 gts0 gi1 gt1 gts1 ge)):=by
 intro RL s σ H D I ⟨J,env,sr,w⟩
 rw [YW]
 refine RU (T5 ?_)
 rw [show Vw [.Name x pos'] (.ListComp elt [⟨t0,i0,f0,0⟩,⟨t1,i1,f1,0⟩] RK pos) pos2.line X.env=pure true from hsw]
 refine RU (RY ?_)
 rw [if_pos rfl,X6]
 refine RU (RU (DT own cap hi hbody hk hno hnames hcl hcap hloc hnd PZ hs hs1 (Q:=λv H1=>∃J1 r xx,Ext J H J1 H1/\RR c H J1 H1 r v/\toS r=.ok xx/\oP c J D (.nx (env.set i (some xx)))) I ⟨J,env,sr,aD (aI w) λr wr v J1 H1 e1 r1=>?_⟩ λacc C m s' H' fl hm ap hf hb ⟨J1,r,xx,e1,r1,q1,w1⟩=>?_))
 ·obtain ⟨xx,q,wr⟩:=nG wr
  exact ⟨J1,r,xx,e1,r1,q,wr⟩
 ·have I1:L2.Inv X RL σ H' s':=hb s'.heap (X7 ..)
  show So _ _ (do Vv pos';acK X.env x (.ref acc)) _ _ _
  refine RU (T5 (Zj ?_))
  refine lW I1 hN hx (.inl P8) (v:=.ref acc) (u:=.ref acc) rfl (λs2 I2 ⟨a,sb,ha⟩=>?_) (.inr P8)
  have hac:C≠a:=λz=>by
   rcases ha with e | e
   ·exact ap.2.1 (z.trans e)
   ·exact ap.2.2.1 _ _ e z.symm
  refine ⟨m,hm.sameBut sb hac,λh2 sb2=>?_⟩
  refine RY (RY ⟨σ.set i (some (.ref acc)),H',pU I2 ap hf sb2 (o0:=default),?_⟩)
  exact w1 _ J1 H' e1.j (sr.set e1 r1 q1)
theorem CC (own:List Str) (cap:List Nat){elt t0 i0 t1 i1:SM}{f0 f1:List SM}{RK:U3}{pos:Pos}{gi0 gi1:G (List D)}{gt0 gt1:GT}{gts0 gts1:G Bool}{ge:G R}(hi:qL X c t0 i0 gi0)
  (hbody:∀(cl:List (Str×Se)) (C:Se) (s:RZ) (H:Hp) (fp:List Se),bH X.env.cells RK.names []=some cl->kD (aX X own cap RK cl C s H fp) c t0 gt0/\jL (aX X own cap RK cl C s H fp) c f0 gts0/\xZ (aX X own cap RK cl C s H fp) c t1 i1 gi1/\kD (aX X own cap RK cl C s H fp) c t1 gt1/\jL (aX X own cap RK cl C s H fp) c f1 gts1/\QD (aX X own cap RK cl C s H fp) c elt ge)
  (hk:RK.kind=.function:=by rfl) (hno:fh X cap RK=true:=by rfl) (hnames:(RK.names.all λx=>!(x.2 == .local) || (RK.names.lookup x.1 == some .local))=true:=by rfl)
  (hcl:(bH X.env.cells RK.names []).isSome=true:=by rfl) (hcap:dM X cap=true:=by rfl) (hloc:dS X cap RK=true:=by rfl) (hnd:fK cap=true:=by rfl) (PZ:X.calm=true:=by rfl)
  (hs:∀x,Sl i0 X.env x=pure x:=by intro _;rfl) (hs1:∀(en:Env) x,Sl i1 en x=pure x:=by intro _ _;rfl):QD X c (.ListComp elt [⟨t0,i0,f0,0⟩,⟨t1,i1,f1,0⟩] RK pos) (jD own.length cap gi0 gt0 gts0 gi1 gt1 gts1 ge):=
 ⟨EH own cap hi.h (λcl C s H fp hc=>let ⟨a,b,d,e,f,g⟩:=hbody cl C s H fp hc;⟨a.h,b.h,d.h,e.h,f.h,g.h⟩) hk hno hnames hcl hcap hloc hnd PZ hs hs1⟩
theorem CA (i:Nat) (own:List Str) (cap:List Nat){elt t0 i0 t1 i1:SM}{f0 f1:List SM}{RK:U3}{pos:Pos}{gi0 gi1:G (List D)}{gt0 gt1:GT}{gts0 gts1:G Bool}{ge:G R}{pos' pos2:Pos}{x:Str}(hN:X.N.Nodup) (hi:qL X c t0 i0 gi0)
  (hbody:∀(cl:List (Str×Se)) (C:Se) (s:RZ) (H:Hp) (fp:List Se),bH X.env.cells RK.names []=some cl->kD (aX X own cap RK cl C s H fp) c t0 gt0/\jL (aX X own cap RK cl C s H fp) c f0 gts0/\xZ (aX X own cap RK cl C s H fp) c t1 i1 gi1/\kD (aX X own cap RK cl C s H fp) c t1 gt1/\jL (aX X own cap RK cl C s H fp) c f1 gts1/\QD (aX X own cap RK cl C s H fp) c elt ge)
  (hk:RK.kind=.function:=by rfl) (hno:fh X cap RK=true:=by rfl) (hnames:(RK.names.all λx=>!(x.2 == .local) || (RK.names.lookup x.1 == some .local))=true:=by rfl)
  (hcl:(bH X.env.cells RK.names []).isSome=true:=by rfl) (hcap:dM X cap=true:=by rfl) (hloc:dS X cap RK=true:=by rfl) (hnd:fK cap=true:=by rfl) (PZ:X.calm=true:=by rfl)
  (hs:∀x,Sl i0 X.env x=pure x:=by intro _;rfl) (hs1:∀(en:Env) x,Sl i1 en x=pure x:=by intro _ _;rfl) (hx:X.N[i]?=some x:=by rfl) (P8:X.env.scope.names.lookup x=some .local:=by rfl)
  (hsw:VC (.ListComp elt [⟨t0,i0,f0,0⟩,⟨t1,i1,f1,0⟩] RK pos) (some (.Name x pos')) pos2.line X.env=pure true:=by rfl):gR X c (.Assign [.Name x pos'] (.ListComp elt [⟨t0,i0,f0,0⟩,⟨t1,i1,f1,0⟩] RK pos) pos2) (br i (jD own.length cap gi0 gt0 gts0 gi1 gt1 gts1 ge)):=
 ⟨ED i own cap hN hi.h (λcl C s H fp hc=>let ⟨a,b,d,e,f,g⟩:=hbody cl C s H fp hc;⟨a.h,b.h,d.h,e.h,f.h,g.h⟩) hk hno hnames hcl hcap hloc hnd PZ hs hs1 hx P8 hsw⟩
end
noncomputable def CH:RX->Option V
 | .int i _=>some (.int i)
 | .ref a=>some (.ref a)
 | _=>none
noncomputable def jY:List RX->Option (List V)
 | []=>some []
 | u::us=>match CH u,jY us with
  | some v,some vs=>some (v::vs)
  | _,_=>none
open Classical in
noncomputable def kR (h:TU):Hp:=λa=>match h.get? a with
 | some o=>if o.cls=.type "tuple" then (match o.data with
  | .seq RM _=>(jY RM.toList).map .tup
  | _=>none) else none
 | none=>none
theorem G6 {u:RX}{v:V}(h:CH u=some v):RelV v u:=by
 cases u with
 | int i t=>cases h;exact ⟨t,rfl⟩
 | ref a=>cases h;exact rfl
 | _=>cases h
theorem vS:∀{us:List RX}{vs:List V},jY us=some vs->Vals vs us
 | [],vs,h=>by cases h;exact .nil
 | u::us,vs,h=>by
  unfold jY at h
  cases q:CH u with
  | none=>rw [q] at h;cases h
  | some v=>
   cases q2:jY us with
   | none=>rw [q,q2] at h;cases h
   | some ws=>rw [q,q2] at h;cases h;exact .cons (G6 q) (vS q2)
theorem iB {h:TU}{a:Se}{o:HO}(q:kR h a=some o):∃vs ob RM n,o=.tup vs/\h.get? a=some ob/\ob.cls=.type "tuple"/\ob.data=.seq RM n/\Vals vs RM.toList:=by
 unfold kR at q
 split at q
 ·rename_i ob hob
  split at q
  ·rename_i hc
   split at q
   ·rename_i RM n hd
    cases z:jY RM.toList with
    | none=>rw [z] at q;cases q
    | some vs=>rw [z] at q;cases q;exact ⟨vs,ob,RM,n,rfl,hob,hc,hd,vS z⟩
   ·cases q
  ·cases q
 ·cases q
theorem Kg {h:TU}{a:Se}{RM:List RX}{vs:List V}(p:h.IsTuple a RM.toArray) (q:jY RM=some vs):kR h a=some (.tup vs):=by
 obtain ⟨o,ho,hc,n,hd⟩:=p
 unfold kR
 rw [ho]
 simp only [hc,if_true,hd]
 rw [q];rfl
theorem pL {s:RZ}:HF [] (kR s.heap) s:=by
 refine ⟨λa xs h=>?_,λa xs h=>?_,λa h=>?_,λa ep RS h=>?_⟩
 ·rcases h with (h | ⟨o,h⟩) | ⟨o,RM,n,h,_⟩
  ·obtain ⟨vs,ob,RM,n,e,h1,h2,h3,h4⟩:=iB h
   cases e
   exact ⟨RM.toList,h4,ob,h1,h2,n,by rw [h3]⟩
  ·obtain ⟨vs,ob,RM,n,e,_⟩:=iB h;cases e
  ·cases h
 ·rcases h with (h | ⟨o,h⟩) | ⟨o,RM,n,h,_⟩
  ·obtain ⟨vs,ob,RM,n,e,_⟩:=iB h;cases e
  ·obtain ⟨vs,ob,RM,n,e,_⟩:=iB h;cases e
  ·cases h
 ·obtain ⟨vs,ob,RM,n,e,_⟩:=iB h;cases e
 ·obtain ⟨vs,ob,RM,n,e,_⟩:=iB h;cases e
theorem zj {K:RV}{J:Hp}:∀{ds:List D}{vs:List V}{us:List RX},areKeys ds=true->aH K J ds vs->Vals vs us->jY us=some vs
 | _,_,_,_,.nil,.nil=>rfl
 | d::ds,v::vs,u::us,h,.cons r rs,.cons q qs=>by
  unfold areKeys at h
  rw [R8] at h
  have ih:=zj h.2 rs qs
  have e:CH u=some v:=by
   cases d with
   | int i=>cases r;obtain ⟨t,rfl⟩:=q;rfl
   | tup xs=>cases r;cases q;rfl
   | _=>cases h.1
  unfold jY
  rw [e,ih]
mutual
theorem ku {K:RV}{J:Hp}{s:RZ}(F:HF K J s):∀{d:D}{v:V},isKey d=true->Rep K J d v->Rep [] (kR s.heap) d v
 | .int i,_,_,.int _=>.int i
 | .tup ds,_,hk,.tup (a:=a) (vs:=vs) h hs=>by
  obtain ⟨RM,r,p⟩:=F.t _ _ h
  exact .tup (.inl (.inl (Kg p (zj hk hs r)))) (zk F hk hs)
 | .non,_,hk,_=>nomatch hk
 | .bl _,_,hk,_=>nomatch hk
 | .str _,_,hk,_=>nomatch hk
 | .lst _,_,hk,_=>nomatch hk
 | .emp,_,hk,_=>nomatch hk
 | .exn _ _ _,_,hk,_=>nomatch hk
 | .dct _ _,_,hk,_=>nomatch hk
theorem zk {K:RV}{J:Hp}{s:RZ}(F:HF K J s):∀{ds:List D}{vs:List V},areKeys ds=true->aH K J ds vs->aH [] (kR s.heap) ds vs
 | [],_,_,.nil=>.nil
 | d::ds,_,h,.cons r rs=>by
  unfold areKeys at h
  rw [R8] at h
  exact .cons (ku F h.1 r) (zk F h.2 rs)
end
theorem EW {h h':TU}{d:Se}{o:Obj} {es ep}(ho:h.get? d=some o) (hd:o.data=.dict es ep) (sb:Tw d h h'):aU (kR h) (kR h'):=λa x q=>by
 obtain ⟨vs,ob,RM,n,rfl,h1,h2,h3,h4⟩:=iB q
 have hne:a≠d:=by
  rintro rfl
  rw [ho] at h1;cases h1
  rw [hd] at h3;cases h3
 unfold kR at q ⊢
 rw [sb.2 a hne]
 exact q
def KD:Type:={d:D // isKey d=true/\dep d<=8}
noncomputable instance:DecidableEq KD:=λa b=>abU (a=b)
def CI (A:SW):Prop:=A.units + 16 < Uh
noncomputable def nW (prog:Sm) (w:SO):HeapKind prog w KD where
 is:=λh k a=>Rep [] (kR h) k.1 (.ref a)
 hash:=λk=>bU k.1
 draws:=λk=>jT k.1
 room:=CI
 inj:=fun {h a x y} hx hy=>Yn (Rep.inj (s:=({heap:=h}:RZ)) pL hx hy (by have:=x.2.2;omega) (by have:=y.2.2;omega))
 keeps:=λhx ho hd sb=>Rep.mono (EW ho hd sb) hx
 pyHash:=fun {A E s k a Q} hu hx q=>u7 k.1 (.ref a) (.ref a) A s pL k.2.1 hx rfl (by have:=k.2.2;unfold CI at hu;omega) E s Q pL q
 eqBool:=fun {A E s x y a b Q} hu hx hy q=>by
  have h:=mU (s:=s) pL A hx hy rfl rfl (u:=.ref a) (u':=.ref b) (by have:=x.2.2;unfold CI at hu;omega) (by have:=x.2.2;omega) (by have:=y.2.2;omega)
  refine h _ _ _ _ ?_
  have e:bg x.1 y.1=decide (x=y):=by
   rw [S8,uM x.2.1 y.2.1,decide_eq_true_eq]
   exact ⟨λz=>Yn z,λz=>congrArg Subtype.val z⟩
  rw [e];exact q
 quiet:=fun {A E s k a Q} hx q=>nv 8 pL ⟨k.1,.ref a,k.2.1,k.2.2,hx,rfl⟩ q
noncomputable def gT:List D->List D->D->Option D
 | k::ks,v::vs,x=>if bg k x=true then some v else gT ks vs x
 | _,_,_=>none
section
variable {K:RV}{J:Hp}{s:RZ}{P:Sm}{w:SO}
theorem AV (F:HF K J s):∀{ks:List D}{us ws:List V}{es:List ZF},areKeys ks=true->(∀k∈ks,∃xs,k=.tup xs)->deps ks<=8->aH K J ks us->ws.length=us.length->XI xQ ((cD ks).zip (us.zip ws)) es->
  ∃xs:List (KD×Se×RX),es=xs.map (abj (nW P w))/\xs.map (λx=>x.1.1)=ks/\(∀x∈xs,(nW P w).is s.heap x.1 x.2.1)/\Vals ws (xs.map λx=>x.2.2)/\Vals us (xs.map λx=>Wh x.2.1)
 | _,_,[],_,_,_,_,.nil,_,h=>by
  cases h
  exact ⟨[],rfl,rfl,λ_ h=>(nomatch h),.nil,.nil⟩
 | k::ks,u::us,v::ws,es,hk,ht,hd,.cons r rs,hl,h=>by
  unfold areKeys at hk
  rw [R8] at hk
  unfold deps at hd
  have h:XI xQ ((bU k,u,v)::(cD ks).zip (us.zip ws)) es:=h
  cases h with
  | @cons _ e _ es' h1 h2=>
   obtain ⟨xs,e1,e2,e3,e4,e5⟩:=AV F hk.2 (λk hk=>ht k (R0 _ hk)) (by omega) rs (by simpa using hl) h2
   obtain ⟨xs',rfl⟩:=ht k R1
   obtain ⟨q1,q2,q3⟩:=h1
   obtain ⟨eh,ek,ev⟩:=e
   cases r with
   | tup t1 t2=>
    rename_i a vs
    have q2:ek=.ref a:=q2
    have q1:eh=bU (.tup xs'):=q1
    subst q2;subst q1
    refine ⟨(⟨.tup xs',hk.1,by omega⟩,a,ev)::xs,by rw [e1];rfl,by rw [Sj,e2],λx hx=>?_,.cons q3 e4,.cons rfl e5⟩
    (rcases Sh.mp hx with rfl | hx)
    ·exact ku F hk.1 (.tup t1 t2)
    ·exact e3 x hx
 | [],us,v::ws,_,_,_,_,rs,hl,_=>by cases rs;cases hl
 | k::ks,us,[],_,_,_,_,rs,hl,_=>by cases rs;cases hl
theorem GA {xs:List (KD×Se×RX)}{ks:List D}(e:xs.map (λx=>x.1.1)=ks) (nd:ks.Nodup):(xs.map (·.1)).Nodup:=by
 rw [<-e] at nd
 have this:((xs.map (·.1)).map (λk:KD=>k.1)).Nodup:=by rw [Sw];exact nd
 exact acf (λk:KD=>k.1) (λa b h e=>h (congrArg (λk:KD=>k.1) e)) this
theorem xq:∀{xs:List (KD×Se×RX)}{ks vs:List D}{ws:List V}(k:KD),xs.map (λx=>x.1.1)=ks->aH K J vs ws->Vals ws (xs.map λx=>x.2.2)->
  (∀d,gT ks vs k.1=some d->∃p v,abV xs k=some p/\RelV v p.2/\Rep K J d v)/\(gT ks vs k.1=none->abV xs k=none)
 | [],_,vs,ws,k,e,rs,rv=>by
  subst e
  exact ⟨λd h=>(nomatch h),λ_=>rfl⟩
 | x::xs,_,_,_,k,e,.cons r rs,.cons q rv=>by
  subst e
  obtain ⟨i1,i2⟩:=xq (xs:=xs) k rfl rs rv
  rw [Sj]
  unfold gT
  by_cases c:x.1=k
  ·have:bg x.1.1 k.1=true:=by rw [c];exact gy _
   rw [if_pos this]
   have ek:abV (x::xs) k=some x.2:=by unfold abV;rw [List.find?_cons_of_pos (by simpa using c)];rfl
   exact ⟨λd h=>by cases h;exact ⟨x.2,_,ek,q,r⟩,λh=>nomatch h⟩
  ·have:¬bg x.1.1 k.1=true:=λh=>c (Yn ((uM x.1.2.1 k.2.1).mp h))
   rw [if_neg this]
   have ek:abV (x::xs) k=abV xs k:=by unfold abV;rw [List.find?_cons_of_neg (by simpa using c)]
   rw [ek]
   exact ⟨i1,i2⟩
theorem rD {H:Hp}(F:HF K J s) (F':HF K H s){ks vs:List D}{a:Se}(h:dY K J H a ks vs):∃(xs:List (KD×Se×RX)) (us ws:List V),s.heap.DictOfH (nW P w) a xs/\xs.map (λx=>x.1.1)=ks/\aH K J ks us/\aH K J vs ws/\Vals ws (xs.map λx=>x.2.2)/\Vals us (xs.map λx=>Wh x.2.1)/\(a == VE)=false:=by
 obtain ⟨us,ws,ep,h,hk,hv,ok,hs⟩:=h
 obtain ⟨o,es,h1,h2,h3,h4⟩:=F'.d _ _ _ h
 obtain ⟨xs,e1,e2,e3,e4,e5⟩:=AV (P:=P) (w:=w) F ok.key ok.tp ok.dp hk (by rw [<-hv.length,<-hk.length,hs.2]) h4
 exact ⟨xs,us,ws,⟨o,es,ep,h1,h2,h3,e1,e3,GA e2 ok.nd⟩,e2,hk,hv,e4,e5,hs.1⟩
end
noncomputable def dX:D->Bool
 | .tup xs=>areKeys xs && decide (deps xs + 1<=8)
 | _=>false
theorem i_ {k:D}(h:dX k=true):∃xs,k=.tup xs/\isKey k=true/\dep k<=8:=by
 cases k with
 | tup xs=>
  unfold dX at h
  rw [R8] at h
  exact ⟨xs,rfl,h.1,of_decide_eq_true h.2⟩
 | _=>cases h
noncomputable def ve:R->Option (List D×List D)
 | .d (.dct ks vs)=>some (ks,vs)
 | .mo ks vs=>some (ks,vs)
 | .mb ks vs=>some (ks,vs)
 | .mf ks vs=>some (ks,vs)
 | _=>none
noncomputable def gW (x y:R):M R:=match ve x,y with
 | some z,.d k=>if dX k=true then (match gT z.1 z.2 k with
  | some d=>.ok (.d d)
  | none=>.bad) else .bad
 | _,_=>.bad
section
variable {X:Cx}{c:C}{a b:SM}{ga gb:G R}{pos:Pos}
theorem RR.dk {He J H:Hp}(hp:HI c J H):∀{r:R}{v:V}{z:List D×List D},RR c He J H r v->ve r=some z->∃a,v=.ref a/\dY c.K J H a z.1 z.2
 | .d (.dct ks vs),v,z,h,e=>by
  cases e
  cases h with
  | dct h1 h2 h3 h4 h5=>exact ⟨_,rfl,_,_,_,hp.sub _ _ h1,h2,h3,h4,h5⟩
 | .mo ks vs,v,z,⟨a,h1,h2,_⟩,e=>by cases e;exact ⟨a,h1,h2⟩
 | .mf ks vs,v,z,⟨a,h1,h2,_⟩,e=>by cases e;exact ⟨a,h1,h2⟩
 | .mb ks vs,v,z,⟨a,h1,h2⟩,e=>by cases e;exact ⟨a,h1,h2.mono (aU.refl _) hp.ent⟩
 | .d .non,_,_,_,e=>nomatch e
 | .d (.bl _),_,_,_,e=>nomatch e
 | .d (.int _),_,_,_,e=>nomatch e
 | .d (.str _),_,_,_,e=>nomatch e
 | .d (.tup _),_,_,_,e=>nomatch e
 | .d (.lst _),_,_,_,e=>nomatch e
 | .d .emp,_,_,_,e=>nomatch e
 | .d (.exn _ _ _),_,_,_,e=>nomatch e
 | .l _ _,_,_,_,e=>nomatch e
theorem LC (hu:X.A.units + 64 < Uh):oZ X (λx y H Q=>∃J p ks vs k d,aU J H/\x=.ref p/\dY X.K J H p ks vs/\Rep X.K J k y/\dX k=true/\gT ks vs k=some d/\∀v,Rep X.K J d v->Q v H):=by
 intro value slice RL s σ H x y v u Q I rx ry h hs
 obtain ⟨J,p,ks,vs,k,d,sm,rfl,hd,hk,ok,lk,q⟩:=h
 have F:HF X.K J s:=HF.of (c:=⟨X.K,H,H,λ_=>True⟩) I sm
 obtain ⟨kx,rfl,k1,k2⟩:=i_ ok
 obtain ⟨r,rfl⟩:∃r,y=.ref r:=by cases hk;exact ⟨_,rfl⟩
 cases rx
 cases ry
 obtain ⟨xs,us,ws,hm,e2,_,hv,e4,_,hsm⟩:=rD (P:=X.prog) (w:=X.w) F (iK I) hd
 obtain ⟨pp,v,ea,rv,rd⟩:=(xq ⟨.tup kx,k1,k2⟩ e2 hv e4).1 d lk
 have room:(nW X.prog X.w).room X.A.in1:=by show X.A.units + 1 + 16 < Uh;omega
 exact Wx (x:=pp.2) hm.typeIs slot_dict_getitem.lookup (wpAny_getItem_heap (Q:=λr s'=>r=pp.2/\EP X RL σ Q r s') room (ku F k1 hk) hm ea ⟨rfl,v,H,I.tok _,rv,q v rd⟩) hs
theorem gg (hu:X.A.units + 64 < Uh) (ha:QD X c a ga) (hb:QD X c b gb) (hK:X.K=c.K:=by rfl) (hs:qu b:=by exact λ_ _=>rfl):QD X c (.Subscript a b pos) (g2 gW ga gb):=have ha:=ha.h;have hb:=hb.h;⟨Ia (LC hu) (by
 intro He He' J H x y u v Q hp rx ry w
 unfold gW at w
 split at w
 ·rename_i hz
  obtain ⟨p,rfl,hd⟩:=rx.dk hp hz
  split at w
  ·rename_i ok
   split at w
   ·rename_i d hl
    exact ⟨J,p,_,_,_,d,hp.sub,rfl,by rw [hK];exact hd,by rw [hK];exact ry,ok,hl,λv rd=>w v J H (Ext.refl hp.sub) (by rw [hK] at rd;exact rd)⟩
   ·exact w.elim
  ·exact w.elim
 ·exact w.elim) ha hb hs⟩
end
noncomputable def uU:List D->List D->D->D->List D
 | k::ks,v::vs,x,d=>(if bg k x=true then d else v)::uU ks vs x d
 | _,vs,_,_=>vs
def dput (z:List D×List D) (k d:D):List D×List D:=if (gT z.1 z.2 k).isSome=true then (z.1,uU z.1 z.2 k d) else (z.1++[k],z.2++[d])
noncomputable def iH (ys:List D):List D×List D:=ys.foldl (λz y=>match y with
 | .tup [k,d]=>dput z k d
 | _=>z) ([],[])
theorem nM (ys:List D) (k d:D):iH (ys++[.tup [k,d]])=dput (iH ys) k d:=by unfold iH;rw [Z_];rfl
inductive cK (K:RV) (J:Hp):List (KD×Se×RX)->List D->List V->List D->List V->Prop
 | nil:cK K J [] [] [] [] []
 | cons {x:KD×Se×RX}{xs:List (KD×Se×RX)}{ks vs:List D}{us ws:List V}{d:D}{v:V}:RelV v x.2.2->Rep K J d v->cK K J xs ks us vs ws->cK K J (x::xs) (x.1.1::ks) (.ref x.2.1::us) (d::vs) (v::ws)
section
variable {K:RV}{J:Hp}{P:Sm}{w:SO}
theorem cK.of:∀{xs:List (KD×Se×RX)}{us:List V}{vs:List D}{ws:List V},aH K J vs ws->Vals ws (xs.map λx=>x.2.2)->Vals us (xs.map λx=>Wh x.2.1)->cK K J xs (xs.map λx=>x.1.1) us vs ws
 | [],_,_,_,.nil,.nil,.nil=>.nil
 | x::xs,u::us,_,_,.cons r rs,.cons q qs,.cons p ps=>by
  have:u=.ref x.2.1:=by
   cases u with
   | ref a=>cases p;rfl
   | int i=>obtain ⟨t,h⟩:=p;cases h
   | str i=>obtain ⟨t,h⟩:=p;cases h
   | byt i=>obtain ⟨t,h⟩:=p;cases h
   | flt i=>obtain ⟨t,h⟩:=p;cases h
   | non=>cases p
   | bl b=>cases p
   | ty n=>cases p
  subst this
  exact .cons q r (cK.of rs qs ps)
theorem cK.put {k:KD}{u:RX}{d:D}{v:V}(rv:RelV v u) (rd:Rep K J d v):∀{xs:List (KD×Se×RX)}{ks vs:List D}{us ws:List V},cK K J xs ks us vs ws->∃ws',cK K J (xs.map (putAt k u)) ks us (uU ks vs k.1 d) ws'
 | _,_,_,_,_,.nil=>⟨[],.nil⟩
 | x::xs,_,_,_,_,.cons q r t=>by
  obtain ⟨ws',ih⟩:=cK.put rv rd t
  rw [Sj]
  unfold uU
  by_cases c:x.1=k
  ·have:bg x.1.1 k.1=true:=by rw [c];exact gy _
   rw [if_pos this]
   have e:putAt k u x=(x.1,x.2.1,u):=by unfold putAt;rw [if_pos c]
   rw [e]
   exact ⟨v::ws',.cons (x:=(x.1,x.2.1,u)) rv rd ih⟩
  ·have:¬bg x.1.1 k.1=true:=λh=>c (Yn ((uM x.1.2.1 k.2.1).mp h))
   rw [if_neg this]
   have e:putAt k u x=x:=by unfold putAt;rw [if_neg c]
   rw [e]
   exact ⟨_,.cons q r ih⟩
theorem cK.snoc {k:KD}{a:Se}{u:RX}{d:D}{v:V}(rv:RelV v u) (rd:Rep K J d v):∀{xs:List (KD×Se×RX)}{ks vs:List D}{us ws:List V},cK K J xs ks us vs ws->cK K J (xs++[(k,a,u)]) (ks++[k.1]) (us++[.ref a]) (vs++[d]) (ws++[v])
 | _,_,_,_,_,.nil=>.cons (x:=(k,a,u)) rv rd .nil
 | _,_,_,_,_,.cons q r t=>.cons q r (cK.snoc rv rd t)
theorem cK.ents:∀{xs:List (KD×Se×RX)}{ks vs:List D}{us ws:List V},cK K J xs ks us vs ws->XI xQ ((cD ks).zip (us.zip ws)) (xs.map (abj (nW P w)))
 | _,_,_,_,_,.nil=>.nil
 | _,_,_,_,_,.cons q r t=>.cons ⟨rfl,rfl,q⟩ t.ents
theorem cK.reps:∀{xs:List (KD×Se×RX)}{ks vs:List D}{us ws:List V},cK K J xs ks us vs ws->aH K J vs ws
 | _,_,_,_,_,.nil=>.nil
 | _,_,_,_,_,.cons q r t=>.cons r t.reps
theorem cK.keys:∀{xs:List (KD×Se×RX)}{ks vs:List D}{us ws:List V},cK K J xs ks us vs ws->xs.map (λx=>x.1.1)=ks
 | _,_,_,_,_,.nil=>rfl
 | _,_,_,_,_,.cons q r t=>by rw [Sj,t.keys]
theorem cK.len:∀{xs:List (KD×Se×RX)}{ks vs:List D}{us ws:List V},cK K J xs ks us vs ws->ks.length=vs.length
 | _,_,_,_,_,.nil=>rfl
 | _,_,_,_,_,.cons q r t=>by rw [Tq,Tq,t.len]
theorem qN:∀{xs ys:List D},areKeys (xs++ys)=(areKeys xs && areKeys ys)
 | [],_=>rfl
 | x::xs,ys=>by
  show (isKey x && areKeys (xs++ys))=((isKey x && areKeys xs) && areKeys ys)
  rw [qN,Bool.and_assoc]
theorem yu:∀{xs ys:List D}{n:Nat},deps xs<=n->deps ys<=n->deps (xs++ys)<=n
 | [],_,_,_,h=>h
 | x::xs,ys,n,h1,h2=>by
  unfold deps at h1
  have:=yu (xs:=xs) (ys:=ys) (n:=n) (by omega) h2
  show max (dep x) (deps (xs++ys))<=n
  omega
theorem aH.snoc {ds:List D}{vs:List V}{d:D}{v:V}(h:aH K J ds vs) (r:Rep K J d v):aH K J (ds++[d]) (vs++[v]):=h.append (.cons r .nil)
end
section
variable {X:Cx}
theorem Be {RL:List (Se×Obj)}{s:RZ}{σ:L2.St}{H J:Hp}(I:Inv X RL σ H s) (sub:aU J H){p:Se}{ks vs:List D}(h:dY X.K J H p ks vs):
  ∃xs:List (KD×Se×RX),s.heap.DictOfH (nW X.prog X.w) p xs/\xs.length=ks.length/\∀{kxs:List D}{a:Se}{d:D}{v:V}{u:RX}(k1:isKey (.tup kxs)=true) (k2:dep (.tup kxs)<=8),Rep X.K J (.tup kxs) (.ref a)->Rep X.K J d v->RelV v u->
   ∀(h':TU) (tk:Nat),h'.DictOfH (nW X.prog X.w) p (storedH xs ⟨.tup kxs,k1,k2⟩ a u)->Tw p s.heap h'->
    ∃o,Inv X RL σ (upd H p o) {s with heap:=h',toks:=tk}/\dY X.K J (upd H p o) p (dput (ks,vs) (.tup kxs) d).1 (dput (ks,vs) (.tup kxs) d).2/\(dput (ks,vs) (.tup kxs) d).1.length<=ks.length + 1:=by
 have F:HF X.K J s:=HF.of (c:=⟨X.K,H,H,λ_=>True⟩) I sub
 obtain ⟨xs,us,ws,hm,q2,h3,h4,q4,q5,h7⟩:=rD (P:=X.prog) (w:=X.w) F (iK I) h
 obtain ⟨_,_,_,p9,_,_,h5,_⟩:=h
 have rows:cK X.K J xs ks us vs ws:=by
  have:=cK.of h4 q4 q5
  rw [q2] at this
  exact this
 refine ⟨xs,hm,by rw [<-q2,R3],fun {kxs a d v u} k1 k2 rk rd r9 h' tk hm' sb=>?_⟩
 obtain ⟨o',es',ep',g1',g2'',g3',g4',g5',g6'⟩:=hm'
 obtain ⟨l1,l2⟩:=xq (K:=X.K) (J:=J) ⟨.tup kxs,k1,k2⟩ q2 h4 q4
 have key:∃us' ws',cK X.K J (storedH xs ⟨.tup kxs,k1,k2⟩ a u) (dput (ks,vs) (.tup kxs) d).1 us' (dput (ks,vs) (.tup kxs) d).2 ws'/\aH X.K J (dput (ks,vs) (.tup kxs) d).1 us'/\areKeys (dput (ks,vs) (.tup kxs) d).1=true/\deps (dput (ks,vs) (.tup kxs) d).1<=8/\(∀k∈(dput (ks,vs) (.tup kxs) d).1,∃xs,k=.tup xs)/\(dput (ks,vs) (.tup kxs) d).1.length<=ks.length + 1:=by
  unfold dput
  cases lk:gT ks vs (.tup kxs) with
  | some z=>
   obtain ⟨pp,v,ea,_,_⟩:=l1 z lk
   rw [storedH_old ea]
   obtain ⟨ws',t⟩:=cK.put (k:=⟨.tup kxs,k1,k2⟩) r9 rd rows
   exact ⟨us,ws',t,h3,h5.key,h5.dp,h5.tp,Uj _⟩
  | none=>
   rw [storedH_new (l2 lk)]
   refine ⟨us++[.ref a],ws++[v],cK.snoc (k:=⟨.tup kxs,k1,k2⟩) r9 rd rows,h3.snoc rk,?_,yu h5.dp (by show max (dep (.tup kxs)) 0<=8;omega),λk hk=>?_,by simp⟩
   ·show areKeys (ks++[.tup kxs])=true
    rw [qN,h5.key]
    show (true && (isKey (.tup kxs) && true))=true
    rw [k1];rfl
   ·rcases Sz.mp hk with h | h
    ·exact h5.tp k h
    ·exact ⟨kxs,R9.mp h⟩
 obtain ⟨us',ws',t,tk',kk,kd,kt,kl⟩:=key
 have nd':(dput (ks,vs) (.tup kxs) d).1.Nodup:=by
  rw [<-t.keys]
  have:((storedH xs ⟨.tup kxs,k1,k2⟩ a u).map (·.1)).Nodup:=g6'
  have h:=acQ (S:=(·≠·)) (λk:KD=>k.1) (λa b (h:a≠b) e=>h (Yn e)) this
  rw [Sw] at h
  exact h
 refine ⟨kG p ep' ((cD (dput (ks,vs) (.tup kxs) d).1).zip (us'.zip ws')),I.write (e:=p) (by rw [p9];trivial) (.inl rfl) (λb u hb q=>by rw [sb.2 b hb];exact q) ⟨_,g1'⟩ ⟨⟨o',es',g1',g2'',g3',by rw [g4'];exact t.ents⟩,⟨_,g1'⟩,?_⟩,⟨us',ws',ep',b8,tk',t.reps,⟨kk,nd',kd,kt⟩,h7,t.len⟩,kl⟩
 rintro h1 h2 ⟨o,es,a1,a2⟩ e
 exact ⟨o,es,e o a1,a2⟩
end
def BO (c:C) (p:Se):Hp->Hp->List D->Prop:=λJ H ys=>dY c.K J H p (iH ys).1 (iH ys).2/\J p=none/\(iH ys).1.length<=ys.length
theorem q_ {c:C}{p:Se}:xK (BO c p):=⟨fun {J H J' H' ys} ⟨h1,h2,h3⟩ e=>⟨h1.mono e.j e.h,e.frz _ h1.ne h2,h3⟩⟩
noncomputable def rA (gk gv:G R):Ev->M (List D×Ev):=λe=>gk e >>= λr=>toD r >>= λk=>gv e >>= λr2=>toD r2 >>= λd=>if dX k=true then .ok ([.tup [k,d]],e) else .bad
abbrev Cy (kx vx:SM) (p:Se) (env:Env):Sem Unit:=do
 let kv <-eval kx env
 let vv <-holding [kv] (eval vx env)
 Vv {kx.pos with endLine:=vx.pos.endLine,endCol:=vx.pos.endCol}
 holding [kv,vv] (dictSet p kv vv)
section
variable {X:Cx}{c:C}{p:Se}{J2 H2:Hp}{kx vx:SM}{gk gv:G R}
theorem AK (hu:X.A.units + 64 < Uh) (hK:X.K=c.K) (hx:∀v s,X.xe v s->False) (hp2:H2 p=none) (hp0:c.H0 p=none) (hk:PD X c kx gk) (hv:PD X c vx gv):uv X c p (BO c p) J2 H2 1 (Cy kx vx p X.env) (rA gk gv):=by
 intro RL s σ H J env ys Qf I x2 sr no ⟨h1,h2,h8⟩ hl w
 refine RU (Tc (hk _ s σ H (λv H8=>∃J8 k,Ext J H J8 H8/\Rep c.K J8 k v/\cJ (gv env >>= λr2=>toD r2 >>= λd=>if dX k=true then M.ok ([.tup [k,d]],env) else .bad) Qf c.T) I ⟨J,env,sr,aD (aI w) λr wr v J8 H8 e8 r8=>?_⟩) (λu8 s8 ⟨v8,H8,I8,r8,J8,k,e8,rk,w8⟩=>?_) λv s f=>(hx v s f).elim)
 ·obtain ⟨y,q,wr⟩:=gQ wr
  obtain ⟨J9,e9,_,ry⟩:=freeze e8 r8 q
  exact ⟨J9,y,e9,ry,wr⟩
 refine RU (SD (Tc (hv _ s8 σ H8 (λv H9=>∃J9 d,Ext J8 H8 J9 H9/\Rep c.K J9 d v/\cJ (if dX k=true then M.ok ([.tup [k,d]],env) else .bad) Qf c.T) I8 ⟨J8,env,sr.ext e8,aD (aI w8) λr wr v J9 H9 e9 r9=>?_⟩) (λu9 s9 ⟨v9,H9,I9,r9,J9,d,e9,rd,w9⟩=>?_) λv s f=>(hx v s f).elim))
 ·obtain ⟨y,q,wr⟩:=gQ wr
  obtain ⟨J9',e9',_,ry⟩:=freeze e9 r9 q
  exact ⟨J9',y,e9',ry,wr⟩
 refine RU (T5 (SD ?_))
 by_cases ok:dX k=true
 case neg=>rw [if_neg ok] at w9;exact w9.elim
 rw [if_pos ok] at w9
 have w9:Qf ([.tup [k,d]],env):=w9
 obtain ⟨kxs,rfl,k1,k2⟩:=i_ ok
 have ee:=e8.trans e9
 have rk9:=rk.mono e9.j
 obtain ⟨a,rfl⟩:∃a,v8=.ref a:=by cases rk;exact ⟨_,rfl⟩
 cases r8
 have J9p:J9 p=none:=ee.frz _ h1.ne h2
 rw [<-hK] at rk9 rd
 have h9:=h1.mono ee.j ee.h
 rw [<-hK] at h9
 obtain ⟨xs,hm,lx,put⟩:=Be I9 ee.sub h9
 refine wpAny_dictSet_heap (knd:=nW X.prog X.w) (k:=⟨.tup kxs,k1,k2⟩) (show X.A.units + 16 < Uh by omega) (ku (HF.of (c:=⟨X.K,H9,H9,λ_=>True⟩) I9 ee.sub) k1 rk9) hm (λh' hm' sb=>?_) (by rw [lx];omega)
 obtain ⟨o,W,hd,kl⟩:=put k1 k2 rk9 rd r9 h' _ hm' sb
 refine ⟨σ,_,J9,([.tup [.tup kxs,d]],env),W,(x2.trans ee).other hp2 J9p,ee.j,(sr.ext ee).other J9p hp0 no,no,⟨by rw [nM,<-hK];exact hd,J9p,?_⟩,R6 _,w9⟩
 rw [nM,Sy];exact SJ kl (Nat.add_le_add_right h8 1)
end
noncomputable def kg (n:Nat) (cap:List Nat) (gi0:G (List D)) (gt0:GT) (gts0:G Bool) (gi1:G (List D)) (gt1:GT) (gts1:G Bool) (gk gv:G R):G R:=i7 10000 n cap gi0 gt0 gts0 (iW gi1 gt1 gts1 (rA gk gv)) (λys=>.ok (.d (.dct (iH ys).1 (iH ys).2)))
theorem KC (kx vx t0 i0 t1 i1:SM) (f0 f1:List SM) (RK:U3) (pos:Pos) (it acc:RX) (env:Env):
  WM (.DictComp kx vx [⟨t0,i0,f0,0⟩,⟨t1,i1,f1,0⟩] RK pos) 0 it acc env=(do
   Vv i0.pos
   match <-Wv it with
   | none=>pure (.done .next)
   | some v=>
    UY t0 it v
    assign t0 env v
    let mut ok:=true
    for c in f0 do
     if ok then ok <-Ze c env (eval c env)
    if ok then
     let x <-eval i1 env
     Vv i1.pos
     let x <-Sl i1 env x
     let _ <-runOwn (.compStart (.DictComp kx vx [⟨t0,i0,f0,0⟩,⟨t1,i1,f1,0⟩] RK pos) 1 (<-holding [x] (XN x)) acc env) env
    again (.compLoop (.DictComp kx vx [⟨t0,i0,f0,0⟩,⟨t1,i1,f1,0⟩] RK pos) 0 it acc env)):=by rfl
theorem M5 (kx vx t0 i0 t1 i1:SM) (f0 f1:List SM) (RK:U3) (pos:Pos) (it acc:RX) (env:Env):
  WM (.DictComp kx vx [⟨t0,i0,f0,0⟩,⟨t1,i1,f1,0⟩] RK pos) 0 it acc env=lY t0 i0 f0 it env (rJ (.DictComp kx vx [⟨t0,i0,f0,0⟩,⟨t1,i1,f1,0⟩] RK pos) i1 acc env) (again (.compLoop (.DictComp kx vx [⟨t0,i0,f0,0⟩,⟨t1,i1,f1,0⟩] RK pos) 0 it acc env)):=by
 rw [KC]
 refine bind_congr λ_=>bind_congr λr=>?_
 cases r with
 | none=>rfl
 | some v=>
  refine bind_congr λ_=>bind_congr λ_=>bind_congr λok=>?_
  cases ok with
  | false=>rfl
  | true=>simp only [rJ,bind_assoc,pure_bind,if_true]
theorem M6 (kx vx t0 i0 t1 i1:SM) (f0 f1:List SM) (RK:U3) (pos:Pos) (it:RX) (p:Se) (env:Env):
  WM (.DictComp kx vx [⟨t0,i0,f0,0⟩,⟨t1,i1,f1,0⟩] RK pos) 1 it (.ref p) env=lY t1 i1 f1 it env (Cy kx vx p env) (again (.compLoop (.DictComp kx vx [⟨t0,i0,f0,0⟩,⟨t1,i1,f1,0⟩] RK pos) 1 it (.ref p) env)):=by rfl
section
variable {X:Cx}{c:C}
theorem Le (hu:X.A.units + 64 < Uh) (hK:X.K=c.K) (own:List Str) (cap:List Nat){kx vx t0 i0 t1 i1:SM}{f0 f1:List SM}{RK:U3}{pos:Pos}{gi0 gi1:G (List D)}{gt0 gt1:GT}{gts0 gts1:G Bool}{gk gv:G R}(hi:o5 X c t0 i0 gi0)
  (hbody:∀(cl:List (Str×Se)) (C:Se) (s:RZ) (H:Hp) (fp:List Se),bH X.env.cells RK.names []=some cl->iT (aX X own cap RK cl C s H fp) c t0 gt0/\gj (aX X own cap RK cl C s H fp) c f0 gts0/\xX (aX X own cap RK cl C s H fp) c t1 i1 gi1/\iT (aX X own cap RK cl C s H fp) c t1 gt1/\gj (aX X own cap RK cl C s H fp) c f1 gts1/\PD (aX X own cap RK cl C s H fp) c kx gk/\PD (aX X own cap RK cl C s H fp) c vx gv)
  (hk:RK.kind=.function:=by rfl) (hno:fh X cap RK=true:=by rfl) (hnames:(RK.names.all λx=>!(x.2 == .local) || (RK.names.lookup x.1 == some .local))=true:=by rfl)
  (hcl:(bH X.env.cells RK.names []).isSome=true:=by rfl) (hcap:dM X cap=true:=by rfl) (hloc:dS X cap RK=true:=by rfl) (hnd:fK cap=true:=by rfl) (PZ:X.calm=true:=by rfl)
  (hs:∀x,Sl i0 X.env x=pure x:=by intro _;rfl) (hs1:∀(en:Env) x,Sl i1 en x=pure x:=by intro _ _;rfl)
  {RL:List (Se×Obj)}{s:RZ}{σ:L2.St}{H:Hp}{Q:VK}{use:Option (RX->Sem Unit)}{Q0:RX->RZ->Prop}{pos':Pos}(I:Inv X RL σ H s) (h:tD c (kg own.length cap gi0 gt0 gts0 gi1 gt1 gts1 gk gv) σ H Q)
  (P4:∀(acc C:Se) (m:Str->Option RX) (s':RZ) (H':Hp) (fl:Flow),s'.heap.Ns C m->((C∈X.ex\/X.s₀.heap.objs.size<=C)/\C≠X.env.locals/\(∀x c,X.env.cells.lookup x=some c->c≠C)/\∀p∈X.pn++RL,p.1≠C)->H' C=none->(∀h'',Tw C s'.heap h''->Inv X RL σ H' {s' with heap:=h''})->Q (.ref acc) H'->ZR (Su X.prog X.w) X.A X.xe use Q0 (.ref acc) C (.ok fl) s'):
  So (Su X.prog X.w) X.A (comprehension (.DictComp kx vx [⟨t0,i0,f0,0⟩,⟨t1,i1,f1,0⟩] RK pos) RK X.env pos' newDict false (eval i0 X.env) use) Q0 X.xe s:=by
 refine nL (e:=.DictComp kx vx [⟨t0,i0,f0,0⟩,⟨t1,i1,f1,0⟩] RK pos) (ob:={cls:=.type "dict",data:=.dict #[]}) (o0:=λa=>kG a 0 []) (Acc:=BO c) (N:=1000 * 1) (lim:=10000) (m:=λp env=>rJ (.DictComp kx vx [⟨t0,i0,f0,0⟩,⟨t1,i1,f1,0⟩] RK pos) i1 (.ref p) env) own cap rfl hi
  (λs Q E q=>SX q) (λh H=>⟨⟨_,#[],Sd _ rfl,⟨rfl,rfl,rfl⟩,rfl,.nil⟩,⟨_,Sd _ rfl⟩,λh1 h2 ⟨o,es,a1,a2⟩ e=>⟨o,es,e o a1,a2⟩⟩) (λp=>q_) (λp J H hsm h1 h2=>⟨⟨[],[],0,h1,.nil,.nil,⟨rfl,Vg,SG _,λ_ h=>(nomatch h)⟩,beq_eq_false_iff_ne.mpr (UX (Sv hsm)),rfl⟩,h2,R6 _⟩) (by decide) (λit p env=>Cn (M5 ..)) (λit acc env R s h0 h=>YF h0 h) (λys z q=>by cases q)
  (fun {p J H J' H' ys r} hp e ⟨⟨us,ws,ep,h1,h3,h4,h5,h7⟩,h2,h8⟩ q=>by
   cases q
   have s1:aU J' (upd J' p (kG p ep ((cD (iH ys).1).zip (us.zip ws)))):=cM h2 _
   refine ⟨upd J' p (kG p ep ((cD (iH ys).1).zip (us.zip ws))),⟨e.h,e.j.trans s1,λa o q=>?_,λa ha ja=>?_⟩,.dct b8 (h3.mono s1) (h4.mono s1) h5 h7⟩
   ·by_cases z:a=p
    ·subst z;rw [b8] at q;cases q;exact h1
    ·rw [bE z] at q;exact e.sub _ _ q
   ·have:a≠p:=λz=>ha (z▸hp)
    rw [bE this];exact e.frz a ha ja) (λcl C s H fp hcc=>?_) hk hno hnames hcl hcap hloc hnd PZ hs I h P4
 obtain ⟨b1,b2,b3,b4,b5,b6,b7⟩:=hbody cl C s H fp hcc
 refine ⟨b1,b2,λp J2 H2 hp2 hp0=>?_⟩
 exact AJ q_ PZ (λ_ _ f=>f) (λx=>hs1 _ x) (λit R s h0 h=>MX h0 h) (λit=>Cn (M6 ..)) b3 b4 b5 (AK hu hK (λ_ _ f=>f) hp2 hp0 b6 b7)
theorem EG (hu:X.A.units + 64 < Uh) (own:List Str) (cap:List Nat){kx vx t0 i0 t1 i1:SM}{f0 f1:List SM}{RK:U3}{pos:Pos}{gi0 gi1:G (List D)}{gt0 gt1:GT}{gts0 gts1:G Bool}{gk gv:G R}(hi:o5 X c t0 i0 gi0)
  (hbody:∀(cl:List (Str×Se)) (C:Se) (s:RZ) (H:Hp) (fp:List Se),bH X.env.cells RK.names []=some cl->iT (aX X own cap RK cl C s H fp) c t0 gt0/\gj (aX X own cap RK cl C s H fp) c f0 gts0/\xX (aX X own cap RK cl C s H fp) c t1 i1 gi1/\iT (aX X own cap RK cl C s H fp) c t1 gt1/\gj (aX X own cap RK cl C s H fp) c f1 gts1/\PD (aX X own cap RK cl C s H fp) c kx gk/\PD (aX X own cap RK cl C s H fp) c vx gv)
  (hk:RK.kind=.function:=by rfl) (hno:fh X cap RK=true:=by rfl) (hnames:(RK.names.all λx=>!(x.2 == .local) || (RK.names.lookup x.1 == some .local))=true:=by rfl)
  (hcl:(bH X.env.cells RK.names []).isSome=true:=by rfl) (hcap:dM X cap=true:=by rfl) (hloc:dS X cap RK=true:=by rfl) (hnd:fK cap=true:=by rfl) (PZ:X.calm=true:=by rfl)
  (hs:∀x,Sl i0 X.env x=pure x:=by intro _;rfl) (hs1:∀(en:Env) x,Sl i1 en x=pure x:=by intro _ _;rfl) (hK:X.K=c.K:=by rfl):PD X c (.DictComp kx vx [⟨t0,i0,f0,0⟩,⟨t1,i1,f1,0⟩] RK pos) (kg own.length cap gi0 gt0 gts0 gi1 gt1 gts1 gk gv):=by
 intro RL s σ H Q I h
 rw [arm_eval_DictComp]
 exact Le hu hK own cap hi hbody hk hno hnames hcl hcap hloc hnd PZ hs hs1 I h λacc C m s' H' fl hm hz hf hb q=>⟨m,hm,λh'' sb=>⟨.ref acc,H',hb h'' sb,rfl,q⟩⟩
theorem tY (hu:X.A.units + 64 < Uh) (own:List Str) (cap:List Nat){kx vx t0 i0 t1 i1:SM}{f0 f1:List SM}{RK:U3}{pos:Pos}{gi0 gi1:G (List D)}{gt0 gt1:GT}{gts0 gts1:G Bool}{gk gv:G R}(hi:qL X c t0 i0 gi0)
  (hbody:∀(cl:List (Str×Se)) (C:Se) (s:RZ) (H:Hp) (fp:List Se),bH X.env.cells RK.names []=some cl->kD (aX X own cap RK cl C s H fp) c t0 gt0/\jL (aX X own cap RK cl C s H fp) c f0 gts0/\xZ (aX X own cap RK cl C s H fp) c t1 i1 gi1/\kD (aX X own cap RK cl C s H fp) c t1 gt1/\jL (aX X own cap RK cl C s H fp) c f1 gts1/\QD (aX X own cap RK cl C s H fp) c kx gk/\QD (aX X own cap RK cl C s H fp) c vx gv)
  (hk:RK.kind=.function:=by rfl) (hno:fh X cap RK=true:=by rfl) (hnames:(RK.names.all λx=>!(x.2 == .local) || (RK.names.lookup x.1 == some .local))=true:=by rfl)
  (hcl:(bH X.env.cells RK.names []).isSome=true:=by rfl) (hcap:dM X cap=true:=by rfl) (hloc:dS X cap RK=true:=by rfl) (hnd:fK cap=true:=by rfl) (PZ:X.calm=true:=by rfl)
  (hs:∀x,Sl i0 X.env x=pure x:=by intro _;rfl) (hs1:∀(en:Env) x,Sl i1 en x=pure x:=by intro _ _;rfl) (hK:X.K=c.K:=by rfl):QD X c (.DictComp kx vx [⟨t0,i0,f0,0⟩,⟨t1,i1,f1,0⟩] RK pos) (kg own.length cap gi0 gt0 gts0 gi1 gt1 gts1 gk gv):=
 ⟨EG hu own cap hi.h (λcl C s H fp hc=>let ⟨a,b,d,e,f,g,h⟩:=hbody cl C s H fp hc;⟨a.h,b.h,d.h,e.h,f.h,g.h,h.h⟩) hk hno hnames hcl hcap hloc hnd PZ hs hs1 hK⟩
end
noncomputable def lexLe:List Int->List Int->Bool
 | [],_=>true
 | _::_,[]=>false
 | x::xs,y::ys=>if x=y then lexLe xs ys else decide (x<=y)
theorem jV (x y:Int) (xs ys:List Int):lexLe (x::xs) (y::ys)=if x=y then lexLe xs ys else decide (x<=y):=rfl
theorem oO:lexLe [] []=true:=rfl
theorem uQ (y:Int) (ys:List Int):lexLe [] (y::ys)=true:=rfl
theorem uP (x:Int) (xs:List Int):lexLe (x::xs) []=false:=rfl
theorem G7 (A:SW) (s:RZ) (a:Int) (t:Tok) (c:Int) (u:Tok) (prog:Sm) (w:SO) (E:RX->RZ->Prop) (Q:RX->RZ->Prop) (h:Q (.bool (decide (a<=c))) s):
  So (Su prog w) A (richCompare .LtE (.int a t) (.int c u)) Q E s:=
 (acE h:So (Su prog w) A (Ug .LtE (.int a t) (.int c u)) Q E s)
section
open PySem.SeqAt
open PySem.AutoSeq1 (wpAny_loadPart')
open PySem.MeetsSeq PySem.MeetsSeq2 PySem.MeetsSeq3
theorem xg (l b:Se) (items RQ:Array RX) (n n2:Nat) (dd dd2:Option Se) (sl sl2:Array (Option RX)) (ns ms:List Int) (hi:Wa items.toList ns) (hj:Wa RQ.toList ms):
  Meets (Wb.«tuple.__le__» ⟨[.ref l,.ref b],[]⟩)
   (λ_ R s=>s.heap.get? l=some {cls:=.type "tuple",dict:=dd,data:=.seq items n,slots:=sl}/\s.heap.get? b=some {cls:=.type "tuple",dict:=dd2,data:=.seq RQ n2,slots:=sl2}/\
    R (.ok (.ret (.bool (lexLe ns ms)))) s):=
 .of_wp λprog w A R s h=>by
  obtain ⟨hp,g,d,tk,os⟩:=s;obtain ⟨hl,hb,h⟩:=h
  have f2:=Wg
  have z1:items.size=ns.length:=by rw [<-hi.length];simp
  have z2:RQ.size=ms.length:=by rw [<-hj.length];simp
  wp_walk using U1 hl,U1 hb,U6 _ (λrest b s'=>b.1=none/\s'=⟨hp,g,d,tk,os⟩/\∃(vs ws:List RX) (ns' ms':List Int),rest=vs.zip ws/\
   Wa vs ns'/\Wa ws ms'/\ns'.length + RQ.size=ms'.length + items.size/\R (.ok (.ret (.bool (lexLe ns' ms')))) ⟨hp,g,d,tk,os⟩) _
  case turn=>
   rintro ⟨y,x⟩ rest b s' ⟨hb',rfl,vs,ws,ns',ms',hz,Rc,hwi,hlen,hR⟩
   cases Rc with
   | nil=>rw [List.zip_nil_left] at hz;cases hz
   | cons a t Rf=>
    cases hwi with
    | nil=>rw [Xu] at hz;cases hz
    | cons c u Rg=>
     rw [Ul] at hz
     injection hz with hyx hrest
     injection hyx with hy hx
     subst hy hx
     rw [jV] at hR
     simp only [Tq] at hlen
     obtain ⟨e,he,hiff⟩:=HT.FP A.in1 ⟨hp,g,d,tk,os⟩ a t c u
     refine RU (he prog w _ _ ?_)
     cases e with
     | true=>
      rw [if_pos (hiff.mp rfl)] at hR
      wp_walk
      exact ⟨rfl,rfl,_,_,_,_,hrest,Rf,Rg,by omega,hR⟩
     | false=>
      rw [if_neg (λq=>absurd (hiff.mpr q) SN)] at hR
      have Q_:=G7 A.in1 ⟨hp,g,d,tk,os⟩ a t c u prog w
      wp_walk using Q_
      exact ⟨_,rfl,by simpa using hR⟩
  case fin=>
   rintro ⟨b1,b2⟩ s' ⟨hb',rfl,vs,ws,ns',ms',hz,Rc,hwi,hlen,hR⟩
   simp only at hb'
   subst hb'
   have hv:lexLe ns' ms'=decide (items.size<=RQ.size):=by
    cases Rc with
    | nil=>
     cases hwi with
     | nil=>
      simp only [Vs] at hlen
      rw [oO]
      exact (decide_eq_true (by omega)).symm
     | cons c u hw=>
      simp only [Vs,Tq] at hlen
      rw [uQ]
      exact (decide_eq_true (by omega)).symm
    | cons a t hv=>
     cases hwi with
     | nil=>
      simp only [Vs,Tq] at hlen
      rw [uP]
      exact (decide_eq_false (by omega)).symm
     | cons c u hw=>
      rw [Ul] at hz
      cases hz
   rw [hv] at hR
   wp_walk
   exact ⟨_,rfl,by simpa [WD] using hR⟩
  case h=>
   exact ⟨rfl,rfl,items.toList,RQ.toList,ns,ms,rfl,hi,hj,by omega,h⟩
end
section
variable {prog:Sm}{w:SO}{A:SW}{E:RX->RZ->Prop}{s:RZ}
theorem Cm {l b:Se}{items RQ:Array RX}{ns ms:List Int}{Q:RX->RZ->Prop}(hl:abX s.heap l items) (hb:abX s.heap b RQ) (hi:Wa items.toList ns) (hj:Wa RQ.toList ms)
  (hu:A.units < Uh) (h:Q (.bool (lexLe ns ms)) s):So (Su prog w) A (Ug .LtE (.ref l) (.ref b)) Q E s:=by
 obtain ⟨⟨cls,dd,data,sl⟩,ho,hc,n,hd⟩:=id hl
 obtain ⟨⟨cls2,dd2,data2,sl2⟩,ho2,hc2,n2,hd2⟩:=id hb
 simp only at hc hd hc2 hd2
 subst hc hd hc2 hd2
 exact YA (op:=.LtE) ⟨_,ho,rfl⟩ ⟨_,ho2,rfl⟩ PySem.F.slot_tuple_le PySem.F.entry_tuple_le (PySem.F.args_tuple_le_2 _ _) (xg l b items RQ n n2 dd dd2 sl sl2 ns ms hi hj)
  ⟨ho,ho2,show Vm (lexLe ns ms)≠Y9/\Q (.bool (lexLe ns ms)) s from ⟨(λx=>nomatch x),h⟩⟩ hu
end
section
variable {X:Cx}{c:C}{a b e:SM}{ga gb:G R}{pos pos2:Pos}
theorem LX (hu:X.A.units < Uh):dw X (Ug .LtE) (λx y H Q=>∃a b ns ms,x=.ref a/\y=.ref b/\cV X.K H a (ns.map V.int)/\cV X.K H b (ms.map V.int)/\Q (.bl (lexLe ns ms)) H):=by
 intro RL s σ H x y v u Q I rx ry h
 obtain ⟨a,b,ns,ms,rfl,rfl,ha,hb,q⟩:=h
 cases rx
 cases ry
 obtain ⟨RM,r1,p1,_⟩:=I.tuple ha
 obtain ⟨its2,r2,p2,_⟩:=I.tuple hb
 exact Cm p1 p2 (L2.intsAre_of r1:Wa RM.toArray.toList ns) (L2.intsAre_of r2:Wa its2.toArray.toList ms) hu ⟨.bl (lexLe ns ms),H,I,rfl,q⟩
noncomputable def yC:R->R->M R
 | .d (.tup xs),.d (.tup ys)=>match intsOf xs,intsOf ys with
  | some ns,some ms=>.ok (.d (.bl (lexLe ns ms)))
  | _,_=>.bad
 | _,_=>.bad
theorem JX (hu:X.A.units + 64 < Uh) (ha:QD X c a ga) (hb:QD X c b gb) (hK:X.K=c.K:=by rfl):QB X c (.Compare a [.LtE] [b] pos) (bQ (g2 yC ga gb)):=have ha:=ha.h;have hb:=hb.h;⟨kM (LX (by omega)) (by
 intro He He' J H x y u v Q hp rx ry w
 unfold yC at w
 split at w
 ·cases rx with
  | tup h1 s1=>
   cases ry with
   | tup h2 s2=>
    split at w
    ·rename_i ns ms z1 z2
     have e1:=nV z1 s1
     have e2:=nV z2 s2
     subst e1 e2
     exact ⟨_,_,ns,ms,rfl,rfl,by rw [hK];exact fz hp.sub h1,by rw [hK];exact fz hp.sub h2,w _ J H (Ext.refl hp.sub) (.bl _)⟩
    ·exact w.elim
 ·exact w.elim) ha hb⟩
end
theorem uF (gt:GT) (gts:G Bool) (ge:G R):∀(ds:List D) (env:Ev) (k:List D->M R),(bW gt gts (gw ge) ds env >>= λr=>k r.1)=(cR gt gts ge ds env >>= k)
 | [],env,k=>rfl
 | d::ds,env,k=>by
  unfold bW cR
  cases gt d env with
  | bad=>rfl
  | exc z=>rfl
  | ok e=>
   show ((gts e >>= λk=>if k=true then gw ge e >>= λr=>bW gt gts (gw ge) ds r.2 >>= λz=>.ok (r.1++z.1,z.2) else bW gt gts (gw ge) ds e) >>= _)=((gts e >>= λk=>if k=true then ge e >>= λr=>toD r >>= λy=>cR gt gts ge ds e >>= λys=>.ok (y::ys) else cR gt gts ge ds e) >>= _)
   cases gts e with
   | bad=>rfl
   | exc z=>rfl
   | ok b=>
    cases b with
    | false=>exact uF gt gts ge ds e k
    | true=>
     show ((gw ge e >>= λr=>bW gt gts (gw ge) ds r.2 >>= λz=>.ok (r.1++z.1,z.2)) >>= _)=((ge e >>= λr=>toD r >>= λy=>cR gt gts ge ds e >>= λys=>.ok (y::ys)) >>= _)
     unfold gw
     cases ge e with
     | bad=>rfl
     | exc z=>rfl
     | ok r=>
      show (((toD r >>= λy=>M.ok ([y],e)) >>= λr=>bW gt gts (gw ge) ds r.2 >>= λz=>.ok (r.1++z.1,z.2)) >>= _)=((toD r >>= λy=>cR gt gts ge ds e >>= λys=>.ok (y::ys)) >>= _)
      cases toD r with
      | bad=>rfl
      | exc z=>rfl
      | ok y=>
       have ih:=uF gt gts ge ds e λys=>k (y::ys)
       show ((bW gt gts (gw ge) ds e >>= λz=>.ok ([y]++z.1,z.2)) >>= λr=>k r.1)=((cR gt gts ge ds e >>= λys=>M.ok (y::ys)) >>= k)
       have e1:((bW gt gts (gw ge) ds e >>= λz=>M.ok ([y]++z.1,z.2)) >>= λr=>k r.1)=(bW gt gts (gw ge) ds e >>= λr=>k (y::r.1)):=by cases bW gt gts (gw ge) ds e <;> rfl
       have e2:((cR gt gts ge ds e >>= λys=>M.ok (y::ys)) >>= k)=(cR gt gts ge ds e >>= λys=>k (y::ys)):=by cases cR gt gts ge ds e <;> rfl
       rw [e1,e2,ih]
theorem Jf (n:Nat) (cap:List Nat) (gi:G (List D)) (gt:GT) (gts:G Bool) (ge:G R):bF n cap gi gt gts ge=i7 sizeLine n cap gi gt gts (gw ge) (λys=>.ok (.l .fresh ys)):=by
 funext env
 unfold bF i7
 cases gi env with
 | bad=>rfl
 | exc z=>rfl
 | ok ds=>
  show (if ds.length<=sizeLine then _ else _)=(if ds.length<=sizeLine then _ else _)
  by_cases c:ds.length<=sizeLine
  ·rw [if_pos c,if_pos c]
   exact (uF gt gts ge ds _ λys=>.ok (.l .fresh ys)).symm
  ·rw [if_neg c,if_neg c]
section
variable {X:Cx}{c:C}
theorem DS (own:List Str) (cap:List Nat){elt RN RO:SM}{ifs:List SM}{RK:U3}{pos:Pos}{gi:G (List D)}{gt:GT}{gts:G Bool}{ge:G R}(hi:o5 X c RN RO gi)
  (hbody:∀(cl:List (Str×Se)) (C:Se) (s:RZ) (H:Hp) (fp:List Se),bH X.env.cells RK.names []=some cl->iT (aX X own cap RK cl C s H fp) c RN gt/\gj (aX X own cap RK cl C s H fp) c ifs gts/\PD (aX X own cap RK cl C s H fp) c elt ge)
  (hk:RK.kind=.function:=by rfl) (hno:fh X cap RK=true:=by rfl) (hnames:(RK.names.all λx=>!(x.2 == .local) || (RK.names.lookup x.1 == some .local))=true:=by rfl)
  (hcl:(bH X.env.cells RK.names []).isSome=true:=by rfl) (hcap:dM X cap=true:=by rfl) (hloc:dS X cap RK=true:=by rfl) (hnd:fK cap=true:=by rfl) (PZ:X.calm=true:=by rfl)
  (hs:∀x,Sl RO X.env x=pure x:=by intro _;rfl)
  {RL:List (Se×Obj)}{s:RZ}{σ:L2.St}{H:Hp}{Q:VK}{use:Option (RX->Sem Unit)}{Q0:RX->RZ->Prop}{pos':Pos}(I:Inv X RL σ H s) (h:tD c (bF own.length cap gi gt gts ge) σ H Q)
  (P4:∀(acc C:Se) (m:Str->Option RX) (s':RZ) (H':Hp) (fl:Flow),s'.heap.Ns C m->((C∈X.ex\/X.s₀.heap.objs.size<=C)/\C≠X.env.locals/\(∀x c,X.env.cells.lookup x=some c->c≠C)/\∀p∈X.pn++RL,p.1≠C)->H' C=none->(∀h'',Tw C s'.heap h''->Inv X RL σ H' {s' with heap:=h''})->Q (.ref acc) H'->ZR (Su X.prog X.w) X.A X.xe use Q0 (.ref acc) C (.ok fl) s'):
  So (Su X.prog X.w) X.A (comprehension (.ListComp elt [⟨RN,RO,ifs,0⟩] RK pos) RK X.env pos' (acy []) false (eval RO X.env) use) Q0 X.xe s:=by
 rw [Jf] at h
 refine nL (e:=.ListComp elt [⟨RN,RO,ifs,0⟩] RK pos) (ob:={cls:=.type "list",dict:=none,data:=.seq ([]:List RX).toArray}) (o0:=λ_=>.lst []) (Acc:=BP c) (N:=1) (lim:=sizeLine) (m:=λp env=>do let _ <-call (.builtin "list.append") [.ref p,<-eval elt env]) own cap rfl hi
  (λs Q E q=>SX q) (λh H=>⟨SG _,[],0,.nil,Sd _ rfl⟩) (λp=>rq) (λp J H _ h1 h2=>⟨[],h1,h2,.nil⟩) (by rw [Nat.mul_one];exact R6 _) (λit p env=>Co (compTurn_list ..)) (λit acc env R s h0 h=>YE h0 h) (λys z q=>by cases q)
  (fun {p J H J' H' ys r} hp e ⟨us,h1,h2,h3⟩ q=>by cases q;exact ⟨J',e,⟨p,us,rfl,h1,h2,hp,h3⟩⟩) (λcl C s H fp hcc=>?_) hk hno hnames hcl hcap hloc hnd PZ hs I h P4
 obtain ⟨b1,b2,b3⟩:=hbody cl C s H fp hcc
 exact ⟨b1,b2,λp J2 H2 hp2 hp0=>AI (λ_ _ f=>f) hp2 hp0 b3⟩
theorem GP (own:List Str) (cap:List Nat){elt RN RO:SM}{ifs:List SM}{RK:U3}{pos:Pos}{gi:G (List D)}{gt:GT}{gts:G Bool}{ge:G R}(hi:o5 X c RN RO gi)
  (hbody:∀(cl:List (Str×Se)) (C:Se) (s:RZ) (H:Hp) (fp:List Se),bH X.env.cells RK.names []=some cl->iT (aX X own cap RK cl C s H fp) c RN gt/\gj (aX X own cap RK cl C s H fp) c ifs gts/\PD (aX X own cap RK cl C s H fp) c elt ge)
  (hk:RK.kind=.function:=by rfl) (hno:fh X cap RK=true:=by rfl) (hnames:(RK.names.all λx=>!(x.2 == .local) || (RK.names.lookup x.1 == some .local))=true:=by rfl)
  (hcl:(bH X.env.cells RK.names []).isSome=true:=by rfl) (hcap:dM X cap=true:=by rfl) (hloc:dS X cap RK=true:=by rfl) (hnd:fK cap=true:=by rfl) (PZ:X.calm=true:=by rfl)
  (hs:∀x,Sl RO X.env x=pure x:=by intro _;rfl):PD X c (.ListComp elt [⟨RN,RO,ifs,0⟩] RK pos) (bF own.length cap gi gt gts ge):=by
 intro RL s σ H Q I h
 rw [abT]
 exact DS own cap hi hbody hk hno hnames hcl hcap hloc hnd PZ hs I h λacc C m s' H' fl hm hz hf hb q=>⟨m,hm,λh'' sb=>⟨.ref acc,H',hb h'' sb,rfl,q⟩⟩
theorem GI (i:Nat) (own:List Str) (cap:List Nat){elt RN RO:SM}{ifs:List SM}{RK:U3}{pos pos' pos2:Pos}{x:Str}{gi:G (List D)}{gt:GT}{gts:G Bool}{ge:G R}(hN:X.N.Nodup) (hi:o5 X c RN RO gi)
  (hbody:∀(cl:List (Str×Se)) (C:Se) (s:RZ) (H:Hp) (fp:List Se),bH X.env.cells RK.names []=some cl->iT (aX X own cap RK cl C s H fp) c RN gt/\gj (aX X own cap RK cl C s H fp) c ifs gts/\PD (aX X own cap RK cl C s H fp) c elt ge)
  (hk:RK.kind=.function:=by rfl) (hno:fh X cap RK=true:=by rfl) (hnames:(RK.names.all λx=>!(x.2 == .local) || (RK.names.lookup x.1 == some .local))=true:=by rfl)
  (hcl:(bH X.env.cells RK.names []).isSome=true:=by rfl) (hcap:dM X cap=true:=by rfl) (hloc:dS X cap RK=true:=by rfl) (hnd:fK cap=true:=by rfl) (PZ:X.calm=true:=by rfl)
  (hs:∀x,Sl RO X.env x=pure x:=by intro _;rfl) (hx:X.N[i]?=some x:=by rfl) (P8:X.env.scope.names.lookup x=some .local:=by rfl)
  (hsw:VC (.ListComp elt [⟨RN,RO,ifs,0⟩] RK pos) (some (.Name x pos')) pos2.line X.env=pure true:=by rfl):xW X c (.Assign [.Name x pos'] (.ListComp elt [⟨RN,RO,ifs,0⟩] RK pos) pos2) (br i (bF own.length cap gi gt gts ge)):=by
 intro RL s σ H D I ⟨J,env,sr,w⟩
 rw [YW]
 refine RU (T5 ?_)
 rw [show Vw [.Name x pos'] (.ListComp elt [⟨RN,RO,ifs,0⟩] RK pos) pos2.line X.env=pure true from hsw]
 refine RU (RY ?_)
 rw [if_pos rfl,X6]
 refine RU (RU (DS own cap hi hbody hk hno hnames hcl hcap hloc hnd PZ hs (Q:=λv H1=>∃J1 r xx,Ext J H J1 H1/\RR c H J1 H1 r v/\toS r=.ok xx/\oP c J D (.nx (env.set i (some xx)))) I ⟨J,env,sr,aD (aI w) λr wr v J1 H1 e1 r1=>?_⟩ λacc C m s' H' fl hm ap hf hb ⟨J1,r,xx,e1,r1,q1,w1⟩=>?_))
 ·obtain ⟨xx,q,wr⟩:=nG wr
  exact ⟨J1,r,xx,e1,r1,q,wr⟩
 ·have I1:L2.Inv X RL σ H' s':=hb s'.heap (X7 ..)
  show So _ _ (do Vv pos';acK X.env x (.ref acc)) _ _ _
  refine RU (T5 (Zj ?_))
  refine lW I1 hN hx (.inl P8) (v:=.ref acc) (u:=.ref acc) rfl (λs2 I2 ⟨a,sb,ha⟩=>?_) (.inr P8)
  have hac:C≠a:=λz=>by
   rcases ha with e | e
   ·exact ap.2.1 (z.trans e)
   ·exact ap.2.2.1 _ _ e z.symm
  refine ⟨m,hm.sameBut sb hac,λh2 sb2=>?_⟩
  refine RY (RY ⟨σ.set i (some (.ref acc)),H',pU I2 ap hf sb2 (o0:=default),?_⟩)
  exact w1 _ J1 H' e1.j (sr.set e1 r1 q1)
theorem bx (own:List Str) (cap:List Nat){elt RN RO:SM}{ifs:List SM}{RK:U3}{pos:Pos}{gi:G (List D)}{gt:GT}{gts:G Bool}{ge:G R}(hi:qL X c RN RO gi)
  (hbody:∀(cl:List (Str×Se)) (C:Se) (s:RZ) (H:Hp) (fp:List Se),bH X.env.cells RK.names []=some cl->kD (aX X own cap RK cl C s H fp) c RN gt/\jL (aX X own cap RK cl C s H fp) c ifs gts/\QD (aX X own cap RK cl C s H fp) c elt ge)
  (hk:RK.kind=.function:=by rfl) (hno:fh X cap RK=true:=by rfl) (hnames:(RK.names.all λx=>!(x.2 == .local) || (RK.names.lookup x.1 == some .local))=true:=by rfl)
  (hcl:(bH X.env.cells RK.names []).isSome=true:=by rfl) (hcap:dM X cap=true:=by rfl) (hloc:dS X cap RK=true:=by rfl) (hnd:fK cap=true:=by rfl) (PZ:X.calm=true:=by rfl)
  (hs:∀x,Sl RO X.env x=pure x:=by intro _;rfl):QD X c (.ListComp elt [⟨RN,RO,ifs,0⟩] RK pos) (bF own.length cap gi gt gts ge):=
 ⟨GP own cap hi.h (λcl C s H fp hc=>let ⟨a,b,d⟩:=hbody cl C s H fp hc;⟨a.h,b.h,d.h⟩) hk hno hnames hcl hcap hloc hnd PZ hs⟩
theorem lU (i:Nat) (own:List Str) (cap:List Nat){elt RN RO:SM}{ifs:List SM}{RK:U3}{pos pos' pos2:Pos}{x:Str}{gi:G (List D)}{gt:GT}{gts:G Bool}{ge:G R}(hN:X.N.Nodup) (hi:qL X c RN RO gi)
  (hbody:∀(cl:List (Str×Se)) (C:Se) (s:RZ) (H:Hp) (fp:List Se),bH X.env.cells RK.names []=some cl->kD (aX X own cap RK cl C s H fp) c RN gt/\jL (aX X own cap RK cl C s H fp) c ifs gts/\QD (aX X own cap RK cl C s H fp) c elt ge)
  (hk:RK.kind=.function:=by rfl) (hno:fh X cap RK=true:=by rfl) (hnames:(RK.names.all λx=>!(x.2 == .local) || (RK.names.lookup x.1 == some .local))=true:=by rfl)
  (hcl:(bH X.env.cells RK.names []).isSome=true:=by rfl) (hcap:dM X cap=true:=by rfl) (hloc:dS X cap RK=true:=by rfl) (hnd:fK cap=true:=by rfl) (PZ:X.calm=true:=by rfl)
  (hs:∀x,Sl RO X.env x=pure x:=by intro _;rfl) (hx:X.N[i]?=some x:=by rfl) (P8:X.env.scope.names.lookup x=some .local:=by rfl)
  (hsw:VC (.ListComp elt [⟨RN,RO,ifs,0⟩] RK pos) (some (.Name x pos')) pos2.line X.env=pure true:=by rfl):gR X c (.Assign [.Name x pos'] (.ListComp elt [⟨RN,RO,ifs,0⟩] RK pos) pos2) (br i (bF own.length cap gi gt gts ge)):=
 ⟨GI i own cap hN hi.h (λcl C s H fp hc=>let ⟨a,b,d⟩:=hbody cl C s H fp hc;⟨a.h,b.h,d.h⟩) hk hno hnames hcl hcap hloc hnd PZ hs hx P8 hsw⟩
end
end DL
namespace K23
open PySem DL
def BI:List Str:=["world","many","marks","arrows"]
noncomputable def s_:G O:=(aJ (kJ (c_ 3 (bw (aC 1) (bw (aC 2) (bw (aC 3) cZ)))) (af 0))
 (bO (bI (aA (gN bX (ao (bF 2 [] (dH (af 2)) (c_ 2 (bw (aC 0) (bw (aC 1) cZ))) b9 (af 0)) aE)) (aA (gN bX (ao (bF 2 [] (dH (af 3)) (c_ 2 (bw (aC 0) (bw (aC 1) cZ))) b9 (af 0)) aE)) aW)))))
def iR (as:List S):M R:=fin (s_ (bh BI as))
def xT:List Str:=["one","other"]
def pI:G O:=(cu (bQ (g2 (eU true) (gN (aS 1 K23.iR) (ao (af 0) aE)) (gN (aS 1 K23.iR) (ao (af 1) aE)))) sV eH)
def iQ (as:List S):M R:=fin (pI (bh xT as))
def qZ:List Str:=["worlds","world"]
def kK:G O:=(gm (nT (af 0)) (aC 1) (cu (bQ (g2 (kI λi j=>.bl (decide (j < i))) (g2 bA (af 1) (gC (.int 0))) (gC (.int 4)))) sV eH))
def fQ (as:List S):M R:=fin (kK (bh qZ as))
def zZ:List Str:=["one","other"]
noncomputable def qV:G O:=(aJ (jy (gN (aS 2 K23.iQ) (ao (af 0) (ao (af 1) aE))))
 (jy (gN (aS 1 K23.fQ) (ao (bI (aA (af 0) (aA (af 1) aW))) aE))))
def fX (as:List S):M R:=fin (qV (bh zZ as))
def IA:List Str:=["pairs"]
noncomputable def A0:G O:=(aJ (cu (bQ (g2 (qQ false) (af 0) (gC .non))) (bO (bI aW)) eH)
 (bO (gN bX (ao (gN gz (ao (af 0) aE)) aE))))
def qq (as:List S):M R:=fin (A0 (bh IA as))
def Nm:List Str:=["world","one","other","many","marks","arrows","bearing","leading"]
noncomputable def HW:G O:=(aJ (kJ (c_ 3 (bw (aC 3) (bw (aC 4) (bw (aC 5) cZ)))) (af 0))
 (aJ (br 6 (gN bX (ao (bF 2 [1] (dH (af 4)) (c_ 2 (bw (aC 0) (bw (aC 1) cZ))) b9 (g2 (iI false) (af 2) (af 1))) aE)))
 (aJ (br 7 (gN bX (ao (bF 2 [1,2] (dH (af 5)) (c_ 2 (bw (aC 0) (bw (aC 1) cZ))) b9 (g2 (iI false) (bI (aA (af 2) (aA (af 3) aW))) (af 1))) aE)))
 (bO (bI (aA (g2 (eU false) (af 1) (af 2)) (aA (af 6) (aA (af 7) aW))))))))
def xh (as:List S):M R:=fin (HW (bh Nm as))
def KZ:List Str:=["world"]
noncomputable def Eg:G O:=(bO (kg 2 [0] (cA (ao (g2 bA (af 0) (gC (.int 0))) aE)) (aC 0) b9 (cA (ao (g2 bA (af 2) (gC (.int 0))) aE)) (aC 1) b9 (bI (aA (af 0) (aA (af 1) aW))) (gN (aS 3 K23.xh) (ao (af 2) (ao (af 0) (ao (af 1) aE))))))
def oX (as:List S):M R:=fin (Eg (bh KZ as))
def KW:List Str:=["first","second","pair","again"]
noncomputable def Ec:G O:=(bO (g2 (eU false) (g2 gW (af 0) (bI (aA (g2 bA (af 2) (gC (.int 0))) (aA (g2 bA (af 3) (gC (.int 0))) aW)))) (g2 gW (af 1) (bI (aA (g2 bA (af 2) (gC (.int 1))) (aA (g2 bA (af 3) (gC (.int 1))) aW))))))
def e_ (as:List S):M R:=fin (Ec (bh KW as))
def xS:List Str:=["first","second","pairing","pair","again"]
noncomputable def pH:G O:=(aJ (cu (pB (mw (af 2)) (bQ (g2 yC (af 3) (g2 bA (af 2) (yG (gC (.int 1))))))) (bO (gC (.bl false))) eH)
 (aJ (gm (nT (af 2)) (aC 4) (cu (pD (gE (bQ (gN (aS 4 K23.e_) (ao (af 0) (ao (af 1) (ao (af 3) (ao (af 4) aE))))))) (gE (bQ (gN (aS 4 K23.e_) (ao (af 0) (ao (af 1) (ao (af 4) (ao (af 3) aE)))))))) (bO (gC (.bl false))) eH))
 (bO (gC (.bl true)))))
def iP (as:List S):M R:=fin (pH (bh xS as))
def Dm:List Str:=["one","other","most","first","second","pairs","longest","told","step"]
noncomputable def vE:G O:=(aJ (jy (gN (aS 2 K23.fX) (ao (af 0) (ao (af 1) aE))))
 (aJ (jy (gN (aS 3 K55.cX) (ao (af 2) (ao (gC (.int 0)) (ao (gC (.int 4)) aE)))))
 (aJ (br 3 (gN (aS 1 K23.oX) (ao (af 0) aE)))
 (aJ (br 4 (gN (aS 1 K23.oX) (ao (af 1) aE)))
 (aJ (br 5 (jD 2 [1,3,4] (cA (ao (g2 bA (af 0) (gC (.int 0))) aE)) (aC 0) b9 (cA (ao (g2 bA (af 2) (gC (.int 0))) aE)) (aC 1) (bQ (gN (aS 4 K23.e_) (ao (af 3) (ao (af 4) (ao (bI (aA (af 0) (aA (af 1) aW))) (ao (bI (aA (af 0) (aA (af 1) aW))) aE)))))) (bI (aA (af 0) (aA (af 1) aW)))))
 (aJ (jM 5 (br 6 (gD (aA (bI aW) aW))))
 (aJ (br 7 (gD (aA (bI aW) aW)))
 (aJ (gm (cA (ao (af 2) aE)) (aC 8) (aJ (jM 5 (br 6 (jD 2 [5,3,4] (dH (af 6)) (aC 0) b9 (nT (af 2)) (aC 1) (bQ (gN (aS 4 K23.iP) (ao (af 3) (ao (af 4) (ao (af 0) (ao (af 1) aE)))))) (g2 dW (af 0) (bI (aA (af 1) aW))))))
 (yF 7 (af 6))))
 (bO (af 7))))))))))
def lF (as:List S):M R:=fin (vE (bh Dm as))
end K23
namespace K23
open PySem DL K01 WP K51 K52 K55
section
variable {α β:Type}
theorem HL {gts:G Bool}{act:Ev->M (List D×Ev)}{h':β->D}{a0:Option S}{rest:Ev}(p:β->Bool) (f:β->D):∀(ys:List β),(∀y∈ys,gts (a0::some (.d (h' y))::rest)=.ok (p y)/\(p y=true->act (a0::some (.d (h' y))::rest)=.ok ([f y],a0::some (.d (h' y))::rest)))->
  ∀z:Option S,∃z',bW (aC 1) gts act (ys.map h') (a0::z::rest)=.ok ((ys.filter p).map f,a0::z'::rest)
 | [],_,z=>⟨z,rfl⟩
 | y::ys,H,z=>by
  obtain ⟨h1,h2⟩:=H y R1
  obtain ⟨z',ih⟩:=HL p f ys (λy hy=>H y (R0 _ hy)) (some (.d (h' y)))
  refine ⟨z',?_⟩
  rw [Sj]
  unfold bW
  show (gts (a0::some (.d (h' y))::rest) >>= λk=>if k=true then act (a0::some (.d (h' y))::rest) >>= λr=>bW (aC 1) gts act (ys.map h') r.2 >>= λz=>.ok (r.1++z.1,z.2) else bW (aC 1) gts act (ys.map h') (a0::some (.d (h' y))::rest))=_
  rw [h1,aM]
  cases q:p y with
  | true=>
   rw [if_pos rfl,h2 q,aM]
   show (bW (aC 1) gts act (ys.map h') (a0::some (.d (h' y))::rest) >>= _)=_
   rw [ih,aM,Yj q]
   rfl
  | false=>
   rw [if_neg (by decide),ih,Yk (by simp [q])]
theorem DP {gi1:G (List D)}{gts:G Bool}{act:Ev->M (List D×Ev)}{h:α->D}{h':β->D}{rest:Ev}(ys:α->List β) (p:α->β->Bool) (f:α->β->D):∀(xs:List α),(∀x∈xs,(ys x).length<=1000/\(∀z:Option S,gi1 (some (.d (h x))::z::rest)=.ok ((ys x).map h'))/\∀y∈ys x,gts (some (.d (h x))::some (.d (h' y))::rest)=.ok (p x y)/\(p x y=true->act (some (.d (h x))::some (.d (h' y))::rest)=.ok ([f x y],some (.d (h x))::some (.d (h' y))::rest)))->
  ∀z0 z:Option S,∃z0' z',bW (aC 0) b9 (iW gi1 (aC 1) gts act) (xs.map h) (z0::z::rest)=.ok (xs.flatMap λx=>((ys x).filter (p x)).map (f x),z0'::z'::rest)
 | [],_,z0,z=>⟨z0,z,rfl⟩
 | x::xs,H,z0,z=>by
  obtain ⟨h1,h2,h3⟩:=H x R1
  obtain ⟨z1,e1⟩:=HL (a0:=some (.d (h x))) (p x) (f x) (ys x) h3 z
  obtain ⟨z0',z',ih⟩:=DP ys p f xs (λy hy=>H y (R0 _ hy)) (some (.d (h x))) z1
  refine ⟨z0',z',?_⟩
  rw [Sj]
  unfold bW
  show (iW gi1 (aC 1) gts act (some (.d (h x))::z::rest) >>= _)=_
  unfold iW
  rw [h2 z,aM,if_pos (by rw [R3];exact h1),e1,aM]
  show (bW (aC 0) b9 (iW gi1 (aC 1) gts act) (xs.map h) (some (.d (h x))::z1::rest) >>= _)=_
  rw [ih]
  rfl
theorem xr {env:Ev}{cap:List Nat}{gi0 gi1:G (List D)}{gts:G Bool}{act:Ev->M (List D×Ev)}{fin:List D->M R}{h:α->D}{h':β->D}{xs:List α}(ys:α->List β) (p:α->β->Bool) (f:α->β->D) (hi:gi0 env=.ok (xs.map h)) (hl:xs.length<=10000)
  (H:∀x∈xs,(ys x).length<=1000/\(∀z:Option S,gi1 (some (.d (h x))::z::cE 0 cap env)=.ok ((ys x).map h'))/\∀y∈ys x,gts (some (.d (h x))::some (.d (h' y))::cE 0 cap env)=.ok (p x y)/\(p x y=true->act (some (.d (h x))::some (.d (h' y))::cE 0 cap env)=.ok ([f x y],some (.d (h x))::some (.d (h' y))::cE 0 cap env))):
  i7 10000 2 cap gi0 (aC 0) b9 (iW gi1 (aC 1) gts act) fin env=fin (xs.flatMap λx=>((ys x).filter (p x)).map (f x)):=by
 unfold i7
 rw [hi,aM,if_pos (by rw [R3];exact hl)]
 obtain ⟨z0',z',e⟩:=DP ys p f xs H none none
 show (bW (aC 0) b9 (iW gi1 (aC 1) gts act) (xs.map h) (none::none::cE 0 cap env) >>= _)=_
 rw [e]
 rfl
theorem AH {ge:G R}{env:Ev}{r:R}{d:D}(h:ge env=.ok r) (h2:toD r=.ok d):gw ge env=.ok ([d],env):=by
 unfold gw
 rw [h,aM,h2]
 rfl
theorem uw {gk gv:G R}{env:Ev}{r r2:R}{k d:D}(h:gk env=.ok r) (h2:toD r=.ok k) (h3:gv env=.ok r2) (h4:toD r2=.ok d) (ok:dX k=true):rA gk gv env=.ok ([.tup [k,d]],env):=by
 unfold rA
 rw [h,aM,h2,aM,h3,aM,h4,aM,if_pos ok]
end
noncomputable def eT (u:Wd) (a c:Nat):D:=.tup [.bl (bg (dN a) (dN c)),.tup (u.ms.map λr=>.bl (inD (dN a) (r.2.map dN))),.tup (u.ar.map λr=>.bl (inD (dP (a,c)) (r.2.map dP)))]
theorem KQ (u:Wd) (hu:gu u) (a c:Nat):xh [.d u.d,.d (dN a),.d (dN c)]=.ok (.d (eT u a c)):=by
 have ml:=hu.ml
 have al:=hu.al
 refine b_ (qD rfl rfl rfl ?_)
 refine bC (n1 (ie (xs:=u.ms) (λr=>.str r.1) (λr=>.tup (r.2.map dN)) (λr=>.bl (inD (dN a) (r.2.map dN))) rfl (by omega) λr _=>⟨_,two rfl rfl (Lu a r.2),rfl⟩) rfl) rfl ?_
 refine bC (n1 (ie (xs:=u.ar) (λr=>.str r.1) (λr=>.tup (r.2.map dP)) (λr=>.bl (inD (dP (a,c)) (r.2.map dP))) rfl (by omega) λr _=>⟨_,two (bz (aF rfl rfl (aF rfl rfl bu)) t2) rfl (yN (a,c) r.2),rfl⟩) rfl) rfl ?_
 exact bP (bz (aF rfl rfl (aF rfl rfl (aF rfl rfl bu))) (by show 3<=1000;decide)) rfl rfl
def dZ (m n:Nat):List (Nat×Nat):=(R7 m).flatMap λa=>(R7 n).map λb=>(a,b)
theorem nZ {m n:Nat}{p:Nat×Nat}:p∈dZ m n↔p.1 < m/\p.2 < n:=by
 unfold dZ
 simp only [W0,Sq,R4]
 constructor
 ·rintro ⟨a,ha,b,hb,rfl⟩;exact ⟨ha,hb⟩
 ·rintro ⟨h1,h2⟩;exact ⟨p.1,h1,p.2,h2,rfl⟩
theorem n5 (m n:Nat):(dZ m n).Nodup:=by
 unfold dZ
 refine YX.mpr ⟨λa _=>S_.mpr (WE (λh e=>h (by cases e;rfl)) (U7 (n:=n))),?_⟩
 refine WE ?_ (U7 (n:=m))
 intro a b hab p h1 q h2 e
 subst e
 obtain ⟨x,_,rfl⟩:=R4.mp h1
 obtain ⟨y,_,e⟩:=R4.mp h2
 cases e
 exact hab rfl
theorem Gq (m n:Nat):(dZ m n).length=m * n:=by
 induction m with
 | zero=>simp [dZ]
 | succ m ih=>
  unfold dZ at ih ⊢
  rw [Xk,List.flatMap_append,Sy,ih,aaY]
  simp
theorem Ju {ks vs:List D}{k:D}(h:∀x∈ks,bg x k=false):gT ks vs k=none:=by
 induction ks generalizing vs with
 | nil=>cases vs <;> rfl
 | cons x ks ih=>
  cases vs with
  | nil=>rfl
  | cons v vs=>
   unfold gT
   rw [h x R1,if_neg (by decide)]
   exact ih λy hy=>h y (R0 _ hy)
theorem vn (f:Nat×Nat->D):∀(n:Nat) (ps:List (Nat×Nat)),ps.length=n->ps.Nodup->iH (ps.map λp=>D.tup [dP p,f p])=(ps.map dP,ps.map f)
 | 0,ps,h,_=>by
  have:=UU.mp h
  subst this
  rfl
 | n + 1,ps,h,nd=>by
  rcases T_ ps with rfl | ⟨qs,p,rfl⟩
  ·cases h
  ·rw [Ua] at h nd ⊢
   have nd':=WH.mp nd
   have ih:=vn f n qs (by simpa using h) nd'.1
   have hn:gT (qs.map dP) (qs.map f) (dP p)=none:=Ju λx hx=>by
    obtain ⟨q,hq,rfl⟩:=R4.mp hx
    rw [vq,decide_eq_false_iff_not]
    rintro rfl
    exact nd'.2.2 q hq q R1 rfl
   rw [SA,ZL,nM,ih]
   unfold dput
   rw [hn]
   simp
abbrev gU (u:Wd):List D:=(dZ u.m u.m).map dP
abbrev gV (u:Wd):List D:=(dZ u.m u.m).map λp=>eT u p.1 p.2
theorem AD (u:Wd) (hu:gu u):oX [.d u.d]=.ok (.d (.dct (gU u) (gV u))):=by
 have hi:=hu.hi
 refine b_ (bP (r:=.d (.dct (gU u) (gV u))) ?_ rfl rfl)
 refine (xr (xs:=R7 u.m) (h:=dN) (h':=dN) (λ_=>R7 u.m) (λ_ _=>true) (λa b=>.tup [dP (a,b),eT u a b]) ?_ (by simp;omega) λa _=>⟨by simp;omega,λz=>?_,λb _=>⟨rfl,λ_=>uw (bz (aF rfl rfl (aF rfl rfl bu)) t2) rfl (c3 rfl rfl rfl (KQ u hu a b)) rfl rfl⟩⟩).trans ?_
 ·exact gZ (dz (two rfl rfl (i8 _ _))) (by omega)
 ·exact gZ (dz (two rfl rfl (i8 _ _))) (by omega)
 ·have ef:(R7 u.m).filter (λ_=>true)=R7 u.m:=Xo.mpr λ_ _=>rfl
  have e:((R7 u.m).flatMap λa=>((R7 u.m).filter λ_=>true).map λb=>D.tup [dP (a,b),eT u a b])=(dZ u.m u.m).map λp=>D.tup [dP p,eT u p.1 p.2]:=by
   rw [ef]
   unfold dZ
   rw [W2]
   simp [Sw,X8]
  rw [e]
  have h:=vn (λp=>eT u p.1 p.2) _ (dZ u.m u.m) rfl (n5 _ _)
  show M.ok (R.d (.dct (iH ((dZ u.m u.m).map λp=>D.tup [dP p,eT u p.1 p.2])).1 (iH ((dZ u.m u.m).map λp=>D.tup [dP p,eT u p.1 p.2])).2))=_
  rw [h]
theorem A8 (u:Wd):∀(ps:List (Nat×Nat)) (p:Nat×Nat),p∈ps->gT (ps.map dP) (ps.map λp=>eT u p.1 p.2) (dP p)=some (eT u p.1 p.2)
 | q::ps,p,h=>by
  rw [Sj,Sj]
  unfold gT
  by_cases c:q=p
  ·subst c
   rw [if_pos (by rw [vq];simp)]
  ·rw [if_neg (by rw [vq];simpa using c)]
   rcases Sh.mp h with e | e
   ·exact absurd e.symm c
   ·exact A8 u ps p e
theorem yv (u:Wd) (a c:Nat) (ha:a < u.m) (hc:c < u.m):gW (.d (.dct (gU u) (gV u))) (.d (dP (a,c)))=.ok (.d (eT u a c)):=by
 show (if dX (dP (a,c))=true then (match gT (gU u) (gV u) (dP (a,c)) with
  | some d=>M.ok (R.d d)
  | none=>.bad) else .bad)=_
 rw [if_pos (show dX (dP (a,c))=true from rfl),A8 u (dZ u.m u.m) (a,c) (nZ.mpr ⟨ha,hc⟩)]
theorem zT (u:Wd) (a c:Nat):dep (eT u a c)<=60:=by
 have h1:deps (u.ms.map λr=>D.bl (inD (dN a) (r.2.map dN)))<=0:=dc λx hx=>by obtain ⟨r,_,rfl⟩:=R4.mp hx;exact SG _
 have h2:deps (u.ar.map λr=>D.bl (inD (dP (a,c)) (r.2.map dP)))<=0:=dc λx hx=>by obtain ⟨r,_,rfl⟩:=R4.mp hx;exact SG _
 unfold eT
 simp only [dep,deps]
 omega
def jh (v w:Wd) (p q:Nat×Nat):Bool:=bg (eT v p.1 q.1) (eT w p.2 q.2)
def oY (v w:Wd) (p:Nat×Nat):Prop:=p.1 < v.m/\p.2 < w.m
theorem uh (v w:Wd) (p q:Nat×Nat) (hp:oY v w p) (hq:oY v w q):e_ [.d (.dct (gU v) (gV v)),.d (.dct (gU w) (gV w)),.d (dP p),.d (dP q)]=.ok (.d (.bl (jh v w p q))):=by
 refine b_ (bP (two (x:=.d (eT v p.1 q.1)) (y:=.d (eT w p.2 q.2)) (two rfl (bz (aF (two rfl rfl (i8 _ _)) rfl (aF (two rfl rfl (i8 _ _)) rfl bu)) t2) (yv v p.1 q.1 hp.1 hq.1)) (two rfl (bz (aF (two rfl rfl (LB _ _ _)) rfl (aF (two rfl rfl (LB _ _ _)) rfl bu)) t2) (yv w p.2 q.2 hp.2 hq.2)) (sL _ _ _ (zT v p.1 q.1) (zT w p.2 q.2))) rfl rfl)
def qX (p q:Nat×Nat):Bool:=lexLe [p.1,p.2] [q.1,q.2]
theorem Pp (p q:Nat×Nat):yC (.d (dP p)) (.d (dP q))=.ok (.d (.bl (qX p q))):=rfl
noncomputable def gb (v w:Wd) (ps:List (Nat×Nat)) (q:Nat×Nat):Bool:=(match ps.getLast? with
 | some l=>!qX q l
 | none=>true) && ps.all λr=>jh v w q r && jh v w r q
theorem CZ {env:Ev}{g:G R}{b:Bool}(h:g env=.ok (.d (.bl b))):bQ g env=.ok b:=by
 show (g env >>= _)=_
 rw [h]
 rfl
theorem rX {env:Ev}{g:G R}{b:Bool}(h:g env=.ok (mZ (.d (.bl b)))):bQ g env=.ok b:=CZ h
theorem ic {env:Ev}{f:R->R->M R}{g h:G R}{x y:R}{b:Bool}(hx:g env=.ok x) (hy:h env=.ok y) (hf:f x y=.ok (.d (.bl b))):bQ (g2 f g h) env=.ok b:=CZ (two hx hy hf)
theorem xE {env:Ev}{g:G Bool}{b:Bool}(h:g env=.ok b):gE g env=.ok (!b):=by
 show (g env >>= _)=_
 rw [h]
 rfl
theorem Ds {env:Ev}{a b:G Bool}(h:a env=.ok false):pB a b env=.ok false:=by
 unfold pB
 rw [h]
 rfl
theorem AM {env:Ev}{a b:G Bool}{k:Bool}(h:a env=.ok true) (h2:b env=.ok k):pB a b env=.ok k:=by
 unfold pB
 rw [h]
 exact h2
theorem L8 {env:Ev}{a b:G Bool}{x y:Bool}(h:a env=.ok (!x)) (h2:b env=.ok (!y)):pD a b env=.ok (!(x && y)):=by
 unfold pD
 rw [h]
 cases x with
 | true=>exact h2
 | false=>rfl
theorem Oq (v w:Wd) (ps:List (Nat×Nat)) (q:Nat×Nat) (hp:∀p∈ps,oY v w p) (hq:oY v w q):iP [.d (.dct (gU v) (gV v)),.d (.dct (gU w) (gV w)),.d (.tup (ps.map dP)),.d (dP q)]=.ok (.d (.bl (gb v w ps q))):=by
 have loop:(match ps.getLast? with
   | some l=>!qX q l
   | none=>true)=true->Wp (aJ (gm (nT (af 2)) (aC 4) (cu (pD (gE (bQ (gN (aS 4 K23.e_) (ao (af 0) (ao (af 1) (ao (af 3) (ao (af 4) aE))))))) (gE (bQ (gN (aS 4 K23.e_) (ao (af 0) (ao (af 1) (ao (af 4) (ao (af 3) aE)))))))) (bO (gC (.bl false))) eH))
 (bO (gC (.bl true))) [some (.d (.dct (gU v) (gV v))),some (.d (.dct (gU w) (gV w))),some (.d (.tup (ps.map dP))),some (.d (dP q)),none]) (·=.rt (.d (.bl (gb v w ps q)))):=by
  intro hl
  refine jz (ds:=ps.map dP) rfl ?_
  have key:∀(rs:List (Nat×Nat)),(∀p∈rs,oY v w p)->∀x:Option S,Wp (fF (aC 4) (cu (pD (gE (bQ (gN (aS 4 K23.e_) (ao (af 0) (ao (af 1) (ao (af 3) (ao (af 4) aE))))))) (gE (bQ (gN (aS 4 K23.e_) (ao (af 0) (ao (af 1) (ao (af 4) (ao (af 3) aE)))))))) (bO (gC (.bl false))) eH) (rs.map dP) [some (.d (.dct (gU v) (gV v))),some (.d (.dct (gU w) (gV w))),some (.d (.tup (ps.map dP))),some (.d (dP q)),x])
    (λo=>((∃e,o=.nx e)/\(rs.all λr=>jh v w q r && jh v w r q)=true)\/(o=.rt (.d (.bl false))/\(rs.all λr=>jh v w q r && jh v w r q)=false)):=by
   intro rs
   induction rs with
   | nil=>intro _ x;exact ⟨_,rfl,.inl ⟨⟨_,rfl⟩,rfl⟩⟩
   | cons r rs ih=>
    intro hr x
    have h1:=uh v w q r hq (hr r R1)
    have h2:=uh v w r q (hr r R1) hq
    have ht:(pD (gE (bQ (gN (aS 4 K23.e_) (ao (af 0) (ao (af 1) (ao (af 3) (ao (af 4) aE))))))) (gE (bQ (gN (aS 4 K23.e_) (ao (af 0) (ao (af 1) (ao (af 4) (ao (af 3) aE)))))))) [some (.d (.dct (gU v) (gV v))),some (.d (.dct (gU w) (gV w))),some (.d (.tup (ps.map dP))),some (.d (dP q)),some (.d (dP r))]=.ok (!(jh v w q r && jh v w r q)):=L8 (xE (rX (c4 rfl rfl rfl rfl h1))) (xE (rX (c4 rfl rfl rfl rfl h2)))
    rw [Sj,Vy]
    unfold fF
    show Wp ((cu _ _ _ [some (.d (.dct (gU v) (gV v))),some (.d (.dct (gU w) (gV w))),some (.d (.tup (ps.map dP))),some (.d (dP q)),some (.d (dP r))]) >>= _) _
    cases hc:(jh v w q r && jh v w r q) with
    | true=>
     rw [hc] at ht
     rw [yM ht]
     exact ih (λp hp=>hr p (R0 _ hp)) _
    | false=>
     rw [hc] at ht
     rw [A1 ht]
     exact ⟨_,rfl,.inr ⟨rfl,rfl⟩⟩
  refine (key ps hp none).mono ?_
  rintro o (⟨⟨e,rfl⟩,h⟩ | ⟨rfl,h⟩)
  ·refine bP rfl rfl ?_
   unfold gb
   rw [hl,h]
   rfl
  ·show O.rt _=_
   unfold gb
   rw [h,VF]
 refine b_ ?_
 cases q':ps.getLast? with
 | none=>
  have:ps=[]:=Vh.mp q'
  subst this
  exact eO (Ds rfl) (loop rfl)
 | some l=>
  obtain ⟨rs,rfl⟩:∃rs,ps=rs++[l]:=by
   rcases T_ ps with rfl | ⟨ys,y,rfl⟩
   ·cases q'
   ·rw [Ua] at q' ⊢
    rw [Vk] at q'
    cases q'
    exact ⟨ys,rfl⟩
  have hix:bA (.d (.tup ((rs++[l]).map dP))) (.d (.int (-1)))=.ok (.d (dP l)):=by rw [SA];exact Jl _ _
  have ht:pB (mw (af 2)) (bQ (g2 yC (af 3) (g2 bA (af 2) (yG (gC (.int 1)))))) [some (.d (.dct (gU v) (gV v))),some (.d (.dct (gU w) (gV w))),some (.d (.tup ((rs++[l]).map dP))),some (.d (dP q)),none]=.ok (qX q l):=by
   refine AM ?_ (CZ (two rfl (two rfl rfl hix) (Pp q l)))
   show M.ok (!((rs++[l]).map dP).isEmpty)=_
   simp
  cases hc:qX q l with
  | true=>
   rw [hc] at ht
   refine cF (ig ht (bP rfl rfl ?_))
   show O.rt _=_
   unfold gb
   rw [q']
   simp [hc]
  | false=>
   rw [hc] at ht
   exact eO ht (loop (by rw [q'];simp [hc]))
section
variable {env:Ev}{Q:O->Prop}{g:G R}{t:G O}{r:R}{i:Nat}
theorem Ny {xs ys:List D}(h0:env[i]?=some (some (.own xs))) (h:g env=.ok r) (h2:g8 r=.ok ys) (hl:xs.length + ys.length<=16777216) (k:Q (.nx (env.set i (some (.own (xs++ys)))))):Wp (yF i g env) Q:=by
 refine ⟨_,?_,k⟩
 unfold yF
 rw [h0]
 show (g env >>= _)=_
 rw [h,aM,h2,aM,if_pos (by rw [S4];exact hl)]
theorem LQ (h:g env=.ok r) (k:Q (.nx env)):Wp (jy g env) Q:=⟨.nx env,by show (g env >>= _)=_;rw [h];rfl,k⟩
theorem Nd {d:D}(h:env[i]?=some (some (.d d))) (k:Wp (t env) Q):Wp (jM i t env) Q:=by
 have:jM i t env=t env:=by unfold jM;rw [h]
 rw [this];exact k
end
structure Pr (v w:Wd):Prop where
 vo:gu v
 wo:gu w
 v4:v.m<=4
 w4:w.m<=4
 mn:v.ms.map TQ=w.ms.map TQ
 an:v.ar.map TQ=w.ar.map TQ
def ju (u:Wd):D:=.tup [.tup ((u.ms.map TQ).map .str),.tup ((u.ar.map TQ).map .str)]
theorem xP (u:Wd) (hu:gu u):iR [.d u.d]=.ok (.d (ju u)):=by
 have ml:=hu.ml
 have al:=hu.al
 refine b_ (qD rfl rfl rfl (bP (bz (aF (n1 (ie (xs:=u.ms) (λr=>.str r.1) (λr=>.tup (r.2.map dN)) (λr=>.str r.1) rfl (by omega) λr _=>⟨_,rfl,rfl⟩) rfl) rfl (aF (n1 (ie (xs:=u.ar) (λr=>.str r.1) (λr=>.tup (r.2.map dP)) (λr=>.str r.1) rfl (by omega) λr _=>⟨_,rfl,rfl⟩) rfl) rfl bu)) t2) rfl ?_))
 unfold ju
 rw [Sw,Sw]
 rfl
theorem Bv (u:Wd):dep (ju u)<=60:=by
 have h:∀ss:List Str,deps (ss.map D.str)<=0:=λss=>dc λx hx=>by obtain ⟨r,_,rfl⟩:=R4.mp hx;exact SG _
 have h1:=h (u.ms.map TQ)
 have h2:=h (u.ar.map TQ)
 unfold ju
 simp only [dep,deps]
 omega
theorem AB {v w:Wd}(t:Pr v w):fX [.d v.d,.d w.d]=.ok (.d .non):=by
 have ht:iQ [.d v.d,.d w.d]=.ok (.d .non):=by
  refine nE (pO (ic (b:=false) (c1 rfl (xP v t.vo)) (c1 rfl (xP w t.wo)) ?_) (jN ⟨_,rfl⟩))
  show eU true (.d (ju v)) (.d (ju w))=_
  rw [sL true (.d (ju v)) (.d (ju w)) (Bv v) (Bv w)]
  have e:ju v=ju w:=by unfold ju;rw [t.mn,t.an]
  show M.ok (R.d (.bl (!bg (ju v) (ju w))))=_
  rw [e,gy]
  rfl
 have hf:fQ [.d (.tup [v.d,w.d])]=.ok (.d .non):=by
  have v4:=t.v4
  have w4:=t.w4
  have one:∀(u:Wd),u.m<=4->bQ (g2 (kI λi j=>.bl (decide (j < i))) (g2 bA (af 1) (gC (.int 0))) (gC (.int 4))) [some (.d (.tup [v.d,w.d])),some (.d u.d)]=.ok false:=λu hu=>by
   refine ic (two rfl rfl (i8 _ _)) rfl ?_
   show M.ok (R.d (.bl (decide ((4:Int) < (u.m:Int)))))=_
   rw [decide_eq_false (by omega)]
  refine nE (Ci (ds:=[v.d,w.d]) rfl (ug (λk env=>∃x,env=[some (.d (.tup [v.d,w.d])),x]) [v.d,w.d] ⟨none,rfl⟩ ?_ λe _=>⟨e,rfl⟩))
  rintro k hk _ ⟨x,rfl⟩
  match k,hk with
  | 0,_=>exact ⟨_,rfl,pO (one v v4) (jN ⟨_,rfl,_,rfl⟩)⟩
  | 1,_=>exact ⟨_,rfl,pO (one w w4) (jN ⟨_,rfl,_,rfl⟩)⟩
 refine nE (j5 (c2 rfl rfl ht) ?_)
 exact LQ (c1 (bz (aF rfl rfl (aF rfl rfl bu)) t2) hf) ⟨_,rfl⟩
theorem Nf (d:Nat) (hd:d<=4):K55.cX [.d (.int d),.d (.int 0),.d (.int 4)]=.ok (.d .non):=by
 refine nE (pO ?_ (jN ⟨_,rfl⟩))
 show (if decide ((d:Int) < 0)=true then M.ok true else M.ok (decide ((4:Int) < d)))=M.ok false
 rw [decide_eq_false (show ¬(d:Int) < 0 by omega),decide_eq_false (show ¬(4:Int) < d by omega)]
 rfl
def prs (v w:Wd):List (Nat×Nat):=(dZ v.m w.m).filter λp=>jh v w p p
noncomputable def LG (v w:Wd):Nat->List (List (Nat×Nat))
 | 0=>[[]]
 | j + 1=>(LG v w j).flatMap λah=>((prs v w).filter (gb v w ah)).map λq=>ah++[q]
noncomputable def told (v w:Wd):Nat->List (List (Nat×Nat))
 | 0=>[[]]
 | j + 1=>told v w j++LG v w (j + 1)
abbrev bB (ps:List (Nat×Nat)):D:=.tup (ps.map dP)
theorem EN {v w:Wd}{p:Nat×Nat}(h:p∈prs v w):oY v w p:=nZ.mp (SY.mp h).1
theorem qB {v w:Wd}(t:Pr v w):(prs v w).length<=16:=by
 have h1:=TJ (λp=>jh v w p p) (dZ v.m w.m)
 rw [Gq] at h1
 have h2:=WJ t.v4 t.w4
 unfold prs
 omega
theorem sd {v w:Wd}:∀(j:Nat){ps:List (Nat×Nat)},ps∈LG v w j->ps.length=j/\∀p∈ps,oY v w p
 | 0,ps,h=>by
  rw [show ps=[] from R9.mp h]
  exact ⟨rfl,λ_ h=>by cases h⟩
 | j + 1,ps,h=>by
  obtain ⟨ah,h1,h2⟩:=W0.mp h
  obtain ⟨q,h3,rfl⟩:=R4.mp h2
  obtain ⟨l,k⟩:=sd j h1
  refine ⟨by rw [Sy,l];rfl,λp hp=>?_⟩
  rcases Sz.mp hp with h | h
  ·exact k p h
  ·rw [R9.mp h];exact EN (SY.mp h3).1
theorem yE {α β:Type}(f:α->List β) (n:Nat):∀(xs:List α),(∀x∈xs,(f x).length<=n)->(xs.flatMap f).length<=xs.length * n
 | [],_=>by simp
 | x::xs,h=>by
  have h1:=h x R1
  have h2:=yE f n xs λy hy=>h y (R0 _ hy)
  rw [List.flatMap_cons,Sy,Tq,aaY]
  omega
theorem se {v w:Wd}(t:Pr v w):∀j,(LG v w j).length<=16 ^ j
 | 0=>R6 _
 | j + 1=>by
  have h:=yE (λah=>((prs v w).filter (gb v w ah)).map λq=>ah++[q]) 16 (LG v w j) λah _=>by
   rw [R3]
   exact SJ (TJ _ _) (qB t)
  have h2:=V2 16 (se t j)
  rw [YN]
  exact SJ h h2
theorem rW {v w:Wd}(t:Pr v w):∀j,j<=4->(told v w j).length<=(j + 1) * 65536
 | 0,_=>by show 1<=_;omega
 | j + 1,h=>by
  have h1:=rW t j (by omega)
  have h2:=se t (j + 1)
  have h3:(16:Nat) ^ (j + 1)<=16 ^ 4:=Vl (by decide) h
  have h4:(16:Nat) ^ 4=65536:=by decide
  show (told v w j++LG v w (j + 1)).length<=_
  rw [Sy]
  omega
theorem u6 {v w:Wd}:∀(n:Nat){ps:List (Nat×Nat)},ps∈told v w n↔∃j,j<=n/\ps∈LG v w j
 | 0,ps=>by
  constructor
  ·exact λh=>⟨0,R6 _,h⟩
  ·rintro ⟨j,hj,h⟩
   have:j=0:=by omega
   subst this
   exact h
 | n + 1,ps=>by
  show ps∈told v w n++LG v w (n + 1)↔_
  rw [Sz,u6 n]
  constructor
  ·rintro (⟨j,hj,h⟩ | h)
   ·exact ⟨j,by omega,h⟩
   ·exact ⟨n + 1,R6 _,h⟩
  ·rintro ⟨j,hj,h⟩
   by_cases c:j=n + 1
   ·subst c;exact .inr h
   ·exact .inl ⟨j,by omega,h⟩
theorem BB {v w:Wd}(t:Pr v w) (n:Nat) (hn:n<=4):lF [.d v.d,.d w.d,.d (.int n)]=.ok (.l .fresh ((told v w n).map bB)):=by
 have v4:=t.v4
 have w4:=t.w4
 refine b_ (j5 (c2 rfl rfl (AB t)) (j5 (c3 rfl rfl rfl (Nf n hn)) (bC (c1 rfl (AD v t.vo)) rfl (bC (c1 rfl (AD w t.wo)) rfl ?_))))
 have hp:jD 2 [1,3,4] (cA (ao (g2 bA (af 0) (gC (.int 0))) aE)) (aC 0) b9 (cA (ao (g2 bA (af 2) (gC (.int 0))) aE)) (aC 1) (bQ (gN (aS 4 K23.e_) (ao (af 3) (ao (af 4) (ao (bI (aA (af 0) (aA (af 1) aW))) (ao (bI (aA (af 0) (aA (af 1) aW))) aE)))))) (bI (aA (af 0) (aA (af 1) aW)))
   [some (.d v.d),some (.d w.d),some (.d (.int n)),some (.d (.dct (gU v) (gV v))),some (.d (.dct (gU w) (gV w))),none,none,none,none]=.ok (.l .fresh ((prs v w).map dP)):=by
  refine (xr (xs:=R7 v.m) (h:=dN) (h':=dN) (λ_=>R7 w.m) (λa b=>jh v w (a,b) (a,b)) (λa b=>dP (a,b)) (gZ (dz (two rfl rfl (i8 _ _))) (by omega)) (by simp;omega) λa ha=>⟨by simp;omega,λz=>gZ (dz (two rfl rfl (i8 _ _))) (by omega),λb hb=>⟨?_,λ_=>AH (bz (aF rfl rfl (aF rfl rfl bu)) t2) rfl⟩⟩).trans ?_
  ·have ha:a < v.m:=by simpa using ha
   have hb:b < w.m:=by simpa using hb
   exact rX (c4 rfl rfl (bz (aF rfl rfl (aF rfl rfl bu)) t2) (bz (aF rfl rfl (aF rfl rfl bu)) t2) (uh v w (a,b) (a,b) ⟨ha,hb⟩ ⟨ha,hb⟩))
  ·have e:((R7 v.m).flatMap λa=>((R7 w.m).filter λb=>jh v w (a,b) (a,b)).map λb=>dP (a,b))=(prs v w).map dP:=by
    unfold prs dZ
    rw [List.filter_flatMap,W2]
    congr 1
    funext a
    rw [aa1,Sw]
    rfl
   rw [e]
 refine bC hp rfl ?_
 refine cF (Dd rfl (gq (pQ (aF (bz bu (by decide)) rfl bu) (by show 1<=1000;decide)) rfl ?_))
 refine bC (pQ (aF (bz bu (by decide)) rfl bu) (by show 1<=1000;decide)) rfl ?_
 refine jz (pZ (n:=n) rfl (by omega)) ?_
 refine oF (λk env=>∃x:Option S,env=[some (.d v.d),some (.d w.d),some (.d (.int n)),some (.d (.dct (gU v) (gV v))),some (.d (.dct (gU w) (gV w))),some (.d (.lst ((prs v w).map dP))),some (.own ((LG v w k).map bB)),some (.own ((told v w k).map bB)),x]) ⟨none,rfl⟩ ?_ ?_
 ·rintro k hk _ ⟨x,rfl⟩
  have l1:=se t k
  have l2:=se t (k + 1)
  have l3:=rW t k (by omega)
  have p1:(16:Nat) ^ k<=16 ^ 3:=Vl (by decide) (by omega)
  have p2:(16:Nat) ^ (k + 1)<=16 ^ 4:=Vl (by decide) (by omega)
  have p3:(16:Nat) ^ 3=4096:=by decide
  have p4:(16:Nat) ^ 4=65536:=by decide
  refine ⟨_,rfl,cF (Nd rfl (gq (r:=.l .fresh ((LG v w (k + 1)).map bB)) ?_ rfl (Ny rfl rfl rfl (by simp only [R3];omega) ⟨_,rfl,some (.d (.int k)),?_⟩)))⟩
  ·refine (xr (xs:=LG v w k) (h:=bB) (h':=dP) (λ_=>prs v w) (λah q=>gb v w ah q) (λah q=>bB (ah++[q])) rfl (by omega) λah Rj=>⟨by have:=qB t;omega,λz=>rfl,λq hq=>⟨?_,λ_=>AH (two rfl (bz (aF rfl rfl bu) (by show 1<=1000;decide)) (qF _ _ ?_)) ?_⟩⟩).trans ?_
   ·exact rX (c4 rfl rfl rfl rfl (Oq v w ah q (sd k Rj).2 (EN hq)))
   ·have:=(sd k Rj).1
    simp;omega
   ·show M.ok (D.tup (ah.map dP++[dP q]))=M.ok (D.tup ((ah++[q]).map dP))
    rw [SA]
    rfl
   ·show M.ok (R.l .fresh _)=_
    show _=M.ok (R.l .fresh (((LG v w k).flatMap λah=>((prs v w).filter (gb v w ah)).map λq=>ah++[q]).map bB))
    rw [W2]
    simp only [Sw]
    rfl
  ·show _=[_,_,_,_,_,_,_,some (S.own ((told v w k++LG v w (k + 1)).map bB)),_]
   rw [SA]
   rfl
 ·rintro _ ⟨x,rfl⟩
  exact bP rfl rfl rfl
theorem allM {α:Type}(f:α->Bool) (xs:List α):rE [.l .fresh (xs.map λx=>.bl (f x))]=.ok (.d (.bl (xs.all f))):=by
 have:=all_map (λd=>match d with
  | .bl b=>b
  | _=>false) (xs.map λx=>.bl (f x))
 rw [Sw,YM] at this
 exact this
theorem yx:∀{xs ys:List Bool},cB (xs.map D.bl) (ys.map D.bl)=true↔xs=ys
 | [],[]=>by simp [cB]
 | [],_::_=>by simp [cB]
 | _::_,[]=>by simp [cB]
 | x::xs,y::ys=>by
  rw [Sj,Sj,gM,R8,yx]
  simp [bg]
structure Ax (v w:Wd) (p q:Nat×Nat):Prop where
 eq:p.1=q.1↔p.2=q.2
 ms:v.ms.map (λr=>decide (p.1∈r.2))=w.ms.map λr=>decide (p.2∈r.2)
 ar:v.ar.map (λr=>decide ((p.1,q.1)∈r.2))=w.ar.map λr=>decide ((p.2,q.2)∈r.2)
theorem mO (v w:Wd) (p q:Nat×Nat):jh v w p q=true↔Ax v w p q:=by
 have e:jh v w p q=((p.1 == q.1) == (p.2 == q.2) && (cB ((v.ms.map λr=>decide (p.1∈r.2)).map D.bl) ((w.ms.map λr=>decide (p.2∈r.2)).map D.bl) && (cB ((v.ar.map λr=>decide ((p.1,q.1)∈r.2)).map D.bl) ((w.ar.map λr=>decide ((p.2,q.2)∈r.2)).map D.bl) && true))):=by
  unfold jh eT
  rw [j6,gM,gM,gM,j6,j6,cB]
  simp only [K55.inN,K55.Ls,Sw,K55.vp]
  rfl
 rw [e,R8,R8,R8,yx,yx]
 have e1:((p.1 == q.1) == (p.2 == q.2))=true↔(p.1=q.1↔p.2=q.2):=by
  rw [beq_iff_eq,S8,beq_iff_eq,beq_iff_eq]
 rw [e1]
 exact ⟨λ⟨a,b,c,_⟩=>⟨a,b,c⟩,λ⟨a,b,c⟩=>⟨a,b,c,rfl⟩⟩
theorem LS {p q:Nat×Nat}(h:qX p q=false):q.1 < p.1\/(q.1=p.1/\q.2 < p.2):=by
 unfold qX at h
 rw [jV] at h
 by_cases c:(p.1:Int)=q.1
 ·rw [if_pos c,jV] at h
  by_cases c2:(p.2:Int)=q.2
  ·rw [if_pos c2,oO] at h;cases h
  ·rw [if_neg c2,decide_eq_false_iff_not] at h
   exact .inr ⟨by omega,by omega⟩
 ·rw [if_neg c,decide_eq_false_iff_not] at h
  exact .inl (by omega)
theorem LR {p q:Nat×Nat}(h:q.1 < p.1):qX p q=false:=by
 unfold qX
 rw [jV,if_neg (by omega),decide_eq_false_iff_not]
 omega
structure Good (v w:Wd) (ps:List (Nat×Nat)):Prop where
 up:ps.Pairwise λp q=>p.1 < q.1
 ag:∀p∈ps,∀q∈ps,Ax v w p q
 rg:∀p∈ps,oY v w p
theorem uO {α:Type}{ps:List α}{l:α}(h:ps.getLast?=some l):∃rs,ps=rs++[l]:=by
 rcases T_ ps with rfl | ⟨ys,y,rfl⟩
 ·cases h
 ·rw [Ua] at h ⊢
  rw [Vk] at h
  cases h
  exact ⟨ys,rfl⟩
theorem A_ {v w:Wd}{p:Nat×Nat}:p∈prs v w↔oY v w p/\Ax v w p p:=by
 unfold prs
 rw [SY,nZ,mO]
 exact acZ
theorem Ed {v w:Wd}{ps:List (Nat×Nat)}(g:Good v w ps){q:Nat×Nat}(hq:q∈prs v w):gb v w ps q=true↔Good v w (ps++[q]):=by
 obtain ⟨h1,h2⟩:=A_.mp hq
 unfold gb
 rw [R8,SQ]
 constructor
 ·rintro ⟨a,b⟩
  have ag:∀r∈ps,Ax v w q r/\Ax v w r q:=λr hr=>by
   have:=b r hr
   rw [R8,mO,mO] at this
   exact this
  have lt:∀r∈ps,r.1 < q.1:=by
   cases e:ps.getLast? with
   | none=>rw [Vh.mp e];exact λ_ h=>by cases h
   | some l=>
    rw [e] at a
    have hl:l.1 < q.1:=by
     obtain ⟨rs,rfl⟩:=uO e
     rcases LS (by simpa using a) with h | ⟨h,h'⟩
     ·exact h
     ·have:=(ag l (by simp)).1.eq
      omega
    obtain ⟨rs,rfl⟩:=uO e
    intro r hr
    rcases Sz.mp hr with h | h
    ·have:=(Uq.mp g.up).2.2 r h l (by simp)
     omega
    ·rw [R9.mp h];exact hl
  refine ⟨Uq.mpr ⟨g.up,Um _ _,λr hr x hx=>by rw [R9.mp hx];exact lt r hr⟩,λr hr x hx=>?_,λr hr=>?_⟩
  ·rcases Sz.mp hr with hr | hr <;> rcases Sz.mp hx with hx | hx
   ·exact g.ag r hr x hx
   ·rw [R9.mp hx];exact (ag r hr).2
   ·rw [R9.mp hr];exact (ag x hx).1
   ·rw [R9.mp hr,R9.mp hx];exact h2
  ·rcases Sz.mp hr with hr | hr
   ·exact g.rg r hr
   ·rw [R9.mp hr];exact h1
 ·intro h
  refine ⟨?_,λr hr=>?_⟩
  ·cases e:ps.getLast? with
   | none=>rfl
   | some l=>
    have hl:l∈ps:=by obtain ⟨rs,rfl⟩:=uO e;simp
    have:=(Uq.mp h.up).2.2 l hl q (by simp)
    show (!qX q l)=true
    rw [LR this]
    rfl
  ·rw [R8,mO,mO]
   exact ⟨h.ag q (by simp) r (by simp [hr]),h.ag r (by simp [hr]) q (by simp)⟩
theorem tN {v w:Wd}:∀(j:Nat){ps:List (Nat×Nat)},ps∈LG v w j↔ps.length=j/\Good v w ps
 | 0,ps=>by
  constructor
  ·intro h
   rw [show ps=[] from R9.mp h]
   exact ⟨rfl,.nil,(λ_ h=>nomatch h),(λ_ h=>nomatch h)⟩
  ·rintro ⟨h,_⟩
   rw [UU.mp h]
   exact R9.mpr rfl
 | j + 1,ps=>by
  constructor
  ·intro h
   obtain ⟨ah,h1,h2⟩:=W0.mp h
   obtain ⟨q,h3,rfl⟩:=R4.mp h2
   obtain ⟨l,g⟩:=(tN j).mp h1
   obtain ⟨h4,h5⟩:=SY.mp h3
   exact ⟨by rw [Sy,l];rfl,(Ed g h4).mp h5⟩
  ·rintro ⟨h,g⟩
   rcases T_ ps with rfl | ⟨ah,q,rfl⟩
   ·cases h
   ·rw [Ua] at h g ⊢
    have ga:Good v w ah:=⟨(Uq.mp g.up).1,λp hp x hx=>g.ag p (by simp [hp]) x (by simp [hx]),λp hp=>g.rg p (by simp [hp])⟩
    have hq:q∈prs v w:=A_.mpr ⟨g.rg q (by simp),g.ag q (by simp) q (by simp)⟩
    exact W0.mpr ⟨ah,(tN j).mpr ⟨by simpa using h,ga⟩,R4.mpr ⟨q,SY.mpr ⟨hq,(Ed ga hq).mpr g⟩,rfl⟩⟩
theorem xC (a b:Nat):cI (dN a) (dN b)=true↔a < b:=by
 rw [ni,decide_eq_true_eq]
 omega
theorem xD (a b:Nat×Nat):cI (dP a) (dP b)=true↔jG a b:=by
 have e:cI (dP a) (dP b)=gY [dN a.1,dN a.2] [dN b.1,dN b.2]:=rfl
 rw [e,jo,K55.vp]
 unfold jG
 by_cases c:a.1=b.1
 ·rw [if_pos (by simpa using c),jo,K55.vp]
  by_cases c2:a.2=b.2
  ·rw [if_pos (by simpa using c2)]
   constructor
   ·intro h;cases h
   ·intro h;omega
  ·rw [if_neg (by simpa using c2)]
   rw [show cI (D.int a.2) (D.int b.2)=cI (dN a.2) (dN b.2) from rfl,xC]
   omega
 ·rw [if_neg (by simpa using c)]
  rw [show cI (D.int a.1) (D.int b.1)=cI (dN a.1) (dN b.1) from rfl,xC]
  omega
theorem uf {α:Type}(h:α->D) (u:D->α) (hu:∀x,u (h x)=x) (R:α->α->Prop) (hR:∀a b,cI (h a) (h b)=true->R a b){l:List D}(hl:∀d∈l,∃x,d=h x) (up:l.Pairwise λa b=>cI a b=true):(l.map u).Pairwise R:=by
 refine S_.mpr ((Vc.mp up).imp ?_)
 rintro a b ⟨ha,hb,h1⟩
 obtain ⟨x,rfl⟩:=hl a ha
 obtain ⟨y,rfl⟩:=hl b hb
 rw [hu,hu]
 exact hR x y h1
theorem OU (xs:List Nat) (hl:xs.length < 64):∃ys:List Nat,gz [.d (.tup (xs.map dN))]=.ok (.l .fresh (ys.map dN))/\ys.length<=xs.length/\(∀y∈ys,y∈xs)/\ys.Pairwise (· < ·):=by
 have tot:∀d∈xs.map dN,iw .i d:=λd hd=>by obtain ⟨x,_,rfl⟩:=R4.mp hd;exact ⟨_,rfl⟩
 obtain ⟨h1,h2⟩:=qe (dQ .i) tot
 have fm:∀d∈cS (xs.map dN),∃x,d=dN x:=λd hd=>by obtain ⟨x,_,rfl⟩:=R4.mp (h2 d hd);exact ⟨x,rfl⟩
 refine ⟨(cS (xs.map dN)).map lZ,?_,by simpa using h1,λy hy=>?_,uf dN lZ ue _ (λa b h=>(xC a b).mp h) fm (kZ (dQ .i) tot).1⟩
 ·rw [OW xs hl,back dN lZ ue fm]
 ·obtain ⟨d,hd,rfl⟩:=R4.mp hy
  obtain ⟨x,hx,rfl⟩:=R4.mp (h2 d hd)
  exact hx
theorem OV (xs:List (Nat×Nat)) (hl:xs.length < 64):∃ys:List (Nat×Nat),gz [.d (.tup (xs.map dP))]=.ok (.l .fresh (ys.map dP))/\ys.length<=xs.length/\(∀y∈ys,y∈xs)/\ys.Pairwise jG:=by
 have tot:∀d∈xs.map dP,iw pF d:=λd hd=>by obtain ⟨x,_,rfl⟩:=R4.mp hd;exact pK x
 obtain ⟨h1,h2⟩:=qe (dQ pF) tot
 have fm:∀d∈cS (xs.map dP),∃x,d=dP x:=λd hd=>by obtain ⟨x,_,rfl⟩:=R4.mp (h2 d hd);exact ⟨x,rfl⟩
 refine ⟨(cS (xs.map dP)).map ly,?_,by simpa using h1,λy hy=>?_,uf dP ly jZ _ (λa b h=>(xD a b).mp h) fm (kZ (dQ pF) tot).1⟩
 ·rw [MQ xs hl,back dP ly jZ fm]
 ·obtain ⟨d,hd,rfl⟩:=R4.mp hy
  obtain ⟨x,hx,rfl⟩:=R4.mp (h2 d hd)
  exact hx
theorem sS {α:Type}(h:α->D) (P:α->Prop) (Sr:List α->Prop) (hf:∀xs p,Sr xs->Sr (xs.filter p)) (n:Nat) (hn:n<=40) (hd:∀x,dep (h x)<=1) (b:Bool) (hb:∀x,qm (lq (h x)) "tuple"=b)
  (hs:∀xs:List α,xs.length < 64->∃ys:List α,gz [.d (.tup (xs.map h))]=.ok (.l .fresh (ys.map h))/\ys.length<=xs.length/\(∀y∈ys,y∈xs)/\Sr ys)
  (L:List (Str×List α)) (hL:Dr P n L) (hS:∀r∈L,Sr r.2) (l3:L.length<=3) (k:Nat) (hk:k < L.length) (th:α) (ht:P th) (w c:Option S) (m:D) (ms ar:D):
  ∃L':List (Str×List α),Dr P (n + 1) L'/\(∀r∈L',Sr r.2)/\L'.map TQ=L.map TQ/\L'.length=L.length/\NV [w,c,some (.d m),some (.d ms),some (.d ar),some (.d (.int k)),some (.d (h th)),some (.d (.tup (L.map (dD h)))),none,none,none]=.ok (.rt (.d (if b=true then .tup [m,ms,.tup (L'.map (dD h))] else .tup [m,.tup (L'.map (dD h)),ar]))):=by
 obtain ⟨a1,a2⟩:=hL.all L[k] (T7 hk)
 obtain ⟨ys,e1,e2,e3,e4⟩:=hs (L[k].2++[th]) (by simp;omega)
 rw [Sy] at e2
 have e2:ys.length<=n + 1:=by simp at e2;omega
 have e3:∀y∈ys,P y:=λy hy=>by
  rcases Sz.mp (e3 y hy) with h | h
  ·exact a2 y h
  ·rw [R9.mp h];exact ht
 have dp:deps (L[k].2.map h)<=60:=dc λd hd'=>by
  obtain ⟨x,_,rfl⟩:=R4.mp hd'
  have:=hd x;omega
 have dt:=hd th
 have nx:∃now:List α,now.length<=n + 1/\(∀y∈now,P y)/\Sr now/\∀(Q:O->Prop) (u:G O),Wp (u [w,c,some (.d m),some (.d ms),some (.d ar),some (.d (.int k)),some (.d (h th)),some (.d (.tup (L.map (dD h)))),some (.d (.str L[k].1)),some (.d (.tup (L[k].2.map h))),some (.d (.tup (now.map h)))]) Q->
   Wp (aJ (cu (bQ (g2 (iI false) (af 6) (af 9))) (br 10 (gN bX (ao (bF 1 [6] (dH (af 9)) (aC 0) (bQ (g2 (eU true) (af 0) (af 1))) (af 0)) aE))) eH) u [w,c,some (.d m),some (.d ms),some (.d ar),some (.d (.int k)),some (.d (h th)),some (.d (.tup (L.map (dD h)))),some (.d (.str L[k].1)),some (.d (.tup (L[k].2.map h))),some (.d (.tup (ys.map h)))]) Q:=by
  have hin:bQ (g2 (iI false) (af 6) (af 9)) [w,c,some (.d m),some (.d ms),some (.d ar),some (.d (.int k)),some (.d (h th)),some (.d (.tup (L.map (dD h)))),some (.d (.str L[k].1)),some (.d (.tup (L[k].2.map h))),some (.d (.tup (ys.map h)))]=.ok (inD (h th) (L[k].2.map h)):=by
   show (g2 _ _ _ _ >>= _)=_
   rw [two (x:=.d (h th)) rfl rfl (Cc false _ _ dp (by omega))]
   rfl
  cases q:inD (h th) (L[k].2.map h) with
  | true=>
   rw [q] at hin
   refine ⟨L[k].2.filter (λx=>!bg (h x) (h th)),SJ (TJ _ _) (by omega),λy hy=>a2 y (SY.mp hy).1,hf _ _ (hS _ (T7 hk)),λQ u hu=>?_⟩
   refine cF (ig hin (gq (n1 (lK (xs:=L[k].2) (h:=h) (λx=>!bg (h x) (h th)) h rfl (by omega) λx _=>⟨?_,λ_=>⟨_,rfl,rfl⟩⟩) rfl) rfl hu))
   have:=hd x
   show (g2 _ _ _ _ >>= _)=_
   rw [two (x:=.d (h x)) (y:=.d (h th)) rfl rfl (sL _ _ _ (by show dep (h x)<=60;omega) (by show dep (h th)<=60;omega))]
   rfl
  | false=>
   rw [q] at hin
   exact ⟨ys,e2,e3,e4,λQ u hu=>eO hin hu⟩
 obtain ⟨now,n1',n2,nS,n3⟩:=nx
 refine ⟨L.take k++[(L[k].1,now)]++L.drop (k + 1),⟨λr hr=>?_⟩,λr hr=>?_,?_,?_,?_⟩
 ·simp only [Sz,R9] at hr
  rcases hr with (hr | hr) | hr
  ·have:=hL.all r (W5 hr)
   exact ⟨by omega,this.2⟩
  ·rw [hr];exact ⟨n1',n2⟩
  ·have:=hL.all r (Zc hr)
   exact ⟨by omega,this.2⟩
 ·simp only [Sz,R9] at hr
  rcases hr with (hr | hr) | hr
  ·exact hS r (W5 hr)
  ·rw [hr];exact nS
  ·exact hS r (Zc hr)
 ·have e:L=L.take k++[L[k]]++L.drop (k + 1):=by
   rw [VY,WR,WB,VP]
  conv=>rhs;rw [e]
  simp only [SA,Sj,WQ]
 ·simp;omega
 ·have ix:bA (.d (.tup (L.map (dD h)))) (.d (.int k))=.ok (.d (dD h L[k])):=j_ (by rw [Ss,Sg hk];rfl)
  have hc1:dW (.d (.tup ((L.map (dD h)).take k))) (.d (.tup [dD h (L[k].1,now)]))=.ok (.d (.tup ((L.map (dD h)).take k++[dD h (L[k].1,now)]))):=qF _ _ (by simp;omega)
  have hc2:dW (.d (.tup ((L.map (dD h)).take k++[dD h (L[k].1,now)]))) (.d (.tup ((L.map (dD h)).drop (k + 1))))=.ok (.d (.tup ((L.map (dD h)).take k++[dD h (L[k].1,now)]++(L.map (dD h)).drop (k + 1)))):=qF _ _ (by simp;omega)
  have hm:(L.map (dD h)).take k++[dD h (L[k].1,now)]++(L.map (dD h)).drop (k + 1)=(L.take k++[(L[k].1,now)]++L.drop (k + 1)).map (dD h):=by
   rw [SA,SA,W9,W_];rfl
  rw [hm] at hc2
  refine Wp.eq (qD (two rfl rfl ix) rfl rfl (bC (n1 (n1 (two rfl (bz (aF rfl rfl bu) (by show 1<=1000;decide)) (qF _ _ (by simp;omega))) (by rw [show L[k].2.map h++[h th]=(L[k].2++[th]).map h by rw [SA];rfl];exact e1)) rfl) rfl (n3 _ _ ?_)))
  refine bC (two (x:=.d (.tup ((L.map (dD h)).take k++[dD h (L[k].1,now)]))) (y:=.d (.tup ((L.map (dD h)).drop (k + 1)))) (two (x:=.d (.tup ((L.map (dD h)).take k))) ?_ (bz (aF (bz (aF rfl rfl (aF rfl rfl bu)) t2) rfl bu) (by show 1<=1000;decide)) hc1) ?_ hc2) rfl ?_
  ·show M.ok (R.d (.tup (cutD (L.map (dD h)) none (some (k:Int)))))=_
   rw [Lf _ _ (by simp;omega)]
  ·show M.ok (R.d (.tup (cutD (L.map (dD h)) (some ((k:Int) + 1)) none)))=_
   rw [show ((k:Int) + 1)=((k + 1:Nat):Int) by omega,FL _ _ (by simp;omega)]
  ·have hb':=hb th
   cases b with
   | true=>exact cF (ig (by show M.ok (qm (lq (h th)) "tuple")=_;rw [hb']) (bP (bz (aF rfl rfl (aF rfl rfl (aF rfl rfl bu))) (by show 3<=1000;decide)) rfl rfl))
   | false=>exact eO (by show M.ok (qm (lq (h th)) "tuple")=_;rw [hb']) (bP (bz (aF rfl rfl (aF rfl rfl (aF rfl rfl bu))) (by show 3<=1000;decide)) rfl rfl)
structure sD (u:Wd):Prop where
 mp:∀r∈u.ms,r.2.Pairwise (· < ·)
 ap:∀r∈u.ar,r.2.Pairwise jG
structure HA (n:Nat) (w u:Wd):Prop where
 ok:gu u
 inn:lH n u
 jd:sD u
 m:u.m=w.m
 mn:u.ms.map TQ=w.ms.map TQ
 an:u.ar.map TQ=w.ar.map TQ
theorem B4 {α:Type}{l:List α}{j:Nat}(h:j < l.length):(l[j]::l.eraseIdx j).Perm l:=by
 have e2:l=l.take j++l[j]::l.drop (j + 1):=by rw [WB,VP]
 rw [Vt]
 exact Yv.symm.trans (aaR e2.symm)
theorem Fi (c:Int) (m:Nat) (hm:m<=8):∃ps:List Nat,g7 [.d (.int c),.d (.int m)]=.ok (.d (.tup (ps.map dN)))/\ps.Perm (R7 m):=by
 have key:Wp (g7 [.d (.int c),.d (.int m)]) λr=>∃ps:List Nat,r=.d (.tup (ps.map dN))/\ps.Perm (R7 m):=by
  refine oE (bC (r:=.l .fresh ((R7 m).map dN)) ?_ rfl (bC rfl rfl (jz (pZ (n:=m) rfl (by omega)) ?_)))
  ·show (if below 16777216 (m:Int) then M.ok (R.l .fresh (fD 0 (m:Int).toNat)) else .bad)=_
   rw [if_pos (by unfold below;simp;omega),Uv,MM]
  ·refine oF (λk env=>∃(c:Int) (ls ps:List Nat) (x:Option S),env=[some (.d (.int c)),some (.d (.int m)),some (.own (ls.map dN)),some (.own (ps.map dN)),x]/\ls.length + k=m/\ps.length=k/\(ps++ls).Perm (R7 m)) ⟨c,R7 m,[],none,rfl,by simp,rfl,.refl _⟩ ?_ ?_
   ·rintro k hk _ ⟨c,ls,ps,x,rfl,l1,l2,m1⟩
    have hlen:(0:Int) < ((ls.map dN).length:Nat):=by simp;omega
    obtain ⟨j,hj⟩:∃j:Nat,c % ((ls.map dN).length:Nat)=j:=⟨(c % ((ls.map dN).length:Nat)).toNat,by have:=VO c (b:=((ls.map dN).length:Nat)) (by omega);omega⟩
    have hjl:j < (ls.map dN).length:=by
     have:=Vb c hlen
     omega
    have QF:j < ls.length:=by simpa using hjl
    refine ⟨_,rfl,cF (Gk (k:=j) rfl rfl (by decide) ((two rfl (n1 rfl rfl) (je _ _ hlen)).trans (by rw [hj])) hjl (by simp;omega) (by simp;omega) ?_)⟩
    refine gq (two rfl rfl (qG _ 9 (by decide) (by decide))) rfl ⟨_,rfl,c / 9,ls.eraseIdx j,ps++[ls[j]],some (.d (.int k)),?_,?_,?_,?_⟩
    ·rw [SA,Yu,show (ls.eraseIdx j).map dN=(ls.map dN).eraseIdx j by simp [Vt,W9,W_]]
     rfl
    ·rw [Zb,if_pos QF];omega
    ·rw [Sy];simp;omega
    ·rw [VY,WR]
     exact ((B4 QF).append_left ps).trans m1
   ·rintro _ ⟨c,ls,ps,x,rfl,l1,l2,m1⟩
    have l0:ls=[]:=UU.mp (by omega)
    rw [l0,UZ] at m1
    exact bP rfl rfl ⟨_,rfl,ps,rfl,m1⟩
 obtain ⟨_,h,ps,rfl,hk⟩:=key
 exact ⟨ps,h,hk⟩
theorem getD_at {ps:List Nat}{k:Nat}(h:k < ps.length):ps.getD k 0=ps[k]:=by simp [YU,h]
theorem tM {α β:Type}{f:α->β}{xs:List α}(nd:xs.Nodup) (inj:∀a∈xs,∀b∈xs,f a=f b->a=b):(xs.map f).Nodup:=by
 refine S_.mpr ((Vc.mp nd).imp ?_)
 rintro a b ⟨ha,hb,h⟩ e
 exact h (inj a ha b hb e)
theorem NC {xs:List Nat}(h:xs.Pairwise (· < ·)):xs.Nodup:=h.imp λh e=>by omega
theorem Ma {xs:List (Nat×Nat)}(h:xs.Pairwise jG):xs.Nodup:=h.imp fun {a b} h e=>by subst e;unfold jG at h;omega
theorem rN {ps:List Nat}{m:Nat}(pm:ps.Perm (R7 m)){a b:Nat}(ha:a < m) (hb:b < m) (e:ps.getD a 0=ps.getD b 0):a=b:=by
 have l:ps.length=m:=by rw [pm.length_eq,Uz]
 rw [getD_at (by omega),getD_at (by omega)] at e
 exact (Yp (pm.nodup_iff.mpr U7)).mp e
theorem OS {xs:List Nat}(nd:xs.Nodup):((aQ (xs.map dN)).map lZ).Pairwise (· < ·):=
 uf dN lZ ue _ (λa b h=>(xC a b).mp h) (λd hd=>by obtain ⟨x,_,rfl⟩:=R4.mp (iN hd);exact ⟨x,rfl⟩) (nB (dQ .i) (λd hd=>by obtain ⟨x,_,rfl⟩:=R4.mp hd;exact ⟨_,rfl⟩) (tM nd λa _ b _ e=>by have:=congrArg lZ e;exact this))
theorem OT {xs:List (Nat×Nat)}(nd:xs.Nodup):((aQ (xs.map dP)).map ly).Pairwise jG:=
 uf dP ly jZ _ (λa b h=>(xD a b).mp h) (λd hd=>by obtain ⟨x,_,rfl⟩:=R4.mp (iN hd);exact ⟨x,rfl⟩) (nB (dQ pF) (λd hd=>by obtain ⟨x,_,rfl⟩:=R4.mp hd;exact pK x) (tM nd λa _ b _ e=>by have:=congrArg ly e;exact this))
theorem M4 (w:Wd) (hw:gu w) (n:Nat) (hb:lH n w) (hs:sD w) (ps:List Nat) (pm:ps.Perm (R7 w.m)):gu (lg w ps)/\lH n (lg w ps)/\sD (lg w ps)/\(lg w ps).m=w.m/\(lg w ps).ms.map TQ=w.ms.map TQ/\(lg w ps).ar.map TQ=w.ar.map TQ:=by
 have l:ps.length=w.m:=by rw [pm.length_eq,Uz]
 obtain ⟨h1,h2,h3,h4,h5⟩:=Oa w hw n hb ps l λp hp=>by simpa using pm.mem_iff.mp hp
 refine ⟨h1,h2,⟨λr hr=>?_,λr hr=>?_⟩,h3,?_,?_⟩
 ·obtain ⟨q,hq,rfl⟩:=R4.mp (show r∈w.ms.map _ from hr)
  exact OS (tM (NC (hs.mp q hq)) λa ha b hb' e=>rN pm ((hb.mp q hq).2 a ha) ((hb.mp q hq).2 b hb') e)
 ·obtain ⟨q,hq,rfl⟩:=R4.mp (show r∈w.ar.map _ from hr)
  refine OT (tM (Ma (hs.ap q hq)) λa ha b hb' e=>?_)
  have ra:=(hb.ap q hq).2 a ha
  have rb:=(hb.ap q hq).2 b hb'
  exact ac1 (rN pm ra.1 rb.1 (congrArg TQ e)) (rN pm ra.2 rb.2 (congrArg ac4 e))
 ·show (w.ms.map _).map _=_
  rw [Sw]
  rfl
 ·show (w.ar.map _).map _=_
  rw [Sw]
  rfl
theorem rZ (w:Wd) (hw:gu w) (n:Nat) (hn:n<=40) (hb:lH n w) (hs:sD w) (c:Int) (hc:0<=c):∃u:Wd,eV [.d w.d,.d (.int c)]=.ok (.d u.d)/\HA (n + 1) w u:=by
 have ml:=hw.ml
 have al:=hw.al
 have lo:=hw.lo
 have key:Wp (eV [.d w.d,.d (.int c)]) λr=>∃u:Wd,r=.d u.d/\HA (n + 1) w u:=by
  refine oE (qD rfl rfl rfl ?_)
  have hadd:dW (.d (.int ((w.ms.map kT).length:Nat))) (.d (.int ((w.ar.map p5).length:Nat)))=.ok (.d (.int ((w.ms.length + w.ar.length:Nat):Int))):=by rw [fp,R3,R3,<-Int.natCast_add]
  by_cases c0:w.ms.length + w.ar.length=0
  ·refine cF (ig ?_ (bP rfl rfl ⟨_,rfl,w,rfl,hw,⟨λr hr=>⟨by have:=(hb.mp r hr).1;omega,(hb.mp r hr).2⟩,λr hr=>⟨by have:=(hb.ap r hr).1;omega,(hb.ap r hr).2⟩⟩,hs,rfl,rfl,rfl⟩))
   show (g2 _ _ _ _ >>= _)=_
   rw [two (two (n1 rfl rfl) (n1 rfl rfl) hadd) rfl (eq_int _ _ _),c0]
   rfl
  ·have hs':(0:Int) < ((w.ms.length + w.ar.length:Nat):Int):=by omega
   have hm:(0:Int) < (w.m:Int):=by omega
   refine eO ?_ (bC (two rfl (two (n1 rfl rfl) (n1 rfl rfl) hadd) (je _ _ hs')) rfl (bC (two (two rfl rfl (qG _ 6 (by decide) (by decide))) rfl (je _ _ hm)) rfl (bC rfl rfl ?_)))
   ·show (g2 _ _ _ _ >>= _)=_
    rw [two (two (n1 rfl rfl) (n1 rfl rfl) hadd) rfl (eq_int _ _ _)]
    show M.ok ((((w.ms.length + w.ar.length:Nat):Int)) == 0)=_
    rw [beq_eq_false_iff_ne.mpr (by omega)]
   obtain ⟨k,hk⟩:=yX (VO c (b:=((w.ms.length + w.ar.length:Nat):Int)) (by omega))
   have Rx:=Vb c hs'
   obtain ⟨p,hp⟩:=yX (VO (c / 6) (b:=(w.m:Int)) (by omega))
   have hpl:=Vb (c / 6) hm
   obtain ⟨q,hq⟩:=yX (VO (c / 48) (b:=(w.m:Int)) (by omega))
   have RB:=Vb (c / 48) hm
   rw [hk] at Rx
   rw [hp] at hpl
   rw [hq] at RB
   rw [hk,hp]
   by_cases ck:k < w.ms.length
   ·obtain ⟨L',o1,oS,oN,o2,o3⟩:=sS dN (λp=>p < w.m) (λxs=>xs.Pairwise (· < ·)) (λxs p h=>h.filter p) n hn (λ_=>SG _) false (λ_=>rfl) OU w.ms ⟨hb.mp⟩ hs.mp ml k ck p (by show p < w.m;omega) (some (.d w.d)) (some (.d (.int c))) (.int w.m) (.tup (w.ms.map kT)) (.tup (w.ar.map p5))
    refine eO ?_ (Wp.of o3 ⟨_,rfl,⟨w.m,L',w.ar⟩,rfl,⟨lo,hw.hi,by show L'.length<=3;omega,al⟩,⟨o1.all,λr hr=>⟨by have:=(hb.ap r hr).1;omega,(hb.ap r hr).2⟩⟩,⟨oS,hs.ap⟩,rfl,oN,rfl⟩)
    show M.ok (decide ((((w.ms.map kT).length:Nat):Int)<=(k:Int)))=_
    rw [decide_eq_false (by simp;omega)]
   ·obtain ⟨L',o1,oS,oN,o2,o3⟩:=sS dP (λp=>p.1 < w.m/\p.2 < w.m) (λxs=>xs.Pairwise jG) (λxs p h=>h.filter p) n hn (λ_=>(by decide:(1:Nat)<=1)) true (λ_=>rfl) OV w.ar ⟨hb.ap⟩ hs.ap al (k - w.ms.length) (by omega) (p,q) (by show p < w.m/\q < w.m;omega) (some (.d w.d)) (some (.d (.int c))) (.int w.m) (.tup (w.ms.map kT)) (.tup (w.ar.map p5))
    refine cF (ig ?_ (bC (x:=.d (.int ((k - w.ms.length:Nat):Int))) (two rfl (n1 rfl rfl) rfl) ?_ (bC (x:=.d (dP (p,q))) (bz (aF rfl rfl (aF (two (two rfl rfl (qG _ 48 (by decide) (by decide))) rfl (je _ _ hm)) rfl bu)) t2) ?_ (gq rfl rfl (Wp.of o3 ⟨_,rfl,⟨w.m,w.ms,L'⟩,rfl,⟨lo,hw.hi,ml,by show L'.length<=3;omega⟩,⟨λr hr=>⟨by have:=(hb.mp r hr).1;omega,(hb.mp r hr).2⟩,o1.all⟩,⟨hs.mp,oS⟩,rfl,rfl,oN⟩)))))
    ·show M.ok (decide ((((w.ms.map kT).length:Nat):Int)<=(k:Int)))=_
     rw [decide_eq_true (by simp;omega)]
    ·show M.ok (S.d (.int ((k:Int) - (((w.ms.map kT).length:Nat):Int))))=_
     rw [R3,show (k:Int) - (w.ms.length:Int)=((k - w.ms.length:Nat):Int) by omega]
    ·show M.ok (S.d (.tup [.int p,.int (c / 48 % w.m)]))=_
     rw [hq]
 obtain ⟨_,h,u,rfl,hu⟩:=key
 exact ⟨u,h,hu⟩
theorem KP (ns:List Int) (sz:List Nat) (hz:sz.length=8) (hs:∀n∈sz,1<=n/\n<=4):∃v w:Wd,jA [.bor (ns.map D.int),.bor (sz.map dN)]=.ok (.d (.tup [v.d,w.d]))/\Pr v w/\lH 30 v/\lH 30 w/\sD v/\sD w:=by
 have c0:=K51.kF ns 0
 have c1':=K51.kF ns 1
 have c2':=K51.kF ns 2
 have c9:=K51.kF ns 9
 have c10:=K51.kF ns 10
 have key:Wp (jA [.bor (ns.map D.int),.bor (sz.map dN)]) λr=>∃v w:Wd,r=.d (.tup [v.d,w.d])/\Pr v w/\lH 30 v/\lH 30 w/\sD v/\sD w:=by
  refine oE (bC (c2 rfl rfl (K51.Dg ns 0)) rfl (bC (c2 rfl rfl (iF ns _ 1 rfl)) rfl ?_))
  obtain ⟨a,ha,ea⟩:=nc (xs:=[1,0,2,3]) (h:=dN) (.l .fresh ([1,0,2,3].map dN)) rfl (K51.dF ns 1 % 4) (by omega) (by show _ < (4:Int);omega)
  obtain ⟨b,hb,eb⟩:=nc (xs:=[1,2,0,1,3]) (h:=dN) (.l .fresh ([1,2,0,1,3].map dN)) rfl (K51.dF ns 1 / 4 % 5) (by omega) (by show _ < (5:Int);omega)
  have ha:a<=3:=by simp at ha;omega
  have hb:b<=3:=by simp at hb;omega
  obtain ⟨A,hA,lA⟩:=K51.AA (K51.dF ns 1 / 20) (by omega) a ha
  obtain ⟨B,hB,lB⟩:=K51.AA (K51.dF ns 2) (by omega) b hb
  refine bC (c2 rfl (two (pQ rfl (by show 4<=1000;decide)) rfl ea) hA) rfl ?_
  refine cF (Dd rfl (gq (bz (aF rfl rfl (aF (c2 (c2 rfl rfl (iF ns _ 2 rfl)) (two (pQ rfl (by show 5<=1000;decide)) rfl eb) hB) rfl bu)) (by show 2<=1000;decide)) rfl ?_))
  have mk:∀(m:Nat),1<=m/\m<=4->∀(j:Nat),∃w:Wd,K51.fC [.d (.tup [.lst (A.map .str),.lst (B.map .str)]),.d (.int m),.bor ((R7 6).map λk=>.int (K51.dF ns (j + k)))]=.ok (.d w.d)/\gu w/\lH 16 w/\sD w/\w.m=m/\w.ms.map TQ=A/\w.ar.map TQ=B:=λm hm j=>by
   obtain ⟨ms,rs,hw,h1,h2,h3,h4⟩:=K51.KR m hm.1 (by omega) A B (by omega) (by omega) ((R7 6).map λk=>K51.dF ns (j + k)) rfl
   rw [Sw] at hw
   have l1:=congrArg V_ h1
   have l2:=congrArg V_ h2
   rw [R3] at l1 l2
   exact ⟨⟨m,ms,rs⟩,hw,⟨hm.1,by show m<=8;omega,by show ms.length<=3;omega,by show rs.length<=3;omega⟩,⟨λr hr=>⟨by have:=(h3 r hr).1;omega,(h3 r hr).2.2⟩,λr hr=>⟨K55.qB (h4 r hr) hm.2,(h4 r hr).2.2⟩⟩,⟨λr hr=>(h3 r hr).2.1,λr hr=>(h4 r hr).2.1⟩,rfl,h1,h2⟩
  obtain ⟨m,hm,em⟩:=nc (xs:=sz) (h:=dN) (.l .bor (sz.map dN)) rfl (K51.dF ns 0 % 8) (by omega) (by omega)
  obtain ⟨v,hv,vo,vb,vs,vm,vl,va⟩:=mk m (hs m hm) 3
  refine bC (c3 rfl (two rfl rfl em) (iz (xs:=R7 6) (h:=dN) (λk=>.int (K51.dF ns (3 + k))) (gZ rfl (by decide)) (by decide) λk hk=>⟨_,c2 rfl (two rfl rfl (zN _ _)) (iF ns _ (3 + k) (by simp)),rfl⟩) hv) rfl ?_
  refine bC (two (two rfl rfl (qG _ 8 (by decide) (by decide))) rfl (je _ 4 (by decide))) rfl ?_
  have up:∀{n:Nat}{w:Wd},n<=30->lH n w->Pc w:=λhn h=>⟨λr hr=>⟨by have:=(h.mp r hr).1;omega,(h.mp r hr).2⟩,λr hr=>⟨by have:=(h.ap r hr).1;omega,(h.ap r hr).2⟩⟩
  have vm4:=(hs m hm).2
  have RG:=VO (K51.dF ns 0 / 8) (b:=4) (by decide)
  have RH:=Vb (K51.dF ns 0 / 8) (b:=4) (by decide)
  generalize K51.dF ns 0 / 8 % 4=wy at RG RH
  by_cases cw:wy=0
  ·subst cw
   obtain ⟨m2,hm2,em2⟩:=nc (xs:=sz) (h:=dN) (.l .bor (sz.map dN)) rfl (K51.dF ns 0 / 32 % 8) (by omega) (by omega)
   obtain ⟨w,hw,wo,wb,ws,wm,wl,wa⟩:=mk m2 (hs m2 hm2) 9
   have:=(hs m2 hm2).2
   exact cF (ig rfl (bP (bz (aF rfl rfl (aF (c3 rfl (two rfl (two (two rfl rfl (qG _ 32 (by decide) (by decide))) rfl (je _ 8 (by decide))) em2) (iz (xs:=R7 6) (h:=dN) (λk=>.int (K51.dF ns (9 + k))) (gZ rfl (by decide)) (by decide) λk hk=>⟨_,c2 rfl (two rfl rfl (zN _ _)) (iF ns _ (9 + k) (by simp)),rfl⟩) hw) rfl bu)) t2) rfl ⟨_,rfl,v,w,rfl,⟨vo,wo,by omega,by omega,by rw [vl,wl],by rw [va,wa]⟩,up (by decide) vb,up (by decide) wb,vs,ws⟩))
  ·refine eO ?_ ?_
   ·show M.ok (wy == 0)=_
    rw [beq_eq_false_iff_ne.mpr cw]
   obtain ⟨ps,hps,pm⟩:=Fi (K51.dF ns 15) v.m vo.hi
   have lps:ps.length=v.m:=by rw [pm.length_eq,Uz]
   have ht:=Fo v vo 16 (by decide) vb ps lps
   obtain ⟨to,tb,ts,tm,tl,ta⟩:=M4 v vo 16 vb vs ps pm
   refine bC (c2 rfl (c2 (c2 rfl rfl (iF ns _ 15 rfl)) (two rfl rfl (i8 _ _)) hps) ht) rfl ?_
   obtain ⟨u1,f1,k1⟩:=rZ (lg v ps) to 16 (by decide) tb ts (K51.dF ns 9) c9
   obtain ⟨u2,f2,k2⟩:=rZ u1 k1.ok 17 (by decide) k1.inn k1.jd (K51.dF ns 10) c10
   have a1:=k1.m
   have a2:=k1.mn
   have a3:=k1.an
   have b1:=k2.m
   have b2:=k2.mn
   have b3:=k2.an
   have w3:wy=1\/wy=2\/wy=3:=by omega
   rcases w3 with rfl | rfl | rfl
   ·exact eO rfl (eO rfl (bP (bz (aF rfl rfl (aF rfl rfl bu)) t2) rfl ⟨_,rfl,v,lg v ps,rfl,⟨vo,to,by omega,by omega,tl.symm,ta.symm⟩,up (by decide) vb,up (by decide) tb,vs,ts⟩))
   ·exact cF (ig rfl (gq (c2 rfl (c2 rfl rfl (iF ns _ 9 rfl)) f1) rfl (eO rfl (bP (bz (aF rfl rfl (aF rfl rfl bu)) t2) rfl ⟨_,rfl,v,u1,rfl,⟨vo,k1.ok,by omega,by omega,by rw [a2,tl],by rw [a3,ta]⟩,up (by decide) vb,up (by decide) k1.inn,vs,k1.jd⟩))))
   ·exact cF (ig rfl (gq (c2 rfl (c2 rfl rfl (iF ns _ 9 rfl)) f1) rfl (cF (ig rfl (gq (c2 rfl (c2 rfl rfl (iF ns _ 10 rfl)) f2) rfl (bP (bz (aF rfl rfl (aF rfl rfl bu)) t2) rfl ⟨_,rfl,v,u2,rfl,⟨vo,k2.ok,by omega,by omega,by rw [b2,a2,tl],by rw [b3,a3,ta]⟩,up (by decide) vb,up (by decide) k2.inn,vs,k2.jd⟩))))))
 obtain ⟨_,h,v,w,rfl,hk⟩:=key
 exact ⟨v,w,h,hk⟩
end K23
namespace DL
open PySem PySem.Spec PyProof.Rows L2 DX
section
variable {X:Cx}{c:C}{e ke a b:SM}{g gk ga gb:G R}{pos:Pos}
noncomputable def NT (K:RV):BL:=λo i v H Q=>∃J p ks vs kxs d,aU J H/\o=.ref p/\dY K J H p ks vs/\dX (.tup kxs)=true/\Rep K J (.tup kxs) i/\Rep K J d v/\ks.length<=sizeLine/\∀o,dY K J (upd H p o) p (dput (ks,vs) (.tup kxs) d).1 (dput (ks,vs) (.tup kxs) d).2->Q (upd H p o)
theorem set_dict (hu:X.A.units + 64 < Uh):K1 X (NT X.K):=by
 intro RL s σ H o i v ov iv u Q I ro ri rv h
 obtain ⟨J,p,ks,vs,kxs,d,sm,rfl,hd,ok,rk,rd,hl,q⟩:=h
 obtain ⟨_,_,k1,k2⟩:=i_ ok
 obtain ⟨r,rfl⟩:∃r,i=.ref r:=by cases rk;exact ⟨_,rfl⟩
 cases ro
 cases ri
 obtain ⟨xs,hm,lx,put⟩:=Be I sm hd
 refine wpAny_setItem_heap (knd:=nW X.prog X.w) (k:=⟨.tup kxs,k1,k2⟩) (show X.A.units + 1 + 16 < Uh by omega) (ku (HF.of (c:=⟨X.K,H,H,λ_=>True⟩) I sm) k1 rk) hm (λh' hm' sb=>?_) (by rw [lx];exact hl)
 obtain ⟨o,W,hd,_⟩:=put k1 k2 rk rd rv h' _ hm' sb
 exact ⟨_,W,q o hd⟩
noncomputable def yH (i:Nat) (gk g:G R):G O:=λenv=>match env[i]? with
 | some (some (.dk ks vs))=>g env >>= λr=>toD r >>= λd=>gk env >>= λr2=>toD r2 >>= λk=>if dX k=true/\ks.length<=1000000 then .ok (.nx (env.set i (some (.dk (dput (ks,vs) k d).1 (dput (ks,vs) k d).2)))) else .bad
 | _=>.bad
theorem DU {prog:Sm}{w:SO}{K:Type} [DecidableEq K] {knd:HeapKind prog w K}{A:SW}{E:RX->RZ->Prop}{s:RZ}{d a:Se}{k:K}{xs:List (K×Se×RX)}{Q:Bool->RZ->Prop}(hu:knd.room A.in1) (hkey:knd.is s.heap k a) (hd:(d == VE)=false)
  (hm:s.heap.DictOfH knd d xs) (h:Q (abV xs k).isSome {s with toks:=s.toks + knd.draws k}):So (Su prog w) A (contains (.ref d) (.ref a)) Q E s:=by
 refine wpAny_contains_slot hm.typeIs ZS (S6 ZS hm.typeIs entry_dict_contains ?_ (args_dict_contains _ _))
 show So _ _ (dictGet d (.ref a) >>= λ_=>_) _ _ s
 refine RU (wpAny_dictGet_heap hu hkey hm ?_)
 cases q:abV xs k with
 | some p=>rw [q] at h;exact RY ⟨_,rfl,Tt h⟩
 | none=>rw [q] at h;exact RU (wpAny_pendingKey_other hd (RY ⟨_,rfl,Tt h⟩))
noncomputable def G2 (K:RV) (neg:Bool):R2:=λx y H Q=>∃J p ks vs k,aU J H/\y=.ref p/\dY K J H p ks vs/\Rep K J k x/\dX k=true/\Q (.bl (if neg then !(gT ks vs k).isSome else (gT ks vs k).isSome)) H
theorem FI (hu:X.A.units + 64 < Uh){RL:List (Se×Obj)}{s:RZ}{σ:L2.St}{H:Hp}{x y:V}{v u:RX}{Q:VK}{neg:Bool}(I:Inv X RL σ H s) (rx:RelV x v) (ry:RelV y u) (h:G2 X.K neg x y H Q):So (Su X.prog X.w) X.A (contains u v) (λr s'=>EP X RL σ Q (.bool (if neg then !r else r)) s') X.xe s:=by
 obtain ⟨J,p,ks,vs,k,sm,rfl,hd,hk,ok,q⟩:=h
 have F:HF X.K J s:=HF.of (c:=⟨X.K,H,H,λ_=>True⟩) I sm
 obtain ⟨kx,rfl,k1,k2⟩:=i_ ok
 obtain ⟨r,rfl⟩:∃r,x=.ref r:=by cases hk;exact ⟨_,rfl⟩
 cases rx
 cases ry
 obtain ⟨xs,us,ws,hm,e2,_,hv,e4,_,hsm⟩:=rD (P:=X.prog) (w:=X.w) F (iK I) hd
 have e:(abV xs ⟨.tup kx,k1,k2⟩).isSome=(gT ks vs (.tup kx)).isSome:=by
  obtain ⟨l1,l2⟩:=xq (K:=X.K) (J:=J) ⟨.tup kx,k1,k2⟩ e2 hv e4
  cases z:gT ks vs (.tup kx) with
  | some d=>obtain ⟨p,_,e,_⟩:=l1 d z;rw [e];rfl
  | none=>rw [l2 z];rfl
 exact DU (k:=⟨.tup kx,k1,k2⟩) (show X.A.units + 1 + 16 < Uh by omega) (ku F k1 hk) hsm hm ⟨.bl _,H,I.tok _,by rw [e];rfl,q⟩
theorem EB (hu:X.A.units + 64 < Uh):dw X (Ug .In) (G2 X.K false):=λRL s σ H x y v u Q I rx ry h=>RU (Tc (FI hu I rx ry h) (λ_ _ h=>RY h) λ_ _ f=>f)
noncomputable def nR (neg:Bool) (x y:R):M R:=match ve y,x with
 | some z,.d k=>if dX k=true then .ok (.d (.bl (if neg then !(gT z.1 z.2 k).isSome else (gT z.1 z.2 k).isSome))) else .bad
 | _,_=>.bad
theorem Dw (neg:Bool) (hK:X.K=c.K):BD c (G2 X.K neg) (nR neg):=by
 intro He He' J H x y u v Q hp rx ry w
 unfold nR at w
 split at w
 ·rename_i hz
  obtain ⟨p,rfl,hd⟩:=ry.dk hp hz
  split at w
  ·rename_i ok
   exact ⟨J,p,_,_,_,hp.sub,rfl,by rw [hK];exact hd,by rw [hK];exact rx,ok,w _ J H (Ext.refl hp.sub) (.bl _)⟩
  ·exact w.elim
 ·exact w.elim
theorem GZ (i:Nat){x:Str}{p1 p2:Pos}(hu:X.A.units + 64 < Uh) (h:QD X c e g) (hk:QD X c ke gk) (hN:X.N[i]?=some x:=by rfl) (hv:qM X.env.scope x:=by first | exact WA rfl | exact Vu (WA rfl) | exact Vu (Vu rfl)) (hd:(x == ("__debug__":Str))=false:=by decide)
  (hcd:(x == ("__classdict__":Str))=false:=by decide)
  (ha:∀v,assign (.Subscript (.Name x p1) ke p2) X.env v=(do
   let ov <-holding [v] (eval (.Name x p1) X.env)
   let iv <-holding [v,ov] (eval ke X.env)
   Vv p2
   (holding [v,ov,iv] (setItem ov iv v))
   release [v,ov,iv] []):=by intro _;rfl)
  (hs:Vw [.Subscript (.Name x p1) ke p2] e pos.line X.env=pure false:=by rfl) (hw:W6 [.Subscript (.Name x p1) ke p2] e X.env=pure none:=by rfl)
  (h1:(Tg [.Subscript (.Name x p1) ke p2] X.env).map (·.2)=[assign (.Subscript (.Name x p1) ke p2) X.env]:=by rfl) (hK:X.K=c.K:=by rfl):
  gR X c (.Assign [.Subscript (.Name x p1) ke p2] e pos) (yH i gk g):=have h:=h.h;have hk:=hk.h;⟨
 gO (zd h (Mk (kN hN hv hd hcd) hk (set_dict hu) ha) hs hw h1) λE σ H ⟨J,env,sr,w⟩=>by
  unfold yH at w
  split at w
  ·rename_i ks vs hi
   obtain ⟨v,q1,p,rfl,h2,h3,h4⟩:=sr.at_ i _ hi
   refine ⟨J,env,sr,aD (aI w) λr wr y J1 H1 e1 r1=>?_⟩
   obtain ⟨d,q,wr⟩:=gQ wr
   obtain ⟨J2,e2,s2,rd⟩:=freeze e1 r1 q
   refine ⟨.ref p,q1,?_⟩
   refine ⟨J2,env,sr.ext e2,aD (aI wr) λrk wk vk J3 H3 e3 r3=>?_⟩
   obtain ⟨k,qk,wk⟩:=gQ wk
   obtain ⟨J4,e4,s4,rk⟩:=freeze e3 r3 qk
   have e5:=e2.trans e4
   split at wk
   ·rename_i ok
    obtain ⟨kxs,rfl,_⟩:=i_ ok.1
    have h2':=h2.mono e5.j e5.h
    have h3':=e5.frz p h2.ne h3
    refine ⟨J4,p,ks,vs,kxs,d,e5.sub,rfl,by rw [hK];exact h2',ok.1,by rw [hK];exact rk,by rw [hK];exact rd.mono e4.j,SJ ok.2 (by decide),λo ho=>?_⟩
    rw [hK] at ho
    exact wk σ J4 _ e5.j ((sr.ext e5).updM (x:=.inr (ks,vs)) (y:=.inr (dput (ks,vs) (.tup kxs) d)) hi q1 h3' h4 ⟨p,rfl,ho,h3',h4⟩)
   ·exact wk.elim
  ·exact w.elim⟩
theorem J6 (hu:X.A.units + 64 < Uh) (ha:QD X c a ga) (hb:QD X c b gb) (hK:X.K=c.K:=by rfl) (hm:TN .In b=false:=by rfl):QD X c (.Compare a [.In] [b] pos) (g2 (nR false) ga gb):=⟨pV (EB hu) (Dw false hK) ha.h hb.h hm⟩
theorem JW (hu:X.A.units + 64 < Uh) (ha:QD X c a ga) (hb:QD X c b gb) (hK:X.K=c.K:=by rfl) (hm:TN .In b=false:=by rfl):QB X c (.Compare a [.In] [b] pos) (bQ (g2 (nR false) ga gb)):=⟨kM (EB hu) (Dw false hK) ha.h hb.h hm⟩
end
end DL
namespace K22
open PySem DL
end K22
namespace K22
open PySem DL K01 WP K51 K52 K55 K23
section
variable {env:Ev}{tg:GT}{u t:G O}{α:Type}{h:α->D}{Q:O->Prop}{gi:G (List D)}
theorem w_all (I:Ev->Prop) (f:α->Bool):∀(xs:List α) (env:Ev),I env->(∀x∈xs,∀env,I env->∃e,tg (h x) env=.ok e/\Wp (u e) λo=>(f x=true/\∃e',o=.nx e'/\I e')\/(f x=false/\o=.rt (.d (.bl false))))->
  Wp (fF tg u (xs.map h) env) λo=>(xs.all f=true/\∃e',o=.nx e'/\I e')\/(xs.all f=false/\o=.rt (.d (.bl false)))
 | [],env,hI,_=>⟨.nx env,rfl,.inl ⟨rfl,env,rfl,hI⟩⟩
 | x::xs,env,hI,step=>by
  obtain ⟨e,h1,o,ho,hP⟩:=step x R1 env hI
  rw [Sj,Vy]
  show Wp (tg (h x) env >>= _) _
  rw [h1,aM,ho,aM]
  rcases hP with ⟨hf,e',rfl,hI'⟩ | ⟨hf,rfl⟩
  ·rw [hf,VB]
   exact w_all I f xs e' hI' λx hx=>step x (R0 _ hx)
  ·rw [hf]
   exact ⟨_,rfl,.inr ⟨rfl,rfl⟩⟩
theorem Nc (I:Ev->Prop) (xs:List α) (h0:I env) (step:∀x∈xs,∀e,I e->∃e',tg (h x) e=.ok e'/\Wp (u e') λo=>∃e,o=.nx e/\I e) (k:∀e,I e->Q (.nx e)):Wp (fF tg u (xs.map h) env) Q:=by
 refine (w_all I (λ_=>true) xs env h0 λx hx e he=>?_).mono ?_
 ·obtain ⟨e',a,b⟩:=step x hx e he
  exact ⟨e',a,b.mono λo ⟨e,h1,h2⟩=>.inl ⟨rfl,e,h1,h2⟩⟩
 ·rintro o (⟨_,e,rfl,hI⟩ | ⟨z,_⟩)
  ·exact k e hI
  ·simp at z
end
theorem Nr (neg a b:Bool):eU neg (.d (.bl a)) (.d (.bl b))=.ok (.d (.bl (if neg then !(a == b) else a == b))):=by
 cases neg <;> cases a <;> cases b <;> rfl
theorem g9 (ps:List (Nat×Nat)):dX (bB ps)=true:=by
 have h1:∀qs:List (Nat×Nat),areKeys (qs.map dP)=true:=λqs=>by
  induction qs with
  | nil=>rfl
  | cons q qs ih=>rw [Sj];unfold areKeys;rw [ih];rfl
 have h2:deps (ps.map dP)<=1:=dc λx hx=>by obtain ⟨q,_,rfl⟩:=R4.mp hx;exact R6 _
 show (areKeys (ps.map dP) && decide (deps (ps.map dP) + 1<=8))=true
 rw [h1,decide_eq_true (by omega)]
 rfl
section
variable {env:Ev}{g gk:G R}{r r2:R}{u:G O}{Q:O->Prop}{i:Nat}
theorem Nz {ks vs:List D}{k d:D}(h0:env[i]?=some (some (.dk ks vs))) (h:g env=.ok r) (h2:toD r=.ok d) (h3:gk env=.ok r2) (h4:toD r2=.ok k) (ok:dX k=true) (hl:ks.length<=1000000) (q:Q (.nx (env.set i (some (.dk (dput (ks,vs) k d).1 (dput (ks,vs) k d).2))))):Wp (yH i gk g env) Q:=by
 refine ⟨_,?_,q⟩
 unfold yH
 rw [h0]
 simp only
 rw [h,aM,h2,aM,h3,aM,h4,aM,if_pos ⟨ok,hl⟩]
theorem JE {a b:G R}(h:a env=.ok (.d (.bl true))):rK a b env=.ok (.d (.bl true)):=by
 unfold rK;rw [h];rfl
theorem L7 {a b:G R}(h:a env=.ok (.d (.bl false))) (h2:b env=.ok r):rK a b env=.ok r:=by
 unfold rK;rw [h];exact h2
end
theorem Mr (ps:List (Nat×Nat)):dep (bB ps)<=60:=by
 have h2:deps (ps.map dP)<=1:=dc λx hx=>by obtain ⟨q,_,rfl⟩:=R4.mp hx;exact R6 _
 show deps (ps.map dP) + 1<=60
 omega
end K22
namespace DL
open PySem PySem.Spec PyProof.Rows L2 DX
section
variable {X:Cx}{c:C}
noncomputable def xN (X:Cx) (c:C) (cm:Option (RX->Sem Unit)->Sem RX) (g:G R):Prop:=
 ∀{RL:List (Se×Obj)}{s:RZ}{σ:L2.St}{H:Hp}{Q:VK}{use:Option (RX->Sem Unit)}{Q0:RX->RZ->Prop},Inv X RL σ H s->tD c g σ H Q->
  (∀(acc C:Se) (m:Str->Option RX) (s':RZ) (H':Hp) (fl:Flow),s'.heap.Ns C m->((C∈X.ex\/X.s₀.heap.objs.size<=C)/\C≠X.env.locals/\(∀x c,X.env.cells.lookup x=some c->c≠C)/\∀p∈X.pn++RL,p.1≠C)->H' C=none->(∀h'',Tw C s'.heap h''->Inv X RL σ H' {s' with heap:=h''})->Q (.ref acc) H'->ZR (Su X.prog X.w) X.A X.xe use Q0 (.ref acc) C (.ok fl) s')->
  So (Su X.prog X.w) X.A (cm use) Q0 X.xe s
theorem OJ {e:SM}{cm:Option (RX->Sem Unit)->Sem RX}{g:G R}(core:xN X c cm g) (hev:eval e X.env=cm none):PD X c e g:=by
 intro RL s σ H Q I h
 rw [hev]
 exact core I h λacc C m s' H' fl hm hz hf hb q=>⟨m,hm,λh'' sb=>⟨.ref acc,H',hb h'' sb,rfl,q⟩⟩
theorem GJ (i:Nat){e:SM}{cm:Option (RX->Sem Unit)->Sem RX}{g:G R}{x:Str}{pos' pos2:Pos}(hN:X.N.Nodup) (core:xN X c cm g) (hev:∀use,evalThenUse e X.env use=(do let _ <-cm (some use))) (hx:X.N[i]?=some x) (P8:X.env.scope.names.lookup x=some .local)
  (hsw:VC e (some (.Name x pos')) pos2.line X.env=pure true):xW X c (.Assign [.Name x pos'] e pos2) (br i g):=by
 intro RL s σ H D I ⟨J,env,sr,w⟩
 rw [YW]
 refine RU (T5 ?_)
 rw [show Vw [.Name x pos'] e pos2.line X.env=pure true from hsw]
 refine RU (RY ?_)
 rw [if_pos rfl,hev]
 refine RU (RU (core (Q:=λv H1=>∃J1 r xx,Ext J H J1 H1/\RR c H J1 H1 r v/\toS r=.ok xx/\oP c J D (.nx (env.set i (some xx)))) I ⟨J,env,sr,aD (aI w) λr wr v J1 H1 e1 r1=>?_⟩ λacc C m s' H' fl hm ap hf hb ⟨J1,r,xx,e1,r1,q1,w1⟩=>?_))
 ·obtain ⟨xx,q,wr⟩:=nG wr
  exact ⟨J1,r,xx,e1,r1,q,wr⟩
 ·have I1:L2.Inv X RL σ H' s':=hb s'.heap (X7 ..)
  show So _ _ (do Vv pos';acK X.env x (.ref acc)) _ _ _
  refine RU (T5 (Zj ?_))
  refine lW I1 hN hx (.inl P8) (v:=.ref acc) (u:=.ref acc) rfl (λs2 I2 ⟨a,sb,ha⟩=>?_) (.inr P8)
  have hac:C≠a:=λz=>by
   rcases ha with e | e
   ·exact ap.2.1 (z.trans e)
   ·exact ap.2.2.1 _ _ e z.symm
  refine ⟨m,hm.sameBut sb hac,λh2 sb2=>?_⟩
  refine RY (RY ⟨σ.set i (some (.ref acc)),H',pU I2 ap hf sb2 (o0:=default),?_⟩)
  exact w1 _ J1 H' e1.j (sr.set e1 r1 q1)
noncomputable def iJ (n:Nat) (cap:List Nat) (gi:G (List D)) (gt:GT) (gts:G Bool) (gk gv:G R):G R:=i7 1000000 n cap gi gt gts (rA gk gv) (λys=>.ok (.mf (iH ys).1 (iH ys).2))
theorem Ob (kx vx t0 i0:SM) (f0:List SM) (RK:U3) (pos:Pos) (it:RX) (p:Se) (env:Env):
  WM (.DictComp kx vx [⟨t0,i0,f0,0⟩] RK pos) 0 it (.ref p) env=lY t0 i0 f0 it env (Cy kx vx p env) (again (.compLoop (.DictComp kx vx [⟨t0,i0,f0,0⟩] RK pos) 0 it (.ref p) env)):=by rfl
theorem DR (hu:X.A.units + 64 < Uh) (hK:X.K=c.K) (own:List Str) (cap:List Nat){kx vx t0 i0:SM}{f0:List SM}{RK:U3}{pos pos':Pos}{gi0:G (List D)}{gt0:GT}{gts0:G Bool}{gk gv:G R}(hi:o5 X c t0 i0 gi0)
  (hbody:∀(cl:List (Str×Se)) (C:Se) (s:RZ) (H:Hp) (fp:List Se),bH X.env.cells RK.names []=some cl->iT (aX X own cap RK cl C s H fp) c t0 gt0/\gj (aX X own cap RK cl C s H fp) c f0 gts0/\PD (aX X own cap RK cl C s H fp) c kx gk/\PD (aX X own cap RK cl C s H fp) c vx gv)
  (hk:RK.kind=.function) (hno:fh X cap RK=true) (hnames:(RK.names.all λx=>!(x.2 == .local) || (RK.names.lookup x.1 == some .local))=true)
  (hcl:(bH X.env.cells RK.names []).isSome=true) (hcap:dM X cap=true) (hloc:dS X cap RK=true) (hnd:fK cap=true) (PZ:X.calm=true) (hs:∀x,Sl i0 X.env x=pure x):
  xN X c (λuse=>comprehension (.DictComp kx vx [⟨t0,i0,f0,0⟩] RK pos) RK X.env pos' newDict false (eval i0 X.env) use) (iJ own.length cap gi0 gt0 gts0 gk gv):=by
 intro RL s σ H Q use Q0 I h P4
 refine nL (e:=.DictComp kx vx [⟨t0,i0,f0,0⟩] RK pos) (ob:={cls:=.type "dict",data:=.dict #[]}) (o0:=λa=>kG a 0 []) (Acc:=BO c) (N:=1) (lim:=1000000) (m:=λp env=>Cy kx vx p env) own cap rfl hi
  (λs Q E q=>SX q) (λh H=>⟨⟨_,#[],Sd _ rfl,⟨rfl,rfl,rfl⟩,rfl,.nil⟩,⟨_,Sd _ rfl⟩,λh1 h2 ⟨o,es,a1,a2⟩ e=>⟨o,es,e o a1,a2⟩⟩) (λp=>q_) (λp J H hsm h1 h2=>⟨⟨[],[],0,h1,.nil,.nil,⟨rfl,Vg,SG _,λ_ h=>(nomatch h)⟩,beq_eq_false_iff_ne.mpr (UX (Sv hsm)),rfl⟩,h2,R6 _⟩) (by decide) (λit p env=>Cn (Ob ..)) (λit acc env R s h0 h=>YF h0 h) (λys z q=>by cases q)
  (fun {p J H J' H' ys r} hp e ⟨h1,h2,h8⟩ q=>by cases q;exact ⟨J',e,⟨p,rfl,h1,h2,hp⟩⟩) (λcl C s H fp hcc=>?_) hk hno hnames hcl hcap hloc hnd PZ hs I h P4
 obtain ⟨b1,b2,b3,b4⟩:=hbody cl C s H fp hcc
 exact ⟨b1,b2,λp J2 H2 hp2 hp0=>AK hu hK (λ_ _ f=>f) hp2 hp0 b3 b4⟩
theorem tX (hu:X.A.units + 64 < Uh) (own:List Str) (cap:List Nat){kx vx t0 i0:SM}{f0:List SM}{RK:U3}{pos:Pos}{gi0:G (List D)}{gt0:GT}{gts0:G Bool}{gk gv:G R}(hi:qL X c t0 i0 gi0)
  (hbody:∀(cl:List (Str×Se)) (C:Se) (s:RZ) (H:Hp) (fp:List Se),bH X.env.cells RK.names []=some cl->kD (aX X own cap RK cl C s H fp) c t0 gt0/\jL (aX X own cap RK cl C s H fp) c f0 gts0/\QD (aX X own cap RK cl C s H fp) c kx gk/\QD (aX X own cap RK cl C s H fp) c vx gv)
  (hk:RK.kind=.function:=by rfl) (hno:fh X cap RK=true:=by rfl) (hnames:(RK.names.all λx=>!(x.2 == .local) || (RK.names.lookup x.1 == some .local))=true:=by rfl)
  (hcl:(bH X.env.cells RK.names []).isSome=true:=by rfl) (hcap:dM X cap=true:=by rfl) (hloc:dS X cap RK=true:=by rfl) (hnd:fK cap=true:=by rfl) (PZ:X.calm=true:=by rfl)
  (hs:∀x,Sl i0 X.env x=pure x:=by intro _;rfl) (hK:X.K=c.K:=by rfl):QD X c (.DictComp kx vx [⟨t0,i0,f0,0⟩] RK pos) (iJ own.length cap gi0 gt0 gts0 gk gv):=
 ⟨OJ (DR hu hK own cap hi.h (λcl C s H fp hc=>let ⟨a,b,d,e⟩:=hbody cl C s H fp hc;⟨a.h,b.h,d.h,e.h⟩) hk hno hnames hcl hcap hloc hnd PZ hs) rfl⟩
theorem Cz (i:Nat) (hu:X.A.units + 64 < Uh) (own:List Str) (cap:List Nat){kx vx t0 i0:SM}{f0:List SM}{RK:U3}{pos pos' pos2:Pos}{x:Str}{gi0:G (List D)}{gt0:GT}{gts0:G Bool}{gk gv:G R}(hN:X.N.Nodup) (hi:qL X c t0 i0 gi0)
  (hbody:∀(cl:List (Str×Se)) (C:Se) (s:RZ) (H:Hp) (fp:List Se),bH X.env.cells RK.names []=some cl->kD (aX X own cap RK cl C s H fp) c t0 gt0/\jL (aX X own cap RK cl C s H fp) c f0 gts0/\QD (aX X own cap RK cl C s H fp) c kx gk/\QD (aX X own cap RK cl C s H fp) c vx gv)
  (hk:RK.kind=.function:=by rfl) (hno:fh X cap RK=true:=by rfl) (hnames:(RK.names.all λx=>!(x.2 == .local) || (RK.names.lookup x.1 == some .local))=true:=by rfl)
  (hcl:(bH X.env.cells RK.names []).isSome=true:=by rfl) (hcap:dM X cap=true:=by rfl) (hloc:dS X cap RK=true:=by rfl) (hnd:fK cap=true:=by rfl) (PZ:X.calm=true:=by rfl)
  (hs:∀x,Sl i0 X.env x=pure x:=by intro _;rfl) (hx:X.N[i]?=some x:=by rfl) (P8:X.env.scope.names.lookup x=some .local:=by rfl)
  (hsw:VC (.DictComp kx vx [⟨t0,i0,f0,0⟩] RK pos) (some (.Name x pos')) pos2.line X.env=pure true:=by rfl) (hK:X.K=c.K:=by rfl):gR X c (.Assign [.Name x pos'] (.DictComp kx vx [⟨t0,i0,f0,0⟩] RK pos) pos2) (br i (iJ own.length cap gi0 gt0 gts0 gk gv)):=
 ⟨GJ i hN (DR hu hK own cap hi.h (λcl C s H fp hc=>let ⟨a,b,d,e⟩:=hbody cl C s H fp hc;⟨a.h,b.h,d.h,e.h⟩) hk hno hnames hcl hcap hloc hnd PZ hs) (λ_=>rfl) hx P8 hsw⟩
end
end DL
namespace DL
open PySem PySem.Spec PyProof.Rows L2 DX
open Sem (wp)
section
variable {prog:Sm}{w:SO}{A:SW}{E:RX->RZ->Prop}{s:RZ}{d it:Se}{o:Obj}{es:Array ZF}{ep i:Nat}
theorem Gd {Q:RX->RZ->Prop}(hd:(d == VE)=false) (ho:s.heap.get? d=some o) (hc:o.ExactDict) (hdat:o.data=.dict es ep)
  (hQ:Q (.ref s.heap.objs.size) {s with heap:=s.heap.push {cls:=.type "dict_keyiterator",data:=.fields #[.ref d,.int 0 0,.int es.size 0,.int ep 0]}}):So (Su prog w) A (XN (.ref d)) Q E s:=by
 have hT:s.TypeIs (.ref d) "dict":=⟨o,ho,hc.1⟩
 refine X4 hT aaw (S6 aaw hT F.entry_dict_iter ?_ (F.args_dict_iter_1 _));unfold Wb.«dict.__iter__»;refine RU ?_
 unfold abh;refine RU (wpAny_notOrdered_dict hT (RY ?_))
 show So _ _ (Bind.bind (YY d) _) _ _ s
 unfold YY;rw [if_neg (by rw [hd];decide)]
 refine RU (RY (RU (X_ ho hdat (RU (YZ ho hdat ?_)))))
 exact RU (SX (RY ⟨_,rfl,"dict_keyiterator",_,⟨_,Sd _ rfl,rfl⟩,Ue.lookup,by simpa [abm] using hQ⟩))
theorem Gw {Q:Option RX->RZ->Prop}(hit:s.heap.IsKeyIter it d i es.size ep) (hod:s.heap.get? d=some o) (Qj:o.data=.dict es ep) (hi:i < es.size)
  (hQ:∀h',h'.IsKeyIter it d (i + 1) es.size ep->Tw it s.heap h'->Q (some es[i].key) {s with heap:=h'}):So (Su prog w) A (Wv (.ref it)) Q E s:=by
 obtain ⟨oi,ho,hc,hd⟩:=id hit
 unfold Wv
 refine RU (Wm (Ui (name:=WN "__next__") hit.typeIs Ue (S6 Ue hit.typeIs W3 ?_ (WT _))))
 refine RU (RY (RU (RU ?_)))
 refine RU (UO hit.typeIs (RY (RU (XD ho hd ?_))))
 have hown:Xb "dict_keyiterator"=false:=by decide
 simp only [hown,Sk,if_false]
 show So _ _ (ite ((Wh d == S3)=true) _ _) _ _ s
 rw [if_neg (show ¬((Wh d == S3)=true) from SN)];refine RU (RY (RU (X_ hod Qj ?_)))
 rw [if_neg (by simp)];refine RU (RY (RU (YZ hod Qj ?_)))
 rw [if_neg (by simp)];refine RY ?_
 simp only [show ¬((i:Int) < 0) from by omega,if_false,Uv,Vi hi]
 refine RU (RU (UO hit.typeIs (RY ?_)))
 refine RU (Y0 hit.typeIs ?_)
 refine RU (m:=setField (.ref it) 1 (abm ((i:Int) + 1))) (abi ho hd (by simp) ?_)
 have QE:(s.heap.update it (abW (·.setIfInBounds 1 (abm ((i:Int) + 1))))).IsKeyIter it d (i + 1) es.size ep:=⟨_,Uc _ ho (Obj.isFreed_of_fields (ZT hd _)),(Obj.cls_mapFields ..).trans hc,by rw [ZT hd];simp [abm]⟩
 refine RU (SD (RU (Y0 (s:={s with heap:=s.heap.update it (abW (·.setIfInBounds 1 (abm ((i:Int) + 1))))}) QE.typeIs ?_)))
 exact RY (RY ⟨_,rfl,RY (hQ _ QE (T8 ..))⟩)
theorem IX {Q:Option RX->RZ->Prop}(hh:A.handled=none) (hit:s.heap.IsKeyIter it d i es.size ep) (hod:s.heap.get? d=some o) (Qj:o.data=.dict es ep) (hi:es.size<=i)
  (hQ:∀h',acD it s.heap h'->Q none {s with heap:=h'}):So (Su prog w) A (Wv (.ref it)) Q E s:=by
 obtain ⟨oi,ho,hc,hd⟩:=id hit
 unfold Wv
 refine RU (Wm (Ui (name:=WN "__next__") hit.typeIs Ue (S6 Ue hit.typeIs W3 ?_ (WT _))))
 refine RU (RY (RU (RU ?_)))
 refine RU (UO hit.typeIs (RY (RU (XD ho hd ?_))))
 have hown:Xb "dict_keyiterator"=false:=by decide
 simp only [hown,Sk,if_false]
 show So _ _ (ite ((Wh d == S3)=true) _ _) _ _ s
 rw [if_neg (show ¬((Wh d == S3)=true) from SN)];refine RU (RY (RU (X_ hod Qj ?_)))
 rw [if_neg (by simp)];refine RU (RY (RU (YZ hod Qj ?_)))
 rw [if_neg (by simp)];refine RY ?_
 simp only [show ¬((i:Int) < 0) from by omega,if_false,Uv,Array.getElem?_eq_none hi]
 refine RU (RU (UO hit.typeIs (RY ?_)))
 refine RU (m:=setField (.ref it) 0 .none) (abi ho hd (by simp) ?_)
 refine RU (m:=newExc (.type "StopIteration") []) ?_
 simp only [newExc,newTuple];refine RU (SX ?_ (by size_fits))
 refine RU (m:=XG _ _) (We (a:=S3) (by first | rfl | (simp only [XG];rfl)) (SX ?_ (by size_fits)))
 simp only [raiseNew];refine RU (abQ ?_)
 rw [show A.in1.handled=none from hh];refine RU (RY (wpAny_throw ?_))
 exact RU (WY (T:="StopIteration") (b:=true) ⟨_,Sd _ rfl,rfl⟩ abg (RY (hQ _ (((T8 ..).extBut.push _).push _))))
end
end DL
namespace DL
open PySem PySem.Spec PyProof.Rows L2 DX
noncomputable def Oc (a:Se) (ep:Nat) (RS:List (Int×V×V)):It:=⟨λi H=>H a=some (kG a ep RS)/\i < RS.length,λi H x H'=>H'=H/\∃p,RS[i]?=some p/\x=p.2.1,λi H=>H a=some (kG a ep RS)/\RS.length<=i⟩
theorem vM {α β:Type}{F:α->β->Prop}:∀{xs:List α}{ys:List β}{i:Nat}(hi:i < ys.length),XI F xs ys->∃p,xs[i]?=some p/\F p ys[i]
 | _,_,0,_,.cons h _=>⟨_,rfl,h⟩
 | _,_,i + 1,hi,.cons _ t=>vM (i:=i) (by simpa using hi) t
theorem Hr {P:Sm}{w:SO}{K:RV}{tg:SM}(a it:Se) (ep:Nat) (RS:List (Int×V×V)):Turn P w K tg (Oc a ep RS) [it] it (λi h=>h.IsKeyIter it a i RS.length ep) where
 mem:=by simp
 obj:=λi h st b hb=>by
  cases R9.mp hb
  obtain ⟨o,e,c,d⟩:=st
  exact ⟨o,e,λv z=>by rw [d] at z;cases z⟩
 keep:=λi h h' st k=>st.at λo e=>k it (by simp) o e
 item:=by
  rintro X rfl rfl rfl hc i RL s σ H E I hf st ⟨hq,hi⟩
  obtain ⟨o,es,h1,h2,h3,h4⟩:=(show cj X.prog X.w H s.heap a (kG a ep RS) from I.hok a _ hq).1
  have hl:RS.length=es.size:=by have:=h4.length;simpa using this
  obtain ⟨p,hp,er⟩:=vM (i:=i) (by simp;omega) h4
  obtain ⟨f0,f1,f2,f3,f4,f5⟩:=hf it (by simp)
  refine Gw (es:=es) (ep:=ep) (hl▸st) h1 h3 (by omega) λh' st' sb=>?_
  have I1:Inv X RL σ H {s with heap:=h'}:=I.turned (t':=s.toks) (λb o hb e=>(sb.2 b hb).trans e) f0 f1 f3 f4 f5
  obtain ⟨oi,e,c,d⟩:=id st'
  exact ⟨_,rfl,xA (s:={s with heap:=h'}) e c d (by decide) ⟨p.2.1,H,I1,by simpa using er.2.1,⟨rfl,p,hp,rfl⟩,by rw [hl];exact st',λb hb=>(hf b hb).1⟩⟩
 done:=by
  rintro X rfl rfl rfl hc i RL s σ H E I hf st ⟨hq,hi⟩
  obtain ⟨o,es,h1,h2,h3,h4⟩:=(show cj X.prog X.w H s.heap a (kG a ep RS) from I.hok a _ hq).1
  have hl:RS.length=es.size:=by have:=h4.length;simpa using this
  obtain ⟨f0,f1,f2,f3,f4,f5⟩:=hf it (by simp)
  exact IX (es:=es) (ep:=ep) (I.ok.hd hc) (hl▸st) h1 h3 (by omega) λh' eb=>⟨rfl,I.turned (t':=s.toks) (λb o hb e=>eb b o hb e) f0 f1 f3 f4 f5⟩
 self:=λ_ _ _ _ _ st h=>wpAny_pyIter_keyiter st h
section
variable {X:Cx}{c:C}{e tg:SM}{g:G R}
noncomputable def uJ (g:G R):G (List D):=λenv=>g env >>= λr=>match ve r with
 | some z=>.ok z.1
 | none=>.bad
theorem Mm {tl:TE}(hl:PE X e tl):PI X tg e (λσ H Q=>tl σ H λx H1=>∃a ep RS,x=.ref a/\(a == VE)=false/\H1 a=some (kG a ep RS)/\Q (Oc a ep RS) H1):=λRL s σ H R I h=>bS (hl RL s σ H _ I h) λv s1 ⟨x,H1,I1,r1,a,ep,RS,ex,hsm,hq,q⟩=>by
 subst ex
 cases r1
 obtain ⟨o,es,h1,h2,h3,h4⟩:=(show cj X.prog X.w H1 s1.heap a (kG a ep RS) from I1.hok a _ hq).1
 have hl:RS.length=es.size:=by have:=h4.length;simpa using this
 refine Gd hsm h1 h2 h3 ⟨s1.heap.objs.size,[s1.heap.objs.size],_,_,H1,rfl,I1.kept (t':=s1.toks) (λb o e=>R5 _ e),Hr a _ ep RS,⟨_,Sd _ rfl,rfl,by rw [hl];rfl⟩,λb hb=>?_,q⟩
 cases R9.mp hb
 exact I1.fpOk (R6 _) (I1.hok.fresh (R6 _))
theorem kQ (h:QD X c e g) (hK:X.K=c.K:=by rfl):qL X c tg e (uJ g):=have h:=h.h;⟨tR (Mm h) λσ H Q ⟨J,env,sr,w⟩=>by
 refine ⟨J,env,sr,aD (aI w) λr wr v J1 H1 e1 r1=>?_⟩
 cases hz:ve r with
 | none=>rw [hz] at wr;exact wr.elim
 | some z=>
  rw [hz] at wr
  obtain ⟨a,rfl,us,ws,ep,h1,h2,h3,h4,h5,h6⟩:=r1.dk (sr.hp.ext e1) hz
  have hh:∀ds:List D,(cD ds).length=ds.length:=λds=>by induction ds with
   | nil=>rfl
   | cons d ds ih=>show (cD ds).length + 1=_;rw [ih];rfl
  have lk:((cD z.1).zip (us.zip ws)).length=z.1.length:=by
   rw [aa2,aa2,hh,<-h2.length,<-h3.length,<-h6];omega
  refine ⟨a,ep,_,rfl,h5,h1,wr _ J1 H1 e1 λi J' H' hp u=>⟨λhl=>⟨u.2 _ _ h1,by omega⟩,λd hd=>?_⟩⟩
  have hi:i < z.1.length:=(SI.mp hd).1
  obtain ⟨x,k1,k2⟩:=h2.get hd
  refine ⟨⟨u.2 _ _ h1,by omega⟩,λy H2 ⟨e,p,hp',hy⟩=>⟨J',by subst e;exact Ext.refl hp.sub,?_⟩⟩
  have:p.2.1=x:=by
   rw [XH,] at hp'
   have:=(XH.mp hp'.2).1
   rw [k1] at this
   cases this;rfl
  rw [hy,this]
  exact k2.mono u.1⟩
end
end DL
namespace DL
open PySem PySem.Spec PyProof.Rows L2
section
variable {X:Cx}{c:C}{e:SM}{es:List SM}{g:G R}{pos p:Pos}{x y:Str}
def Fp (K:RV) (mg:Str->Option RX) (x:Str):Prop:=∃f,SV K SE x=some (some (.ref f))/\mg x=some (.ref f)
noncomputable def D8 (y:Str) (F:List S->M R) (g:G R):G R:=λenv=>g env >>= λr=>match F [fV r,.fn y] with
 | .ok r=>.ok (mZ r)
 | _=>.bad
theorem G0 {k k':Nat}{F:List S->M R}{q:Pos}(G:bJ X.prog X.w X.K X.mg X.base k 2 x F) (hv:Fp X.K X.mg y) (hr:dB k' X.A) (ha:QD X c e g) (hk:k<=k':=by decide) (hT:c.K=X.K:=by rfl) (hg:Gl X x:=by rfl) (Rv:Gl X y:=by rfl)
  (hdb:(x == ("__debug__":Str))=false:=by decide) (QV:(y == ("__debug__":Str))=false:=by decide) (he:R_ [e,.Name y q] X.env=(false,eval e X.env)::R_ [.Name y q] X.env:=by rfl) (Qz:R_ [.Name y q] X.env=(false,eval (.Name y q) X.env)::R_ [] X.env:=by rfl)
  (hpl:(Us pos (R_ [.Name y q] X.env)).any (·.1)=false:=by rfl):QD X c (.Call (.Name x p) [e,.Name y q] [] pos) (D8 y F g):=by
 obtain ⟨f,fd,ps,h1,h2,h3,h4⟩:=G
 obtain ⟨f',h5,h6⟩:=hv
 refine ⟨fq (uT (E:=E0) h1 (hr.mono hk) hg h2 h3 h4 .nil Cv (eW ha.h (eW (Bd (v:=.ref f') Rv h6 rfl QV) g_ Qz) he) hdb he hpl) λσ H Q ⟨J,env,sr,w⟩=>?_⟩
 refine ⟨J,env,sr,aD (aI w) λr wr v J1 H1 e1 r1=>Ih hT e1 ?_ rfl wr⟩
 obtain ⟨_,_,e,a1,_⟩:=jQ.args (rs:=[r]) (vs:=[v]) (sr.hp.ext e1) ⟨v,[],rfl,r1,rfl⟩
 cases e
 exact ⟨v,_,rfl,a1,_,_,rfl,⟨f',rfl,hT▸h5⟩,rfl⟩
noncomputable def Ca (i:Nat) (x:Str) (g g':G R):G R:=λenv=>match env[i]? with
 | some (some (.fn z))=>if z=x then g env else g' env
 | _=>.bad
def B_:G R:=λ_=>.bad
theorem Bk:QD X c e B_:=⟨λ_ _ _ _ _ _ ⟨_,_,_,w⟩=>w.elim⟩
theorem zh (i:Nat){k k' n:Nat}{F:List S->M R}{gs:G (List R)}(G:bJ X.prog X.w X.K X.mg X.base k n x F) (hv:Fp X.K X.mg x) (hr:dB k' X.A) (ha:jg X c (e::es) gs) (rest:QD X c (.Call (.Name y p) (e::es) [] pos) g) (hk:k<=k':=by decide) (hT:c.K=X.K:=by rfl)
  (hN:X.N[i]?=some y:=by rfl) (hvs:qM X.env.scope y:=by first | exact WA rfl | exact Vu (WA rfl) | exact Vu (Vu rfl)) (hd:(y == ("__debug__":Str))=false:=by decide) (hcd:(y == ("__classdict__":Str))=false:=by decide)
  (he:R_ (e::es) X.env=(false,eval e X.env)::R_ es X.env:=by rfl) (hpl:(Us pos (R_ es X.env)).any (·.1)=false:=by rfl):QD X c (.Call (.Name y p) (e::es) [] pos) (Ca i x (gN (aS n F) gs) g):=by
 refine ⟨λRL s σ H Q I ⟨J,env,sr,w⟩=>?_⟩
 obtain ⟨f,fd,ps,h1,h2,h3,h4⟩:=G
 obtain ⟨f',h5,h6⟩:=hv
 have ef:f'=f:=by rw [h2] at h6;cases h6;rfl
 subst ef
 unfold Ca at w
 split at w
 ·rename_i z hz
  split at w
  ·rename_i ez
   subst ez
   obtain ⟨_,hv,_,rfl,q⟩:=sr.at_ i _ hz
   rw [hT,h5] at q
   cases q
   refine Wj (bS (kN hN hvs hd hcd RL s σ H (λv H1=>v=.ref f'/\H1=H) I ⟨_,hv,rfl,rfl⟩) λu s1 ⟨x',H1,I1,rx,ev,eh⟩=>?_)
   subst ev eh
   cases rx
   refine Zw (h₀:=X.base) I1.ok.mod.kin h3 (bS (ha.h pos RL s1 σ H1 _ I1 (yj hT σ H1 Q ⟨J,env,sr,w⟩)) λus s2 ⟨vs,H2,I2,r,q⟩=>⟨I2.kIn,?_⟩) he hpl
   exact EZ h1 (hr.mono hk) h4 .nil Cv I2 r q
  ·exact rest.h RL s σ H Q I ⟨J,env,sr,w⟩
 ·exact w.elim
end
end DL
namespace K33
open PySem DL
def KU:List Str:=["pairing","pair"]
def Eb:G O:=(bO (gN (aS 1 K23.qq) (ao (g2 dW (af 0) (bI (aA (af 1) aW))) aE)))
def oV (as:List S):M R:=fin (Eb (bh KU as))
def z_:List Str:=["one","other","side","point"]
noncomputable def qW:G O:=(aJ (cu (bQ (g2 (eU false) (af 2) (gC (.int 0)))) (bO (bF 1 [3] (cA (ao (g2 bA (af 1) (gC (.int 0))) aE)) (aC 0) b9 (bI (aA (af 1) (aA (af 0) aW))))) eH)
 (bO (bF 1 [3] (cA (ao (g2 bA (af 0) (gC (.int 0))) aE)) (aC 0) b9 (bI (aA (af 0) (aA (af 1) aW))))))
def fY (as:List S):M R:=fin (qW (bh z_ as))
def Dn:List Str:=["one","other"]
noncomputable def vF:G O:=(bO (g2 cU (bF 1 [] (cA (ao (g2 bA (af 0) (gC (.int 0))) aE)) (aC 0) b9 (bI (aA (gC (.int 0)) (aA (af 0) aW)))) (bF 1 [] (cA (ao (g2 bA (af 1) (gC (.int 0))) aE)) (aC 0) b9 (bI (aA (gC (.int 1)) (aA (af 0) aW))))))
def lG (as:List S):M R:=fin (vF (bh Dn as))
def Dl:List Str:=["one","other","pairing","known","grown"]
noncomputable def vD:G O:=(aJ (br 4 (kg 2 [0,1,2] (cA (ao (g2 bA (af 0) (gC (.int 0))) aE)) (aC 0) b9 (nT (gN (aS 4 K33.fY) (ao (af 2) (ao (af 3) (ao (gC (.int 0)) (ao (af 0) aE)))))) (aC 1) b9 (af 1) (gN (aS 2 K33.oV) (ao (af 4) (ao (af 1) aE)))))
 (bO (bF 2 [0,1,4,3] (dH (gN (aS 2 K33.lG) (ao (af 0) (ao (af 1) aE)))) (c_ 2 (bw (aC 0) (bw (aC 1) cZ))) b9 (bF 1 [4,5] (dH (gN (aS 4 K33.fY) (ao (af 2) (ao (af 3) (ao (af 0) (ao (af 1) aE)))))) (aC 0) (bQ (g2 (nR false) (g2 gW (af 1) (af 0)) (af 2))) (g2 gW (af 1) (af 0))))))
def lE (as:List S):M R:=fin (vD (bh Dl as))
def su:List Str:=["rows","depths"]
noncomputable def lO:G O:=(bO (gN rE (ao (bF 1 [1] (dH (af 0)) (aC 0) b9 (gN yz (ao (bF 1 [1] (dH (af 0)) (aC 0) b9 (g2 (qQ false) (g2 gW (af 1) (af 0)) (gC .non))) aE))) aE)))
def dU (as:List S):M R:=fin (lO (bh su as))
def AE:List Str:=["rows","stays","depths","depth","gone","pairing"]
noncomputable def uL:G O:=(aJ (br 2 (iJ 1 [] (uJ (af 0)) (aC 0) b9 (af 0) (gC .non)))
 (aJ (br 3 (gC (.int 1)))
 (aJ (br 4 (bF 1 [1,0,2] (uJ (af 0)) (aC 0) (gE (bQ (Ca 1 "answered_still" (gN (aS 2 K33.dU) (ao (g2 gW (af 2) (af 0)) (ao (af 3) aE))) B_))) (af 0)))
 (aJ (yI 400000 (mw (af 4)) (aJ (jM 4 (gm (nT (af 4)) (aC 5) (yH 2 (af 5) (af 3))))
 (aJ (pC 3 yy (gC (.int 1)))
 (br 4 (bF 1 [2,1,0] (uJ (af 0)) (aC 0) (pB (bQ (g2 (qQ false) (g2 gW (af 1) (af 0)) (gC .non))) (gE (bQ (Ca 2 "answered_still" (gN (aS 2 K33.dU) (ao (g2 gW (af 3) (af 0)) (ao (af 1) aE))) B_)))) (af 0))))))
 (bO (af 2))))))
def mK (as:List S):M R:=fin (uL (bh AE as))
def uu:List Str:=["one","other","base"]
noncomputable def m_:G O:=(bO (bF 1 [2] (dH (gN (aS 3 K23.lF) (ao (af 0) (ao (af 1) (ao (gC (.int 4)) aE))))) (aC 0) (bQ (gN rE (ao (bF 1 [0] (dH (af 1)) (aC 0) b9 (g2 (iI false) (af 0) (af 1))) aE))) (af 0)))
def gJ (as:List S):M R:=fin (m_ (bh uu as))
def sy:List Str:=["one","other","base","known","rows"]
noncomputable def lP:G O:=(aJ (br 3 (iJ 1 [] (dH (gN (aS 3 K33.gJ) (ao (af 0) (ao (af 1) (ao (af 2) aE))))) (aC 0) b9 (af 0) (gC (.bl true))))
 (aJ (br 4 (iJ 1 [0,1,3] (uJ (af 3)) (aC 0) b9 (af 0) (gN (aS 4 K33.lE) (ao (af 1) (ao (af 2) (ao (af 0) (ao (af 3) aE)))))))
 (bO (D8 "answered_still" K33.mK (af 4)))))
def gn (as:List S):M R:=fin (lP (bh sy as))
def vc:List Str:=["depths","pairing","depth"]
noncomputable def vB:G O:=(bO (xy (g2 (nR false) (af 1) (af 0)) (rK (g2 (qQ false) (g2 gW (af 0) (af 1)) (gC .non)) (g2 (kI λi j=>.bl (decide (j < i))) (g2 gW (af 0) (af 1)) (af 2)))))
def lD (as:List S):M R:=fin (vB (bh vc as))
def BH:List Str:=["depths","depth"]
noncomputable def sZ:G O:=(bO (bF 1 [0] (cA (ao (g2 cU (af 1) (gC (.int 1))) aE)) (aC 0) b9 (bF 1 [1,0] (uJ (af 1)) (aC 0) (bQ (gN (aS 3 K33.lD) (ao (af 1) (ao (af 0) (ao (af 2) aE))))) (af 0))))
def jR (as:List S):M R:=fin (sZ (bh BH as))
def Iz:List Str:=["one","other","depth"]
noncomputable def AZ:G O:=(aJ (jy (gN (aS 2 K23.fX) (ao (af 0) (ao (af 1) aE))))
 (aJ (jy (gN (aS 3 K55.cX) (ao (af 2) (ao (gC (.int 0)) (ao (gC (.int 6)) aE)))))
 (bO (gN (aS 2 K33.jR) (ao (gN (aS 3 K33.gn) (ao (af 0) (ao (af 1) (ao (bI aW) aE)))) (ao (af 2) aE))))))
def qp (as:List S):M R:=fin (AZ (bh Iz as))
end K33
namespace K33
open PySem DL K01 WP K51 K52 K55 K23
abbrev Ps:=List (Nat×Nat)
section
variable {κ:Type}{rows:κ->List (List κ)}{i j d e:Nat}{k:κ}{ks:List κ}
noncomputable def LY (rows:κ->List (List κ)):Nat->κ->Bool
 | 0,_=>true
 | j + 1,k=>LY rows j k && (rows k).all λr=>r.any (LY rows j)
theorem uq:LY rows (j + 1) k=true↔LY rows j k=true/\∀r∈rows k,∃x∈r,LY rows j x=true:=by
 show (LY rows j k && _)=true↔_
 simp only [R8,SQ,UN]
theorem uo (h:i<=j) (q:LY rows j k=true):LY rows i k=true:=by
 induction h with
 | refl=>exact q
 | step _ ih=>exact ih (uq.mp q).1
def dA (rows:κ->List (List κ)) (d:Nat) (k:κ):Option Nat:=(R7 (d + 1)).find? λj=>!LY rows j k
theorem jm:dA rows d k=none↔LY rows d k=true:=by
 unfold dA
 rw [ZN]
 constructor
 ·intro h;simpa using h d (by simp)
 ·intro h j hj
  rw [uo (by have:=Sq.mp hj;omega) h]
  decide
theorem IT (h:dA rows d k=some e):LY rows e k=false/\∀i,i < e->LY rows i k=true:=by
 obtain ⟨h1,_,h2⟩:=List.find?_range_eq_some.mp h
 exact ⟨by simpa using h1,λi hi=>by simpa using h2 i hi⟩
theorem IU:dA rows (d + 1) k=if (LY rows d k && !LY rows (d + 1) k)=true then some (d + 1) else dA rows d k:=by
 have e:dA rows (d + 1) k=(dA rows d k).or ([d + 1].find? λj=>!LY rows j k):=by
  show (R7 (d + 1 + 1)).find? _=_
  rw [Xk,List.find?_append];rfl
 rw [e]
 cases q:dA rows d k with
 | none=>
  rw [jm.mp q]
  cases z:LY rows (d + 1) k <;> simp [List.find?,z]
 | some e=>
  have:LY rows d k=false:=by
   cases z:LY rows d k with
   | false=>rfl
   | true=>rw [jm.mpr z] at q;cases q
  rw [this];rfl
theorem Hj (hc:∀k∈ks,∀r∈rows k,∀x∈r,x∈ks) (h:∀k∈ks,LY rows d k=true->LY rows (d + 1) k=true):∀j,∀k∈ks,LY rows d k=true->LY rows j k=true
 | 0,_,_,_=>rfl
 | j + 1,k,hk,q=>uq.mpr ⟨Hj hc h j k hk q,λr hr=>by
  obtain ⟨x,h1,h2⟩:=(uq.mp (h k hk q)).2 r hr
  exact ⟨x,h1,Hj hc h j x (hc k hk r hr x h1) h2⟩⟩
noncomputable def vG (o:Option Nat) (j:Nat):Bool:=match o with
 | none=>true
 | some e=>decide (j < e)
theorem Lr (hs:∀j,LY rows d k=true->LY rows j k=true):vG (dA rows d k) j=LY rows j k:=by
 cases q:dA rows d k with
 | none=>exact (hs j (jm.mp q)).symm
 | some e=>
  obtain ⟨h1,h2⟩:=IT q
  show decide (j < e)=_
  by_cases c:j < e
  ·rw [h2 j c,decide_eq_true c]
  ·cases z:LY rows j k with
   | false=>exact decide_eq_false c
   | true=>rw [uo (by omega) z] at h1;cases h1
theorem xm {rows':κ->List (List κ)}(hc:∀k∈ks,∀r∈rows k,∀x∈r,x∈ks) (he:∀k∈ks,rows k=rows' k):∀j,∀k∈ks,LY rows j k=LY rows' j k
 | 0,_,_=>rfl
 | j + 1,k,hk=>by
  rw [S8,uq,uq,xm hc he j k hk,<-he k hk]
  refine and_congr acZ ⟨λh r hr=>?_,λh r hr=>?_⟩ <;> obtain ⟨x,h1,h2⟩:=h r hr <;> refine ⟨x,h1,?_⟩
  ·rw [<-xm hc he j x (hc k hk r hr x h1)];exact h2
  ·rw [xm hc he j x (hc k hk r hr x h1)];exact h2
end
def jd (ps:Ps):Ps:=(cS (ps.map dP)).map ly
theorem xJ (ps:Ps):∀d∈ps.map dP,iw pF d:=λd hd=>by obtain ⟨x,_,rfl⟩:=R4.mp hd;exact pK x
theorem zL (ps:Ps):(jd ps).map dP=cS (ps.map dP):=back dP ly jZ λd hd=>by
 obtain ⟨x,_,rfl⟩:=R4.mp ((qe (dQ pF) (xJ ps)).2 d hd);exact ⟨x,rfl⟩
theorem HN {p:Nat×Nat}{ps:Ps}:dP p∈ps.map dP↔p∈ps:=by
 rw [R4]
 exact ⟨λ⟨q,h,e⟩=>by rw [<-jZ p,<-e,jZ];exact h,λh=>⟨p,h,rfl⟩⟩
theorem kj {ps:Ps}{q:Nat×Nat}:q∈jd ps↔q∈ps:=by
 rw [<-HN,zL,(kZ (dQ pF) (xJ ps)).2,HN]
theorem t_ (ps:Ps):(jd ps).Pairwise jG:=by
 have:=(kZ (dQ pF) (xJ ps)).1
 rw [<-zL,S_] at this
 exact this.imp fun {a b} h=>(xD a b).mp h
theorem HE {A B:Ps}(hA:A.Pairwise jG) (hB:B.Pairwise jG) (h:∀y,y∈A↔y∈B):A=B:=by
 have up:∀{C:Ps},C.Pairwise jG->(C.map dP).Pairwise λa b=>cI a b=true:=fun {C} hC=>S_.mpr (hC.imp fun {a b} h=>(xD a b).mpr h)
 have e:=zR (dQ pF) (xJ A) (up hA) (up hB) λy=>by
  rw [R4,R4]
  exact ⟨λ⟨q,a,b⟩=>⟨q,(h q).mp a,b⟩,λ⟨q,a,b⟩=>⟨q,(h q).mpr a,b⟩⟩
 have:=congrArg (acI ly) e
 simpa only [Sw,X8,jZ,List.map_id'] using this
section
variable {v w:Wd}{ps qs S:Ps}{p:Nat×Nat}{n j:Nat}
structure r6 (v w:Wd) (S:Ps):Prop where
 ag:∀p∈S,∀q∈S,Ax v w p q
 rg:∀p∈S,oY v w p
theorem r6.sub (h:r6 v w S) (hs:∀p∈ps,p∈S):r6 v w ps:=⟨λp hp q hq=>h.ag p (hs p hp) q (hs q hq),λp hp=>h.rg p (hs p hp)⟩
theorem FZ (hu:ps.Pairwise jG):Good v w ps↔r6 v w ps:=⟨λg=>⟨g.ag,g.rg⟩,λf=>⟨hu.imp_of_mem fun {a b} ha hb h=>by
 have:=(f.ag a ha b hb).eq
 unfold jG at h
 omega,f.ag,f.rg⟩⟩
theorem yL (g:Good v w ps):ps.length<=v.m:=by
 have h:=SS (l₁:=ps.map TQ) (l₂:=R7 v.m) (S_.mpr (g.up.imp λh=>by omega)) λx hx=>by
  obtain ⟨p,hp,rfl⟩:=R4.mp hx
  exact Sq.mpr (g.rg p hp).1
 simpa using h
abbrev T4 (v w:Wd):List Ps:=told v w 4
theorem Cq (t:Pr v w):ps∈T4 v w↔Good v w ps:=by
 rw [u6]
 constructor
 ·rintro ⟨j,_,h⟩;exact ((tN j).mp h).2
 ·intro g;exact ⟨ps.length,SJ (yL g) t.v4,(tN _).mpr ⟨rfl,g⟩⟩
theorem Hy (v w:Wd):∀j,(LG v w j).Nodup
 | 0=>Um _ _
 | j + 1=>by
  refine YX.mpr ⟨λah _=>S_.mpr ?_,(Hy v w j).imp_of_mem fun {a b} _ _ hab x hx y hy e=>?_⟩
  ·exact (((n5 v.m w.m).filter _).filter _).imp λh e=>h (by simpa using e)
  ·obtain ⟨p,_,rfl⟩:=R4.mp hx
   obtain ⟨q,_,rfl⟩:=R4.mp hy
   exact hab (List.append_inj' e rfl).1
theorem Bw (v w:Wd):∀j,(told v w j).Nodup
 | 0=>Um _ _
 | j + 1=>WH.mpr ⟨Bw v w j,Hy v w (j + 1),λa ha b hb e=>by
  obtain ⟨i,hi,h⟩:=(u6 j).mp ha
  have h1:=(sd i h).1
  have h2:=(sd (j + 1) hb).1
  rw [e] at h1
  omega⟩
def dG (ps:Ps) (p:Nat×Nat):Ps:=jd (ps++[p])
theorem A9 {q:Nat×Nat}:q∈dG ps p↔q∈ps\/q=p:=by unfold dG;rw [kj];simp
def kn (v w:Wd) (B:Ps):List Ps:=(T4 v w).filter λps=>B.all λq=>decide (q∈ps)
theorem nj {B:Ps}:ps∈kn v w B↔ps∈T4 v w/\∀q∈B,q∈ps:=by
 unfold kn
 rw [SY,SQ]
 simp
def picks (v w:Wd):Ps:=(R7 v.m).map (λa=>(0,a))++(R7 w.m).map λb=>(1,b)
def kO (v w:Wd) (k:Nat×Nat):Ps:=if k.1=0 then (R7 w.m).map λb=>(k.2,b) else (R7 v.m).map λa=>(a,k.2)
def RW (v w:Wd) (B ps:Ps):List (List Ps):=(picks v w).map λk=>((kO v w k).map (dG ps)).filter λx=>decide (x∈kn v w B)
theorem BK {B:Ps}:∀k∈kn v w B,∀r∈RW v w B k,∀x∈r,x∈kn v w B:=λk _ r hr x hx=>by
 obtain ⟨_,_,rfl⟩:=R4.mp hr
 simpa using (SY.mp hx).2
theorem Nn {B:Ps}:∀k∈kn v w B,RW v w B k=RW v w [] k:=λk hk=>UA λa _=>aag λx hx=>by
 obtain ⟨p,_,rfl⟩:=R4.mp hx
 rw [S8,decide_eq_true_eq,decide_eq_true_eq,nj,nj]
 exact ⟨λh=>⟨h.1,λ_ h=>nomatch h⟩,λh=>⟨h.1,λq hq=>A9.mpr (.inl ((nj.mp hk).2 q hq))⟩⟩
def La (v w:Wd) (j:Nat) (ps:Ps):Bool:=LY (RW v w []) j ps
theorem Ov {B:Ps}(h:ps∈kn v w B):LY (RW v w B) j ps=La v w j ps:=xm BK Nn j ps h
theorem BE:La v w (j + 1) ps=true↔La v w j ps=true/\∀k∈picks v w,∃p∈kO v w k,dG ps p∈T4 v w/\La v w j (dG ps p)=true:=by
 show LY _ (j + 1) ps=true↔_
 rw [uq]
 refine and_congr acZ ⟨λh k hk=>?_,λh r hr=>?_⟩
 ·obtain ⟨x,h1,h2⟩:=h _ (R4.mpr ⟨k,hk,rfl⟩)
  obtain ⟨h3,h4⟩:=SY.mp h1
  obtain ⟨p,h5,rfl⟩:=R4.mp h3
  exact ⟨p,h5,(nj.mp (of_decide_eq_true h4)).1,h2⟩
 ·obtain ⟨k,hk,rfl⟩:=R4.mp hr
  obtain ⟨p,h1,h2,h3⟩:=h k hk
  exact ⟨_,SY.mpr ⟨R4.mpr ⟨p,h1,rfl⟩,decide_eq_true (nj.mpr ⟨h2,λ_ h=>nomatch h⟩)⟩,h3⟩
end
end K33
namespace K33
open PySem DL K01 WP K51 K52 K55 K23 K22
section
variable {α:Type} [DecidableEq α] {e:α->D}{f:α->D}{ks:List α}{k:α}{d:D}
theorem pP (he:∀a b,bg (e a) (e b)=decide (a=b)) (f:α->D):∀(ks:List α) (k:α),gT (ks.map e) (ks.map f) (e k)=if k∈ks then some (f k) else none
 | [],_=>rfl
 | a::ks,k=>by
  rw [Sj,Sj,gT,he,pP he f ks k]
  by_cases h:a=k
  ·subst h;simp
  ·rw [if_neg (by simpa using h)]
   simp [UX h]
theorem Bf (he:∀a b,bg (e a) (e b)=decide (a=b)) (f:α->D) (k:α) (d:D):∀ks:List α,uU (ks.map e) (ks.map f) (e k) d=ks.map λx=>if x=k then d else f x
 | []=>rfl
 | a::ks=>by
  rw [Sj,Sj,uU,he,Bf he f k d ks,Sj]
  simp only [decide_eq_true_eq]
theorem FO (he:∀a b,bg (e a) (e b)=decide (a=b)) (hk:k∈ks):dput (ks.map e,ks.map f) (e k) d=(ks.map e,ks.map λx=>if x=k then d else f x):=by
 unfold dput
 simp only
 rw [pP he,if_pos hk,Bf he]
 rfl
theorem uG (he:∀a b,bg (e a) (e b)=decide (a=b)) (f:α->D):∀(n:Nat) (ks:List α),ks.length=n->ks.Nodup->iH (ks.map λk=>D.tup [e k,f k])=(ks.map e,ks.map f)
 | 0,ks,h,_=>by rw [UU.mp h];rfl
 | n + 1,ks,h,nd=>by
  rcases T_ ks with rfl | ⟨qs,p,rfl⟩
  ·cases h
  ·rw [Ua] at h nd ⊢
   have nd':=WH.mp nd
   have hp:p∉qs:=λhq=>nd'.2.2 p hq p (by simp) rfl
   rw [SA,SA,SA,Sj,WQ,nM,uG he f n qs (by simpa using h) nd'.1]
   unfold dput
   simp only
   rw [pP he,if_neg hp]
   rfl
end
theorem iZ (a b:Ps):bg (bB a) (bB b)=decide (a=b):=by
 show cB (a.map dP) (b.map dP)=_
 induction a generalizing b with
 | nil=>cases b <;> simp [cB]
 | cons x a ih=>
  cases b with
  | nil=>simp [cB]
  | cons y b=>rw [Sj,Sj,gM,ih,K55.vq,S8];simp
theorem Lv {m:Md}(p:Ps) (L:List Ps) (x:R) (hx:g8 x=.ok (L.map bB)):iI false (.d (bB p)) x=.ok (.d (.bl (decide (p∈L)))):=by
 have h1:∀q:Ps,dep (bB q)<=60:=Mr
 unfold iI
 rw [hx,aM,if_pos ⟨dc λd hd=>by obtain ⟨q,_,rfl⟩:=R4.mp hd;exact h1 q,h1 p⟩]
 have:inD (bB p) (L.map bB)=decide (p∈L):=by
  unfold inD
  rw [Xv,S8,UN,decide_eq_true_eq]
  simp only [X8,iZ,decide_eq_true_eq]
  exact ⟨λ⟨x,h,e⟩=>e▸h,λh=>⟨p,h,rfl⟩⟩
 show M.ok (R.d (.bl (inD (bB p) (L.map bB))))=_
 rw [this]
theorem Nj (ps:Ps) (hl:ps.length < 64):qq [.d (bB ps)]=.ok (.d (bB (jd ps))):=by
 refine b_ (eO (ic (b:=false) rfl rfl rfl) (bP (n1 (n1 (x:=.d (bB ps)) (z:=.l .fresh (cS (ps.map dP))) rfl (MQ ps hl)) rfl) rfl ?_))
 rw [<-zL]
theorem MV {ps:Ps}(h:ps.Pairwise jG):jd ps=ps:=HE (t_ ps) h λ_=>kj
theorem Ld (ps:Ps) (p:Nat×Nat) (hl:ps.length < 63):dW (.d (bB ps)) (.d (.tup [dP p]))=.ok (.d (bB (ps++[p]))):=by
 rw [bB,qF _ _ (by simp;omega),bB,SA];rfl
theorem Io (ps:Ps) (p:Nat×Nat) (hl:ps.length < 63):oV [.d (bB ps),.d (dP p)]=.ok (.d (bB (dG ps p))):=
 b_ (bP (c1 (two rfl (bz (aF rfl rfl bu) (by show 1<=1000;decide)) (Ld ps p hl)) (Nj _ (by simp;omega))) rfl rfl)
section
variable {v w:Wd}
theorem KN (hv:v.m<=1000) (hw:w.m<=1000) (s x:Nat):fY [.d v.d,.d w.d,.d (.int s),.d (.int x)]=.ok (.l .fresh ((kO v w (s,x)).map dP)):=by
 have hb:eU false (.d (.int (s:Int))) (.d (.int 0))=.ok (.d (.bl (decide (s=0)))):=by
  rw [K01.eq_int]
  congr 3
  rw [S8];simp
 unfold kO
 by_cases h:s=0
 ·rw [if_pos h,Sw]
  exact b_ (cF (ig (ic rfl rfl (hb.trans (by rw [decide_eq_true h]))) (bP (iz (λb=>dP (x,b)) (gZ (dz (two rfl rfl (i8 _ _))) hw) (by simp;omega) λb _=>⟨_,bz (aF rfl rfl (aF rfl rfl bu)) t2,rfl⟩) rfl rfl)))
 ·rw [if_neg h,Sw]
  exact b_ (eO (ic rfl rfl (hb.trans (by rw [decide_eq_false h]))) (bP (iz (λa=>dP (a,x)) (gZ (dz (two rfl rfl (i8 _ _))) hv) (by simp;omega) λb _=>⟨_,bz (aF rfl rfl (aF rfl rfl bu)) t2,rfl⟩) rfl rfl))
theorem Ir (hv:v.m<=1000) (hw:w.m<=1000):lG [.d v.d,.d w.d]=.ok (.l .fresh ((picks v w).map dP)):=by
 refine b_ (bP (two (iz (λa=>dP (0,a)) (gZ (dz (two rfl rfl (i8 _ _))) hv) (by simp;omega) λb _=>⟨_,bz (aF rfl rfl (aF rfl rfl bu)) t2,rfl⟩) (iz (λa=>dP (1,a)) (gZ (dz (two rfl rfl (i8 _ _))) hw) (by simp;omega) λb _=>⟨_,bz (aF rfl rfl (aF rfl rfl bu)) t2,rfl⟩) (z:=.l .fresh ((picks v w).map dP)) ?_) rfl rfl)
 unfold picks
 rw [SA,Sw,Sw]
 show (if _<=sizeLine then _ else M.bad)=_
 rw [if_pos (by rw [S4];simp;omega)]
 rfl
end
section
variable {α:Type} [DecidableEq α] {e f:α->D}{ks:List α}{k:α}{env:Ev}
theorem Of {act:Ev->M (List D×Ev)}{h f:α->D}{rest:Ev}:∀(ys:List α),(∀y∈ys,act (some (.d (h y))::rest)=.ok ([f y],some (.d (h y))::rest))->∀z:Option S,∃z',bW (aC 0) b9 act (ys.map h) (z::rest)=.ok (ys.map f,z'::rest)
 | [],_,z=>⟨z,rfl⟩
 | y::ys,H,z=>by
  obtain ⟨z',ih⟩:=Of ys (λy hy=>H y (R0 _ hy)) (some (.d (h y)))
  refine ⟨z',?_⟩
  rw [Sj]
  unfold bW
  show (act (some (.d (h y))::rest) >>= _)=_
  rw [H y R1,aM]
  show (bW (aC 0) b9 act (ys.map h) (some (.d (h y))::rest) >>= _)=_
  rw [ih]
  rfl
theorem yt {cap:List Nat}{gi:G (List D)}{gk gv:G R}(he:∀a b,bg (e a) (e b)=decide (a=b)) (nd:ks.Nodup) (hi:gi env=.ok (ks.map e)) (hl:ks.length<=1000000)
  (hb:∀k∈ks,dX (e k)=true/\gk (some (.d (e k))::cE 0 cap env)=.ok (.d (e k))/\∃r,gv (some (.d (e k))::cE 0 cap env)=.ok r/\toD r=.ok (f k)):iJ 1 cap gi (aC 0) b9 gk gv env=.ok (.mf (ks.map e) (ks.map f)):=by
 obtain ⟨z,h⟩:=Of (act:=rA gk gv) (h:=e) (f:=λk=>.tup [e k,f k]) (rest:=cE 0 cap env) ks (λk hk=>by
  obtain ⟨h1,h2,r,h3,h4⟩:=hb k hk
  exact uw h2 rfl h3 h4 h1) none
 unfold iJ i7
 rw [hi,aM,if_pos (by rw [R3];exact hl)]
 show (bW (aC 0) b9 (rA gk gv) (ks.map e) (none::cE 0 cap env) >>= _)=_
 rw [h]
 show M.ok (R.mf (iH _).1 (iH _).2)=_
 rw [uG he f _ ks rfl nd]
theorem mR (he:∀a b,bg (e a) (e b)=decide (a=b)){x:R}(hx:ve x=some (ks.map e,ks.map f)) (ok:dX (e k)=true) (hk:k∈ks):gW x (.d (e k))=.ok (.d (f k)):=by
 unfold gW
 rw [hx]
 simp only
 rw [if_pos ok,pP he,if_pos hk]
theorem A2 (he:∀a b,bg (e a) (e b)=decide (a=b)){x:R}(hx:ve x=some (ks.map e,ks.map f)) (ok:dX (e k)=true){q:Decidable (k∈ks)}:nR false (.d (e k)) x=.ok (.d (.bl (@decide (k∈ks) q))):=by
 unfold nR
 rw [hx]
 simp only
 rw [if_pos ok,pP he]
 by_cases h:k∈ks <;> simp [h]
end
theorem anyM {α:Type}(f:α->Bool) (xs:List α):yz [.l .fresh (xs.map λx=>.bl (f x))]=.ok (.d (.bl (xs.any f))):=by
 have:=uA (λd=>match d with
  | .bl b=>b
  | _=>false) (xs.map λx=>.bl (f x))
 rw [Sw,Sw] at this
 unfold yz
 show (match jw (xs.map λx=>.bl (f x)) with
  | some ks=>M.ok (R.d (.bl (ks.any id)))
  | none=>.bad)=_
 rw [show jw (xs.map λx=>.bl (f x))=some (xs.map f) from this]
 simp [Xv]
section
variable {v w:Wd}
abbrev p6 (r:List Ps):D:=.lst (r.map bB)
theorem Ni (t:Pr v w) (ks:List Ps) (ps:Ps) (hl:ps.length < 63):lE [.d v.d,.d w.d,.d (bB ps),.db (ks.map bB) (ks.map λ_=>.bl true)]=.ok (.l .fresh (((picks v w).map λk=>((kO v w k).map (dG ps)).filter λx=>decide (x∈ks)).map p6)):=by
 have v4:=t.v4
 have w4:=t.w4
 have hg:kg 2 [0,1,2] (cA (ao (g2 bA (af 0) (gC (.int 0))) aE)) (aC 0) b9 (nT (gN (aS 4 K33.fY) (ao (af 2) (ao (af 3) (ao (gC (.int 0)) (ao (af 0) aE)))))) (aC 1) b9 (af 1) (gN (aS 2 K33.oV) (ao (af 4) (ao (af 1) aE)))
   [some (.d v.d),some (.d w.d),some (.d (bB ps)),some (.db (ks.map bB) (ks.map λ_=>.bl true)),none]=.ok (.d (.dct ((dZ v.m w.m).map dP) ((dZ v.m w.m).map λq=>bB (dG ps q)))):=by
  refine (xr (xs:=R7 v.m) (h:=dN) (h':=dP) (λa=>(R7 w.m).map λb=>(a,b)) (λ_ _=>true) (λ_ q=>.tup [dP q,bB (dG ps q)]) (gZ (dz (two rfl rfl (i8 _ _))) (by omega)) (by simp;omega) λa ha=>⟨by simp;omega,λz=>?_,λq hq=>⟨rfl,λ_=>uw rfl rfl (c2 rfl rfl (Io ps q hl)) rfl rfl⟩⟩).trans ?_
  ·show (gN _ _ _ >>= _)=_
   rw [c4 rfl rfl rfl rfl (KN (v:=v) (w:=w) (by omega) (by omega) 0 a)]
   rfl
  ·have e:((R7 v.m).flatMap λa=>(((R7 w.m).map λb=>(a,b)).filter λ_=>true).map λq=>D.tup [dP q,bB (dG ps q)])=(dZ v.m w.m).map λq=>D.tup [dP q,bB (dG ps q)]:=by
    unfold dZ
    rw [W2]
    congr 1
    funext a
    rw [Xo.mpr λ_ _=>rfl]
   rw [e]
   show M.ok (R.d (.dct (iH _).1 (iH _).2))=_
   rw [uG K55.vq _ _ _ rfl (n5 v.m w.m)]
 refine b_ (bC hg rfl (bP (ie (xs:=picks v w) (λk=>dN k.1) (λk=>dN k.2) (λk=>p6 (((kO v w k).map (dG ps)).filter λx=>decide (x∈ks))) ?_ (by unfold picks;simp;omega) λk hk=>?_) rfl (by rw [Sw];rfl)))
 ·show (gN _ _ _ >>= _)=_
  rw [c2 rfl rfl (Ir (v:=v) (w:=w) (by omega) (by omega))]
  rfl
 ·have hin:∀q∈kO v w k,q∈dZ v.m w.m:=λq hq=>by
   rw [nZ]
   have hk:(k.1=0/\k.2 < v.m)\/(k.1≠0/\k.2 < w.m):=by
    unfold picks at hk
    simp only [Sz,R4,Sq] at hk
    rcases hk with ⟨a,h,rfl⟩ | ⟨a,h,rfl⟩
    ·exact .inl ⟨rfl,h⟩
    ·exact .inr ⟨Nat.one_ne_zero,h⟩
   unfold kO at hq
   rcases hk with ⟨h1,h2⟩ | ⟨h1,h2⟩
   ·rw [if_pos h1] at hq
    obtain ⟨b,hb,rfl⟩:=R4.mp hq
    exact ⟨h2,Sq.mp hb⟩
   ·rw [if_neg h1] at hq
    obtain ⟨b,hb,rfl⟩:=R4.mp hq
    exact ⟨Sq.mp hb,h2⟩
  refine ⟨.l .fresh (((((kO v w k).map (dG ps)).filter λx=>decide (x∈ks))).map bB),?_,rfl⟩
  rw [aa1,Sw]
  refine lK (xs:=kO v w k) (h:=dP) (λq=>decide (dG ps q∈ks)) (λq=>bB (dG ps q)) ?_ (by unfold kO;split <;> simp <;> omega) λq hq=>?_
  ·show (gN _ _ _ >>= _)=_
   rw [c4 rfl rfl rfl rfl (KN (v:=v) (w:=w) (by omega) (by omega) k.1 k.2)]
   rfl
  ·have hd:=mR (e:=dP) (f:=λq=>bB (dG ps q)) K55.vq (x:=.d (.dct ((dZ v.m w.m).map dP) ((dZ v.m w.m).map λq=>bB (dG ps q)))) rfl (k:=q) rfl (hin q hq)
   exact ⟨ic (two rfl rfl hd) rfl (A2 (ks:=ks) (f:=λ_=>.bl true) iZ (x:=.mb (ks.map bB) (ks.map λ_=>.bl true)) rfl (g9 (dG ps q))),λ_=>⟨_,two rfl rfl hd,rfl⟩⟩
end
noncomputable def dV:Option Nat->D
 | none=>.non
 | some e=>.int e
theorem Cf (o:Option Nat):qQ false (.d (dV o)) (.d .non)=.ok (.d (.bl o.isNone)):=by cases o <;> rfl
theorem Iw (rs:List (List Ps)) (ks:List Ps) (f:Ps->Option Nat) (h:∀r∈rs,∀x∈r,x∈ks) (h1:rs.length<=1000) (h2:∀r∈rs,r.length<=1000):dU [.d (.lst (rs.map p6)),.db (ks.map bB) (ks.map λk=>dV (f k))]=.ok (.d (.bl (rs.all λr=>r.any λx=>(f x).isNone))):=by
 refine b_ (bP (n1 (iz (xs:=rs) (h:=p6) (λr=>.bl (r.any λx=>(f x).isNone)) rfl (by omega) λr hr=>⟨_,n1 (iz (xs:=r) (h:=bB) (λx=>.bl (f x).isNone) rfl (by have:=h2 r hr;omega) λx hx=>⟨_,two (two rfl rfl (mR (f:=λk=>dV (f k)) iZ rfl (g9 x) (h r hr x hx))) rfl (Cf (f x)),rfl⟩) (anyM _ r),rfl⟩) (allM _ rs)) rfl rfl)
theorem part {κ:Type}{p q:κ->Bool}(h:∀k,q k=true->p k=true):∀l:List κ,(l.filter p).length=(l.filter q).length + (l.filter λk=>p k && !q k).length
 | []=>rfl
 | a::l=>by
  have ih:=part h l
  cases hq:q a with
  | true=>simp [h a hq,hq];omega
  | false=>cases hp:p a <;> simp [hp,hq] <;> omega
abbrev v7 (rows:Ps->List (List Ps)) (k:Ps):D:=.lst ((rows k).map p6)
abbrev eP (ks:List Ps) (rows:Ps->List (List Ps)) (f:Ps->Option Nat) (d:Nat) (g z:Option S):Ev:=[some (.db (ks.map bB) (ks.map (v7 rows))),some (.fn "answered_still"),some (.dk (ks.map bB) (ks.map λk=>dV (f k))),some (.d (.int d)),g,z]
section
variable {ks:List Ps}{rows:Ps->List (List Ps)}
theorem Fj (nd:ks.Nodup) (hl:ks.length<=390000) (hc:∀k∈ks,∀r∈rows k,∀x∈r,x∈ks) (h1:∀k∈ks,(rows k).length<=1000) (h2:∀k∈ks,∀r∈rows k,r.length<=1000):
  ∃d,mK [.db (ks.map bB) (ks.map (v7 rows)),.fn "answered_still"]=.ok (.mf (ks.map bB) (ks.map λk=>dV (dA rows d k)))/\∀k∈ks,LY rows d k=true->LY rows (d + 1) k=true:=by
 have st:∀d k,k∈ks->dU [.d (v7 rows k),.db (ks.map bB) (ks.map λk=>dV (dA rows d k))]=.ok (.d (.bl ((rows k).all λr=>r.any (LY rows d)))):=λd k hk=>by
  rw [Iw (rows k) ks (dA rows d) (hc k hk) (h1 k hk) (h2 k hk)]
  congr 4
  funext r
  congr 1
  funext x
  rw [S8,Option.isNone_iff_eq_none,jm]
 have dx:∀k∈ks,∀x:R,ve x=some (ks.map bB,ks.map (v7 rows))->gW x (.d (bB k))=.ok (.d (v7 rows k)):=λk hk x hx=>mR iZ hx (g9 k) hk
 have key:Wp (uL (bh AE [.db (ks.map bB) (ks.map (v7 rows)),.fn "answered_still"])) λo=>∃r,o=.rt r/\∃d,r=.mf (ks.map bB) (ks.map λk=>dV (dA rows d k))/\∀k∈ks,LY rows d k=true->LY rows (d + 1) k=true:=by
  refine bC (yt (e:=bB) (f:=λk=>dV (dA rows 0 k)) (ks:=ks) iZ nd rfl (by omega) λk hk=>⟨g9 k,rfl,_,rfl,by rw [jm.mpr rfl];rfl⟩) rfl (bC rfl rfl (bC (lK (xs:=ks) (h:=bB) (λk=>LY rows 0 k && !LY rows 1 k) bB rfl (by omega) λk hk=>⟨?_,λ_=>⟨_,rfl,rfl⟩⟩) rfl ?_))
  ·refine xE (b:=LY rows 1 k) (rX ?_)
   exact (c2 (two rfl rfl (dx k hk _ rfl)) rfl (st 0 k hk)).trans rfl
  ·refine Km (λn env=>∃d z,env=eP ks rows (dA rows d) (d + 1) (some (.own ((ks.filter λk=>LY rows d k && !LY rows (d + 1) k).map bB))) z/\n=(ks.filter (LY rows d)).length) (ks.filter (LY rows 0)).length (by have:=TJ (LY rows 0) ks;omega) ⟨0,none,rfl,rfl⟩ ?_
   rintro n _ ⟨d,z,rfl,rfl⟩
   obtain ⟨g,hg⟩:∃g,g=ks.filter λk=>LY rows d k && !LY rows (d + 1) k:=⟨_,rfl⟩
   rw [<-hg]
   have hm:∀k,k∈g↔k∈ks/\LY rows d k=true/\LY rows (d + 1) k=false:=λk=>by rw [hg,SY];simp
   by_cases h0:g=[]
   ·refine .inl ⟨by rw [h0];rfl,bP rfl rfl ⟨_,rfl,d,rfl,λk hk q=>?_⟩⟩
    cases z:LY rows (d + 1) k with
    | true=>rfl
    | false=>have:=(hm k).mpr ⟨hk,q,z⟩;rw [h0] at this;cases this
   ·refine .inr ⟨?_,?_⟩
    ·show M.ok (!(g.map bB).isEmpty)=_
     cases g with
     | nil=>exact absurd rfl h0
     | cons _ _=>rfl
    have RA:=part (p:=LY rows d) (q:=LY rows (d + 1)) (λk h=>uo (Uj d) h) ks
    rw [<-hg] at RA
    have g0:0 < g.length:=List.length_pos_iff.mpr h0
    refine cF (Dd rfl (Ci (ds:=g.map bB) rfl (ug (λi env=>∃z,env=eP ks rows (λk=>if k∈g.take i then some (d + 1) else dA rows d k) (d + 1) (some (.d (.lst (g.map bB)))) z) (g.map bB) ⟨z,by simp⟩ ?_ ?_)))
    ·rintro i hi _ ⟨z,rfl⟩
     have hi':i < g.length:=by simpa using hi
     have e:(g.map bB)[i]=bB g[i]:=Yu ..
     have hk:g[i]∈ks:=((hm _).mp (T7 hi')).1
     rw [e]
     have ev:dput (ks.map bB,ks.map λk=>dV (if k∈g.take i then some (d + 1) else dA rows d k)) (bB g[i]) (.int ((d + 1:Nat):Int))=(ks.map bB,ks.map λk=>dV (if k∈g.take (i + 1) then some (d + 1) else dA rows d k)):=by
      rw [FO iZ hk,XA,Sg hi']
      congr 1
      refine UA λk _=>?_
      simp only [Sz,Option.toList_some,R9]
      by_cases c:k=g[i]
      ·rw [if_pos c,if_pos (.inr c)];rfl
      ·simp only [c,if_false,or_false]
     exact ⟨_,rfl,Nz (ks:=ks.map bB) (vs:=ks.map λk=>dV (if k∈g.take i then some (d + 1) else dA rows d k)) rfl rfl rfl rfl rfl (g9 g[i]) (by rw [R3];omega) ⟨_,rfl,some (.d (bB g[i])),by rw [ev];rfl⟩⟩
    ·rintro _ ⟨z,rfl⟩
     have ev:(ks.map λk=>dV (if k∈g.take (g.map bB).length then some (d + 1) else dA rows d k))=ks.map λk=>dV (dA rows (d + 1) k):=UA λk hk=>by
      rw [R3,WX,IU]
      congr 1
      by_cases c:k∈g
      ·rw [if_pos c,if_pos (by obtain ⟨_,a,b⟩:=(hm k).mp c;rw [a,b];rfl)]
      ·rw [if_neg c,if_neg λz=>c ((hm k).mpr ⟨hk,by simpa using z⟩)]
     show Wp _ _
     unfold eP
     rw [ev]
     refine cF (Nx rfl rfl rfl rfl (gq (lK (xs:=ks) (h:=bB) (λk=>LY rows (d + 1) k && !LY rows (d + 1 + 1) k) bB rfl (by omega) λk hk=>⟨?_,λ_=>⟨_,rfl,rfl⟩⟩) rfl ⟨(ks.filter (LY rows (d + 1))).length,by omega,d + 1,z,rfl,rfl⟩))
     have q1:=mR (f:=λk=>dV (dA rows (d + 1) k)) (ks:=ks) (k:=k) (e:=bB) iZ (x:=.mo (ks.map bB) (ks.map λk=>dV (dA rows (d + 1) k))) rfl (g9 k) hk
     cases c:LY rows (d + 1) k with
     | false=>
      refine Ds (ic (two rfl rfl q1) rfl ((Cf _).trans ?_))
      cases z:dA rows (d + 1) k with
      | none=>rw [jm.mp z] at c;cases c
      | some _=>rfl
     | true=>
      rw [jm.mpr c] at q1
      refine AM (ic (two rfl rfl q1) rfl (Cf none)) (xE (b:=LY rows (d + 1 + 1) k) (rX ((c2 (two rfl rfl (dx k hk _ rfl)) rfl (st (d + 1) k hk)).trans ?_)))
      show M.ok (R.d (.bl _))=M.ok (R.d (.bl (LY rows (d + 1) k && _)))
      rw [c];rfl
 obtain ⟨r,h,d,rfl,hs⟩:=oE key
 exact ⟨d,h,hs⟩
end
section
variable {v w:Wd}{B:Ps}
theorem BN (t:Pr v w):(T4 v w).length<=327680:=rW t 4 (R6 _)
theorem Ph (t:Pr v w){ps:Ps}(h:ps∈T4 v w):ps.length<=4:=SJ (yL ((Cq t).mp h)) t.v4
theorem Iv (t:Pr v w) (hB:B.length<=100):gJ [.d v.d,.d w.d,.d (bB B)]=.ok (.l .fresh ((kn v w B).map bB)):=by
 have tl:=BN t
 refine b_ (bP (lK (xs:=T4 v w) (h:=bB) (λps=>B.all λq=>decide (q∈ps)) bB ?_ (by omega) λps _=>⟨?_,λ_=>⟨_,rfl,rfl⟩⟩) rfl rfl)
 ·show (gN _ _ _ >>= _)=_
  rw [c3 rfl rfl rfl (BB t 4 (R6 _))]
  rfl
 ·refine CZ (n1 (iz (xs:=B) (h:=dP) (λq=>.bl (decide (q∈ps))) rfl (by omega) λq _=>⟨_,two rfl rfl (yN q ps),by rw [K55.Ls];rfl⟩) (allM _ B))
theorem Ot (t:Pr v w) (hB:B.length<=100):∃f:Ps->Option Nat,gn [.d v.d,.d w.d,.d (bB B)]=.ok (.mf ((kn v w B).map bB) ((kn v w B).map λk=>dV (f k)))/\∀j,∀k∈kn v w B,vG (f k) j=La v w j k:=by
 have v4:=t.v4
 have w4:=t.w4
 have tl:=BN t
 have kl:(kn v w B).length<=(T4 v w).length:=TJ _ _
 have nd:(kn v w B).Nodup:=(Bw v w 4).filter _
 have pl:(picks v w).length<=8:=by unfold picks;simp;omega
 obtain ⟨d,h1,h2⟩:=Fj (ks:=kn v w B) (rows:=RW v w B) nd (by omega) BK (λk _=>by unfold RW;rw [R3];omega) (λk _ r hr=>by
  obtain ⟨q,_,rfl⟩:=R4.mp hr
  refine SJ (TJ _ _) ?_
  rw [R3]
  unfold kO
  split <;> simp <;> omega)
 refine ⟨dA (RW v w B) d,?_,λj k hk=>(Lr λj q=>Hj BK h2 j k hk q).trans (Ov hk)⟩
 refine b_ (bC (yt (e:=bB) (f:=λ_=>.bl true) (ks:=kn v w B) iZ nd ?_ (by omega) λk hk=>⟨g9 k,rfl,_,rfl,rfl⟩) rfl (bC (yt (e:=bB) (f:=v7 (RW v w B)) (ks:=kn v w B) iZ nd rfl (by omega) λk hk=>⟨g9 k,rfl,_,c4 rfl rfl rfl rfl (Ni t (kn v w B) k (by have:=Ph t (nj.mp hk).1;omega)),rfl⟩) rfl (bP (r:=.mf ((kn v w B).map bB) ((kn v w B).map λk=>dV (dA (RW v w B) d k))) ?_ rfl rfl)))
 ·show (gN _ _ _ >>= _)=_
  rw [c3 rfl rfl rfl (Iv t hB)]
  rfl
 ·show (match mK [.db ((kn v w B).map bB) ((kn v w B).map (v7 (RW v w B))),.fn "answered_still"] with
   | .ok r=>M.ok (mZ r)
   | _=>.bad)=_
  rw [h1]
  rfl
theorem Ng (ks:List Ps) (f:Ps->Option Nat) (p:Ps) (j:Nat):lD [.db (ks.map bB) (ks.map λk=>dV (f k)),.d (bB p),.d (.int j)]=.ok (.d (.bl (decide (p∈ks) && vG (f p) j))):=by
 have hi:=A2 (ks:=ks) (f:=λk=>dV (f k)) iZ (x:=.mb (ks.map bB) (ks.map λk=>dV (f k))) rfl (g9 p) (q:=inferInstance)
 refine b_ (bP (r:=.d (.bl (decide (p∈ks) && vG (f p) j))) ?_ rfl rfl)
 unfold xy
 rw [show g2 (nR false) (af 1) (af 0) (bh vc [.db (ks.map bB) (ks.map λk=>dV (f k)),.d (bB p),.d (.int j)])=_ from two rfl rfl hi,aM]
 by_cases h:p∈ks
 ·rw [decide_eq_true h]
  have hd:=mR (ks:=ks) (f:=λk=>dV (f k)) iZ (x:=.mb (ks.map bB) (ks.map λk=>dV (f k))) rfl (g9 p) h
  show rK _ _ _=M.ok (R.d (.bl (vG (f p) j)))
  cases q:f p with
  | none=>rw [q] at hd;exact JE (two (two rfl rfl hd) rfl rfl)
  | some e=>
   rw [q] at hd
   refine L7 (two (two rfl rfl hd) rfl rfl) (two (two rfl rfl hd) rfl ?_)
   show M.ok (R.d (.bl (decide ((j:Int) < (e:Int)))))=M.ok (R.d (.bl (decide (j < e))))
   rw [show decide ((j:Int) < (e:Int))=decide (j < e) by rw [S8];simp]
 ·rw [decide_eq_false h];rfl
theorem Nh (ks:List Ps) (f:Ps->Option Nat) (n:Nat) (hn:n<=100) (hl:ks.length<=1000000):jR [.db (ks.map bB) (ks.map λk=>dV (f k)),.d (.int n)]=.ok (.l .fresh ((R7 (n + 1)).map λj=>p6 (ks.filter λk=>vG (f k) j))):=by
 refine b_ (bP (iz (xs:=R7 (n + 1)) (h:=dN) (λj=>p6 (ks.filter λk=>vG (f k) j)) (gZ (n:=n + 1) (dz (two rfl rfl rfl)) (by omega)) (by simp;omega) λj _=>⟨_,lK (xs:=ks) (h:=bB) (λk=>vG (f k) j) bB rfl hl λk hk=>⟨rX ((c3 rfl rfl rfl (Ng ks f k j)).trans ?_),λ_=>⟨_,rfl,rfl⟩⟩,rfl⟩) rfl rfl)
 rw [decide_eq_true hk,VB]
theorem Oo (d m:Nat) (hd:d<=m):K55.cX [.d (.int d),.d (.int 0),.d (.int m)]=.ok (.d .non):=by
 refine nE (pO ?_ (jN ⟨_,rfl⟩))
 show (if decide ((d:Int) < 0)=true then M.ok true else M.ok (decide ((m:Int) < d)))=M.ok false
 rw [decide_eq_false (show ¬(d:Int) < 0 by omega),decide_eq_false (show ¬(m:Int) < d by omega)]
 rfl
theorem LO:kn v w []=T4 v w:=Xo.mpr λ_ _=>rfl
def Ck (v w:Wd) (j:Nat):D:=p6 ((T4 v w).filter (La v w j))
theorem Fg (t:Pr v w) (n:Nat) (hn:n<=6):qp [.d v.d,.d w.d,.d (.int n)]=.ok (.l .fresh ((R7 (n + 1)).map (Ck v w))):=by
 obtain ⟨f,h1,h2⟩:=Ot (B:=[]) t (SG _)
 rw [LO] at h1 h2
 refine b_ (j5 (c2 rfl rfl (AB t)) (j5 (c3 rfl rfl rfl (Oo n 6 hn)) (bP (c2 (c3 rfl rfl (bz bu (by decide)) h1) rfl (Nh (T4 v w) f n (by omega) (by have:=BN t;omega))) rfl ?_)))
 show O.rt (.l .fresh _)=_
 congr 2
 refine UA λj _=>?_
 unfold Ck
 rw [aag λk hk=>h2 j k hk]
end
end K33
namespace K33
open PySem DL K01 WP K51 K52 K55 K23
end K33
namespace K33
open PySem DL K01 WP K51 K52 K55 K23 K22
end K33
namespace DL
open PySem PySem.Spec PyProof.Rows L2
def FA (K:RV) (x:Str) (st:Vj):Prop:=∃f fd,SV K SE x=some (some (.ref f))/\cG K x x st f fd
theorem bY {K:RV}{x:Str}{st:Vj}{f:Se}{u v d p q r:RX}{o n:Option Se}{s:Array (Option RX)}(a:SV K SE x=some (some (.ref f)))
  (l:K.lookup f=some ⟨u,o,.func (Sb x x (aT st) (aO st) (ay st) .none v d p n q r),s⟩) (c:Vd K q x=true) (k:TM K (.ref f)=true):FA K x st:=⟨f,_,a,D7 l c k⟩
end DL
namespace K55
open PySem DL K01 WP K51 K52
theorem Iq (d:Nat) (hd:d<=6):K55.cX [.d (.int d),.d (.int 0),.d (.int 6)]=.ok (.d .non):=by
 refine nE (pO ?_ (jN ⟨_,rfl⟩))
 show (if decide ((d:Int) < 0)=true then M.ok true else M.ok (decide ((6:Int) < d)))=M.ok false
 rw [decide_eq_false (show ¬(d:Int) < 0 by omega),decide_eq_false (show ¬(6:Int) < d by omega)]
 rfl
theorem Az (w:Wd) (hw:gu w) (d:Nat) (hd:d<=6) (hp:w.m ^ d<=600):K55.jv [.d w.d,.d (.int d),.d .non]=.ok (.d (cY w d [])):=by
 refine b_ (j5 (c3 rfl rfl rfl (Iq d hd)) (bC (c2 (two rfl rfl (i8 _ _)) rfl (Iu w.m d hw.hi hd)) rfl (eO (b:=bQ _) (show M.ok (decide ((600:Int) < ((w.m ^ d:Nat):Int)))=.ok false from ?_) ?_)))
 ·rw [decide_eq_false (by omega)]
 ·exact bP (c3 rfl rfl rfl (xO w hw 10 d [] (by omega) hd (by simp;omega))) rfl rfl
end K55
namespace K54
open PySem DL
def Ow:List Str:=["_law_script","_law_one","_law_other","_law_most","_law_told","_law_depth"]
noncomputable def Lp:G O:=(aJ (kJ (c_ 2 (bw (aC 1) (bw (aC 2) cZ))) (gN (aS 2 K55.jA) (ao (af 0) (ao (gD (aA (gC (.int 2)) (aA (gC (.int 3)) (aA (gC (.int 1)) (aA (gC (.int 3)) (aA (gC (.int 2)) (aA (gC (.int 3)) (aA (gC (.int 2)) (aA (gC (.int 4)) aW))))))))) aE))))
 (aJ (br 3 (gN B8 (ao (g2 cU (gN B7 (ao (g2 bA (af 1) (gC (.int 0))) (ao (g2 bA (af 2) (gC (.int 0))) aE))) (gC (.int 1))) (ao (gC (.int 4)) aE))))
 (aJ (cu (bQ (g2 (kI λi j=>.bl (decide (j < i))) (g2 cU (g2 bA (af 1) (gC (.int 0))) (g2 bA (af 2) (gC (.int 0)))) (gC (.int 7)))) (br 3 (gC (.int 3))) eH)
 (aJ (br 4 (gN (aS 3 K33.qp) (ao (af 1) (ao (af 2) (ao (af 3) aE)))))
 (aJ (gm (cA (ao (g2 cU (af 3) (gC (.int 1))) aE)) (aC 5) (cu (bQ (g2 (eU true) (g2 (eU false) (gN (aS 2 (λas=>K55.jv (as++[.d .non]))) (ao (af 1) (ao (af 5) aE))) (gN (aS 2 (λas=>K55.jv (as++[.d .non]))) (ao (af 2) (ao (af 5) aE)))) (g2 (iI false) (bI aW) (g2 bA (af 4) (af 5))))) (bO (gC (.bl false))) eH))
 (bO (gC (.bl true))))))))
def um (as:List S):M R:=fin (Lp (bh Ow as))
end K54
namespace K54
open PySem PySem.Spec PyProof.Rows L2 DL DX
structure dh (w:SO) (K:RV) (mg:Str->Option RX):Prop where
 all:mg "all"=none
 any:mg "any"=none
 bool:mg "bool"=none
 int:mg "int"=none
 isinstance:mg "isinstance"=none
 len:mg "len"=none
 list:mg "list"=none
 max:mg "max"=none
 min:mg "min"=none
 range:mg "range"=none
 set:mg "set"=none
 sorted:mg "sorted"=none
 tuple:mg "tuple"=none
 MOST_DEPTH:xj K mg "MOST_DEPTH" (.int 6)
 MOST_POWER:xj K mg "MOST_POWER" (.int 600)
 MOST_SMALL:xj K mg "MOST_SMALL" (.int 4)
 fv_answered_still:Fp K mg "answered_still"
section
variable {P:Sm}{w:SO}{K:RV}{mg:Str->Option RX}{base:TU}{f:Se}{fd:SH}
abbrev qb:Vj:=top 6
theorem CL:bq ["thing"] ["thing"] (ay qb):=⟨rfl,rfl,rfl,by decide +kernel,rfl,by decide +kernel,by decide +kernel⟩
theorem Af (m:dh w K mg) (F:cG K "is_whole" "is_whole" qb f fd) (hm:mg "is_whole"=some (.ref f)):bJ P w K mg base 1 1 "is_whole" K01.oW:=
 have sc:=CL
 bG (k:=0) (gB:=K01.vC) F hm sc (λ_ _ _ _ _ _ us hl=>match us,hl with | [_],_=>rfl) (λcdv A outer s H E J T hr=>
 (aG (aY (Bj (n_ Jq DB m.int (aa 0) m.isinstance) (rP (Kc (n_ Gi BX m.bool (aa 0) m.isinstance))))))) (λas r _ h=>h)
abbrev oB:Vj:=top 7
theorem Av:bq ["world","many","marks","arrows"] ["world"] (ay oB):=⟨rfl,rfl,rfl,by decide +kernel,rfl,by decide +kernel,by decide +kernel⟩
theorem yq (m:dh w K mg) (F:cG K "tongue_of" "tongue_of" oB f fd) (hm:mg "tongue_of"=some (.ref f)):bJ P w K mg base 1 1 "tongue_of" K23.iR:=
 have sc:=Av
 bG (k:=0) (gB:=K23.s_) F hm sc (λ_ _ _ _ _ _ us hl=>match us,hl with | [_],_=>rfl) (λcdv A outer s H E J T hr=>
 (av (jq (aa 0) (cC (aP (az 1 sc.nd) (aP (az 2 sc.nd) (aP (az 3 sc.nd) bZ)))))
 (aG (aY (a_ (au (bM (ak (bx ["name","points"] [] (bR (aa 2)) (λ_ _ _ _ _ hc=>⟨(cC (aP (az 0 (bL rfl)) (aP (az 1 (bL rfl)) bZ))),bf,(aa 0)⟩)) aq) m.tuple) (au (bM (ak (bx ["name","pairs"] [] (bR (aa 3)) (λ_ _ _ _ _ hc=>⟨(cC (aP (az 0 (bL rfl)) (aP (az 1 (bL rfl)) bZ))),bf,(aa 0)⟩)) aq) m.tuple) aK))))))) (λas r _ h=>h)
abbrev kY:Vj:=top 8
theorem wX:bq ["one","other"] ["one","other"] (ay kY):=⟨rfl,rfl,rfl,by decide +kernel,rfl,by decide +kernel,by decide +kernel⟩
theorem uD (m:dh w K mg) (htongue_of:bJ P w K mg base 1 1 "tongue_of" K23.iR) (F:cG K "need_tongue" "need_tongue" kY f fd) (hm:mg "need_tongue"=some (.ref f)):bJ P w K mg base 2 2 "need_tongue" K23.iQ:=
 have sc:=wX
 bG (k:=1) (gB:=K23.pI) F hm sc (λ_ _ _ _ _ _ us hl=>match us,hl with | [_,_],_=>rfl) (λcdv A outer s H E J T hr=>
 (aG (cg (tV hr.units (aV htongue_of hr (ak (aa 0) aq)) (aV htongue_of hr (ak (aa 1) aq))) (aG jX) bV))) (λas r _ h=>h)
abbrev iE:Vj:=top 11
theorem qK:bq ["worlds","world"] ["worlds"] (ay iE):=⟨rfl,rfl,rfl,by decide +kernel,rfl,by decide +kernel,by decide +kernel⟩
theorem pe (m:dh w K mg) (F:cG K "need_few_points" "need_few_points" iE f fd) (hm:mg "need_few_points"=some (.ref f)):bJ P w K mg base 1 1 "need_few_points" K23.fQ:=
 have sc:=qK
 bG (k:=0) (gB:=K23.kK) F hm sc (λ_ _ _ _ _ _ us hl=>match us,hl with | [_],_=>rfl) (λcdv A outer s H E J T hr=>
 (aG (d_ (jr (aa 0)) (az 1 sc.nd) (aG (cg (iL qA (gK λ_ _ _=>.bl _) (aN (aa 1) aB) (iM m.MOST_SMALL)) (aG jX) bV))))) (λas r _ h=>h)
abbrev mF:Vj:=top 12
theorem zy:bq ["one","other"] ["one","other"] (ay mF):=⟨rfl,rfl,rfl,by decide +kernel,rfl,by decide +kernel,by decide +kernel⟩
theorem wN (m:dh w K mg) (hneed_tongue:bJ P w K mg base 2 2 "need_tongue" K23.iQ) (hneed_few_points:bJ P w K mg base 1 1 "need_few_points" K23.fQ) (F:cG K "need_small" "need_small" mF f fd) (hm:mg "need_small"=some (.ref f)):bJ P w K mg base 3 2 "need_small" K23.fX:=
 have sc:=zy
 bG (k:=2) (gB:=K23.qV) F hm sc (λ_ _ _ _ _ _ us hl=>match us,hl with | [_,_],_=>rfl) (λcdv A outer s H E J T hr=>
 (av (gH (aV hneed_tongue hr (ak (aa 0) (ak (aa 1) aq))))
 (aG (gH (aV hneed_few_points hr (ak (a_ (au (aa 0) (au (aa 1) aK))) aq)))))) (λas r _ h=>h)
abbrev mE:Vj:=top 13
theorem zx:bq ["told","least","most"] ["told","least","most"] (ay mE):=⟨rfl,rfl,rfl,by decide +kernel,rfl,by decide +kernel,by decide +kernel⟩
theorem wM (m:dh w K mg) (his_whole:bJ P w K mg base 1 1 "is_whole" K01.oW) (F:cG K "need_count" "need_count" mE f fd) (hm:mg "need_count"=some (.ref f)):bJ P w K mg base 2 3 "need_count" K55.cX:=
 have sc:=zx
 bG (k:=1) (gB:=K55.qU) F hm sc (λ_ _ _ _ _ _ us hl=>match us,hl with | [_,_,_],_=>rfl) (λcdv A outer s H E J T hr=>
 (aG (cg (nq (tW (kq (gf (aV his_whole hr (ak (aa 0) aq)))) (tW (iL H_ (gK λ_ _ _=>.bl _) (aa 0) (aa 1)) (uV (iL qA (gK λ_ _ _=>.bl _) (aa 0) (aa 2)))))) (aG jX) bV))) (λas r _ h=>h)
abbrev u5:Vj:=top 15
theorem Hi:bq ["pairs"] ["pairs"] (ay u5):=⟨rfl,rfl,rfl,by decide +kernel,rfl,by decide +kernel,by decide +kernel⟩
theorem DN (m:dh w K mg) (F:cG K "rising" "rising" u5 f fd) (hm:mg "rising"=some (.ref f)):bJ P w K mg base 1 1 "rising" K23.qq:=
 have sc:=Hi
 bG (k:=0) (gB:=K23.A0) F hm sc (λ_ _ _ _ _ _ us hl=>match us,hl with | [_],_=>rfl) (λcdv A outer s H E J T hr=>
 (av (cg (zf (aa 0) kr) (aG (aY (a_ aK))) bV)
 (aG (aY (bM (ak (vP hr.units (ak (aa 0) aq) m.sorted m.set) aq) m.tuple))))) (λas r _ h=>h)
abbrev CV:Vj:=top 16
theorem MT:bq ["world","one","other","many","marks","arrows","bearing","leading"] ["world","one","other"] (ay CV):=⟨rfl,rfl,rfl,by decide +kernel,rfl,by decide +kernel,by decide +kernel⟩
theorem IL (m:dh w K mg) (F:cG K "view" "view" CV f fd) (hm:mg "view"=some (.ref f)):bJ P w K mg base 1 3 "view" K23.xh:=
 have sc:=MT
 bG (k:=0) (gB:=K23.HW) F hm sc (λ_ _ _ _ _ _ us hl=>match us,hl with | [_,_,_],_=>rfl) (λcdv A outer s H E J T hr=>
 (av (jq (aa 0) (cC (aP (az 3 sc.nd) (aP (az 4 sc.nd) (aP (az 5 sc.nd) bZ)))))
 (av (aL 6 sc.nd (bM (ak (bx ["name","points"] [1] (bR (aa 4)) (λ_ _ _ _ _ hc=>⟨(cC (aP (az 0 (bL rfl)) (aP (az 1 (bL rfl)) bZ))),bf,(jH hr.units (aa 2) (aa 1))⟩)) aq) m.tuple))
 (av (aL 7 sc.nd (bM (ak (bx ["name","pairs"] [1,2] (bR (aa 5)) (λ_ _ _ _ _ hc=>⟨(cC (aP (az 0 (bL rfl)) (aP (az 1 (bL rfl)) bZ))),bf,(jH hr.units (a_ (au (aa 2) (au (aa 3) aK))) (aa 1))⟩)) aq) m.tuple))
 (aG (aY (a_ (au (pX hr.units (aa 1) (aa 2)) (au (aa 6) (au (aa 7) aK)))))))))) (λas r _ h=>h)
abbrev zM:Vj:=top 17
theorem Kq:bq ["world"] ["world"] (ay zM):=⟨rfl,rfl,rfl,by decide +kernel,rfl,by decide +kernel,by decide +kernel⟩
theorem FG (m:dh w K mg) (QJ:bJ P w K mg base 1 3 "view" K23.xh) (F:cG K "views" "views" zM f fd) (hm:mg "views"=some (.ref f)):bJ P w K mg base 2 1 "views" K23.oX:=
 have sc:=Kq
 bG (k:=1) (gB:=K23.Eg) F hm sc (λ_ _ _ _ _ _ us hl=>match us,hl with | [_],_=>rfl) (λcdv A outer s H E J T hr=>
 (aG (aY (tY hr.units ["one","other"] [0] (dI (bD (ak (aN (aa 0) aB) aq) m.range)) (λ_ _ _ _ _ hc=>⟨(az 0 (bL rfl)),bf,(bD (ak (aN (aa 2) aB) aq) m.range),(az 1 (bL rfl)),bf,(a_ (au (aa 0) (au (aa 1) aK))),(aV QJ hr (ak (aa 2) (ak (aa 0) (ak (aa 1) aq))))⟩))))) (λas r _ h=>h)
abbrev zp:Vj:=top 18
theorem Ko:bq ["first","second","pair","again"] ["first","second","pair","again"] (ay zp):=⟨rfl,rfl,rfl,by decide +kernel,rfl,by decide +kernel,by decide +kernel⟩
theorem Fz (m:dh w K mg) (F:cG K "agree" "agree" zp f fd) (hm:mg "agree"=some (.ref f)):bJ P w K mg base 1 4 "agree" K23.e_:=
 have sc:=Ko
 bG (k:=0) (gB:=K23.Ec) F hm sc (λ_ _ _ _ _ _ us hl=>match us,hl with | [_,_,_,_],_=>rfl) (λcdv A outer s H E J T hr=>
 (aG (aY (pX hr.units (gg hr.units (aa 0) (a_ (au (aN (aa 2) aB) (au (aN (aa 3) aB) aK)))) (gg hr.units (aa 1) (a_ (au (aN (aa 2) aB) (au (aN (aa 3) aB) aK)))))))) (λas r _ h=>h)
abbrev kW:Vj:=top 19
theorem wW:bq ["first","second","pairing","pair","again"] ["first","second","pairing","pair"] (ay kW):=⟨rfl,rfl,rfl,by decide +kernel,rfl,by decide +kernel,by decide +kernel⟩
theorem uC (m:dh w K mg) (P1:bJ P w K mg base 1 4 "agree" K23.e_) (F:cG K "goes_behind" "goes_behind" kW f fd) (hm:mg "goes_behind"=some (.ref f)):bJ P w K mg base 2 4 "goes_behind" K23.iP:=
 have sc:=wW
 bG (k:=1) (gB:=K23.pH) F hm sc (λ_ _ _ _ _ _ us hl=>match us,hl with | [_,_,_,_],_=>rfl) (λcdv A outer s H E J T hr=>
 (av (cg (nq (Bg (nt (aa 2)) (ze (JX hr.units (aa 3) (aN (aa 2) (Bl aB)))))) (aG (aY nu)) bV)
 (av (d_ (jr (aa 2)) (az 4 sc.nd) (aG (cg (nq (tW (kq (gf (aV P1 hr (ak (aa 0) (ak (aa 1) (ak (aa 3) (ak (aa 4) aq))))))) (uV (kq (gf (aV P1 hr (ak (aa 0) (ak (aa 1) (ak (aa 4) (ak (aa 3) aq)))))))))) (aG (aY nu)) bV)))
 (aG (aY nu))))) (λas r _ h=>h)
abbrev qi:Vj:=top 20
theorem CN:bq ["one","other","most","first","second","pairs","longest","told","step"] ["one","other","most"] (ay qi):=⟨rfl,rfl,rfl,by decide +kernel,rfl,by decide +kernel,by decide +kernel⟩
theorem Aj (m:dh w K mg) (hneed_small:bJ P w K mg base 3 2 "need_small" K23.fX) (hneed_count:bJ P w K mg base 2 3 "need_count" K55.cX) (Qg:bJ P w K mg base 2 1 "views" K23.oX) (P1:bJ P w K mg base 1 4 "agree" K23.e_) (hgoes_behind:bJ P w K mg base 2 4 "goes_behind" K23.iP) (F:cG K "pairings" "pairings" qi f fd) (hm:mg "pairings"=some (.ref f)):bJ P w K mg base 4 3 "pairings" K23.lF:=
 have sc:=CN
 bG (k:=3) (gB:=K23.vE) F hm sc (λ_ _ _ _ _ _ us hl=>match us,hl with | [_,_,_],_=>rfl) (λcdv A outer s H E J T hr=>
 (av (gH (aV hneed_small hr (ak (aa 0) (ak (aa 1) aq))))
 (av (gH (aV hneed_count hr (ak (aa 2) (ak aB (ak (iM m.MOST_SMALL) aq)))))
 (av (aL 3 sc.nd (aV Qg hr (ak (aa 0) aq)))
 (av (aL 4 sc.nd (aV Qg hr (ak (aa 1) aq)))
 (av (aL 5 sc.nd (CC ["a","b"] [1,3,4] (dI (bD (ak (aN (aa 0) aB) aq) m.range)) (λ_ _ _ _ _ hc=>⟨(az 0 (bL rfl)),bf,(bD (ak (aN (aa 2) aB) aq) m.range),(az 1 (bL rfl)),(eB (gf (aV P1 hr (ak (aa 3) (ak (aa 4) (ak (a_ (au (aa 0) (au (aa 1) aK))) (ak (a_ (au (aa 0) (au (aa 1) aK))) aq))))))),(a_ (au (aa 0) (au (aa 1) aK)))⟩)))
 (av (n9 5 (aL 6 sc.nd (eY (au (a_ aK) aK))))
 (av (aL 7 sc.nd (eY (au (a_ aK) aK)))
 (av (d_ (bD (ak (aa 2) aq) m.range) (az 8 sc.nd) (av (n9 5 (CA 6 ["ahead","pair"] [5,3,4] sc.nd (bR (aa 6)) (λ_ _ _ _ _ hc=>⟨(az 0 (bL rfl)),bf,(jr (aa 2)),(az 1 (bL rfl)),(eB (gf (aV hgoes_behind hr (ak (aa 3) (ak (aa 4) (ak (aa 0) (ak (aa 1) aq))))))),(fS (aa 0) (a_ (au (aa 1) aK)))⟩)))
 (aG (An 7 (aa 6)))))
 (aG (aY (aa 7)))))))))))) (λas r _ h=>h)
abbrev zo:Vj:=top 23
theorem Kn:bq ["pairing","pair"] ["pairing","pair"] (ay zo):=⟨rfl,rfl,rfl,by decide +kernel,rfl,by decide +kernel,by decide +kernel⟩
theorem Fy (m:dh w K mg) (Qo:bJ P w K mg base 1 1 "rising" K23.qq) (F:cG K "added" "added" zo f fd) (hm:mg "added"=some (.ref f)):bJ P w K mg base 2 2 "added" K33.oV:=
 have sc:=Kn
 bG (k:=1) (gB:=K33.Eb) F hm sc (λ_ _ _ _ _ _ us hl=>match us,hl with | [_,_],_=>rfl) (λcdv A outer s H E J T hr=>
 (aG (aY (aV Qo hr (ak (fS (aa 0) (a_ (au (aa 1) aK))) aq))))) (λas r _ h=>h)
abbrev mG:Vj:=top 24
theorem zA:bq ["one","other","side","point"] ["one","other","side","point"] (ay mG):=⟨rfl,rfl,rfl,by decide +kernel,rfl,by decide +kernel,by decide +kernel⟩
theorem wO (m:dh w K mg) (F:cG K "pairs_with" "pairs_with" mG f fd) (hm:mg "pairs_with"=some (.ref f)):bJ P w K mg base 1 4 "pairs_with" K33.fY:=
 have sc:=zA
 bG (k:=0) (gB:=K33.qW) F hm sc (λ_ _ _ _ _ _ us hl=>match us,hl with | [_,_,_,_],_=>rfl) (λcdv A outer s H E J T hr=>
 (av (cg (kP hr.units (aa 2) aB) (aG (aY (bx ["answer"] [3] (dI (bD (ak (aN (aa 1) aB) aq) m.range)) (λ_ _ _ _ _ hc=>⟨(az 0 (bL rfl)),bf,(a_ (au (aa 1) (au (aa 0) aK)))⟩)))) bV)
 (aG (aY (bx ["answer"] [3] (dI (bD (ak (aN (aa 0) aB) aq) m.range)) (λ_ _ _ _ _ hc=>⟨(az 0 (bL rfl)),bf,(a_ (au (aa 0) (au (aa 1) aK)))⟩)))))) (λas r _ h=>h)
abbrev ql:Vj:=top 25
theorem CO:bq ["one","other"] ["one","other"] (ay ql):=⟨rfl,rfl,rfl,by decide +kernel,rfl,by decide +kernel,by decide +kernel⟩
theorem Ak (m:dh w K mg) (F:cG K "picks_of" "picks_of" ql f fd) (hm:mg "picks_of"=some (.ref f)):bJ P w K mg base 1 2 "picks_of" K33.lG:=
 have sc:=CO
 bG (k:=0) (gB:=K33.vF) F hm sc (λ_ _ _ _ _ _ us hl=>match us,hl with | [_,_],_=>rfl) (λcdv A outer s H E J T hr=>
 (aG (aY (dJ (bx ["point"] [] (dI (bD (ak (aN (aa 0) aB) aq) m.range)) (λ_ _ _ _ _ hc=>⟨(az 0 (bL rfl)),bf,(a_ (au aB (au (aa 0) aK)))⟩)) (bx ["point"] [] (dI (bD (ak (aN (aa 1) aB) aq) m.range)) (λ_ _ _ _ _ hc=>⟨(az 0 (bL rfl)),bf,(a_ (au aB (au (aa 0) aK)))⟩)))))) (λas r _ h=>h)
abbrev qf:Vj:=top 26
theorem CM:bq ["one","other","pairing","known","grown"] ["one","other","pairing","known"] (ay qf):=⟨rfl,rfl,rfl,by decide +kernel,rfl,by decide +kernel,by decide +kernel⟩
theorem Ai (m:dh w K mg) (hpairs_with:bJ P w K mg base 1 4 "pairs_with" K33.fY) (Qp:bJ P w K mg base 2 2 "added" K33.oV) (hpicks_of:bJ P w K mg base 1 2 "picks_of" K33.lG) (F:cG K "outcomes" "outcomes" qf f fd) (hm:mg "outcomes"=some (.ref f)):bJ P w K mg base 3 4 "outcomes" K33.lE:=
 have sc:=CM
 bG (k:=2) (gB:=K33.vD) F hm sc (λ_ _ _ _ _ _ us hl=>match us,hl with | [_,_,_,_],_=>rfl) (λcdv A outer s H E J T hr=>
 (av (aL 4 sc.nd (tY hr.units ["a","pair"] [0,1,2] (dI (bD (ak (aN (aa 0) aB) aq) m.range)) (λ_ _ _ _ _ hc=>⟨(az 0 (bL rfl)),bf,(jr (aV hpairs_with hr (ak (aa 2) (ak (aa 3) (ak aB (ak (aa 0) aq)))))),(az 1 (bL rfl)),bf,(aa 1),(aV Qp hr (ak (aa 4) (ak (aa 1) aq)))⟩)))
 (aG (aY (bx ["side","point"] [0,1,4,3] (bR (aV hpicks_of hr (ak (aa 0) (ak (aa 1) aq)))) (λ_ _ _ _ _ hc=>⟨(cC (aP (az 0 (bL rfl)) (aP (az 1 (bL rfl)) bZ))),bf,(bx ["pair"] [4,5] (bR (aV hpairs_with hr (ak (aa 2) (ak (aa 3) (ak (aa 0) (ak (aa 1) aq)))))) (λ_ _ _ _ _ hc=>⟨(az 0 (bL rfl)),(eB (JW hr.units (gg hr.units (aa 1) (aa 0)) (aa 2))),(gg hr.units (aa 1) (aa 0))⟩) (hcl:=iG hc rfl))⟩)))))) (λas r _ h=>h)
abbrev jb:Vj:=top 27
theorem rQ:bq ["rows","depths"] ["rows","depths"] (ay jb):=⟨rfl,rfl,rfl,by decide +kernel,rfl,by decide +kernel,by decide +kernel⟩
theorem qH (m:dh w K mg) (F:cG K "answered_still" "answered_still" jb f fd) (hm:mg "answered_still"=some (.ref f)):bJ P w K mg base 1 2 "answered_still" K33.dU:=
 have sc:=rQ
 bG (k:=0) (gB:=K33.lO) F hm sc (λ_ _ _ _ _ _ us hl=>match us,hl with | [_,_],_=>rfl) (λcdv A outer s H E J T hr=>
 (aG (aY (Bh (ak (bx ["row"] [1] (bR (aa 0)) (λ_ _ _ _ _ hc=>⟨(az 0 (bL rfl)),bf,(JY (ak (bx ["pairing"] [1] (bR (aa 0)) (λ_ _ _ _ _ hc=>⟨(az 0 (bL rfl)),bf,(EU (gg hr.units (aa 1) (aa 0)) kr)⟩) (hcl:=iG hc rfl)) aq) m.any)⟩)) aq) m.all)))) (λas r _ h=>h)
abbrev uZ:Vj:=top 28
theorem Hh:bq ["rows","stays","depths","depth","gone","pairing"] ["rows","stays"] (ay uZ):=⟨rfl,rfl,rfl,by decide +kernel,rfl,by decide +kernel,by decide +kernel⟩
theorem DM (m:dh w K mg) (hanswered_still:bJ P w K mg base 1 2 "answered_still" K33.dU) (F:cG K "peeled" "peeled" uZ f fd) (hm:mg "peeled"=some (.ref f)):bJ P w K mg base 2 2 "peeled" K33.mK:=
 have sc:=Hh
 bG (k:=1) (gB:=K33.uL) F hm sc (λ_ _ _ _ _ _ us hl=>match us,hl with | [_,_],_=>rfl) (λcdv A outer s H E J T hr=>
 (av (aL 2 sc.nd (tX hr.units ["pairing"] [] (kQ (aa 0)) (λ_ _ _ _ _ hc=>⟨(az 0 (bL rfl)),bf,(aa 0),kr⟩)))
 (av (aL 3 sc.nd aB)
 (av (lU 4 ["pairing"] [1,0,2] sc.nd (kQ (aa 0)) (λ_ _ _ _ _ hc=>⟨(az 0 (bL rfl)),(eB (kq (gf (zh 1 hanswered_still m.fv_answered_still hr (ak (gg hr.units (aa 2) (aa 0)) (ak (aa 3) aq)) Bk)))),(aa 0)⟩))
 (av (CB 400000 (nt (aa 4)) (av (n9 4 (d_ (jr (aa 4)) (az 5 sc.nd) (aG (GZ 2 hr.units (aa 3) (aa 5)))))
 (av (ER 3 sc.nd aB)
 (aG (lU 4 ["pairing"] [2,1,0] sc.nd (kQ (aa 0)) (λ_ _ _ _ _ hc=>⟨(az 0 (bL rfl)),(eB (nq (Bg (zf (gg hr.units (aa 1) (aa 0)) kr) (ze (kq (gf (zh 2 hanswered_still m.fv_answered_still hr (ak (gg hr.units (aa 3) (aa 0)) (ak (aa 1) aq)) Bk))))))),(aa 0)⟩))))))
 (aG (aY (aa 2)))))))) (λas r _ h=>h)
abbrev jt:Vj:=top 29
theorem t7:bq ["one","other","base"] ["one","other","base"] (ay jt):=⟨rfl,rfl,rfl,by decide +kernel,rfl,by decide +kernel,by decide +kernel⟩
theorem rC (m:dh w K mg) (P_:bJ P w K mg base 4 3 "pairings" K23.lF) (F:cG K "pairings_with" "pairings_with" jt f fd) (hm:mg "pairings_with"=some (.ref f)):bJ P w K mg base 5 3 "pairings_with" K33.gJ:=
 have sc:=t7
 bG (k:=4) (gB:=K33.m_) F hm sc (λ_ _ _ _ _ _ us hl=>match us,hl with | [_,_,_],_=>rfl) (λcdv A outer s H E J T hr=>
 (aG (aY (bx ["pairing"] [2] (bR (aV P_ hr (ak (aa 0) (ak (aa 1) (ak (iM m.MOST_SMALL) aq))))) (λ_ _ _ _ _ hc=>⟨(az 0 (bL rfl)),(eB (gf (Bh (ak (bx ["pair"] [0] (bR (aa 1)) (λ_ _ _ _ _ hc=>⟨(az 0 (bL rfl)),bf,(jH hr.units (aa 0) (aa 1))⟩) (hcl:=iG hc rfl)) aq) m.all))),(aa 0)⟩))))) (λas r _ h=>h)
abbrev jc:Vj:=top 30
theorem rR:bq ["one","other","base","known","rows"] ["one","other","base"] (ay jc):=⟨rfl,rfl,rfl,by decide +kernel,rfl,by decide +kernel,by decide +kernel⟩
theorem qI (m:dh w K mg) (hpairings_with:bJ P w K mg base 5 3 "pairings_with" K33.gJ) (P9:bJ P w K mg base 3 4 "outcomes" K33.lE) (Qm:bJ P w K mg base 2 2 "peeled" K33.mK) (F:cG K "parting_depths" "parting_depths" jc f fd) (hm:mg "parting_depths"=some (.ref f)):bJ P w K mg base 6 3 "parting_depths" K33.gn:=
 have sc:=rR
 bG (k:=5) (gB:=K33.lP) F hm sc (λ_ _ _ _ _ _ us hl=>match us,hl with | [_,_,_],_=>rfl) (λcdv A outer s H E J T hr=>
 (av (aL 3 sc.nd (tX hr.units ["pairing"] [] (bR (aV hpairings_with hr (ak (aa 0) (ak (aa 1) (ak (aa 2) aq))))) (λ_ _ _ _ _ hc=>⟨(az 0 (bL rfl)),bf,(aa 0),nu⟩)))
 (av (Cz 4 hr.units ["pairing"] [0,1,3] sc.nd (kQ (aa 3)) (λ_ _ _ _ _ hc=>⟨(az 0 (bL rfl)),bf,(aa 0),(aV P9 hr (ak (aa 1) (ak (aa 2) (ak (aa 0) (ak (aa 3) aq)))))⟩))
 (aG (aY (G0 Qm m.fv_answered_still hr (aa 4))))))) (λas r _ h=>h)
abbrev qa:Vj:=top 31
theorem CK:bq ["depths","pairing","depth"] ["depths","pairing","depth"] (ay qa):=⟨rfl,rfl,rfl,by decide +kernel,rfl,by decide +kernel,by decide +kernel⟩
theorem Ae (m:dh w K mg) (F:cG K "in_layer" "in_layer" qa f fd) (hm:mg "in_layer"=some (.ref f)):bJ P w K mg base 1 3 "in_layer" K33.lD:=
 have sc:=CK
 bG (k:=0) (gB:=K33.vB) F hm sc (λ_ _ _ _ _ _ us hl=>match us,hl with | [_,_,_],_=>rfl) (λcdv A outer s H E J T hr=>
 (aG (aY (Bj (J6 hr.units (aa 1) (aa 0)) (rP (MC (EU (gg hr.units (aa 0) (aa 1)) kr) (rP (MB (gg hr.units (aa 0) (aa 1)) (aa 2))))))))) (λas r _ h=>h)
abbrev oz:Vj:=top 32
theorem Au:bq ["depths","depth"] ["depths","depth"] (ay oz):=⟨rfl,rfl,rfl,by decide +kernel,rfl,by decide +kernel,by decide +kernel⟩
theorem yp (m:dh w K mg) (hin_layer:bJ P w K mg base 1 3 "in_layer" K33.lD) (F:cG K "layers_of" "layers_of" oz f fd) (hm:mg "layers_of"=some (.ref f)):bJ P w K mg base 2 2 "layers_of" K33.jR:=
 have sc:=Au
 bG (k:=1) (gB:=K33.sZ) F hm sc (λ_ _ _ _ _ _ us hl=>match us,hl with | [_,_],_=>rfl) (λcdv A outer s H E J T hr=>
 (aG (aY (bx ["step"] [0] (dI (bD (ak (dJ (aa 1) aB) aq) m.range)) (λ_ _ _ _ _ hc=>⟨(az 0 (bL rfl)),bf,(bx ["pairing"] [1,0] (kQ (aa 1)) (λ_ _ _ _ _ hc=>⟨(az 0 (bL rfl)),(eB (gf (aV hin_layer hr (ak (aa 1) (ak (aa 0) (ak (aa 2) aq)))))),(aa 0)⟩) (hcl:=iG hc rfl))⟩))))) (λas r _ h=>h)
abbrev uY:Vj:=top 33
theorem Hg:bq ["one","other","depth"] ["one","other","depth"] (ay uY):=⟨rfl,rfl,rfl,by decide +kernel,rfl,by decide +kernel,by decide +kernel⟩
theorem DK (m:dh w K mg) (hneed_small:bJ P w K mg base 3 2 "need_small" K23.fX) (hneed_count:bJ P w K mg base 2 3 "need_count" K55.cX) (hparting_depths:bJ P w K mg base 6 3 "parting_depths" K33.gn) (hlayers_of:bJ P w K mg base 2 2 "layers_of" K33.jR) (F:cG K "layers" "layers" uY f fd) (hm:mg "layers"=some (.ref f)):bJ P w K mg base 7 3 "layers" K33.qp:=
 have sc:=Hg
 bG (k:=6) (gB:=K33.AZ) F hm sc (λ_ _ _ _ _ _ us hl=>match us,hl with | [_,_,_],_=>rfl) (λcdv A outer s H E J T hr=>
 (av (gH (aV hneed_small hr (ak (aa 0) (ak (aa 1) aq))))
 (av (gH (aV hneed_count hr (ak (aa 2) (ak aB (ak (iM m.MOST_DEPTH) aq)))))
 (aG (aY (aV hlayers_of hr (ak (aV hparting_depths hr (ak (aa 0) (ak (aa 1) (ak (a_ aK) aq)))) (ak (aa 2) aq)))))))) (λas r _ h=>h)
abbrev zJ:Vj:=top 36
theorem Kp:bq ["many","depth","told","step"] ["many","depth"] (ay zJ):=⟨rfl,rfl,rfl,by decide +kernel,rfl,by decide +kernel,by decide +kernel⟩
theorem FF (m:dh w K mg) (F:cG K "power" "power" zJ f fd) (hm:mg "power"=some (.ref f)):bJ P w K mg base 1 2 "power" K51.r_:=
 have sc:=Kp
 bG (k:=0) (gB:=K51.Ef) F hm sc (λ_ _ _ _ _ _ us hl=>match us,hl with | [_,_],_=>rfl) (λcdv A outer s H E J T hr=>
 (av (aL 2 sc.nd aB)
 (av (d_ (bD (ak (aa 1) aq) m.range) (az 3 sc.nd) (aG (ES 2 sc.nd (aa 0))))
 (aG (aY (aa 2)))))) (λas r _ h=>h)
abbrev k_:Vj:=top 37
theorem wY:bq ["told","kept","one"] ["told"] (ay k_):=⟨rfl,rfl,rfl,by decide +kernel,rfl,by decide +kernel,by decide +kernel⟩
theorem uE (m:dh w K mg) (F:cG K "sorted_once" "sorted_once" k_ f fd) (hm:mg "sorted_once"=some (.ref f)):bJ P w K mg base 1 1 "sorted_once" K51.gr:=
 have sc:=wY
 bG (k:=0) (gB:=K51.pJ) F hm sc (λ_ _ _ _ _ _ us hl=>match us,hl with | [_],_=>rfl) (λcdv A outer s H E J T hr=>
 (av (aL 1 sc.nd (eY aK))
 (av (d_ (jr (EV hr.units (ak (aa 0) aq) m.sorted)) (az 2 sc.nd) (aG (cg (nq (tW (kq (nt (aa 1))) (uV (tV hr.units (aN (aa 1) (Bl aB)) (aa 2))))) (aG (h_ 1 (aa 2))) bV)))
 (aG (aY (bM (ak (aa 1) aq) m.tuple)))))) (λas r _ h=>h)
abbrev rS:Vj:=top 38
theorem E1:bq ["world","row","ahead","last","many","marks","arrows","same","bearing","loops","outward","inward"] ["world","row"] (ay rS):=⟨rfl,rfl,rfl,by decide +kernel,rfl,by decide +kernel,by decide +kernel⟩
theorem BZ (m:dh w K mg) (F:cG K "face_of" "face_of" rS f fd) (hm:mg "face_of"=some (.ref f)):bJ P w K mg base 1 2 "face_of" K51.jj:=
 have sc:=E1
 bG (k:=0) (gB:=K51.yJ) F hm sc (λ_ _ _ _ _ _ us hl=>match us,hl with | [_,_],_=>rfl) (λcdv A outer s H E J T hr=>
 (av (cg (kP hr.units (fL (ak (aa 1) aq) m.len) aB) (aG (aY (a_ aK))) bV)
 (av (ET (aa 1) (aP (az 2 sc.nd) (aP (az 3 sc.nd) bZ)))
 (av (jq (aa 0) (cC (aP (az 4 sc.nd) (aP (az 5 sc.nd) (aP (az 6 sc.nd) bZ)))))
 (av (aL 7 sc.nd (bM (ak (bx ["point"] [3] (bR (aa 2)) (λ_ _ _ _ _ hc=>⟨(az 0 (bL rfl)),bf,(pX hr.units (aa 0) (aa 1))⟩)) aq) m.tuple))
 (av (aL 8 sc.nd (bM (ak (bx ["name","points"] [3] (bR (aa 5)) (λ_ _ _ _ _ hc=>⟨(cC (aP (az 0 (bL rfl)) (aP (az 1 (bL rfl)) bZ))),bf,(jH hr.units (aa 2) (aa 1))⟩)) aq) m.tuple))
 (av (aL 9 sc.nd (bM (ak (bx ["name","pairs"] [3] (bR (aa 6)) (λ_ _ _ _ _ hc=>⟨(cC (aP (az 0 (bL rfl)) (aP (az 1 (bL rfl)) bZ))),bf,(jH hr.units (a_ (au (aa 2) (au (aa 2) aK))) (aa 1))⟩)) aq) m.tuple))
 (av (aL 10 sc.nd (bM (ak (bx ["name","pairs"] [2,3] (bR (aa 6)) (λ_ _ _ _ _ hc=>⟨(cC (aP (az 0 (bL rfl)) (aP (az 1 (bL rfl)) bZ))),bf,(bM (ak (bx ["point"] [3,1] (bR (aa 2)) (λ_ _ _ _ _ hc=>⟨(az 0 (bL rfl)),bf,(jH hr.units (a_ (au (aa 1) (au (aa 0) aK))) (aa 2))⟩) (hcl:=iG hc rfl)) aq) m.tuple)⟩)) aq) m.tuple))
 (av (aL 11 sc.nd (bM (ak (bx ["name","pairs"] [2,3] (bR (aa 6)) (λ_ _ _ _ _ hc=>⟨(cC (aP (az 0 (bL rfl)) (aP (az 1 (bL rfl)) bZ))),bf,(bM (ak (bx ["point"] [3,1] (bR (aa 2)) (λ_ _ _ _ _ hc=>⟨(az 0 (bL rfl)),bf,(jH hr.units (a_ (au (aa 0) (au (aa 1) aK))) (aa 2))⟩) (hcl:=iG hc rfl)) aq) m.tuple)⟩)) aq) m.tuple))
 (aG (aY (a_ (au (aa 7) (au (aa 8) (au (aa 9) (au (aa 10) (au (aa 11) aK))))))))))))))))) (λas r _ h=>h)
abbrev rT:Vj:=top 39
theorem E2:bq ["world","depth","row","face"] ["world","depth","row"] (ay rT):=⟨rfl,rfl,rfl,by decide +kernel,rfl,by decide +kernel,by decide +kernel⟩
theorem sH (m:dh w K mg) (hface_of:bJ P w K mg base 1 2 "face_of" K51.jj) (hsorted_once:bJ P w K mg base 1 1 "sorted_once" K51.gr) (F:cG K "kind_of" "kind_of" rT f fd) (hm:mg "kind_of"=some (.ref f)):∀fu:Nat,bJ P w K mg base (1 + fu) 3 "kind_of" (K51.iu fu)
 | 0=>IJ (ps:=["world","depth","row"]) F hm (λ_ _ _ _ _ _ us hl=>match us,hl with | [_,_,_],_=>rfl) (λ_=>rfl)
 | fu + 1=>
  have sc:=E2
  have hself:=sH m hface_of hsorted_once F hm fu
  bG (k:=1 + fu) (gB:=K51.yK (K51.iu fu)) F hm sc (λ_ _ _ _ _ _ us hl=>match us,hl with | [_,_,_],_=>rfl) (λcdv A outer s H E J T hr=>
 (av (aL 3 sc.nd (aV hface_of hr (ak (aa 0) (ak (aa 2) aq)) (by omega)))
 (av (cg (kP hr.units (aa 1) aB) (aG (aY (a_ (au (aa 3) (au (a_ aK) aK))))) bV)
 (aG (aY (a_ (au (aa 3) (au (aV hsorted_once hr (ak (bx ["point"] [0,1,2] (dI (bD (ak (aN (aa 0) aB) aq) m.range)) (λ_ _ _ _ _ hc=>⟨(az 0 (bL rfl)),bf,(aV hself hr (ak (aa 1) (ak (Bo (aa 2) aB) (ak (fS (aa 3) (a_ (au (aa 0) aK))) aq))) (by omega))⟩)) aq) (by omega)) aK)))))))) (λas r _ h=>h)
abbrev lV:Vj:=top 40
theorem MS:bq ["world","depth","row","many"] ["world","depth","row"] (ay lV):=⟨rfl,rfl,rfl,by decide +kernel,rfl,by decide +kernel,by decide +kernel⟩
theorem Jb (m:dh w K mg) (hneed_count:bJ P w K mg base 2 3 "need_count" K55.cX) (Qv:bJ P w K mg base 1 2 "power" K51.r_) (hkind_of:bJ P w K mg base 11 3 "kind_of" (K51.iu 10)) (F:nI K "kind" "kind" lV f fd):fH P w K mg base (u_ P w) 12 f fd ["world","depth","row"] (zI K 3 K55.jv):=
 have sc:=MS
 I_ (k:=11) (gB:=K55.HV) F sc (λcdv A outer s H E J hr=>o6.h (
 (av (gH (aV hneed_count hr (ak (aa 1) (ak aB (ak (iM m.MOST_DEPTH) aq)))))
 (av (aL 3 sc.nd (aV Qv hr (ak (aN (aa 0) aB) (ak (aa 1) aq))))
 (av (cg (iL qA (gK λ_ _ _=>.bl _) (aa 3) (iM m.MOST_POWER)) (aG jX) bV)
 (aG (aY (aV hkind_of hr (ak (aa 0) (ak (aa 1) (ak (JZ (zf (aa 2) kr) (a_ aK) (aa 2)) aq))))))))))) (λ_ _ _=>rfl)
theorem IK (G:fH P w K mg base (u_ P w) 12 f fd ["world","depth","row"] (zI K 3 K55.jv)) (F:nI K "kind" "kind" lV f fd) (hm:mg "kind"=some (.ref f)):KI P w K mg base 12 3 "kind" K55.jv:=⟨f,fd,["world","depth","row"],G,hm,F.kp,F.bindsAll (λT kV doc pm an cdv ct us hl=>match us,hl with | [_,_,_],_=>⟨_,rfl,rfl⟩)⟩
theorem FD (G:fH P w K mg base (u_ P w) 12 f fd ["world","depth","row"] (zI K 3 K55.jv)) (F:nI K "kind" "kind" lV f fd) (hm:mg "kind"=some (.ref f)):Ff P w K mg base 12 2 "kind" K55.jv:=⟨f,fd,["world","depth","row"],G,hm,F.kp,F.bindsOne (λT kV doc pm an cdv ct us hl=>match us,hl with | [_,_],_=>⟨_,rfl,rfl⟩)⟩
abbrev oj:Vj:=top 42
theorem As:bq ["_law_script","_law_k"] ["_law_script","_law_k"] (ay oj):=⟨rfl,rfl,rfl,by decide +kernel,rfl,by decide +kernel,by decide +kernel⟩
theorem yi (m:dh w K mg) (F:cG K "_law_cell" "_law_cell" oj f fd) (hm:mg "_law_cell"=some (.ref f)):bJ P w K mg base 1 2 "_law_cell" K51.cQ:=
 have sc:=As
 bG (k:=0) (gB:=K51.sY) F hm sc (λ_ _ _ _ _ _ us hl=>match us,hl with | [_,_],_=>rfl) (λcdv A outer s H E J T hr=>
 (av (cg (iL H_ (gK λ_ _ _=>.bl _) (aa 1) (fL (ak (aa 0) aq) m.len)) (aG (aY (dg (aN (aa 0) (aa 1)) (Kd aB aB)))) bV)
 (aG (aY aB)))) (λas r _ h=>h)
abbrev mz:Vj:=top 43
theorem zq:bq ["_law_cell_here","_law_many","_law_letters","_law_sign","_law_stem","_law_found","_law_k","_law_other","_law_name"] ["_law_cell_here","_law_many"] (ay mz):=⟨rfl,rfl,rfl,by decide +kernel,rfl,by decide +kernel,by decide +kernel⟩
theorem wH (m:dh w K mg) (F:cG K "_law_names" "_law_names" mz f fd) (hm:mg "_law_names"=some (.ref f)):bJ P w K mg base 1 2 "_law_names" K51.fW:=
 have sc:=zq
 bG (k:=0) (gB:=K51.qR) F hm sc (λ_ _ _ _ _ _ us hl=>match us,hl with | [_,_],_=>rfl) (λcdv A outer s H E J T hr=>
 (av (aL 2 sc.nd uW)
 (av (aL 3 sc.nd (aN (aa 2) (dg (eX (aa 0) aB) aB)))
 (av (aL 4 sc.nd (jI (aa 3) (dJ aB (dg (eX (aa 0) aB) aB))))
 (av (aL 5 sc.nd (eY aK))
 (av (d_ (bD (ak (aa 1) aq) m.range) (az 6 sc.nd) (av (aL 7 sc.nd (aN (aa 2) (dg (dJ (eX (aa 0) aB) (jI aB (aa 6))) aB)))
 (av (aL 8 sc.nd (aN (eY (au (dJ (aa 4) (aa 7)) (au (dJ (aa 7) (aa 4)) (au (jI (aa 3) (dJ (aa 6) aB)) aK)))) (dg (aa 0) aB)))
 (av (cg (kP hr.units (aa 8) uW) (aG (aL 8 sc.nd uW)) bV)
 (aG (h_ 5 (aa 8)))))))
 (aG (aY (CG (ak (aa 5) aq) m.sorted))))))))) (λas r _ h=>h)
abbrev oh:Vj:=top 44
theorem Ar:bq ["_law_cell_here","_law_size","_law_found","_law_k"] ["_law_cell_here","_law_size"] (ay oh):=⟨rfl,rfl,rfl,by decide +kernel,rfl,by decide +kernel,by decide +kernel⟩
theorem yh (m:dh w K mg) (F:cG K "_law_bits" "_law_bits" oh f fd) (hm:mg "_law_bits"=some (.ref f)):bJ P w K mg base 1 2 "_law_bits" K51.gI:=
 have sc:=Ar
 bG (k:=0) (gB:=K51.sX) F hm sc (λ_ _ _ _ _ _ us hl=>match us,hl with | [_,_],_=>rfl) (λcdv A outer s H E J T hr=>
 (av (aL 2 sc.nd (eY aK))
 (av (d_ (bD (ak (aa 1) aq) m.range) (az 3 sc.nd) (av (h_ 2 (pX hr.units (dg (aa 0) aB) aB))
 (aG (aL 0 sc.nd (eX (aa 0) aB)))))
 (aG (aY (aa 2)))))) (λas r _ h=>h)
abbrev mD:Vj:=top 45
theorem zw:bq ["_law_names_here","_law_many","_law_cells","_law_marks","_law_k","_law_bits_here","_law_arrows"] ["_law_names_here","_law_many","_law_cells"] (ay mD):=⟨rfl,rfl,rfl,by decide +kernel,rfl,by decide +kernel,by decide +kernel⟩
theorem wJ (m:dh w K mg) (h_law_bits:bJ P w K mg base 1 2 "_law_bits" K51.gI) (F:cG K "_law_world" "_law_world" mD f fd) (hm:mg "_law_world"=some (.ref f)):bJ P w K mg base 2 3 "_law_world" K51.fC:=
 have sc:=zw
 bG (k:=1) (gB:=K51.qT) F hm sc (λ_ _ _ _ _ _ us hl=>match us,hl with | [_,_,_],_=>rfl) (λcdv A outer s H E J T hr=>
 (av (aL 3 sc.nd (eY aK))
 (av (d_ (bD (ak (fL (ak (aN (aa 0) aB) aq) m.len) aq) m.range) (az 4 sc.nd) (av (aL 5 sc.nd (aV h_law_bits hr (ak (aN (aa 2) (aa 4)) (ak (aa 1) aq))))
 (aG (h_ 3 (a_ (au (aN (aN (aa 0) aB) (aa 4)) (au (bM (ak (bx ["_law_p"] [5] (dI (bD (ak (aa 1) aq) m.range)) (λ_ _ _ _ _ hc=>⟨(az 0 (bL rfl)),(eB (nt (aN (aa 1) (aa 0)))),(aa 0)⟩)) aq) m.tuple) aK)))))))
 (av (aL 6 sc.nd (eY aK))
 (av (d_ (bD (ak (fL (ak (aN (aa 0) aB) aq) m.len) aq) m.range) (az 4 sc.nd) (av (aL 5 sc.nd (aV h_law_bits hr (ak (aN (aa 2) (dJ aB (aa 4))) (ak (jI (aa 1) (aa 1)) aq))))
 (aG (h_ 6 (a_ (au (aN (aN (aa 0) aB) (aa 4)) (au (bM (ak (bx ["_law_p"] [5,1] (dI (bD (ak (jI (aa 1) (aa 1)) aq) m.range)) (λ_ _ _ _ _ hc=>⟨(az 0 (bL rfl)),(eB (nt (aN (aa 1) (aa 0)))),(a_ (au (eX (aa 0) (aa 2)) (au (dg (aa 0) (aa 2)) aK)))⟩)) aq) m.tuple) aK)))))))
 (aG (aY (a_ (au (aa 1) (au (bM (ak (aa 3) aq) m.tuple) (au (bM (ak (aa 6) aq) m.tuple) aK))))))))))) (λas r _ h=>h)
abbrev mC:Vj:=top 46
theorem zu:bq ["_law_cell_here","_law_many","_law_left","_law_found","_law_k"] ["_law_cell_here","_law_many"] (ay mC):=⟨rfl,rfl,rfl,by decide +kernel,rfl,by decide +kernel,by decide +kernel⟩
theorem wI (m:dh w K mg) (F:cG K "_law_order" "_law_order" mC f fd) (hm:mg "_law_order"=some (.ref f)):bJ P w K mg base 1 2 "_law_order" K55.g7:=
 have sc:=zu
 bG (k:=0) (gB:=K55.qS) F hm sc (λ_ _ _ _ _ _ us hl=>match us,hl with | [_,_],_=>rfl) (λcdv A outer s H E J T hr=>
 (av (aL 2 sc.nd (CF (ak (aa 1) aq) m.range m.list))
 (av (aL 3 sc.nd (eY aK))
 (av (d_ (bD (ak (aa 1) aq) m.range) (az 4 sc.nd) (av (Am 3 2 (dg (aa 0) (fL (ak (aa 2) aq) m.len)))
 (aG (aL 0 sc.nd (eX (aa 0) aB)))))
 (aG (aY (bM (ak (aa 3) aq) m.tuple))))))) (λas r _ h=>h)
abbrev kU:Vj:=top 47
theorem wV:bq ["_law_world_here","_law_order_here","_law_marks","_law_arrows"] ["_law_world_here","_law_order_here"] (ay kU):=⟨rfl,rfl,rfl,by decide +kernel,rfl,by decide +kernel,by decide +kernel⟩
theorem uB (m:dh w K mg) (F:cG K "_law_turned" "_law_turned" kU f fd) (hm:mg "_law_turned"=some (.ref f)):bJ P w K mg base 1 2 "_law_turned" K55.iO:=
 have sc:=wV
 bG (k:=0) (gB:=K55.pG) F hm sc (λ_ _ _ _ _ _ us hl=>match us,hl with | [_,_],_=>rfl) (λcdv A outer s H E J T hr=>
 (av (lU 2 ["_law_name","_law_points"] [1] sc.nd (bR (aN (aa 0) aB)) (λ_ _ _ _ _ hc=>⟨(cC (aP (az 0 (bL rfl)) (aP (az 1 (bL rfl)) bZ))),bf,(a_ (au (aa 0) (au (bM (ak (vO hr.units (ak (bx ["_law_p"] [2] (bR (aa 1)) (λ_ _ _ _ _ hc=>⟨(az 0 (bL rfl)),bf,(aN (aa 1) (aa 0))⟩) (hcl:=iG hc rfl)) aq) m.sorted) aq) m.tuple) aK)))⟩))
 (av (lU 3 ["_law_name","_law_some"] [1] sc.nd (bR (aN (aa 0) aB)) (λ_ _ _ _ _ hc=>⟨(cC (aP (az 0 (bL rfl)) (aP (az 1 (bL rfl)) bZ))),bf,(a_ (au (aa 0) (au (bM (ak (vO hr.units (ak (bx ["_law_p","_law_q"] [2] (bR (aa 1)) (λ_ _ _ _ _ hc=>⟨(cC (aP (az 0 (bL rfl)) (aP (az 1 (bL rfl)) bZ))),bf,(a_ (au (aN (aa 2) (aa 0)) (au (aN (aa 2) (aa 1)) aK)))⟩) (hcl:=iG hc rfl)) aq) m.sorted) aq) m.tuple) aK)))⟩))
 (aG (aY (a_ (au (aN (aa 0) aB) (au (bM (ak (aa 2) aq) m.tuple) (au (bM (ak (aa 3) aq) m.tuple) aK))))))))) (λas r _ h=>h)
abbrev jO:Vj:=top 48
theorem uX:bq ["_law_world_here","_law_cell_here","_law_many","_law_marks","_law_arrows","_law_at","_law_thing","_law_some","_law_name","_law_had","_law_now"] ["_law_world_here","_law_cell_here"] (ay jO):=⟨rfl,rfl,rfl,by decide +kernel,rfl,by decide +kernel,by decide +kernel⟩
theorem sG (m:dh w K mg) (F:cG K "_law_flipped" "_law_flipped" jO f fd) (hm:mg "_law_flipped"=some (.ref f)):bJ P w K mg base 1 2 "_law_flipped" K55.eV:=
 have sc:=uX
 bG (k:=0) (gB:=K55.oJ) F hm sc (λ_ _ _ _ _ _ us hl=>match us,hl with | [_,_],_=>rfl) (λcdv A outer s H E J T hr=>
 (av (jq (aa 0) (cC (aP (az 2 sc.nd) (aP (az 3 sc.nd) (aP (az 4 sc.nd) bZ)))))
 (av (cg (kP hr.units (fS (fL (ak (aa 3) aq) m.len) (fL (ak (aa 4) aq) m.len)) aB) (aG (aY (aa 0))) bV)
 (av (aL 5 sc.nd (dg (aa 1) (fS (fL (ak (aa 3) aq) m.len) (fL (ak (aa 4) aq) m.len))))
 (av (aL 6 sc.nd (dg (eX (aa 1) aB) (aa 2)))
 (av (aL 7 sc.nd (aa 3))
 (av (cg (iL NI (gK λ_ _ _=>.bl _) (aa 5) (fL (ak (aa 3) aq) m.len)) (av (aL 5 sc.nd (Bo (aa 5) (fL (ak (aa 3) aq) m.len)))
 (av (aL 6 sc.nd (a_ (au (aa 6) (au (dg (eX (aa 1) aB) (aa 2)) aK))))
 (aG (aL 7 sc.nd (aa 4))))) bV)
 (av (jq (aN (aa 7) (aa 5)) (cC (aP (az 8 sc.nd) (aP (az 9 sc.nd) bZ))))
 (av (aL 10 sc.nd (bM (ak (vP hr.units (ak (fS (aa 9) (a_ (au (aa 6) aK))) aq) m.sorted m.set) aq) m.tuple))
 (av (cg (MA hr.units (aa 6) (aa 9)) (aG (aL 10 sc.nd (bM (ak (bx ["_law_one"] [6] (bR (aa 9)) (λ_ _ _ _ _ hc=>⟨(az 0 (bL rfl)),(eB (tV hr.units (aa 0) (aa 1))),(aa 0)⟩)) aq) m.tuple))) bV)
 (av (aL 7 sc.nd (fS (fS (Bm (aa 7) vQ (vR (aa 5))) (a_ (au (a_ (au (aa 8) (au (aa 10) aK))) aK))) (Bm (aa 7) (vR (fS (aa 5) aB)) vQ)))
 (av (cg (gf (n_ kit_tuple Ac m.tuple (aa 6) m.isinstance)) (aG (aY (a_ (au (aa 2) (au (aa 3) (au (aa 7) aK)))))) bV)
 (aG (aY (a_ (au (aa 2) (au (aa 7) (au (aa 4) aK)))))))))))))))))) (λas r _ h=>h)
abbrev p_:Vj:=top 49
theorem CJ:bq ["_law_script","_law_sizes","_law_first","_law_second","_law_marks","_law_names_here","_law_one","_law_way","_law_other"] ["_law_script","_law_sizes"] (ay p_):=⟨rfl,rfl,rfl,by decide +kernel,rfl,by decide +kernel,by decide +kernel⟩
theorem Ad (m:dh w K mg) (h_law_cell:bJ P w K mg base 1 2 "_law_cell" K51.cQ) (h_law_names:bJ P w K mg base 1 2 "_law_names" K51.fW) (h_law_world:bJ P w K mg base 2 3 "_law_world" K51.fC) (h_law_order:bJ P w K mg base 1 2 "_law_order" K55.g7) (h_law_turned:bJ P w K mg base 1 2 "_law_turned" K55.iO) (h_law_flipped:bJ P w K mg base 1 2 "_law_flipped" K55.eV) (F:cG K "_law_two" "_law_two" p_ f fd) (hm:mg "_law_two"=some (.ref f)):bJ P w K mg base 3 2 "_law_two" K55.jA:=
 have sc:=CJ
 bG (k:=2) (gB:=K55.vA) F hm sc (λ_ _ _ _ _ _ us hl=>match us,hl with | [_,_],_=>rfl) (λcdv A outer s H E J T hr=>
 (av (aL 2 sc.nd (aV h_law_cell hr (ak (aa 0) (ak aB aq))))
 (av (aL 3 sc.nd (aV h_law_cell hr (ak (aa 0) (ak aB aq))))
 (av (aL 4 sc.nd (aV h_law_names hr (ak (eX (aa 3) aB) (ak (aN (eY (au aB (au aB (au aB (au aB aK))))) (dg (aa 3) aB)) aq))))
 (av (n9 4 (aL 5 sc.nd (a_ (au (aa 4) (au (aV h_law_names hr (ak (aV h_law_cell hr (ak (aa 0) (ak aB aq))) (ak (aN (eY (au aB (au aB (au aB (au aB (au aB aK)))))) (dg (eX (aa 3) aB) aB)) aq))) aK)))))
 (av (aL 6 sc.nd (aV h_law_world hr (ak (aa 5) (ak (aN (aa 1) (dg (aa 2) aB)) (ak (bx ["_law_k"] [0] (dI (bD (ak aB aq) m.range)) (λ_ _ _ _ _ hc=>⟨(az 0 (bL rfl)),bf,(aV h_law_cell hr (ak (aa 1) (ak (dJ aB (aa 0)) aq)))⟩)) aq)))))
 (av (aL 7 sc.nd (dg (eX (aa 2) aB) aB))
 (av (cg (kP hr.units (aa 7) aB) (aG (aY (a_ (au (aa 6) (au (aV h_law_world hr (ak (aa 5) (ak (aN (aa 1) (dg (eX (aa 2) aB) aB)) (ak (bx ["_law_k"] [0] (dI (bD (ak aB aq) m.range)) (λ_ _ _ _ _ hc=>⟨(az 0 (bL rfl)),bf,(aV h_law_cell hr (ak (aa 1) (ak (dJ aB (aa 0)) aq)))⟩)) aq)))) aK))))) bV)
 (av (aL 8 sc.nd (aV h_law_turned hr (ak (aa 6) (ak (aV h_law_order hr (ak (aV h_law_cell hr (ak (aa 0) (ak aB aq))) (ak (aN (aa 6) aB) aq))) aq))))
 (av (cg (iL qA (gK λ_ _ _=>.bl _) (aa 7) aB) (aG (aL 8 sc.nd (aV h_law_flipped hr (ak (aa 8) (ak (aV h_law_cell hr (ak (aa 0) (ak aB aq))) aq))))) bV)
 (av (cg (kP hr.units (aa 7) aB) (aG (aL 8 sc.nd (aV h_law_flipped hr (ak (aa 8) (ak (aV h_law_cell hr (ak (aa 0) (ak aB aq))) aq))))) bV)
 (aG (aY (a_ (au (aa 6) (au (aa 8) aK)))))))))))))))) (λas r _ h=>h)
abbrev ow:Vj:=top 50
theorem NX:bq ["_law_script","_law_one","_law_other","_law_most","_law_told","_law_depth"] ["_law_script"] (ay ow):=⟨rfl,rfl,rfl,by decide +kernel,rfl,by decide +kernel,by decide +kernel⟩
theorem NH (m:dh w K mg) (h_law_two:bJ P w K mg base 3 2 "_law_two" K55.jA) (Qk:bJ P w K mg base 7 3 "layers" K33.qp) (hkind:KI P w K mg base 12 3 "kind" K55.jv) (Qa:Ff P w K mg base 12 2 "kind" K55.jv) (F:cG K "law" "law" ow f fd):fH P w K mg base oG 13 f fd ["_law_script"] (qh K 1 K54.um):=
 have sc:=NX
 JV (k:=12) (gB:=K54.Lp) F sc (λcdv A outer s H E J T hr=>
 (av (jq (aV h_law_two hr (ak (aa 0) (ak (eY (au aB (au aB (au aB (au aB (au aB (au aB (au aB (au aB aK))))))))) aq))) (cC (aP (az 1 sc.nd) (aP (az 2 sc.nd) bZ))))
 (av (aL 3 sc.nd (Ka (ak (dJ (J_ (ak (aN (aa 1) aB) (ak (aN (aa 2) aB) aq)) m.max) aB) (ak aB aq)) m.min))
 (av (cg (iL qA (gK λ_ _ _=>.bl _) (dJ (aN (aa 1) aB) (aN (aa 2) aB)) aB) (aG (aL 3 sc.nd aB)) bV)
 (av (aL 4 sc.nd (aV Qk hr (ak (aa 1) (ak (aa 2) (ak (aa 3) aq)))))
 (av (d_ (bD (ak (dJ (aa 3) aB) aq) m.range) (az 5 sc.nd) (aG (cg (tV hr.units (pX hr.units (zg Qa hr (ak (aa 1) (ak (aa 5) aq))) (zg Qa hr (ak (aa 2) (ak (aa 5) aq)))) (jH hr.units (a_ aK) (aN (aa 4) (aa 5)))) (aG (aY nu)) bV)))
 (aG (aY nu)))))))) (λas r _ h=>h)
end
end K54
namespace K54
open PySem DL K01 WP K51 K52 K55 K23 K22 K33
theorem uR {α β γ:Type}(f:α->γ) (g:β->γ):∀{xs:List α}{ys:List β},xs.length=ys.length->(xs.map f=ys.map g↔∀z∈xs.zip ys,f z.1=g z.2)
 | [],[],_=>by simp
 | x::xs,y::ys,h=>by
  rw [Sj,Sj,T3,uR f g (by simpa using h),Ul,List.forall_mem_cons]
theorem LU {α β γ δ ε:Type}(f:γ->α->ε) (g:δ->β->ε){xs:List α}{ys:List β}(hl:xs.length=ys.length):∀{R:List γ}{R':List δ},R.length=R'.length->((R.map λr=>xs.map (f r))=(R'.map λr=>ys.map (g r))↔∀z∈xs.zip ys,(R.map λr=>f r z.1)=R'.map λr=>g r z.2)
 | [],[],_=>by simp
 | r::R,r'::R',h=>by
  simp only [Sj,T3]
  rw [LU f g hl (by simpa using h),uR (f r) (g r') hl]
  exact ⟨λh z hz=>⟨h.1 z hz,h.2 z hz⟩,λh=>⟨λz hz=>(h z hz).1,λz hz=>(h z hz).2⟩⟩
theorem uz {α β:Type}(f:α->Bool) (g:β->Bool) (xs:List α) (ys:List β):D.tup (xs.map λx=>.bl (f x))=D.tup (ys.map λx=>.bl (g x))↔xs.map f=ys.map g:=by
 rw [D.tup.injEq]
 rw [show (xs.map λx=>D.bl (f x))=(xs.map f).map D.bl by rw [Sw];rfl,show (ys.map λx=>D.bl (g x))=(ys.map g).map D.bl by rw [Sw];rfl]
 exact ⟨λh=>(Xx (f:=D.bl) λa b h=>D.bl.inj h).mp h,λh=>by rw [h]⟩
section
variable {v w:Wd}{rv rw':List Nat}{p q d:Nat}
theorem FY (t:Pr v w) (hl:rv.length=rw'.length) (fZ:r6 v w (rv.zip rw')) (hp:oY v w (p,q)):lN v rv p=lN w rw' q↔r6 v w (rv.zip rw'++[(p,q)]):=by
 have la:v.ar.length=w.ar.length:=by have:=congrArg V_ t.an;simpa using this
 have tl:∀{γ δ:Type}(R:List γ) (R':List δ) (f:γ->Nat->Bool) (g:δ->Nat->Bool),(R.map λr=>D.tup (rv.map λa=>.bl (f r a)))=(R'.map λr=>D.tup (rw'.map λa=>.bl (g r a)))↔(R.map λr=>rv.map (f r))=R'.map λr=>rw'.map (g r):=λR R' f g=>by
  have e1:(R.map λr=>D.tup (rv.map λa=>.bl (f r a)))=(R.map λr=>rv.map (f r)).map λx=>D.tup (x.map D.bl):=by rw [Sw];exact UA λr _=>by simp [Sw]
  have e2:(R'.map λr=>D.tup (rw'.map λa=>.bl (g r a)))=(R'.map λr=>rw'.map (g r)).map λx=>D.tup (x.map D.bl):=by rw [Sw];exact UA λr _=>by simp [Sw]
  rw [e1,e2]
  refine ⟨λh=>(Xx λa b h=>?_).mp h,λh=>by rw [h]⟩
  exact (Xx (f:=D.bl) λa b h=>D.bl.inj h).mp (D.tup.inj h)
 unfold lN
 simp only [K55.inN,K55.Ls,K55.vp]
 rw [D.tup.injEq,T3,T3,T3,T3,T3,uz,uz,uz,D.tup.injEq,D.tup.injEq,tl,tl,uR _ _ hl,LU _ _ hl la,LU _ _ hl la]
 constructor
 ·rintro ⟨h1,h2,h3,h4,h5,_⟩
  have e:∀z∈rv.zip rw',(z.1=p↔z.2=q):=λz hz=>by
   have:=h1 z hz
   rwa [S8,beq_iff_eq,beq_iff_eq] at this
  refine ⟨λx hx y hy=>?_,λx hx=>?_⟩
  ·rcases Sz.mp hx with hx | hx <;> rcases Sz.mp hy with hy | hy
   ·exact fZ.ag x hx y hy
   ·rw [R9.mp hy];exact ⟨e x hx,(fZ.ag x hx x hx).ms,h5 x hx⟩
   ·rw [R9.mp hx];exact ⟨⟨λz=>((e y hy).mp z.symm).symm,λz=>((e y hy).mpr z.symm).symm⟩,h2,h4 y hy⟩
   ·rw [R9.mp hx,R9.mp hy];exact ⟨⟨λ_=>rfl,λ_=>rfl⟩,h2,h3⟩
  ·rcases Sz.mp hx with hx | hx
   ·exact fZ.rg x hx
   ·rw [R9.mp hx];exact hp
 ·intro f
  have m:(p,q)∈rv.zip rw'++[(p,q)]:=by simp
  have l:∀z∈rv.zip rw',z∈rv.zip rw'++[(p,q)]:=λz hz=>UP _ hz
  refine ⟨λz hz=>?_,(f.ag _ m _ m).ms,(f.ag _ m _ m).ar,λz hz=>(f.ag _ m _ (l z hz)).ar,λz hz=>(f.ag _ (l z hz) _ m).ar,rfl⟩
  rw [S8,beq_iff_eq,beq_iff_eq]
  exact (f.ag _ (l z hz) _ m).eq
theorem IG (t:Pr v w) (hv:rv.length + d<=80) (hw:rw'.length + d<=80):rB v (d + 1) rv=rB w (d + 1) rw'↔(∀p,p < v.m->∃q,q < w.m/\cY v d (rv++[p])=cY w d (rw'++[q]))/\∀q,q < w.m->∃p,p < v.m/\cY v d (rv++[p])=cY w d (rw'++[q]):=by
 have T:=Im (KT .fc d)
 have hA:=λx hx=>kB v t.vo d rv hv (x:=x) hx
 have hB:=λx hx=>kB w t.wo d rw' hw (x:=x) hx
 have mv:∀(u:Wd) (r:List Nat) (y:D),y∈subs u d r↔∃p,p < u.m/\cY u d (r++[p])=y:=λu r y=>by unfold subs;simp
 have key:rB v (d + 1) rv=rB w (d + 1) rw'↔∀y,y∈subs v d rv↔y∈subs w d rw':=by
  show D.tup (dedup (aQ (subs v d rv)))=D.tup (dedup (aQ (subs w d rw')))↔_
  rw [D.tup.injEq]
  exact ⟨λh y=>by rw [<-(nN T _ hA).2 y,h,(nN T _ hB).2 y],λh=>GC T hA h⟩
 rw [key]
 constructor
 ·intro h
  exact ⟨λp hp=>let ⟨q,a,b⟩:=(mv w rw' _).mp ((h _).mp ((mv v rv _).mpr ⟨p,hp,rfl⟩));⟨q,a,b.symm⟩,λq hq=>(mv v rv _).mp ((h _).mpr ((mv w rw' _).mpr ⟨q,hq,rfl⟩))⟩
 ·rintro ⟨h1,h2⟩ y
  rw [mv,mv]
  constructor
  ·rintro ⟨p,hp,rfl⟩;obtain ⟨q,a,b⟩:=h1 p hp;exact ⟨q,a,b.symm⟩
  ·rintro ⟨q,hq,rfl⟩;exact h2 q hq
theorem Hz {ps:Ps}:∀{j:Nat},(∀k∈picks v w,∃p∈kO v w k,dG ps p∈T4 v w/\La v w j (dG ps p)=true)->La v w j ps=true
 | 0,_=>rfl
 | j + 1,h=>by
  have h':∀k∈picks v w,∃p∈kO v w k,dG ps p∈T4 v w/\La v w j (dG ps p)=true:=λk hk=>let ⟨p,a,b,c⟩:=h k hk;⟨p,a,b,(BE.mp c).1⟩
  exact BE.mpr ⟨Hz h',h'⟩
theorem Kv (Z:Ps) (x:Nat×Nat):jd (Z++[x])=dG (jd Z) x:=HE (t_ _) (t_ _) λy=>by rw [kj,A9,kj];simp
theorem uN (t:Pr v w):∀(d:Nat) (rv rw':List Nat),rv.length=rw'.length->rv.length + d<=80->r6 v w (rv.zip rw')->(rB v d rv=rB w d rw'↔La v w d (jd (rv.zip rw'))=true)
 | 0,_,_,_,_,_=>⟨λ_=>rfl,λ_=>rfl⟩
 | d + 1,rv,rw',hl,hd,fZ=>by
  have step:∀p q,p < v.m->q < w.m->(cY v d (rv++[p])=cY w d (rw'++[q])↔dG (jd (rv.zip rw')) (p,q)∈T4 v w/\La v w d (dG (jd (rv.zip rw')) (p,q))=true):=λp q hp hq=>by
   have ft:=FY t hl fZ (p:=p) (q:=q) ⟨hp,hq⟩
   have z:(rv++[p]).zip (rw'++[q])=rv.zip rw'++[(p,q)]:=List.zip_append hl
   rw [ng,ng,kc,kc,D.tup.injEq,T3,T3,ft,<-Kv,Cq t,FZ (t_ _)]
   have ff:r6 v w (rv.zip rw'++[(p,q)])↔r6 v w (jd (rv.zip rw'++[(p,q)])):=⟨λf=>f.sub λy hy=>kj.mp hy,λf=>f.sub λy hy=>kj.mpr hy⟩
   rw [<-ff]
   refine ⟨λ⟨a,b,_⟩=>⟨a,?_⟩,λ⟨a,b⟩=>⟨a,?_,rfl⟩⟩
   ·rw [<-z] at a ⊢;exact (uN t d _ _ (by simp [hl]) (by simp;omega) a).mp b
   ·rw [<-z] at a b;exact (uN t d _ _ (by simp [hl]) (by simp;omega) a).mpr b
  rw [IG t (by omega) (by omega)]
  constructor
  ·rintro ⟨h1,h2⟩
   have h:∀k∈picks v w,∃p∈kO v w k,dG (jd (rv.zip rw')) p∈T4 v w/\La v w d (dG (jd (rv.zip rw')) p)=true:=λk hk=>by
    rcases Sz.mp hk with hk | hk <;> obtain ⟨x,hx,rfl⟩:=R4.mp hk
    ·obtain ⟨q,hq,e⟩:=h1 x (Sq.mp hx)
     exact ⟨(x,q),R4.mpr ⟨q,Sq.mpr hq,rfl⟩,(step x q (Sq.mp hx) hq).mp e⟩
    ·obtain ⟨q,hq,e⟩:=h2 x (Sq.mp hx)
     exact ⟨(q,x),R4.mpr ⟨q,Sq.mpr hq,rfl⟩,(step q x hq (Sq.mp hx)).mp e⟩
   exact BE.mpr ⟨Hz h,h⟩
  ·intro h
   have h:=(BE.mp h).2
   constructor
   ·intro p hp
    obtain ⟨x,h1,h2⟩:=h (0,p) (UP _ (R4.mpr ⟨p,Sq.mpr hp,rfl⟩))
    obtain ⟨q,hq,rfl⟩:=R4.mp (show x∈(R7 w.m).map λb=>(p,b) from h1)
    exact ⟨q,Sq.mp hq,(step p q hp (Sq.mp hq)).mpr h2⟩
   ·intro q hq
    obtain ⟨x,h1,h2⟩:=h (1,q) (S5 _ (R4.mpr ⟨q,Sq.mpr hq,rfl⟩))
    obtain ⟨p,hp,rfl⟩:=R4.mp (show x∈(R7 v.m).map λb=>(b,q) from h1)
    exact ⟨p,Sq.mp hp,(step p q (Sq.mp hp) hq).mpr h2⟩
theorem Gh (t:Pr v w) (d:Nat) (hd:d<=6):bg (cY v d []) (cY w d [])=La v w d []:=by
 have f0:∀u:Wd,iS (.hom .b) (jU u []):=λu=>⟨[],rfl,SG _,λ_ h=>nomatch h⟩
 have h:=uN t d [] [] rfl (by simp;omega) ⟨(λ_ h=>nomatch h),(λ_ h=>nomatch h)⟩
 rw [show jd (([]:List Nat).zip ([]:List Nat))=[] from MV UW] at h
 rw [S8,(Im (KT (.hom .b) d)).eq _ _ (kL v t.vo d [] _ (by simp;omega) (f0 v)) (kL w t.wo d [] _ (by simp;omega) (f0 w)),<-h,ng,ng,D.tup.injEq,T3,T3]
 exact ⟨λh=>h.2.1,λh=>⟨rfl,h,rfl⟩⟩
end
theorem n2 {env:Ev}{f:List R->M R}{g h:G R}{x y z:R}(hx:g env=.ok x) (hy:h env=.ok y) (hf:f [x,y]=.ok z):gN f (ao g (ao h aE)) env=.ok z:=by
 show (ao g (ao h aE) env >>= _)=_
 unfold ao aE
 rw [hx,hy];exact hf
theorem Jx (ns:List Int) (h:ns.length<=63):um [.bor (ns.map .int)]=.ok (.d (.bl true)):=by
 obtain ⟨v,w,hw,t,_⟩:=KP ns [2,3,1,3,2,3,2,4] rfl (by decide)
 have v4:=t.v4
 have w4:=t.w4
 refine b_ (qD (c2 rfl (pQ rfl (by show 8<=1000;decide)) hw) rfl rfl ?_)
 obtain ⟨n0,h0,n04⟩:∃n0:Nat,gN B8 (ao (g2 cU (gN B7 (ao (g2 bA (af 1) (gC (.int 0))) (ao (g2 bA (af 2) (gC (.int 0))) aE))) (gC (.int 1))) (ao (gC (.int 4)) aE)) [some (.bor (ns.map D.int)),some (.d v.d),some (.d w.d),none,none,none]=.ok (.d (.int (n0:Int)))/\n0<=4:=by
  refine ⟨min (max v.m w.m + 1) 4,n2 (two (n2 (two rfl rfl (i8 _ _)) (two rfl rfl (i8 _ _)) (z:=.d (.int ((max v.m w.m:Nat):Int))) ?_) rfl rfl) rfl ?_,by omega⟩
  ·show M.ok (R.d (.int (if (w.m:Int) > v.m then (w.m:Int) else v.m)))=_
   congr 3
   split <;> omega
  ·show M.ok (R.d (.int (if (4:Int) < ((max v.m w.m:Nat) + 1:Int) then (4:Int) else ((max v.m w.m:Nat) + 1:Int))))=_
   congr 3
   split <;> omega
 refine bC h0 rfl (cF (Wp.mono (P:=λo=>∃n:Nat,n<=4/\o=.nx [some (.bor (ns.map .int)),some (.d v.d),some (.d w.d),some (.d (.int n)),none,none]) ?_ ?_))
 ·exact Cj (c:=decide ((7:Int) < v.m + w.m)) (K23.ic (two (two rfl rfl (i8 _ _)) (two rfl rfl (i8 _ _)) rfl) rfl rfl) (λ_=>gq rfl rfl ⟨3,by decide,rfl⟩) λ_=>jN ⟨n0,n04,rfl⟩
 rintro _ ⟨n,n4,rfl⟩
 refine bC (c3 rfl rfl rfl (Fg t n (by omega))) rfl ?_
 refine jz (gZ (n:=n + 1) (dz (two rfl rfl rfl)) (by omega)) (Nc (h:=dN) (λenv=>∃z,env=[some (.bor (ns.map D.int)),some (.d v.d),some (.d w.d),some (.d (.int n)),some (.own ((R7 (n + 1)).map (Ck v w))),z]) (R7 (n + 1)) ⟨none,rfl⟩ ?_ λ_ _=>bP rfl rfl rfl)
 rintro j hj _ ⟨z,rfl⟩
 have hj:j < n + 1:=Sq.mp hj
 refine ⟨_,rfl,pO ?_ (jN ⟨_,rfl,_,rfl⟩)⟩
 have pw:∀m:Nat,m<=4->m ^ j<=600:=λm hm=>SJ (SJ (Nat.pow_le_pow_left hm j) (Vl (by decide) (show j<=4 by omega))) (by decide)
 have f0:∀u:Wd,iS (.hom .b) (jU u []):=λu=>⟨[],rfl,SG _,λ_ h=>nomatch h⟩
 have dp:∀u:Wd,gu u->dep (cY u j [])<=60:=λu hu=>by
  have h1:=kh (kL u hu j [] _ (by simp;omega) (f0 u))
  have h2:=xw (.hom .b) (by decide) j
  omega
 have hin:=Lv (m:=.own) [] ((T4 v w).filter (La v w j)) (.d (Ck v w j)) rfl
 have e:decide (([]:Ps)∈(T4 v w).filter (La v w j))=La v w j []:=by
  rw [S8,decide_eq_true_eq,SY]
  exact ⟨λh=>h.2,λh=>⟨(Cq t).mpr ⟨UW,(λ_ h=>nomatch h),(λ_ h=>nomatch h)⟩,h⟩⟩
 rw [e] at hin
 refine K23.ic (two (c2 rfl rfl (Az v t.vo j (by omega) (pw _ v4))) (c2 rfl rfl (Az w t.wo j (by omega) (pw _ w4))) ((sL false (.d (cY v j [])) (.d (cY w j [])) (dp v t.vo) (dp w t.wo)).trans (by show M.ok (R.d (.bl (bg (cY v j []) (cY w j []))))=_;rw [Gh t j (by omega)]))) (two (bz bu (by decide)) (two rfl rfl (sO (m:=.own) (by rw [Ss,Wc hj];rfl))) hin) ?_
 rw [K22.Nr]
 simp
end K54
namespace K54
open PySem PySem.Spec PyProof.Rows L2 DL DX
theorem all_mk {l:YL}{w:SO}{K:RV}{h:TU}{mg:Str->Option RX}{fa:Se}(X:K.In h) (G:h.Ns SE mg) (Rt:mg "law"=some (.ref fa))
  {f27 f36:Se}{o27 n27 o36 n36:Option Se}{s27 s36:Array (Option RX)}{u27 v27 d27 p27 q27 r27 u36 v36 d36 p36 q36 r36:RX}
  {T27:Se}{oT27:RX}{dT27:Option Se}{nT27:Nat}{sT27:Array (Option RX)}
  {t1:Tok}
  {t2:Tok}
  {t3:Tok}
  (e0:FA K "is_whole" qb)
  (e1:FA K "tongue_of" oB)
  (e2:FA K "need_tongue" kY)
  (e3:FA K "need_few_points" iE)
  (e4:FA K "need_small" mF)
  (e5:FA K "need_count" mE)
  (e6:FA K "rising" u5)
  (e7:FA K "view" CV)
  (e8:FA K "views" zM)
  (e9:FA K "agree" zp)
  (e10:FA K "goes_behind" kW)
  (e11:FA K "pairings" qi)
  (e12:FA K "added" zo)
  (e13:FA K "pairs_with" mG)
  (e14:FA K "picks_of" ql)
  (e15:FA K "outcomes" qf)
  (e16:FA K "answered_still" jb)
  (e17:FA K "peeled" uZ)
  (e18:FA K "pairings_with" jt)
  (e19:FA K "parting_depths" jc)
  (e20:FA K "in_layer" qa)
  (e21:FA K "layers_of" oz)
  (e22:FA K "layers" uY)
  (e23:FA K "power" zJ)
  (e24:FA K "sorted_once" k_)
  (e25:FA K "face_of" rS)
  (e26:FA K "kind_of" rT)
  (a27:SV K SE "kind"=some (some (.ref f27)))
  (l27:K.lookup f27=some ⟨u27,o27,.func (Sb "kind" "kind" (aT lV) (aO lV) (ay lV) (.ref T27) v27 d27 p27 n27 q27 r27),s27⟩)
  (c27:Vd K q27 "kind"=true)
  (k27:TM K (.ref f27)=true)
  (lT27:K.lookup T27=some ⟨oT27,dT27,.seq #[.none] nT27,sT27⟩)
  (e28:FA K "_law_cell" oj)
  (e29:FA K "_law_names" mz)
  (e30:FA K "_law_bits" oh)
  (e31:FA K "_law_world" mD)
  (e32:FA K "_law_order" mC)
  (e33:FA K "_law_turned" kU)
  (e34:FA K "_law_flipped" jO)
  (e35:FA K "_law_two" p_)
  (a36:SV K SE "law"=some (some (.ref f36)))
  (l36:K.lookup f36=some ⟨u36,o36,.func (Sb "law" "law" (aT ow) (aO ow) (ay ow) .none v36 d36 p36 n36 q36 r36),s36⟩)
  (c36:Vd K q36 "law"=true)
  (k36:TM K (.ref f36)=true)
  (z0:SV K SE "all"=some none)
  (z1:SV K SE "any"=some none)
  (z2:SV K SE "bool"=some none)
  (z3:SV K SE "int"=some none)
  (z4:SV K SE "isinstance"=some none)
  (z5:SV K SE "len"=some none)
  (z6:SV K SE "list"=some none)
  (z7:SV K SE "max"=some none)
  (z8:SV K SE "min"=some none)
  (z9:SV K SE "range"=some none)
  (z10:SV K SE "set"=some none)
  (z11:SV K SE "sorted"=some none)
  (z12:SV K SE "tuple"=some none)
  (gMOST_DEPTH:SV K SE "MOST_DEPTH"=some (some (.int 6 t1)))
  (gMOST_POWER:SV K SE "MOST_POWER"=some (some (.int 600 t2)))
  (gMOST_SMALL:SV K SE "MOST_SMALL"=some (some (.int 4 t3))):
  ∃fd:SH,(∀(s:RZ) (v:RX),aaC s fd ⟨[v],[]⟩ [("_law_script",v)])/\∀base:TU,K.In base->base.Ns SE mg->fH l.prog w K mg base oG 13 fa fd ["_law_script"] (qh K 1 K54.um):=by
 have e:=Rt.symm.trans (Sn X G a36)
 cases e
 obtain ⟨f0,d0,a0,F0⟩:=e0
 obtain ⟨f1,d1,a1,F1⟩:=e1
 obtain ⟨f2,d2,a2,F2⟩:=e2
 obtain ⟨f3,d3,a3,F3⟩:=e3
 obtain ⟨f4,d4,a4,F4⟩:=e4
 obtain ⟨f5,d5,a5,F5⟩:=e5
 obtain ⟨f6,d6,a6,F6⟩:=e6
 obtain ⟨f7,d7,a7,F7⟩:=e7
 obtain ⟨f8,d8,a8,F8⟩:=e8
 obtain ⟨f9,d9,a9,F9⟩:=e9
 obtain ⟨f10,d10,a10,F10⟩:=e10
 obtain ⟨f11,d11,a11,F11⟩:=e11
 obtain ⟨f12,d12,a12,F12⟩:=e12
 obtain ⟨f13,d13,a13,F13⟩:=e13
 obtain ⟨f14,d14,a14,F14⟩:=e14
 obtain ⟨f15,d15,a15,F15⟩:=e15
 obtain ⟨f16,d16,a16,F16⟩:=e16
 obtain ⟨f17,d17,a17,F17⟩:=e17
 obtain ⟨f18,d18,a18,F18⟩:=e18
 obtain ⟨f19,d19,a19,F19⟩:=e19
 obtain ⟨f20,d20,a20,F20⟩:=e20
 obtain ⟨f21,d21,a21,F21⟩:=e21
 obtain ⟨f22,d22,a22,F22⟩:=e22
 obtain ⟨f23,d23,a23,F23⟩:=e23
 obtain ⟨f24,d24,a24,F24⟩:=e24
 obtain ⟨f25,d25,a25,F25⟩:=e25
 obtain ⟨f26,d26,a26,F26⟩:=e26
 have F27:=Jd (st:=lV) l27 c27 k27 lT27
 obtain ⟨f28,d28,a28,F28⟩:=e28
 obtain ⟨f29,d29,a29,F29⟩:=e29
 obtain ⟨f30,d30,a30,F30⟩:=e30
 obtain ⟨f31,d31,a31,F31⟩:=e31
 obtain ⟨f32,d32,a32,F32⟩:=e32
 obtain ⟨f33,d33,a33,F33⟩:=e33
 obtain ⟨f34,d34,a34,F34⟩:=e34
 obtain ⟨f35,d35,a35,F35⟩:=e35
 have F36:=D7 (st:=ow) l36 c36 k36
 have m:dh w K mg:=⟨S7 X G z0,
   S7 X G z1,
   S7 X G z2,
   S7 X G z3,
   S7 X G z4,
   S7 X G z5,
   S7 X G z6,
   S7 X G z7,
   S7 X G z8,
   S7 X G z9,
   S7 X G z10,
   S7 X G z11,
   S7 X G z12,
   ⟨_,(.int 6),Sn X G gMOST_DEPTH,⟨_,rfl⟩,λ_=>(.int _)⟩,
   ⟨_,(.int 600),Sn X G gMOST_POWER,⟨_,rfl⟩,λ_=>(.int _)⟩,
   ⟨_,(.int 4),Sn X G gMOST_SMALL,⟨_,rfl⟩,λ_=>(.int _)⟩,
   ⟨_,a16,Sn X G a16⟩⟩
 refine ⟨Sb "law" "law" (aT ow) (aO ow) (ay ow) .none v36 d36 p36 n36 q36 r36,λs v=>.of_eq rfl,λbase _ _=>?_⟩
 have C0:=Af (P:=l.prog) (base:=base) m F0 (Sn X G a0)
 have C1:=yq (P:=l.prog) (base:=base) m F1 (Sn X G a1)
 have C2:=uD (P:=l.prog) (base:=base) m C1 F2 (Sn X G a2)
 have C3:=pe (P:=l.prog) (base:=base) m F3 (Sn X G a3)
 have C4:=wN (P:=l.prog) (base:=base) m C2 C3 F4 (Sn X G a4)
 have C5:=wM (P:=l.prog) (base:=base) m C0 F5 (Sn X G a5)
 have C6:=DN (P:=l.prog) (base:=base) m F6 (Sn X G a6)
 have C7:=IL (P:=l.prog) (base:=base) m F7 (Sn X G a7)
 have C8:=FG (P:=l.prog) (base:=base) m C7 F8 (Sn X G a8)
 have C9:=Fz (P:=l.prog) (base:=base) m F9 (Sn X G a9)
 have C10:=uC (P:=l.prog) (base:=base) m C9 F10 (Sn X G a10)
 have C11:=Aj (P:=l.prog) (base:=base) m C4 C5 C8 C9 C10 F11 (Sn X G a11)
 have C12:=Fy (P:=l.prog) (base:=base) m C6 F12 (Sn X G a12)
 have C13:=wO (P:=l.prog) (base:=base) m F13 (Sn X G a13)
 have C14:=Ak (P:=l.prog) (base:=base) m F14 (Sn X G a14)
 have C15:=Ai (P:=l.prog) (base:=base) m C13 C12 C14 F15 (Sn X G a15)
 have C16:=qH (P:=l.prog) (base:=base) m F16 (Sn X G a16)
 have C17:=DM (P:=l.prog) (base:=base) m C16 F17 (Sn X G a17)
 have C18:=rC (P:=l.prog) (base:=base) m C11 F18 (Sn X G a18)
 have C19:=qI (P:=l.prog) (base:=base) m C18 C15 C17 F19 (Sn X G a19)
 have C20:=Ae (P:=l.prog) (base:=base) m F20 (Sn X G a20)
 have C21:=yp (P:=l.prog) (base:=base) m C20 F21 (Sn X G a21)
 have C22:=DK (P:=l.prog) (base:=base) m C4 C5 C19 C21 F22 (Sn X G a22)
 have C23:=FF (P:=l.prog) (base:=base) m F23 (Sn X G a23)
 have C24:=uE (P:=l.prog) (base:=base) m F24 (Sn X G a24)
 have C25:=BZ (P:=l.prog) (base:=base) m F25 (Sn X G a25)
 have C26:=sH (P:=l.prog) (base:=base) m C25 C24 F26 (Sn X G a26) 10
 have O_kind:=Jb (P:=l.prog) (w:=w) (base:=base) m C5 C23 C26 F27
 have C27:=IK O_kind F27 (Sn X G a27)
 have D_kind:=FD O_kind F27 (Sn X G a27)
 have C28:=yi (P:=l.prog) (base:=base) m F28 (Sn X G a28)
 have C29:=wH (P:=l.prog) (base:=base) m F29 (Sn X G a29)
 have C30:=yh (P:=l.prog) (base:=base) m F30 (Sn X G a30)
 have C31:=wJ (P:=l.prog) (base:=base) m C30 F31 (Sn X G a31)
 have C32:=wI (P:=l.prog) (base:=base) m F32 (Sn X G a32)
 have C33:=uB (P:=l.prog) (base:=base) m F33 (Sn X G a33)
 have C34:=sG (P:=l.prog) (base:=base) m F34 (Sn X G a34)
 have C35:=Ad (P:=l.prog) (base:=base) m C28 C29 C31 C32 C33 C34 F35 (Sn X G a35)
 exact NH m C35 C22 C27 D_kind F36
theorem Ku (K:RV) (H:Hp) (a:Se) (ns:List Int) (hl:ns.length<=63) (hO:BJ H) (hS:cH K H a (ns.map V.int)):qh K 1 K54.um [.ref a] H (λv _=>v=.bl true) λ_ _ _=>False:=by
 refine ⟨λ_=>none,[.bor (ns.map D.int)],λ_ _ z=>(by cases z),rfl,⟨_,[],rfl,⟨a,_,rfl,hS,?_⟩,rfl⟩,?_⟩
 ·exact K01.vW ns
 ·rw [Jx ns hl]
  intro v J H2 _ r
  cases r
  rfl
theorem walk {l:YL}{q:Sm}{loose:List Str}{XP:(Str->Option RX)->TU->Prop}{YP:SO->TU->Prop}{d:DefRec}{K:ab1->RV}(hn:l.most=some 63) (hdf:d.params.defaults=[])
  (hY:∀(w:SO) (h:TU),YP w h->(K w.params).In h)
  (F:∀(w:SO) (mg:Str->Option RX) (fa:Se) (h:TU),(K w.params).In h->h.Ns SE mg->mg d.name=some (.ref fa)->
   ∃fd:SH,(∀(s:RZ) (u:RX),aaC s fd ⟨[u],[]⟩ [("_law_script",u)])/\∀base:TU,(K w.params).In base->base.Ns SE mg->fH l.prog w (K w.params) mg base oG 13 fa fd ["_law_script"] (qh (K w.params) 1 K54.um)):
  abG q loose XP YP l.row.toRowW d [] (λf vs=>abo f vs):=
 L2.KH (n:=63) (k:=13) (x:="_law_script") (CX:=λ_=>oG) (sp:=λw=>qh (K w.params) 1 K54.um) hn (by decide) hdf ⟨rfl,by decide,by decide⟩ hY F (λw H a ns hl hO hS=>Ku _ H a ns hl hO hS) λ_ _ _ _ _ z=>z
end K54
open PySem PySem.W PyProof.Rows
set_option maxRecDepth 100000 in
set_option maxHeartbeats 0 in
theorem PySem.Challenge.cw_pickalike_k54_whole_kinds_and_layers_holds : PySem.Challenge.rw_pickalike_k54_whole_kinds_and_layers.Holds := by
 refine holds_law K54.look λsaid=>?_
 refine holds_open (q:=K54.VW) (XP:=XL K54.VW []) (YP:=Hook.says K54.HK) K54.left (Hook.of K54.HK) (Hook.keeps K54.HK) (λs e=>xl_of s (Zd.mp e).1) XL.keeps (by rfl) (by rfl) (by rfl) (λs e=>recFacts_of (Zd.mp e).2) (by rfl) said (by decide +kernel) ⟨rfl,rfl,rfl,rfl,rfl,by decide +kernel⟩ ?hw ?hc
 (case hw=>w_witness2)
 delta K54.HK
 k_fill
 refine K54.walk (l:=PySem.Challenge.rw_pickalike_k54_whole_kinds_and_layers) rfl rfl (K:=K54.KF) (λw h Y=>PySem.W.kIn_of Y) ?F
 case F=>
  intro w mg fa h KX G hmg
  refine' K54.all_mk KX G hmg (DL.bY ?a0 ?l0 ?c0 ?k0) (DL.bY ?a1 ?l1 ?c1 ?k1) (DL.bY ?a2 ?l2 ?c2 ?k2) (DL.bY ?a3 ?l3 ?c3 ?k3) (DL.bY ?a4 ?l4 ?c4 ?k4) (DL.bY ?a5 ?l5 ?c5 ?k5) (DL.bY ?a6 ?l6 ?c6 ?k6) (DL.bY ?a7 ?l7 ?c7 ?k7) (DL.bY ?a8 ?l8 ?c8 ?k8) (DL.bY ?a9 ?l9 ?c9 ?k9) (DL.bY ?a10 ?l10 ?c10 ?k10) (DL.bY ?a11 ?l11 ?c11 ?k11) (DL.bY ?a12 ?l12 ?c12 ?k12) (DL.bY ?a13 ?l13 ?c13 ?k13) (DL.bY ?a14 ?l14 ?c14 ?k14) (DL.bY ?a15 ?l15 ?c15 ?k15) (DL.bY ?a16 ?l16 ?c16 ?k16) (DL.bY ?a17 ?l17 ?c17 ?k17) (DL.bY ?a18 ?l18 ?c18 ?k18) (DL.bY ?a19 ?l19 ?c19 ?k19) (DL.bY ?a20 ?l20 ?c20 ?k20) (DL.bY ?a21 ?l21 ?c21 ?k21) (DL.bY ?a22 ?l22 ?c22 ?k22) (DL.bY ?a23 ?l23 ?c23 ?k23) (DL.bY ?a24 ?l24 ?c24 ?k24) (DL.bY ?a25 ?l25 ?c25 ?k25) (DL.bY ?a26 ?l26 ?c26 ?k26) ?a27 ?l27 ?c27 ?k27 ?lT27 (DL.bY ?a28 ?l28 ?c28 ?k28) (DL.bY ?a29 ?l29 ?c29 ?k29) (DL.bY ?a30 ?l30 ?c30 ?k30) (DL.bY ?a31 ?l31 ?c31 ?k31) (DL.bY ?a32 ?l32 ?c32 ?k32) (DL.bY ?a33 ?l33 ?c33 ?k33) (DL.bY ?a34 ?l34 ?c34 ?k34) (DL.bY ?a35 ?l35 ?c35 ?k35) ?a36 ?l36 ?c36 ?k36 ?z0 ?z1 ?z2 ?z3 ?z4 ?z5 ?z6 ?z7 ?z8 ?z9 ?z10 ?z11 ?z12 ?gMOST_DEPTH ?gMOST_POWER ?gMOST_SMALL
  case a0 | l0 | c0 | k0 | a1 | l1 | c1 | k1 | a2 | l2 | c2 | k2 | a3 | l3 | c3 | k3 | a4 | l4 | c4 | k4 | a5 | l5 | c5 | k5 | a6 | l6 | c6 | k6 | a7 | l7 | c7 | k7 | a8 | l8 | c8 | k8 | a9 | l9 | c9 | k9 | a10 | l10 | c10 | k10 | a11 | l11 | c11 | k11 | a12 | l12 | c12 | k12 | a13 | l13 | c13 | k13 | a14 | l14 | c14 | k14 | a15 | l15 | c15 | k15 | a16 | l16 | c16 | k16 | a17 | l17 | c17 | k17 | a18 | l18 | c18 | k18 | a19 | l19 | c19 | k19 | a20 | l20 | c20 | k20 | a21 | l21 | c21 | k21 | a22 | l22 | c22 | k22 | a23 | l23 | c23 | k23 | a24 | l24 | c24 | k24 | a25 | l25 | c25 | k25 | a26 | l26 | c26 | k26 | a27 | l27 | c27 | k27 | lT27 | a28 | l28 | c28 | k28 | a29 | l29 | c29 | k29 | a30 | l30 | c30 | k30 | a31 | l31 | c31 | k31 | a32 | l32 | c32 | k32 | a33 | l33 | c33 | k33 | a34 | l34 | c34 | k34 | a35 | l35 | c35 | k35 | a36 | l36 | c36 | k36 | z0 | z1 | z2 | z3 | z4 | z5 | z6 | z7 | z8 | z9 | z10 | z11 | z12 | gMOST_DEPTH | gMOST_POWER | gMOST_SMALL=>k_is
