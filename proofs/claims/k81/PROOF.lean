import PyProof.Rows.All
import Wide.All
import OpenK.AllK
import Wide.FinOn
import Lean
import PyProof.EqAt
import PyProof.EqKinds
import PyProof.TupleCall
import KE.KIsAll
import PyProof.ExcAttrAll.ValueError
import PyProof.NeKinds
import PyProof.InstStoreFacts
import KE.KUnpackStar
import KE.KSortTup
import PyProof.EnumFor
import PyProof.EnumStmt
import PyProof.ListRange
import PyProof.TupleKey
import PyProof.SetKind
import PyProof.Rows.SetFrom
import PyProof.SetRoads
import PyProof.CollectWalk
import PyProof.WalksMore
import PyProof.Rows.SortWalk
import PyProof.DictKinds
import PyProof.DictCompW
import PyProof.DictRoadsH
import PyProof.DictWalks
import PySem.Challenge.RW_pickalike_k81_classes_of_points
noncomputable section
open And renaming intro->X4
open Array renaming length_toList->Rm,getElem?_eq_some_iff->Su,getElem?_toList->SY,getD->Tq,getElem?_eq_getElem->Ui,mem_toList_iff->U5,forIn_toList->VC,getD_eq_getD_getElem?->Wq,toList->XM,size_append->Y_,toList_push->Zg
open Array.Perm renaming mem_iff->UP,refl->ab3
open Bool renaming and_eq_true->Ri,false_eq_true->Ry,false_ne_true->RV,eq_iff_iff->RY,true_and->TM,not_true->TN,or_eq_true->TX,and_false->UL,not_false->VT,and_eq_true_iff->Yj,eq_false_iff->Y8,or_false->aaO,and_self->aaR,false_or->aaX
open Classical renaming byContradiction->Tv,propDecidable->aa5
open False renaming elim->UU
open ForInStep renaming yield->TY
open Function renaming comp_def->VP
open Iff renaming rfl->Yx
open Int renaming toNat_natCast->Tn,emod_nonneg->T3,emod_lt_of_pos->Ua,fdiv_eq_ediv_of_nonneg->Wx,zero_add->XW,natCast_add->XY
open List renaming range->Ra,mem_cons_of_mem->Rb,mem_cons_self->Rf,mem_map->Rg,length_map->Rh,mem_range->Rk,getElem?_eq_getElem->Rl,size_toArray->Ro,mem_singleton->Rp,mem_cons->Rt,map_cons->Rv,getElem?_map->RD,getD_eq_getElem?_getD->RH,length_append->RI,mem_append->RJ,getElem?_eq_some_iff->RK,map_append->RM,map_map->RT,all_eq_true->R0,mem_filter->R1,pairwise_map->R3,replicate->R5,mem_append_right->R9,length_filter_le->Sa,getElem?_set_ne->Se,pairwise_singleton->Sf,not_mem_nil->Sl,idxOf_lt_length_of_mem->Sq,length_replicate->Ss,pairwise_lt_range->Sz,length_cons->SG,getElem_mem->SH,getElem?_append_right->SI,mem_of_getElem?->SJ,getElem?_set_self->SK,pairwise_iff_getElem->SN,lookup_cons->SQ,any_eq_true->SS,replicate_succ->SV,nodup_cons->S9,pairwise_append->Te,mem_iff_getElem->Tf,length_take->Th,nodup_range->Tj,getElem?_append_left->Tu,nodup_nil->TR,range_succ->T5,eq_nil_or_concat->Uc,concat_eq_append->Ud,mem_append_left->Uj,append_nil->Ur,length_range->Uu,all_cons->UC,length_eq_zero_iff->UD,map_congr_left->UG,length_drop->UH,ext_getElem->UI,range_succ_eq_map->UM,pairwise_cons->UN,filter_append->UO,getElem_idxOf->UQ,drop_eq_getElem_cons->U_,getElem?_zip_eq_some->Vd,take_length->Vf,getElem?_range->Vi,any_map->Vn,eq_of_mem_replicate->Vo,mem_filterMap->Vr,getElem?_replicate->Vt,filter_cons_of_pos->VA,nodup_append->VN,filter_congr->VQ,take_succ->VS,mem_iff_getElem?->V0,pairwise_flatMap->V3,eq_nil_of_length_eq_zero->V5,getElem_map->V8,mem_flatMap->Wa,map_flatMap->Wb,any_cons->We,filterMap_cons->Wh,foldl_cons->Wm,length_nil->Wu,filter_eq_self->Wv,nodup_iff_pairwise_ne->Wz,perm_ext_iff_of_nodup->WA,map_nil->WC,zip_cons_cons->WG,find?_eq_none->WH,getLast?_eq_none_iff->WS,take_sublist->WW,append_cancel_right->WY,getElem_append_left->WZ,append_assoc->W3,foldl_append->W_,find?_range_eq_some->Xb,length->Xd,map_take->Xg,map_drop->Xh,filter_cons_of_neg->Xj,pairwise_filterMap->Xk,drop_eq_nil_of_le->Xz,of_mem_zip->XQ,all_map->XU,getElem?_eq_none->XX,take_append_drop->XZ,range_eq_range'->Yg,getLast?_concat->Yi,getD_cons_zero->Yt,filterMap_map->YH,contains_cons->YM,drop_sublist->Zc,getElem_drop->Ze,idxOf_append->Zf,all_eq_false->Zj,getElem_inj->Zu,le_antisymm->Zy,range'_succ->ZA,perm_middle->ZC,filter_map->Z7,length_zip->Z8,drop_zero->aaf,filterMap->aaj,getD->abi,lookup->abC,range'->abE,map->abQ
open List.Nodup renaming length_le_of_subset->RN
open List.Pairwise renaming nil->UW,and_mem->VZ,imp->W7,of_map->abn,and->abW,map->abX
open List.Perm renaming append_left->abh,of_eq->ab6
open List.cons renaming inj->ab9
open Nat renaming le_refl->Rj,lt_of_lt_of_le->RC,ne_of_lt->RE,zero_le->RL,le_trans->RS,lt_succ_of_lt->Sn,not_lt_zero->So,lt_succ_self->Ti,le_succ->To,lt_irrefl->Tr,le_of_succ_le->Uv,lt_trichotomy->Uw,ne_of_gt->Ux,pow_le_pow_right->U6,mul_le_mul_right->U7,le_add_right->Vg,lt_trans->Vl,le_of_lt_succ->VM,div_div_eq_div_mul->XC,le_of_lt->XI,mod_lt->Yb,mul_le_mul->Ym,lt_of_le_of_lt->YR,lt_or_eq_of_le->YS,pow_succ->Zr,zero_add->Zs,add_mul->Z4,not_lt->aaG,add_assoc->aaZ,le_of_eq->abb
open Ne renaming symm->Um
open Option renaming isSome_iff_exists->SE,bind_some->Xr,getD_none->Zw,map_some->ZP,none->abB
open Option.some renaming inj->Sv,injEq->Tp
open Or renaming inr->Vy,inl->WE
open Prod renaming fst->Ve
open PyProof.Rows renaming slot_tuple_getitem->Sm,seqObj->TL,IntsAre->Vh,subscriptTail_builtinR->VF,callWith_type1->Wj,entry_list_sort->Wo,slot_list_sort->WM,args_list_sort->WN,listUpdate_at->Xi,envOfC->Xo,AllBare->XH,entry_tuple_getitem->Yq,seqEpoch_at->Yv,args_tuple_getitem->YI,sortedAll->YO,sortedAll_old->YQ,callWith_builtin1->Zk,sortedAll_at->Zm,plain_sorted->Zo,entry_sorted->Zp,args_sorted1->Zq,get?_update_seq->ZS,list_sort_plain->ZT,kind_sorted->ZU,slicePart_none->aab,keyLt'_oneType->aai,sortedHeap->aaB,tupleItemsOf_->aaL,subscriptTail->aaN,SortKind->aaU,keyKind'->aaV,oneType'->aaY,sortedHeap_at->aa2,oneLt_int->abg,IsTup->abo,lt_int->abF,lt_str->abG,tuples'->abH,le_int->abL
open PyProof.Rows.F renaming plain_set_update_loop->RQ,entry_set_update_loop->SO
open PyProof.Rows.IsTup renaming new->aa_
open PySem renaming wpAny_bind->Q6,Value->Q8,wpAny_pure->Q9,Shared->Q_,Addr->Rq,starEach->Rr,foldedSetIterable->Rx,Program->Rz,wpAny->RA,model->RG,FuncData->RO,mainGlobals->RP,wpAny_holding->RU,Expr->RX,World->RZ,Around->R4,wpAny_newObj_type->R8,wpAny_call_entry->Sb,bootBuiltins->Sd,sizeLine_eq->Sh,wpAny_mono->Si,cellsFrom->Sj,SetTable->Sk,wpAny_truthy_bool->Sw,behindInMarks->SA,Heap->SM,wpAny_setState_of->S0,cLine->S6,compareOp->S7,wpAny_standAt->S8,wpAny_callSpecial?_slot->S_,codeAny_builtin->Td,NameKind->Tt,codeAny_mono->Tw,wpAny_typeNameOfWhole_keyiter->TJ,backTo->TU,letOwnedTupleGo->TV,wpAny_loadPart'->TZ,Scope->T7,codeAny->T8,wpAny_forIn_list->T9,wpAny_askSetting->T_,assignEach->Uo,wpAny_passesOwn->Uq,Stmt->Uy,standAt->Uz,binaryOp->UA,mem_of_lookup->UB,sysModules->UJ,swapsWith->US,codeAny_of_tree->UT,plainId_quiet->UZ,hashInt->U1,Builtin->U3,codeAny_call_builtin->U4,isSubtype_type->Vb,wpAny_of_eq->Vj,swapsWithSole->Vq,wpAny_Call_Name_kw->Vs,wpAny_attempt->Vv,mem_of_lookup->Vz,wpAny_specialOf->VB,pyNext->VD,sliceBounds->VI,wpAny_pyIter_list->VJ,wpAny_storeSet_of->VO,compTurn->VV,wpAny_typeOf->VY,builtinLookup_eq_fast->V1,weight_type_call_type->V2,wpAny_isInstance->V9,wpAny_newList->Wf,wpAny_execs_nil->Wi,wpAny_updateSeq->Wn,wpAny_setEntries_of->Wr,pyIter->WB,wpAny_pyIter_tuple->WD,wpAny_setField_rec->WI,wpAny_fieldsOf->WO,firstArgMember->WQ,wpAny_runValue->WR,Paired->WT,wpAny_call->WV,wpAny_rule->WX,searchCouldBeSeen->W0,wpAny_pyIter_slot->W4,arm_evalThenUse_ListComp->W8,wpAny_dictEntries->Xa,Comprehension->Xl,wpAny_pyHash_int->Xn,noFill_tuple_add->Xp,checkBuiltinCall->Xq,check_set_init_1->Xw,richCompare_meets_room->XA,codeAny_compStart_list->XD,codeAny_compStart_dict->XG,wpAny_isTrue_Compare1->XJ,inplaceOp->XN,setAddHashed->X0,typeLookup_type->X3,arm_exec_Assign->X5,wpAny_dictEpoch->X7,wpAny_isOneOf_keyiter->X8,wpAny_loadName_local->Yc,isTrue->Yk,wpAny_seqItems->Yn,wpAny_bindName->Yo,wpAny_loadName_cell->Yp,GenState->YA,Operator->YB,swappedStores->YC,seq_tuple_add->YF,IsPart->YG,attributeBase->YJ,DictEntry->YL,compPost->YU,slot_dict_contains->YV,intKind->YZ,getItem->Y0,wpAny_sequenceKey->Y3,slot_list_getitem->Y4,callerA->Y6,ofAClassStatement->Zh,concat_meets->Zl,wpAny_execs_cons->Zv,bindArgs->ZE,PassesOwn->ZH,Result->ZI,BindsTo->ZJ,wpAny_field->ZK,keywordEach->ZL,Keyword->ZM,pushCells->ZV,pushCells_keeps->ZW,pickOrder->ZY,isSubtype->Z0,noteFrame->Z2,theTreesLotGoes->Z3,compStart->Z5,theWindowsPlace->Z6,recursionLimit->aaa,boot_len->aae,wpAny_newTuple->aag,newFunctionEnv->aah,setAddHashedIn->aal,entryFor_alias->aam,isSubtype_stop->aan,wpAny_setField->aap,entryOfKey->aaq,builtinsNs->aar,wpAny_Name->aas,rawInt->aat,call_meets->aau,call->aav,isInstance->aax,reduceHash->aay,checkCount->aaC,setsByText->aaD,noKeywords->aaF,intKind_is->aaH,rangeSize_one->aaJ,intBits_le_64->aaK,evalPart_none->aaM,call_list_seq->aaP,setSearchFrom->aa0,wpAny_handled->aa1,wpAny_notedAt->aa3,eval_ListComp->aa4,atKey->aa6,storeName->aa8,CmpOp->aa9,Params->aba,bindL->abq,bindC->abr,CellsOk->abI,backToKw->abO,entryFor->abR,bindName->abS,Model->abT,Fin->ab4
open PySem.Around renaming under_plainId->Tg,under_plain->WK
open PySem.AutoSeq1 renaming sub_tuple_tuple->Vm
open PySem.Builtin renaming bitAnd->WL
open PySem.Builtin.Dict renaming showsAll->X6,dictSlotNone->aao
open PySem.Builtin.Dict_items renaming ownsTuple->Wg
open PySem.Builtin.Frozenset renaming updateFrom->UR,sizeOf->W5,newClass->Z_
open PySem.Builtin.List renaming listTooLong->TH,listLengthHint->Ws,listExtendWith->Wt,listSameRef->aaE
open PySem.Builtin.Range renaming rangeSize->Xc
open PySem.Builtin.Slice renaming slicePlaces->Ue,sliceAdjust->U8,sliceApplied->Wy,slicePartIndex->ZF,sliceFields->aac
open PySem.Builtin.Str renaming tooLong->Ys,occurrences->aaS
open PySem.Builtin.Tuple renaming tupleHashOf->Sx,tupleExact->Us,tupleItemsOf->U0,tupleCompareSizes->VL,tupleIsExact->Z9
open PySem.Calls renaming call_function_entry->Va,Name_function_global->Ww
open PySem.CmpOp renaming NotIn->abp,In->ab7
open PySem.Code renaming quiet_builtin->WJ
open PySem.Env renaming kindOf->abV
open PySem.Expr renaming Call->ab5
open PySem.F renaming called_set->R6,slot_dict_keyiterator_next->S5,slot_tuple_hash->UY,args_tuple_add_2->Vk,entry_tuple_add->Vu,slot_tuple_add->VE,typeCall_set_1->VH,args_dict_keyiterator_next_1->V4,entry_dict_keyiterator_next->Wc,attrBase_ValueError->Wl,entry_type_call->W6,plainAttrs_list->Xf,entry_set_init->Xv,args_list_extend_2->Yd,entry_list_extend->Yr,slot_list_extend->YK,plain_list_iadd->Zi,slot_dict_iter->ZD,slot_set_iter->ZZ,plain_set_new->Z1
open PySem.Heap renaming get?_push_of_some->Rc,get?_push_size->Rn,lt_size->Ru,SameBut->Sy,get?_update_self->S3,size_push->Uh,get?_update_other->VG,size_update->Xs,get?_update_ne->Yu,get?_push_ne->Zd,ExtBut->abJ
open PySem.Heap.IsList renaming push->Zz
open PySem.Heap.IsSliceOf renaming new->abM
open PySem.Heap.SameBut renaming update->SW,refl->W9
open PySem.IsL renaming update->abY
open PySem.Moved renaming trans->Yw
open PySem.NameKind renaming free->SD,cell->Vx
open PySem.Obj renaming mapSeq->SX,putSet->W2,data_mapFields->YW,mapFields->aa7
open PySem.Paired renaming length->aaI
open PySem.PassesOwn renaming leaving->Zb,never->ZQ
open PySem.SeqAt renaming EqAt->TF,ne_of_list_tuple->Xy
open PySem.SeqAt.EqAt renaming same->XR,int_str->Yy,str_int->Yz,int_int->YE,of_refs->YN,tuple_list->abd,list_tuple->abe,none_bool->abj,bool_none->abk,bool_bool->abl,none_int->abt,none_str->abu,bool_int->abv,bool_str->abw,int_none->abx,int_bool->aby,str_none->abz,str_bool->abA,str_str->abN
open PySem.SeqAt.RcAt renaming tuples->Y9,lists->Zx,lists_lengths->aaz
open PySem.SeqAt.RcNeAt renaming tuples->abD,lists->abP
open PySem.SetTable renaming insertAt->S4,sizeAbove->Tc,below->Vc,grown->VU,tooFull->V_,advance->Xu,fill->YT,runEnd->ZX,turns->aak
open PySem.Shared renaming TypeIs->UE
open PySem.Str renaming ofString->VX,length->Y5
open PySem.Value renaming none->R7,bool->Uk,type->Ul,ref->Vp,builtin->Xe,notImplemented->Yh,int->ZG,str->ab1
open PySem.Value.ref renaming inj->ab8
open PySem.W renaming Frag->Q7,fnOf->Rw,mg_of->RB,nsIn->R_,mg_none_of->Sg,kia_one->Tz,kas_desc->TQ,kas_sort->T6,kas_place->Ub,findIn->Ug,keepIn->UK,mroIn->UX,InstAt->U9,clsIn->Vw,codeIn->VR,kas_rev->V6,kas_asc->V7,findObj->Wk,methodObj->WU,cellsFrom_some->Xx,OpenLaw->XS,looks_findIn->Ye,kitOne->Yl,callWith_K->YD,specialIn->Y7,kitx_dict->Za,kas_descPart->Zn,takesIn->ZN,kitMeta->ZO,kas_count->ZR,notCls->aad,WalkO->aaQ,kas_bin->aaT,kat_cons->aaW,kas_tail3->abf
open PySem.W.Hook renaming obs->abZ,val->ab0
open PySem.W.OpenLaw renaming wellSaid->aaw
open PySem.W.RowW renaming records->abm
open PySem.W.WData renaming int->ab2
open PySem.W.WShape renaming has->abU
open PySem.Walks renaming list->aaA,tuple->abK
open PySem.pickOrder renaming go->Zt
open Subtype renaming ext->Xm
open Sum renaming inl->YX,inr->YY
open True renaming intro->X_
set_option Elab.async false
set_option linter.all false
set_option maxRecDepth 100000
namespace L2
open PySem PySem.Spec PyProof.Rows
abbrev Key:=Sum Int Str
noncomputable def HV:Key->Q8->Bool
 | .inl k,v=>Value.isInt k v
 | .inr x,v=>Value.isStrOf x v
noncomputable def Oq (w:RZ):Key->Int
 | .inl k=>U1 k
 | .inr x=>hashStr w x
theorem eO:∀{k:Key}{v:Q8},HV k v=true->(∃i t,k=YX i/\v=ZG i t)\/(∃x t,k=YY x/\v=ab1 x t)
 | .inl i,v,h=>by
  obtain ⟨t,e⟩:=Value.isInt_shape (k:=i) (v:=v) h
  exact .inl ⟨i,t,rfl,e⟩
 | .inr x,v,h=>by
  obtain ⟨t,e⟩:=Value.isStrOf_shape (x:=x) (v:=v) h
  exact .inr ⟨x,t,rfl,e⟩
theorem LA (a b:Int):decide ((YX a:Key)=YX b)=(a == b):=by
 by_cases e:a=b
 ·subst e;simp
 ·have h:¬(YX a:Key)=YX b:=λq=>e (Sum.inl.inj q)
  rw [decide_eq_false h]
  exact (beq_eq_false_iff_ne.mpr e).symm
theorem LD (a b:Str):decide ((YY a:Key)=YY b)=decide (a=b):=by
 by_cases e:a=b
 ·subst e;simp
 ·have h:¬(YY a:Key)=YY b:=λq=>e (Sum.inr.inj q)
  rw [decide_eq_false h,decide_eq_false e]
theorem LB (a:Int) (b:Str):decide ((YX a:Key)=YY b)=false:=decide_eq_false (λq=>nomatch q)
theorem LC (a:Str) (b:Int):decide ((YY a:Key)=YX b)=false:=decide_eq_false (λq=>nomatch q)
noncomputable def u7 (prog:Rz) (w:RZ):PySem.KeyKind prog w Key where
 is:=HV
 hash:=Oq w
 inj:=λv a b ha hb=>by
  rcases eO ha with ⟨i,t,rfl,rfl⟩ | ⟨x,t,rfl,rfl⟩
  ·rcases eO hb with ⟨j,u,rfl,e⟩ | ⟨y,u,rfl,e⟩
   ·injection e with e1 _;rw [e1]
   ·exact nomatch e
  ·rcases eO hb with ⟨j,u,rfl,e⟩ | ⟨y,u,rfl,e⟩
   ·exact nomatch e
   ·injection e with e1 _;rw [e1]
 byValue:=λk v h=>by
  rcases eO h with ⟨i,t,rfl,rfl⟩ | ⟨x,t,rfl,rfl⟩ <;> rfl
 pyHash:=λhv h=>by
  rcases eO hv with ⟨i,t,rfl,rfl⟩ | ⟨x,t,rfl,rfl⟩
  ·exact Xn h
  ·exact wpAny_pyHash_str h
 eqBool:=λhu hv h=>by
  rcases eO hu with ⟨i,t,rfl,rfl⟩ | ⟨x,t,rfl,rfl⟩
  ·rcases eO hv with ⟨j,u,rfl,rfl⟩ | ⟨y,u,rfl,rfl⟩
   ·rw [LA] at h;exact wpAny_eqBool_int h
   ·rw [LB] at h;exact Yy i t y u _ _ _ _ h
  ·rcases eO hv with ⟨j,u,rfl,rfl⟩ | ⟨y,u,rfl,rfl⟩
   ·rw [LC] at h;exact Yz x t j u _ _ _ _ h
   ·rw [LD] at h;exact wpAny_eqBool_str h
 «strs»:=λk x t v h=>by
  rcases eO h with ⟨i,u,rfl,e⟩ | ⟨y,u,rfl,e⟩
  ·exact nomatch e
  ·injection e with e1 _
   subst e1
   cases v <;> rfl
inductive V where
 | non | bl (b:Bool) | int (i:Int) | str (x:Str) | byt (b:Array UInt8) | flt (b:UInt64) | ref (a:Rq) | ty (n:String)
 deriving DecidableEq
noncomputable def RelV:V->Q8->Prop
 | .non,u=>u=R7
 | .bl b,u=>u=Uk b
 | .int i,u=>∃t,u=ZG i t
 | .str x,u=>∃t,u=ab1 x t
 | .byt b,u=>∃t,u=Value.bytes b t
 | .flt b,u=>∃t,u=Value.float b t
 | .ref a,u=>u=Vp a
 | .ty n,u=>u=Ul n
abbrev Vals:List V->List Q8->Prop:=WT RelV
theorem Vals.length {xs:List V}{us:List Q8}(r:Vals xs us):xs.length=us.length:=aaI r
theorem Vals.get:∀{xs:List V}{us:List Q8}{i:Nat}{x:V},Vals xs us->xs[i]?=some x->∃u,us[i]?=some u/\RelV x u
 | _,_,_,_,.nil,e=>by simp at e
 | _,_,0,_,.cons r _,e=>by simp at e;subst e;exact ⟨_,rfl,r⟩
 | _,_,i + 1,x,.cons _ t,e=>by
  obtain ⟨u,h1,h2⟩:=Vals.get (i:=i) (x:=x) t (by simpa using e)
  exact ⟨u,by simpa using h1,h2⟩
theorem Vals.append:∀{xs ys:List V}{us ws:List Q8},Vals xs us->Vals ys ws->Vals (xs++ys) (us++ws)
 | _,_,_,_,.nil,s=>s
 | _,_,_,_,.cons r t,s=>.cons r (Vals.append t s)
theorem Vals.take:∀{xs:List V}{us:List Q8}(n:Nat),Vals xs us->Vals (xs.take n) (us.take n)
 | _,_,0,_=>.nil
 | _,_,_ + 1,.nil=>.nil
 | _,_,n + 1,.cons r t=>.cons r (Vals.take n t)
theorem Vals.drop:∀{xs:List V}{us:List Q8}(n:Nat),Vals xs us->Vals (xs.drop n) (us.drop n)
 | _,_,0,r=>r
 | _,_,_ + 1,.nil=>.nil
 | _,_,n + 1,.cons _ t=>Vals.drop n t
noncomputable def KY:Option V->Option Q8->Prop
 | some v,some u=>RelV v u
 | none,none=>True
 | _,_=>False
def KV {κ:Type}:List (κ×V)->List (κ×Q8)->Prop:=WT λ(p:κ×V) (q:κ×Q8)=>p.1=q.1/\RelV p.2 q.2
noncomputable def kV:Key->V
 | .inl i=>.int i
 | .inr x=>.str x
inductive HO where
  | lst (xs:List V)
  | tup (xs:List V)
  | dK (Q4:List (Key×V)) | dT (Q4:List (List Key×V))
  | set (S:Int->Bool) (n:Nat)
  | ins (C dx:Rq) (fs:List (Str×V))
  | own (x:Rq)
  | xd (fs:List (Str×V))
  | met (f x:Rq)
  | rng (lo hi:Int)
  | frz (o:Obj) (u:HO)
  | tbl (ps:Array Q8)
  | ext (φ:SM->Prop)
abbrev Hp:=Rq->Option HO
def upd (H:Hp) (a:Rq) (o:HO):Hp:=λb=>if b=a then some o else H b
theorem cK {H:Hp}{a:Rq}{o:HO}:upd H a o a=some o:=by unfold upd;rw [if_pos rfl]
theorem bG {H:Hp}{a b:Rq}{o:HO}(h:b≠a):upd H a o b=H b:=by unfold upd;rw [if_neg h]
theorem fX {H:Hp}{a b:Rq}{o:HO}(h:H a=some o) (h':H b=none):a≠b:=by
 intro e;subst e;rw [h] at h';cases h'
section
variable (P:Rz) (w:RZ)
noncomputable def cM (H:Hp) (h:SM) (a:Rq):HO->Prop
 | .lst xs=>xs.length<=sizeLine/\∃(QX:List Q8) (n:Nat),Vals xs QX/\h.get? a=some {cls:=.type "list",data:=.seq QX.toArray n}
 | .tup xs=>xs.length<=sizeLine/\∃QX:List Q8,Vals xs QX/\abo h a QX.toArray
 | .dK Q4=>Q4.length<=sizeLine/\(a == UJ)=false/\∃vs,KV Q4 vs/\h.DictOf (u7 P w) a vs
 | .dT Q4=>Q4.length<=sizeLine/\(a == UJ)=false/\∃xs:List (List Key×Rq×Q8),
   WT (λ(p:List Key×V) (q:List Key×Rq×Q8)=>p.1=q.1/\H q.2.1=some (.tup (p.1.map kV))/\RelV p.2 q.2.2) Q4 xs/\
   ∃o es ep,h.get? a=some o/\o.ExactDict/\o.data=.dict es ep/\es.toList=xs.map (aaq (tupleKind (u7 P w)))/\(xs.map (·.1)).Nodup
 | .set S n=>h.SetOf (YZ P w) a S n
 | .ins C dx fs=>H dx=some (.own a)/\fs.length<=1000/\dx≠a/\h.get? a=some (W.instObj C dx)/\
   ∃mA,h.Ns1 dx mA/\(∀f,KY (fs.lookup f) (mA f))/\PySem.Within mA (fs.map (·.1))
 | .own _=>∃o,h.get? a=some o
 | .xd fs=>∃mA,h.Ns1 a mA/\∀f,KY (fs.lookup f) (mA f)
 | .rng lo hi=>∃t u v,h.get? a=some {cls:=.type "range",data:=.fields #[.int lo t,.int hi u,.int 1 v]}
 | .frz o u=>h.get? a=some o/\cM H h a u
 | .tbl ps=>h.get? a=some {cls:=.none,data:=.fields ps}
 | .met f x=>h.get? a=some (WU (.ref f) (.ref x))
 | .ext φ=>φ h/\(∃o,h.get? a=some o)/\∀h1 h2:SM,φ h1->(∀o,h1.get? a=some o->h2.get? a=some o)->φ h2
def gJ (H:Hp) (h:SM):Prop:=∀a o,H a=some o->cM P w H h a o
end
section
variable {P:Rz}{w:RZ}{H H':Hp}{h h':SM}{a:Rq}{o:HO}
theorem cM.lt (x:cM P w H h a o):a < h.objs.size:=by
 cases o with
 | lst xs=>obtain ⟨_,_,_,_,e⟩:=x;exact Ru e
 | tup xs=>obtain ⟨_,_,_,p⟩:=x;exact p.lt
 | dK Q4=>obtain ⟨_,_,_,_,o,_,_,e,_⟩:=x;exact Ru e
 | dT Q4=>obtain ⟨_,_,_,_,o,_,_,e,_⟩:=x;exact Ru e
 | set S n=>obtain ⟨o,_,_,_,e,_⟩:=x;exact Ru e
 | ins C dx fs=>obtain ⟨_,_,_,e,_⟩:=x;exact Ru e
 | own y=>obtain ⟨_,e⟩:=x;exact Ru e
 | xd fs=>obtain ⟨_,⟨_,_,_,e,_⟩,_⟩:=x;exact Ru e
 | rng lo hi=>obtain ⟨_,_,_,e⟩:=x;exact Ru e
 | frz ob u=>obtain ⟨e,_⟩:=x;exact Ru e
 | tbl ps=>exact Ru (show h.get? a=some _ from x)
 | met f y=>exact Ru (show h.get? a=some _ from x)
 | ext φ=>obtain ⟨_,⟨_,e⟩,_⟩:=x;exact Ru e
theorem WT.mapP {α β:Type}{F G:α->β->Prop}:∀{l₁:List α}{l₂:List β},WT F l₁ l₂->(∀a b,F a b->G a b)->WT G l₁ l₂
 | _,_,.nil,_=>.nil
 | _,_,.cons r t,f=>.cons (f _ _ r) (WT.mapP t f)
theorem cM.stay (x:cM P w H h a o) (k:∀b u,(b=a\/H b=some (.own a))->h.get? b=some u->h'.get? b=some u)
  (ho:∀b,H b=some (.own a)->H' b=some (.own a)) (ht:∀b xs,H b=some (.tup xs)->H' b=some (.tup xs)):cM P w H' h' a o:=by
 induction o with
 | lst xs=>obtain ⟨z,QX,n,r,e⟩:=x;exact ⟨z,QX,n,r,k _ _ (.inl rfl) e⟩
 | tup xs=>obtain ⟨z,QX,r,ob,e,c⟩:=x;exact ⟨z,QX,r,ob,k _ _ (.inl rfl) e,c⟩
 | dK Q4=>obtain ⟨z,y,vs,r,ob,es,ep,e,c⟩:=x;exact ⟨z,y,vs,r,ob,es,ep,k _ _ (.inl rfl) e,c⟩
 | dT Q4=>
  obtain ⟨z,y,xs,r,ob,es,ep,e,c⟩:=x
  exact ⟨z,y,xs,WT.mapP r λp q z=>⟨z.1,ht _ _ z.2.1,z.2.2⟩,ob,es,ep,k _ _ (.inl rfl) e,c⟩
 | set S n=>obtain ⟨ob,es,ep,t,e,c⟩:=x;exact ⟨ob,es,ep,t,k _ _ (.inl rfl) e,c⟩
 | ins C dx fs=>
  obtain ⟨d,z,ne,e,mA,⟨od,es,ep,e2,c⟩,r⟩:=x
  exact ⟨ho _ d,z,ne,k _ _ (.inl rfl) e,mA,⟨od,es,ep,k _ _ (.inr d) e2,c⟩,r⟩
 | own y=>obtain ⟨ob,e⟩:=x;exact ⟨ob,k _ _ (.inl rfl) e⟩
 | xd fs=>obtain ⟨mA,⟨od,es,ep,e,c⟩,r⟩:=x;exact ⟨mA,⟨od,es,ep,k _ _ (.inl rfl) e,c⟩,r⟩
 | rng lo hi=>obtain ⟨t,u,v,e⟩:=x;exact ⟨t,u,v,k _ _ (.inl rfl) e⟩
 | frz ob u ih=>obtain ⟨e,q⟩:=x;exact ⟨k _ _ (.inl rfl) e,ih q⟩
 | tbl ps=>
  have e:h.get? a=some {cls:=.none,data:=.fields ps}:=x
  show h'.get? a=some {cls:=.none,data:=.fields ps}
  exact k a _ (.inl rfl) e
 | met f y=>
  have e:h.get? a=some (WU (.ref f) (.ref y)):=x
  show h'.get? a=some (WU (.ref f) (.ref y))
  exact k a _ (.inl rfl) e
 | ext φ=>obtain ⟨p,⟨o,e⟩,st⟩:=x;exact ⟨st _ _ p λo q=>k _ _ (.inl rfl) q,⟨o,k _ _ (.inl rfl) e⟩,st⟩
theorem gJ.lt (x:gJ P w H h) (e:H a=some o):a < h.objs.size:=(x a o e).lt
theorem gJ.fresh (x:gJ P w H h) (e:h.objs.size<=a):H a=none:=by
 cases q:H a with
 | none=>rfl
 | some u=>exact absurd (RC (x.lt q) e) (Tr _)
theorem gJ.kept (x:gJ P w H h) (k:∀b u,h.get? b=some u->h'.get? b=some u):gJ P w H h':=λa o e=>
 (x a o e).stay (λb u _ q=>k b u q) (λ_ q=>q) λ_ _ q=>q
theorem gJ.laid (x:gJ P w H h) (k:∀b u,h.get? b=some u->h'.get? b=some u) (hp:h.objs.size<=a) (new:cM P w (upd H a o) h' a o):gJ P w (upd H a o) h':=λb u e=>by
 have hn:=x.fresh hp
 by_cases hb:b=a
 ·subst hb;rw [cK] at e;cases e;exact new
 ·rw [bG hb] at e
  exact (x b u e).stay (λc v _ q=>k c v q) (λc q=>by rw [bG (fX q hn)];exact q) λc xs q=>by rw [bG (fX q hn)];exact q
end
def Rd (H:Hp) (a:Rq) (u:HO):Prop:=H a=some u\/∃o,H a=some (.frz o u)
theorem Rd.ok {P:Rz}{w:RZ}{H:Hp}{h:SM}{a:Rq}{u:HO}(r:Rd H a u) (x:gJ P w H h):cM P w H h a u:=by
 rcases r with r | ⟨o,r⟩
 ·exact x a u r
 ·obtain ⟨_,q⟩:=x a _ r
  exact q
noncomputable def HA:Option HO->Prop
 | some (.lst _)=>True
 | some (.dK _)=>True
 | some (.dT _)=>True
 | some (.set _ _)=>True
 | some (.ins _ _ _)=>True
 | some (.ext _)=>True
 | _=>False
section
variable {P:Rz}{w:RZ}{H:Hp}{h h':SM}{x e:Rq}{o':HO}
theorem gJ.write (ok:gJ P w H h) (mu:HA (H x)) (he:e=x\/H e=some (.own x)) (k:∀b u,b≠e->h.get? b=some u->h'.get? b=some u) (P4:∃u,h'.get? e=some u)
  (new:cM P w (upd H x o') h' x o'):gJ P w (upd H x o') h':=λb u q=>by
 have nown:∀c y,H c=some (.own y)->c≠x:=λc y r z=>by subst z;rw [r] at mu;exact mu
 have ntup:∀c xs,H c=some (.tup xs)->c≠x:=λc xs r z=>by subst z;rw [r] at mu;exact mu
 by_cases hb:b=x
 ·subst hb;rw [cK] at q;cases q;exact new
 ·rw [bG hb] at q
  by_cases PX:b=e
  ·have q':H b=some (.own x):=by
    rcases he with z | z
    ·exact absurd (PX.trans z) hb
    ·rw [PX];exact z
   rw [q] at q';cases q'
   obtain ⟨v,hv⟩:=P4
   exact ⟨v,by rw [PX];exact hv⟩
  ·refine (ok b u q).stay (λc v hc r=>k c v ?_ r) (λc r=>by rw [bG (nown c b r)];exact r) λc xs r=>by rw [bG (ntup c xs r)];exact r
   rcases hc with rfl | hc
   ·exact PX
   ·rintro rfl
    rcases he with z | z
    ·exact nown c b hc z
    ·rw [hc] at z;cases z;exact hb rfl
end
structure Un (fs ex:List Rq) (H H':Hp) (h h':SM):Prop where
 keep:∀b o,h.get? b=some o->H b=none->b∉fs->b∉ex->h'.get? b=some o
 slot:∀b o,h.get? b=some o->H b=none->b∈fs->b∉ex->∃sl,h'.get? b=some {o with slots:=sl}
 free:∀b o,h.get? b=some o->H b=none->b∉ex->H' b=none
 there:∀b o,h.get? b=some o->b∉ex->∃o',h'.get? b=some o'
 tups:∀b xs,H b=some (.tup xs)->H' b=some (.tup xs)
 frzs:∀b o u,H b=some (.frz o u)->H' b=some (.frz o u)
 tbls:∀b ps,H b=some (.tbl ps)->∃more,H' b=some (.tbl (ps++more))
section
variable {fs fs' ex ex':List Rq}{H H1 H2:Hp}{h h1 h2 h':SM}{a x e:Rq}{o:HO}
theorem Un.any (u:Un fs ex H H1 h h1){b:Rq}{ob:Obj}(q:h.get? b=some ob) (n:H b=none) (hx:b∉ex):∃sl,h1.get? b=some {ob with slots:=sl}:=by
 by_cases hb:b∈fs
 ·exact u.slot b ob q n hb hx
 ·exact ⟨ob.slots,u.keep b ob q n hb hx⟩
theorem Un.kept (k:∀b u,h.get? b=some u->h'.get? b=some u):Un fs ex H H h h':=
 ⟨λb ob q _ _ _=>k b ob q,λb ob q _ _ _=>⟨ob.slots,k b ob q⟩,λ_ _ _ n _=>n,λb ob q _=>⟨ob,k b ob q⟩,λ_ _ q=>q,λ_ _ _ q=>q,λ_ ps q=>⟨#[],by rw [q];simp⟩⟩
theorem Un.refl:Un fs ex H H h h:=Un.kept λ_ _ q=>q
theorem Un.laid (k:∀b u,h.get? b=some u->h'.get? b=some u) (hp:h.objs.size<=a) (hn:H a=none):Un fs ex H (upd H a o) h h' where
 keep:=λb u q _ _ _=>k b u q
 slot:=λb u q _ _ _=>⟨u.slots,k b u q⟩
 free:=λb u q n _=>by rw [bG (RE (RC (Ru q) hp))];exact n
 there:=λb u q _=>⟨u,k b u q⟩
 tups:=λb xs q=>by rw [bG (fX q hn)];exact q
 frzs:=λb u xs q=>by rw [bG (fX q hn)];exact q
 tbls:=λb ps q=>⟨#[],by rw [bG (fX q hn),q];simp⟩
theorem Un.write (mu:HA (H x)) (he:e=x\/H e=some (.own x)) (k:∀b u,b≠e->h.get? b=some u->h'.get? b=some u) (P4:∃u,h'.get? e=some u):Un fs ex H (upd H x o) h h':=by
 have hx:∀b,H b=none->b≠x:=λb n z=>by subst z;rw [n] at mu;exact mu
 have hb:∀b,H b=none->b≠e:=λb n z=>by
  subst z
  rcases he with r | r
  ·exact hx b n r
  ·rw [n] at r;cases r
 have hm:∀b u,H b=some u->¬HA (some u)->b≠x:=λb u q nm z=>by subst z;rw [q] at mu;exact nm mu
 refine ⟨λb u q n _ _=>k b u (hb b n) q,λb u q n _ _=>⟨u.slots,k b u (hb b n) q⟩,λb u q n _=>by rw [bG (hx b n)];exact n,λb u q _=>?_,
  λb xs q=>by rw [bG (hm b _ q λz=>z)];exact q,λb u xs q=>by rw [bG (hm b _ q λz=>z)];exact q,λb ps q=>⟨#[],by rw [bG (hm b _ q λz=>z),q];simp⟩⟩
 by_cases PX:b=e
 ·subst PX;exact P4
 ·exact ⟨u,k b u PX q⟩
end
def Io (h:SM) (H:Hp):List Rq:=(Ra h.objs.size).filter λa=>(H a).isSome
def n6 (h:SM) (H:Hp):SM:=W.hideAll h (Io h H)
theorem D8 (h:SM) (H:Hp):(n6 h H).objs.size=h.objs.size:=W.hideAll_size _ _
theorem F_ {h:SM}{H:Hp}{b:Rq}{o:Obj}(e:h.get? b=some o) (n:H b=none):(n6 h H).get? b=some o:=
 W.hideAll_get _ e λhm=>by
  have q:(H b).isSome=true:=(R1.mp hm).2
  rw [n] at q;simp at q
theorem Jv {h:SM}{H:Hp}{b:Rq}{o:Obj}(e:(n6 h H).get? b=some o):h.get? b=some o/\H b=none:=by
 have e':h.get? b=some o:=W.of_hideAll (Io h H) e
 refine ⟨e',?_⟩
 cases q:H b with
 | none=>rfl
 | some x=>
  have hm:b∈Io h H:=R1.mpr ⟨Rk.mpr (Ru e'),by simp [q]⟩
  have z:(n6 h H).get? b=none:=W.hideAll_none (Io h H) hm
  rw [z] at e;cases e
def IE (g h:SM) (L:Rq):List (Rq×Obj):=(Ra h.objs.size).filterMap λa=>if a=L\/(g.get? a).isSome=true then none else (h.get? a).map λo=>(a,o)
def rest (g h:SM) (L d:Rq):List (Rq×Obj):=(IE g h L).filter λp=>decide (p.1≠d)
structure Mod (K:Q7) (mg:Str->Option Q8) (base:SM):Prop where
 kin:K.In base
 glob:base.Ns RP mg
 blt:∃mb,base.Ns aar mb/\∀x:Str,x≠"__name__"->mb x=Sd x
 nolimit:base.NoLimit
structure Cx where
 prog:Rz
 w:RZ
 K:Q7
 mg:Str->Option Q8
 base:SM
 A:R4
 N:List Str
 s₀:Q_
 H₀:Hp
 env:Env
 outer:List Env
 stack:List Env
 ex:List Rq
 fn:Str->Bool
 calm:Bool
 pn:List (Rq×Obj)
 xe:Q8->Q_->Prop
def frs (l:List Env):List Rq:=l.filterMap (·.frame)
abbrev Cx.fs (X:Cx):List Rq:=frs X.outer
def vA (sc:T7) (x:Str):Prop:=sc.names.lookup x=some .local\/sc.names.lookup x=some .cell\/sc.names.lookup x=some .free
def Loc (sc:T7) (x:Str):Prop:=sc.names.lookup x=some .local\/sc.names.lookup x=some .cell
noncomputable def Look (env:Env) (h:SM) (m:Str->Option Q8) (x:Str) (u:Q8):Prop:=
 (env.kindOf x=some .local/\m x=some u)\/((env.kindOf x=some .cell\/env.kindOf x=some .free)/\∃c,env.cells.lookup x=some c/\h.IsCell c (some u))
structure Cx.Ok (X:Cx):Prop where
 mod:Mod X.K X.mg X.base
 kind:X.env.scope.kind=.function
 glob:X.env.globals=RP
 blt:X.env.builtins=aar
 above:X.s₀.heap.objs.size<=X.env.locals
 inj:∀x y c,X.env.cells.lookup x=some c->X.env.cells.lookup y=some c->x=y
 has:∀x,(X.env.kindOf x=some .cell\/X.env.kindOf x=some .free)->∃c,X.env.cells.lookup x=some c
 cab:∀x c,X.fn x=true->X.env.cells.lookup x=some c->X.s₀.heap.objs.size<=c
 hd:X.calm=true->X.A.handled=none
 frames:X.A.frames=some X.stack
 stk:X.stack=X.outer\/(X.stack=X.env::X.outer/\X.env.frame=some X.env.locals)
 exf:∀b∈X.ex,b≠X.env.locals/\∀x c,X.env.cells.lookup x=some c->c≠b
 bs:∀b o,X.base.get? b=some o->X.s₀.heap.get? b=some o/\X.H₀ b=none
 bsz:X.base.objs.size<=X.s₀.heap.objs.size
 noex:∀b o,X.base.get? b=some o->b∉X.ex
 exfs:∀b∈X.ex,b∉X.fs
 funs:X.s₀.heap.FunFrames X.base X.outer
 frf:∀b∈X.fs,X.H₀ b=none
structure Inv (X:Cx) (QV:List (Rq×Obj)) (σ:List (Option V)) (H:Hp) (s:Q_):Prop where
 ok:X.Ok
 os:s.os=X.s₀.os
 bare:XH s.gens
 base:Un X.fs X.ex X.H₀ H X.s₀.heap s.heap
 loc:∃m,s.heap.Ns X.env.locals m/\∀(i:Nat) (x:Str) (v:V),X.N[i]?=some x->σ[i]?=some (some v)->vA X.env.scope x->∃u,RelV v u/\Look X.env s.heap m x u
 cell:∀x c,X.env.cells.lookup x=some c->∃v,s.heap.IsCell c v
 free:H X.env.locals=none
 freeC:∀x c,X.env.cells.lookup x=some c->H c=none
 pin:∀p∈X.pn++QV,s.heap.get? p.1=some p.2/\H p.1=none/\p.1≠X.env.locals/\p.1∉X.fs/\∀v,p.2.data≠.cell v
 hok:gJ X.prog X.w H s.heap
 len:σ.length=X.N.length
section
variable {X:Cx}{QV:List (Rq×Obj)}{σ:List (Option V)}{H H':Hp}{s:Q_}{h':SM}
theorem Cx.Ok.nofr (ok:X.Ok){b:Rq}{o:Obj}(e:X.base.get? b=some o):b∉X.fs:=λhb=>by
 have:=(ok.funs.mem hb).1
 rw [e] at this;cases this
theorem Inv.bs (I:Inv X QV σ H s):∀b o,X.base.get? b=some o->s.heap.get? b=some o/\H b=none:=λb o e=>
 ⟨I.base.keep b o (I.ok.bs b o e).1 (I.ok.bs b o e).2 (I.ok.nofr e) (I.ok.noex b o e),I.base.free b o (I.ok.bs b o e).1 (I.ok.bs b o e).2 (I.ok.noex b o e)⟩
theorem Inv.bk (I:Inv X QV σ H s):∀b o,X.base.get? b=some o->s.heap.get? b=some o:=λb o e=>(I.bs b o e).1
theorem Inv.mod (I:Inv X QV σ H s):Mod X.K X.mg X.base:=I.ok.mod
theorem Inv.kIn (I:Inv X QV σ H s):X.K.In s.heap:=I.ok.mod.kin.keeps I.bk
theorem Inv.lt (I:Inv X QV σ H s):X.env.locals < s.heap.objs.size:=let ⟨_,hn,_⟩:=I.loc;hn.lt
theorem Inv.sz (I:Inv X QV σ H s):X.s₀.heap.objs.size<=s.heap.objs.size:=RS I.ok.above (XI I.lt)
theorem Inv.nofs (I:Inv X QV σ H s){a:Rq}(h:s.heap.objs.size<=a):a∉X.fs:=λhb=>by
 obtain ⟨_,o,ho,_⟩:=I.ok.funs.mem hb
 exact absurd (RC (Ru ho) (RS I.sz h)) (Tr _)
theorem Inv.cne (I:Inv X QV σ H s):∀x c,X.env.cells.lookup x=some c->c≠X.env.locals:=λx c e z=>by
 obtain ⟨v,o,ho,hd⟩:=I.cell x c e
 obtain ⟨m,⟨o',es,ep,ho',hd',_⟩,_⟩:=I.loc
 rw [z,ho'] at ho;cases ho;rw [hd'] at hd;cases hd
theorem Inv.funs (I:Inv X QV σ H s):s.heap.FunFrames X.base X.outer:=by
 have all:∀(l:List Env),(∀b∈frs l,b∈X.fs)->X.s₀.heap.FunFrames X.base l->s.heap.FunFrames X.base l:=by
  intro l
  induction l with
  | nil=>intro _ _;trivial
  | cons env r ih=>
   intro hs hl
   obtain ⟨hk,⟨L,o,hf,hn,ho,hd⟩,hr⟩:=hl
   have hL:L∈X.fs:=hs L (by unfold frs;rw [Wh,hf];exact Rf)
   obtain ⟨sl,e⟩:=I.base.slot L o ho (I.ok.frf L hL) hL λz=>I.ok.exfs L z hL
   exact ⟨hk,⟨L,_,hf,hn,e,hd⟩,ih (λb hb=>hs b (by unfold frs;rw [Wh,hf];exact Rb _ hb)) hr⟩
 exact all X.outer (λ_ hb=>hb) I.ok.funs
theorem Inv.stack (I:Inv X QV σ H s):s.heap.FunFrames X.base X.stack:=by
 rcases I.ok.stk with e | ⟨e,hf⟩
 ·rw [e];exact I.funs
 ·rw [e]
  obtain ⟨m,hn,_⟩:=I.loc
  refine .cons (by rw [I.ok.kind];decide) hf hn ?_ I.funs
  exact Heap.get?_none_of_le (RS I.ok.bsz I.ok.above)
theorem Inv.stkSub (I:Inv X QV σ H s):∀b∈frs X.stack,b∈X.env.locals::X.fs:=λb hb=>by
 rcases I.ok.stk with e | ⟨e,hf⟩
 ·rw [e] at hb;exact Rb _ hb
 ·rw [e] at hb
  unfold frs at hb
  rw [Wh,hf] at hb
  exact hb
theorem Inv.stkFree (I:Inv X QV σ H s):∀b∈frs X.stack,H b=none:=λb hb=>by
 rcases Rt.mp (I.stkSub b hb) with e | hb
 ·rw [e];exact I.free
 ·obtain ⟨_,o,ho,_⟩:=I.ok.funs.mem hb
  exact I.base.free b o ho (I.ok.frf b hb) λz=>I.ok.exfs b z hb
theorem Inv.step {g':Array YA}{t':Nat}{d':Drawn}{ch:List Rq}(I:Inv X QV σ H s)
  (hch:∀b∈ch,(b∈X.ex\/X.s₀.heap.objs.size<=b)/\b≠X.env.locals/\(∀x c,X.env.cells.lookup x=some c->c≠b)/\∀p∈X.pn++QV,p.1≠b)
  (keep:∀b o,b≠X.env.locals->b∉X.fs->b∉ch->s.heap.get? b=some o->H b=none->h'.get? b=some o)
  (slot:∀b o,b≠X.env.locals->b∈X.fs->b∉ch->s.heap.get? b=some o->H b=none->∃sl,h'.get? b=some {o with slots:=sl}) (free:∀b o,b∉ch->s.heap.get? b=some o->H b=none->H' b=none)
  (there:∀b o,b∉ch->s.heap.get? b=some o->∃o',h'.get? b=some o')
  (tups:∀b xs,H b=some (.tup xs)->H' b=some (.tup xs)) (frzs:∀b o u,H b=some (.frz o u)->H' b=some (.frz o u)) (tbls:∀b ps,H b=some (.tbl ps)->∃more,H' b=some (.tbl (ps++more)))
  (ns:∀m,s.heap.Ns X.env.locals m->h'.Ns X.env.locals m) (hok:gJ X.prog X.w H' h') (hg:XH g'):
  Inv X QV σ H' {s with heap:=h',gens:=g',drawn:=d',toks:=t'}:=by
 have neL:∀b o,X.s₀.heap.get? b=some o->b≠X.env.locals:=λb o e=>RE (RC (Ru e) I.ok.above)
 have neC:∀b o,X.s₀.heap.get? b=some o->b∉X.ex->b∉ch:=λb o e hx hb=>by
  rcases (hch b hb).1 with z | z
  ·exact hx z
  ·exact absurd (RC (Ru e) z) (Tr _)
 have cellK:∀x c,X.env.cells.lookup x=some c->∀v,s.heap.IsCell c v->h'.IsCell c v:=λx c e v ⟨o,ho,hd⟩=>by
  have nch:c∉ch:=λz=>(hch c z).2.2.1 x c e rfl
  by_cases hc:c∈X.fs
  ·obtain ⟨sl,q⟩:=slot c o (I.cne x c e) hc nch ho (I.freeC x c e)
   exact ⟨_,q,hd⟩
  ·exact ⟨o,keep c o (I.cne x c e) hc nch ho (I.freeC x c e),hd⟩
 refine ⟨I.ok,I.os,hg,⟨λb o e n hb hx=>?_,λb o e n hb hx=>?_,λb o e n hx=>?_,λb o e hx=>?_,λb xs e=>tups b xs (I.base.tups b xs e),λb o xs e=>frzs b o xs (I.base.frzs b o xs e),λb ps e=>?_⟩,?_,λx c e=>?_,?_,λx c e=>?_,λp hp=>?_,hok,I.len⟩
 ·exact keep b o (neL b o e) hb (neC b o e hx) (I.base.keep b o e n hb hx) (I.base.free b o e n hx)
 ·obtain ⟨sl,e1⟩:=I.base.slot b o e n hb hx
  obtain ⟨sl',e2⟩:=slot b _ (neL b o e) hb (neC b o e hx) e1 (I.base.free b o e n hx)
  exact ⟨sl',e2⟩
 ·obtain ⟨o',e1⟩:=I.base.there b o e hx
  exact free b o' (neC b o e hx) e1 (I.base.free b o e n hx)
 ·obtain ⟨o',e1⟩:=I.base.there b o e hx
  exact there b o' (neC b o e hx) e1
 ·obtain ⟨m1,e1⟩:=I.base.tbls b ps e
  obtain ⟨m2,e2⟩:=tbls b _ e1
  exact ⟨m1++m2,by rw [e2,Array.append_assoc]⟩
 ·obtain ⟨m,hn,hl⟩:=I.loc
  refine ⟨m,ns m hn,λi x v e1 e2 e3=>?_⟩
  obtain ⟨u,r,l⟩:=hl i x v e1 e2 e3
  refine ⟨u,r,?_⟩
  rcases l with l | ⟨k,c,e,z⟩
  ·exact .inl l
  ·exact .inr ⟨k,c,e,cellK x c e _ z⟩
 ·obtain ⟨v,z⟩:=I.cell x c e
  exact ⟨v,cellK x c e v z⟩
 ·obtain ⟨m,⟨o,_,_,ho,_⟩,_⟩:=I.loc
  exact free _ o (λz=>(hch _ z).2.1 rfl) ho I.free
 ·obtain ⟨v,o,ho,hd⟩:=I.cell x c e
  exact free c o (λz=>(hch c z).2.2.1 x c e rfl) ho (I.freeC x c e)
 ·obtain ⟨e,n,ne,nf,d⟩:=I.pin p hp
  have nch:p.1∉ch:=λz=>(hch p.1 z).2.2.2 p hp rfl
  exact ⟨keep p.1 p.2 ne nf nch e n,free p.1 p.2 nch e n,ne,nf,d⟩
theorem Inv.un {t':Nat}(I:Inv X QV σ H s) (u:Un X.fs [] H H' s.heap h') (hok:gJ X.prog X.w H' h'):Inv X QV σ H' {s with heap:=h',toks:=t'}:=by
 obtain ⟨m,⟨o,es,ep,ho,r⟩,_⟩:=id I.loc
 obtain ⟨sl,hL⟩:=u.any ho I.free (by simp)
 exact I.step (g':=s.gens) (d':=s.drawn) (ch:=[]) (λ_ z=>nomatch z) (λb o _ hb _ e n=>u.keep b o e n hb (by simp)) (λb o _ hb _ e n=>u.slot b o e n hb (by simp)) (λb o _ e n=>u.free b o e n (by simp)) (λb o _ e=>u.there b o e (by simp)) u.tups u.frzs u.tbls (λm' hm=>by
  obtain ⟨o',es',ep',ho',r'⟩:=hm
  rw [ho] at ho';cases ho'
  exact ⟨_,es',ep',hL,r'⟩) hok I.bare
theorem Inv.call {g':Array YA}{t':Nat}{d':Drawn}{ch:List Rq}(I:Inv X QV σ H s) (u:Un (frs X.stack) ch H H' s.heap h') (hok:gJ X.prog X.w H' h') (hg:XH g')
  (hch:∀b∈ch,(b∈X.ex\/X.s₀.heap.objs.size<=b)/\b≠X.env.locals/\(∀x c,X.env.cells.lookup x=some c->c≠b)/\∀p∈X.pn++QV,p.1≠b):
  Inv X QV σ H' {s with heap:=h',gens:=g',drawn:=d',toks:=t'}:=by
 obtain ⟨m,⟨o,es,ep,ho,r⟩,_⟩:=id I.loc
 obtain ⟨sl,hL⟩:=u.any ho I.free λz=>(hch _ z).2.1 rfl
 exact I.step (ch:=ch) hch (λb o hL hb hc e n=>u.keep b o e n (λz=>(Rt.mp (I.stkSub b z)).elim hL hb) hc) (λb o _ _ hc e n=>u.any e n hc) (λb o hc e n=>u.free b o e n hc) (λb o hc e=>u.there b o e hc) u.tups u.frzs u.tbls (λm' hm=>by
  obtain ⟨o',es',ep',ho',r'⟩:=hm
  rw [ho] at ho';cases ho'
  exact ⟨_,es',ep',hL,r'⟩) hok hg
theorem Inv.turned {t':Nat}{it:Rq}(I:Inv X QV σ H s) (k:∀b o,b≠it->s.heap.get? b=some o->h'.get? b=some o) (hn:H it=none) (hL:it≠X.env.locals)
  (h1:it∈X.ex\/X.s₀.heap.objs.size<=it) (h2:∀x c,X.env.cells.lookup x=some c->c≠it) (h3:∀p∈X.pn++QV,p.1≠it):Inv X QV σ H {s with heap:=h',toks:=t'}:=by
 have nit:∀b u,H b=some u->b≠it:=λb u e z=>by rw [z,hn] at e;cases e
 refine I.step (g':=s.gens) (d':=s.drawn) (ch:=[it]) (λb hb=>?_) (λb o _ _ hc e _=>k b o (λz=>hc (by simp [z])) e) (λb o _ _ hc e _=>⟨o.slots,k b o (λz=>hc (by simp [z])) e⟩) (λ_ _ _ _ n=>n)
  (λb o hc e=>⟨o,k b o (λz=>hc (by simp [z])) e⟩) (λ_ _ e=>e) (λ_ _ _ e=>e) (λb ps e=>⟨#[],by rw [e];simp⟩) (λm hm=>?_) (λb u e=>?_) I.bare
 ·have e:b=it:=by simpa using hb
  subst e
  exact ⟨h1,hL,h2,h3⟩
 ·obtain ⟨o,es,ep,ho,r⟩:=hm
  exact ⟨o,es,ep,k _ o (Um hL) ho,r⟩
 ·refine (I.hok b u e).stay (λc v hc q=>k c v ?_ q) (λ_ q=>q) λ_ _ q=>q
  rcases hc with z | z
  ·rw [z];exact nit b u e
  ·exact nit c _ z
theorem Inv.tok (I:Inv X QV σ H s) (t:Nat):Inv X QV σ H {s with toks:=t}:=I.un (h':=s.heap) (t':=t) Un.refl I.hok
theorem Inv.kept {t':Nat}(I:Inv X QV σ H s) (k:∀b u,s.heap.get? b=some u->h'.get? b=some u):Inv X QV σ H {s with heap:=h',toks:=t'}:=I.un (Un.kept k) (I.hok.kept k)
theorem Inv.laid {a:Rq}{o:HO}{t':Nat}(I:Inv X QV σ H s) (k:∀b u,s.heap.get? b=some u->h'.get? b=some u) (hp:s.heap.objs.size<=a) (new:cM X.prog X.w (upd H a o) h' a o):
  Inv X QV σ (upd H a o) {s with heap:=h',toks:=t'}:=I.un (Un.laid k hp (I.hok.fresh hp)) (I.hok.laid k hp new)
theorem Inv.write {x e:Rq}{o:HO}{t':Nat}(I:Inv X QV σ H s) (mu:HA (H x)) (he:e=x\/H e=some (.own x)) (k:∀b u,b≠e->s.heap.get? b=some u->h'.get? b=some u) (P4:∃u,h'.get? e=some u)
  (new:cM X.prog X.w (upd H x o) h' x o):Inv X QV σ (upd H x o) {s with heap:=h',toks:=t'}:=I.un (Un.write mu he k P4) (I.hok.write mu he k P4 new)
theorem Inv.pins_of {pins':List (Rq×Obj)}(I:Inv X QV σ H s) (h:∀p∈pins',s.heap.get? p.1=some p.2/\H p.1=none/\p.1≠X.env.locals/\p.1∉X.fs/\∀v,p.2.data≠.cell v):Inv X pins' σ H s:=
 ⟨I.ok,I.os,I.bare,I.base,I.loc,I.cell,I.free,I.freeC,λp hp=>(RJ.mp hp).elim (λz=>I.pin p (Uj _ z)) (h p),I.hok,I.len⟩
theorem zk {N:List Str}(hN:N.Nodup){i j:Nat}{x:Str}(a:N[i]?=some x) (b:N[j]?=some x):i=j:=by
 obtain ⟨h1,e1⟩:=RK.mp a
 obtain ⟨h2,e2⟩:=RK.mp b
 exact (Zu hN).mp (e1.trans e2.symm)
theorem lY {M:abT}{A:R4}{E:Q8->Q_->Prop}{i:Nat}{x:Str}{v:V}{u:Q8}{Q:Unit->Q_->Prop}(I:Inv X QV σ H s) (hN:X.N.Nodup) (hi:X.N[i]?=some x) (hx:Loc X.env.scope x) (r:RelV v u)
  (h:∀s',Inv X QV (σ.set i (some v)) H s'->(∃a,Sy a s.heap s'.heap/\(a=X.env.locals\/X.env.cells.lookup x=some a))->Q () s') (hf:X.fn x=true\/X.env.scope.names.lookup x=some .local:=by first | exact .inl rfl | exact .inr rfl | assumption):RA M A (aa8 X.env x u) Q E s:=by
 obtain ⟨m,hn,hl⟩:=id I.loc
 have hcls:(X.env.scope.kind == .class || (X.env.scope.kind == .module && X.env.locals != X.env.globals))=false:=by rw [I.ok.kind];rfl
 have hiσ:i < σ.length:=by rw [I.len];exact (RK.mp hi).1
 have cne:=I.cne
 have tracked:∀{a:Rq}{h':SM},(∃o,s.heap.get? a=some o/\H a=none)->Sy a s.heap h'->gJ X.prog X.w H h':=fun {a h'} ha hs b ob e=>by
  obtain ⟨_,_,hfree⟩:=ha
  refine (I.hok b ob e).stay (λc w' hc q=>(hs.2 c ?_).trans q) (λ_ q=>q) λ_ _ q=>q
  rintro rfl
  rcases hc with rfl | hc
  ·rw [hfree] at e;cases e
  ·rw [hfree] at hc;cases hc
 rcases hx with hk | hk
 ·refine wpAny_storeName_local hk hn (λh' hn' hs=>?_) hcls
  obtain ⟨oL,_,_,QM,_⟩:=id hn
  refine h _ ⟨I.ok,I.os,I.bare,⟨λb o e n hb hx=>?_,λb o e n hb hx=>?_,I.base.free,λb o e hx=>?_,I.base.tups,I.base.frzs,I.base.tbls⟩,⟨_,hn',λj y v' e1 e2 e3=>?_⟩,λy c e=>?_,I.free,I.freeC,λp hp=>?_,tracked ⟨oL,QM,I.free⟩ hs,by simpa using I.len⟩ ⟨_,hs,.inl rfl⟩
  ·exact (hs.2 b (RE (RC (Ru e) I.ok.above))).trans (I.base.keep b o e n hb hx)
  ·obtain ⟨sl,e1⟩:=I.base.slot b o e n hb hx
   exact ⟨sl,(hs.2 b (RE (RC (Ru e) I.ok.above))).trans e1⟩
  ·obtain ⟨o',e1⟩:=I.base.there b o e hx
   exact ⟨o',(hs.2 b (RE (RC (Ru e) I.ok.above))).trans e1⟩
  ·by_cases hj:j=i
   ·subst hj
    rw [hi] at e1;cases e1
    rw [SK hiσ] at e2
    cases e2
    exact ⟨u,r,.inl ⟨hk,by simp⟩⟩
   ·rw [Se (Um hj)] at e2
    obtain ⟨u',r',q⟩:=hl j y v' e1 e2 e3
    refine ⟨u',r',?_⟩
    rcases q with ⟨k,e⟩ | ⟨k,c,e,z⟩
    ·refine .inl ⟨k,?_⟩
     have:y≠x:=λe=>hj (zk hN e1 (e▸hi))
     simp [this,e]
    ·exact .inr ⟨k,c,e,z.sameBut hs (cne y c e)⟩
  ·obtain ⟨w',z⟩:=I.cell y c e
   exact ⟨w',z.sameBut hs (cne y c e)⟩
  ·obtain ⟨e,n,ne,nf,d⟩:=I.pin p hp
   exact ⟨(hs.2 p.1 ne).trans e,n,ne,nf,d⟩
 ·have hfn:X.fn x=true:=by
   rcases hf with z | z
   ·exact z
   ·rw [z] at hk;cases hk
  obtain ⟨c,hc⟩:=I.ok.has x (.inl hk)
  obtain ⟨w',z⟩:=I.cell x c hc
  refine wpAny_storeName_cell I.ok.kind hk hc z (λh' hc' hs=>?_)
  obtain ⟨oc,hoc,Qm⟩:=id z
  refine h {s with heap:=h'} ⟨I.ok,I.os,I.bare,⟨λb o e n hb hx=>?_,λb o e n hb hx=>?_,I.base.free,λb o e hx=>?_,I.base.tups,I.base.frzs,I.base.tbls⟩,⟨m,hn.sameBut hs (Um (cne x c hc)),λj y v' e1 e2 e3=>?_⟩,λy c' e=>?_,I.free,I.freeC,λp hp=>?_,tracked ⟨oc,hoc,I.freeC x c hc⟩ hs,by simpa using I.len⟩ ⟨c,hs,.inr hc⟩
  ·exact (hs.2 b (RE (RC (Ru e) (I.ok.cab x c hfn hc)))).trans (I.base.keep b o e n hb hx)
  ·obtain ⟨sl,e1⟩:=I.base.slot b o e n hb hx
   exact ⟨sl,(hs.2 b (RE (RC (Ru e) (I.ok.cab x c hfn hc)))).trans e1⟩
  ·obtain ⟨o',e1⟩:=I.base.there b o e hx
   exact ⟨o',(hs.2 b (RE (RC (Ru e) (I.ok.cab x c hfn hc)))).trans e1⟩
  ·by_cases hj:j=i
   ·subst hj
    rw [hi] at e1;cases e1
    rw [SK hiσ] at e2
    cases e2
    exact ⟨u,r,.inr ⟨.inl hk,c,hc,hc'⟩⟩
   ·rw [Se (Um hj)] at e2
    obtain ⟨u',r',q⟩:=hl j y v' e1 e2 e3
    refine ⟨u',r',?_⟩
    rcases q with q | ⟨k,c',e,z'⟩
    ·exact .inl q
    ·refine .inr ⟨k,c',e,z'.sameBut hs ?_⟩
     rintro rfl
     exact hj (zk hN e1 (I.ok.inj _ _ _ e hc▸hi))
  ·by_cases hcc:c'=c
   ·subst hcc;exact ⟨_,hc'⟩
   ·obtain ⟨w2,z2⟩:=I.cell y c' e
    exact ⟨w2,z2.sameBut hs hcc⟩
  ·obtain ⟨e,n,ne,nf,d⟩:=I.pin p hp
   refine ⟨(hs.2 p.1 ?_).trans e,n,ne,nf,d⟩
   intro q
   rw [q,hoc] at e
   have q':oc=p.2:=Sv e
   exact d w' (by rw [<-q'];exact Qm)
theorem r6 {M:abT}{A:R4}{E:Q8->Q_->Prop}{i:Nat}{x:Str}{v:V}{u:Q8}{Q:Unit->Q_->Prop}(I:Inv X QV σ H s) (hN:X.N.Nodup) (hi:X.N[i]?=some x) (hx:Loc X.env.scope x) (r:RelV v u)
  (h:∀s',Inv X QV (σ.set i (some v)) H s'->Q () s') (hf:X.fn x=true\/X.env.scope.names.lookup x=some .local:=by first | exact .inl rfl | exact .inr rfl | assumption):RA M A (aa8 X.env x u) Q E s:=
 lY I hN hi hx r (λs' I' _=>h s' I') hf
theorem Inv.call' {s':Q_}{ch:List Rq}(I:Inv X QV σ H s) (ho:s'.os=s.os) (u:Un (frs X.stack) ch H H' s.heap s'.heap) (hok:gJ X.prog X.w H' s'.heap) (hg:XH s'.gens)
  (hch:∀b∈ch,(b∈X.ex\/X.s₀.heap.objs.size<=b)/\b≠X.env.locals/\(∀x c,X.env.cells.lookup x=some c->c≠b)/\∀p∈X.pn++QV,p.1≠b):Inv X QV σ H' s':=by
 obtain ⟨h',g',d',t',o'⟩:=s'
 have e:o'=s.os:=ho
 subst e
 exact I.call (g':=g') (t':=t') (d':=d') u hok hg hch
end
abbrev XK:=Q8->Option Rq->Hp->Prop
abbrev St:=List (Option V)
abbrev VK:=V->Hp->Prop
abbrev TE:=St->Hp->VK->Prop
abbrev TT:=St->Hp->(Bool->Hp->Prop)->Prop
abbrev TA:=St->Hp->(List V->Hp->Prop)->Prop
structure Ends where
 nx:St->Hp->Prop
 rt:VK
 bk:St->Hp->Prop:=λ_ _=>False
 ct:St->Hp->Prop:=λ_ _=>False
abbrev TS:=Ends->St->Hp->Prop
def EP (X:Cx) (QV:List (Rq×Obj)) (σ:St) (Q:VK) (u:Q8) (s':Q_):Prop:=∃v H',Inv X QV σ H' s'/\RelV v u/\Q v H'
def TP (X:Cx) (QV:List (Rq×Obj)) (σ:St) (Q:Bool->Hp->Prop) (b:Bool) (s':Q_):Prop:=∃H',Inv X QV σ H' s'/\Q b H'
def AP (X:Cx) (QV:List (Rq×Obj)) (σ:St) (Q:List V->Hp->Prop) (us:List Q8) (s':Q_):Prop:=∃vs H',Inv X QV σ H' s'/\Vals vs us/\Q vs H'
noncomputable def SP (X:Cx) (QV:List (Rq×Obj)) (D:Ends) (f:Flow) (s':Q_):Prop:=
 match f with
 | .next=>∃σ' H',Inv X QV σ' H' s'/\D.nx σ' H'
 | .brk=>∃σ' H',Inv X QV σ' H' s'/\D.bk σ' H'
 | .cont=>∃σ' H',Inv X QV σ' H' s'/\D.ct σ' H'
 | .ret u=>∃v σ' H',Inv X QV σ' H' s'/\RelV v u/\D.rt v H'
noncomputable def PE (X:Cx) (e:RX) (t:TE):Prop:=
 ∀(QV:List (Rq×Obj)) (s:Q_) (σ:St) (H:Hp) (Q:VK),Inv X QV σ H s->t σ H Q->RA (RG X.prog X.w) X.A (eval e X.env) (EP X QV σ Q) X.xe s
noncomputable def PT (X:Cx) (e:RX) (t:TT):Prop:=
 ∀(QV:List (Rq×Obj)) (s:Q_) (σ:St) (H:Hp) (Q:Bool->Hp->Prop),Inv X QV σ H s->t σ H Q->RA (RG X.prog X.w) X.A (Yk e X.env (eval e X.env)) (TP X QV σ Q) X.xe s
noncomputable def PW (X:Cx) (e:RX) (t:TT):Prop:=
 ∀(whole:Sem Q8) (QV:List (Rq×Obj)) (s:Q_) (σ:St) (H:Hp) (Q:Bool->Hp->Prop),Inv X QV σ H s->t σ H Q->RA (RG X.prog X.w) X.A (Yk e X.env whole) (TP X QV σ Q) X.xe s
theorem PW.pt {X:Cx}{e:RX}{t:TT}(h:PW X e t):PT X e t:=h _
noncomputable def PA (X:Cx) (es:List RX) (t:TA):Prop:=
 ∀(pos:Pos) (QV:List (Rq×Obj)) (s:Q_) (σ:St) (H:Hp) (Q:List V->Hp->Prop),Inv X QV σ H s->t σ H Q->RA (RG X.prog X.w) X.A (spliced (TU pos (Rr es X.env))) (AP X QV σ Q) X.xe s
noncomputable def PS (X:Cx) (st:Uy) (t:TS):Prop:=
 ∀(QV:List (Rq×Obj)) (s:Q_) (σ:St) (H:Hp) (D:Ends),Inv X QV σ H s->t D σ H->RA (RG X.prog X.w) X.A (exec st X.env) (SP X QV D) X.xe s
noncomputable def j_ (X:Cx) (st:List Uy) (t:TS):Prop:=
 ∀(QV:List (Rq×Obj)) (s:Q_) (σ:St) (H:Hp) (D:Ends),Inv X QV σ H s->t D σ H->RA (RG X.prog X.w) X.A (execs st X.env) (SP X QV D) X.xe s
theorem b9 {α:Type}{t:Sem α}{Q Q':α->Q_->Prop}{M:abT}{A:R4}{E:Q8->Q_->Prop}{s:Q_}(h:RA M A t Q E s) (hQ:∀a s,Q a s->Q' a s):RA M A t Q' E s:=Si h hQ λ_ _ x=>x
section
variable {X:Cx}
theorem bin {a b:RX}{ta tb:TE}(ha:PE X a ta) (hb:PE X b tb){QV:List (Rq×Obj)}{s:Q_}{σ:St}{H:Hp}{R:V->V->Hp->Prop}(I:Inv X QV σ H s) (h:ta σ H λx H1=>tb σ H1 λy H2=>R x y H2)
  {α:Type}{Q:α->Q_->Prop}{f:Q8->Q8->Sem α}
  (hf:∀v u s2 x y H2,Inv X QV σ H2 s2->RelV x v->RelV y u->R x y H2->RA (RG X.prog X.w) X.A (f v u) Q X.xe s2):
  RA (RG X.prog X.w) X.A (eval a X.env) (λv s₁=>RA (RG X.prog X.w) X.A (eval b X.env) (λu s₂=>RA (RG X.prog X.w) X.A (f v u) Q X.xe s₂) X.xe s₁) X.xe s:=by
 refine b9 (ha QV s σ H _ I h) λv s1 ⟨x,H1,I1,r1,q1⟩=>?_
 refine b9 (hb QV s1 σ H1 _ I1 q1) λu s2 ⟨y,H2,I2,r2,q2⟩=>?_
 exact hf v u s2 x y H2 I2 r1 r2 q2
def MO (i:Nat):TE:=λσ H Q=>∃v,σ[i]?=some (some v)/\Q v H
def tC (v:V):TE:=λ_ H Q=>Q v H
theorem pX {i:Nat}{x:Str}{pos:Pos}(hN:X.N[i]?=some x) (hv:vA X.env.scope x) (hd:(x == ("__debug__":Str))=false:=by decide) (hcd:(x == ("__classdict__":Str))=false:=by decide):PE X (.Name x pos) (MO i):=by
 intro QV s σ H Q I h
 obtain ⟨v,e,h⟩:=h
 obtain ⟨m,hn,hl⟩:=I.loc
 obtain ⟨u,r,l⟩:=hl i x v hN e hv
 have fin:EP X QV σ Q u s:=⟨v,H,I,r,h⟩
 rcases l with ⟨hk,hm⟩ | ⟨hk,c,hc,hcell⟩
 ·exact aas (Yc I.ok.kind hk hn hm fin) hd
 ·rcases hk with hk | hk
  ·exact aas (Yp I.ok.kind hk hc hcell fin) hd
  ·exact aas (wpAny_loadName_free I.ok.kind hk hc hcell fin hcd) hd
theorem L8 {i j pos}:PE X (.Constant (.int i) j pos) (tC (.int i)):=λ_ _ _ H _ I h=>wpAny_Constant_int ⟨.int i,H,I.tok _,⟨_,rfl⟩,h⟩
theorem Nv {b j pos}:PE X (.Constant (.bool b) j pos) (tC (.bl b)):=λ_ _ _ H _ I h=>Constant_bool ⟨.bl b,H,I,rfl,h⟩
theorem Ma {j pos}:PE X (.Constant .none j pos) (tC .non):=λ_ _ _ H _ I h=>Constant_none ⟨.non,H,I,rfl,h⟩
theorem Me {x j pos}:PE X (.Constant (.str x) j pos) (tC (.str x)):=λ_ _ _ H _ I h=>Calls.Constant_str ⟨.str x,H,I.tok _,⟨_,rfl⟩,h⟩
def Gl (X:Cx) (x:Str):Prop:=X.env.kindOf x=some .globalImplicit
theorem Bb {E:Q8->Q_->Prop}{QV:List (Rq×Obj)}{s:Q_}{σ:St}{H:Hp}{x:Str}{u:Q8}{pos:Pos}{Q:Q8->Q_->Prop}(I:Inv X QV σ H s) (hg:Gl X x) (hm:X.mg x=some u) (h:Q u s)
  (hd:(x == ("__debug__":Str))=false:=by decide):RA (RG X.prog X.w) X.A (eval (.Name x pos) X.env) Q E s:=
 Ww I.ok.kind hg (Calls.loadGlobal_global (by rw [I.ok.glob];exact I.mod.glob.keeps I.bk) hm h) hd
theorem tL {E:Q8->Q_->Prop}{QV:List (Rq×Obj)}{s:Q_}{σ:St}{H:Hp}{x:Str}{u:Q8}{pos:Pos}{Q:Q8->Q_->Prop}(I:Inv X QV σ H s) (hg:Gl X x) (hm:X.mg x=none) (hv:Sd x=some u) (h:Q u s)
  (hn:x≠"__name__":=by decide) (hd:(x == ("__debug__":Str))=false:=by decide):RA (RG X.prog X.w) X.A (eval (.Name x pos) X.env) Q E s:=by
 obtain ⟨mb,h1,h2⟩:=I.mod.blt
 exact Ww I.ok.kind hg (Calls.loadGlobal_builtin (by rw [I.ok.glob];exact I.mod.glob.keeps I.bk) hm (by rw [I.ok.blt];exact h1.keeps I.bk) ((h2 x hn).trans hv) h) hd
theorem Bk {x:Str}{v:V}{u:Q8}{pos:Pos}(hg:Gl X x) (hm:X.mg x=some u) (r:RelV v u) (hd:(x == ("__debug__":Str))=false:=by decide):PE X (.Name x pos) (tC v):=
 λ_ _ _ H _ I h=>Bb I hg hm ⟨v,H,I,r,h⟩ hd
theorem JH {x:Str}{v:V}{u:Q8}{pos:Pos}(hg:Gl X x) (hm:X.mg x=none) (hv:Sd x=some u) (r:RelV v u) (hn:x≠"__name__":=by decide) (hd:(x == ("__debug__":Str))=false:=by decide):PE X (.Name x pos) (tC v):=
 λ_ _ _ H _ I h=>tL I hg hm hv ⟨v,H,I,r,h⟩ hn hd
variable {a b:RX}{ta tb:TE}{pos:Pos}
noncomputable def PC (X:Cx) (op:aa9) (a b:RX) (t:TE):Prop:=
 ∀(QV:List (Rq×Obj)) (s:Q_) (σ:St) (H:Hp) (Q:VK),Inv X QV σ H s->t σ H Q->
  RA (RG X.prog X.w) X.A (eval a X.env) (λv s₁=>RA (RG X.prog X.w) X.A (eval b X.env) (λu s₂=>RA (RG X.prog X.w) X.A (S7 op v u) (EP X QV σ Q) X.xe s₂) X.xe s₁) X.xe s
theorem Gw (b:RX){op:aa9}(h:op≠.In) (h2:op≠.NotIn):SA op b=false:=by
 have e1:(op == ab7)=false:=by cases op <;> first | rfl | exact absurd rfl h
 have e2:(op == abp)=false:=by cases op <;> first | rfl | exact absurd rfl h2
 cases b <;> simp [SA,e1,e2]
def tB (t:TE):TT:=λσ H Q=>t σ H λx H1=>∃c,x=.bl c/\Q c H1
theorem OY {op:aa9}{t:TE}(h:PC X op a b t) (h1:SA op b=false:=by first | exact Gw _ (by decide) (by decide) | rfl):PT X (.Compare a [op] [b] pos) (tB t):=by
 intro QV s σ H Q I hw
 refine XJ (b9 (h QV s σ H _ I hw) λv s1 h1=>b9 h1 λu s2 h2=>b9 h2 λc s3 ⟨x,H1,I1,r1,q1⟩=>?_) h1
 obtain ⟨d,rfl,q⟩:=q1
 cases r1
 exact Sw ⟨H1,I1,q⟩
theorem Mr {e:RX}{t:TE}(h:PE X e t) (he:∀whole,Yk e X.env whole=(do let v <-whole;Uz e.pos;holding [v] (truthy v)):=by intro _;rfl):PT X e (tB t):=by
 intro QV s σ H Q I hw
 refine isTrue_plain (b9 (h QV s σ H _ I hw) λv s1 ⟨x,H1,I1,r1,q1⟩=>?_) (he _)
 obtain ⟨d,rfl,q⟩:=q1
 cases r1
 exact Sw ⟨H1,I1,q⟩
variable {tA tB':TT}{rest:List RX}
def OG (t u:TT):TT:=λσ H Q=>t σ H λc H1=>if c=true then u σ H1 Q else Q false H1
def O4 (t u:TT):TT:=λσ H Q=>t σ H λc H1=>if c=true then Q true H1 else u σ H1 Q
def OM (t:TT):TT:=λσ H Q=>t σ H λc H1=>Q (!c) H1
theorem JQ (ha:PT X a tA):PW X (.BoolOp .And [a] pos) tA:=by
 intro wh QV s σ H Q I h
 refine isTrue_and (b9 (ha QV s σ H Q I h) λc s1 e=>?_)
 cases c with
 | true=>exact isTrue_and_nil e
 | false=>exact e
theorem Mt (ha:PT X a tA):PW X (.BoolOp .Or [a] pos) tA:=by
 intro wh QV s σ H Q I h
 refine isTrue_or (b9 (ha QV s σ H Q I h) λc s1 e=>?_)
 cases c with
 | false=>exact isTrue_or_nil e
 | true=>exact e
theorem Ms (ha:PT X a tA) (hb:PW X (.BoolOp .And (b::rest) pos) tB'):PW X (.BoolOp .And (a::b::rest) pos) (OG tA tB'):=by
 intro wh QV s σ H Q I h
 refine isTrue_and (b9 (ha QV s σ H _ I h) λc s1 ⟨H1,I1,q1⟩=>?_)
 cases c with
 | true=>exact hb wh QV s1 σ H1 Q I1 q1
 | false=>exact ⟨H1,I1,q1⟩
theorem ND (ha:PT X a tA) (hb:PW X (.BoolOp .Or (b::rest) pos) tB'):PW X (.BoolOp .Or (a::b::rest) pos) (O4 tA tB'):=by
 intro wh QV s σ H Q I h
 refine isTrue_or (b9 (ha QV s σ H _ I h) λc s1 ⟨H1,I1,q1⟩=>?_)
 cases c with
 | true=>exact ⟨H1,I1,q1⟩
 | false=>exact hb wh QV s1 σ H1 Q I1 q1
theorem Mq (ha:PT X a tA):PT X (.UnaryOp .Not a pos) (OM tA):=by
 intro QV s σ H Q I h
 exact isTrue_not (ha QV s σ H (λc H1=>Q (!c) H1) I h)
def NO (ta tb:TE):TE:=λσ H Q=>ta σ H λx H1=>∃c,x=.bl c/\if c=true then tb σ H1 Q else Q (.bl false) H1
def ON (ta tb:TE):TE:=λσ H Q=>ta σ H λx H1=>∃c,x=.bl c/\if c=true then Q (.bl true) H1 else tb σ H1 Q
def NS (ta:TE):TE:=λσ H Q=>ta σ H λx H1=>∃c,x=.bl c/\Q (.bl (!c)) H1
theorem Mc {op}{t:TE}(h:PE X a t):PE X (.BoolOp op [a] pos) t:=λQV s σ H Q I hw=>BoolOp_one (h QV s σ H Q I hw)
theorem L7 (ha:PE X a ta) (hb:PE X (.BoolOp .And (b::rest) pos) tb):PE X (.BoolOp .And (a::b::rest) pos) (NO ta tb):=by
 intro QV s σ H Q I h
 refine BoolOp_and (b9 (ha QV s σ H _ I h) λv s1 ⟨x,H1,I1,r1,q1⟩=>?_)
 obtain ⟨c,rfl,q1⟩:=q1
 cases r1
 refine Sw ?_
 cases c with
 | true=>exact hb QV s1 σ H1 Q I1 q1
 | false=>exact ⟨.bl false,H1,I1,rfl,q1⟩
theorem Nz (ha:PE X a ta) (hb:PE X (.BoolOp .Or (b::rest) pos) tb):PE X (.BoolOp .Or (a::b::rest) pos) (ON ta tb):=by
 intro QV s σ H Q I h
 refine BoolOp_or (b9 (ha QV s σ H _ I h) λv s1 ⟨x,H1,I1,r1,q1⟩=>?_)
 obtain ⟨c,rfl,q1⟩:=q1
 cases r1
 refine Sw ?_
 cases c with
 | false=>exact hb QV s1 σ H1 Q I1 q1
 | true=>exact ⟨.bl true,H1,I1,rfl,q1⟩
theorem Mb (ha:PE X a ta):PE X (.UnaryOp .Not a pos) (NS ta):=by
 intro QV s σ H Q I h
 refine UnaryOp_ (b9 (ha QV s σ H _ I h) λv s1 ⟨x,H1,I1,r1,q1⟩=>?_)
 obtain ⟨c,rfl,q1⟩:=q1
 cases r1
 exact not_of (Sw ⟨.bl (!c),H1,I1,rfl,q1⟩)
end
noncomputable def dw (K:Q7) (H:Hp) (a:Rq) (xs:List V):Prop:=
 Rd H a (.lst xs)\/
  ∃(o:Obj) (QX:Array Q8) (n:Nat),K.lookup a=some o/\o.cls=.type "list"/\o.dict=none/\o.data=.seq QX n/\QX.size<=sizeLine/\Vals xs QX.toList
noncomputable def dY (K:Q7) (H:Hp) (a:Rq) (xs:List V):Prop:=
 Rd H a (.tup xs)\/
  ∃(o:Obj) (QX:Array Q8) (n:Nat),K.lookup a=some o/\o.cls=.type "tuple"/\o.data=.seq QX n/\QX.size<=sizeLine/\Vals xs QX.toList
noncomputable def Og:Q8->Option V
 | .none=>some .non
 | .bool b=>some (.bl b)
 | .int i _=>some (.int i)
 | .str x _=>some (.str x)
 | .bytes b _=>some (.byt b)
 | .float b _=>some (.flt b)
 | .ref a=>some (.ref a)
 | .type n=>some (.ty n)
 | _=>none
theorem RelV.abs {x:V}{u:Q8}(r:RelV x u):Og u=some x:=by
 cases x with
 | non=>cases r;rfl
 | bl _=>cases r;rfl
 | int _=>obtain ⟨t,rfl⟩:=r;rfl
 | str _=>obtain ⟨t,rfl⟩:=r;rfl
 | byt _=>obtain ⟨t,rfl⟩:=r;rfl
 | flt _=>obtain ⟨t,rfl⟩:=r;rfl
 | ref _=>cases r;rfl
 | ty _=>cases r;rfl
theorem RelV.inj {x y:V}{u:Q8}(r:RelV x u) (q:RelV y u):x=y:=Sv (r.abs.symm.trans q.abs)
theorem Vals.inj:∀{xs ys:List V}{us:List Q8},Vals xs us->Vals ys us->xs=ys
 | _,_,_,.nil,.nil=>rfl
 | _,_,_,.cons r t,.cons r' t'=>by rw [r.inj r',Vals.inj t t']
section
variable {X:Cx}{QV:List (Rq×Obj)}{σ:St}{H:Hp}{s:Q_}{a:Rq}{xs ys:List V}
theorem dw.of {K:Q7}(h:H a=some (.lst xs)):dw K H a xs:=.inl (.inl h)
theorem Inv.list (I:Inv X QV σ H s) (h:dw X.K H a xs):∃QX:List Q8,Vals xs QX/\PlainL s.heap a QX.toArray/\xs.length<=sizeLine:=by
 rcases h with h | ⟨o,QX,n,hk,hc,hd,hs,hz,r⟩
 ·obtain ⟨z,QX,n,r,e⟩:=h.ok I.hok
  exact ⟨QX,r,⟨_,n,e,rfl,rfl,rfl⟩,z⟩
 ·refine ⟨QX.toList,r,⟨o,n,I.kIn a o hk,hc,hd,by simpa using hs⟩,?_⟩
  have e:=r.length
  simp only [Rm] at e
  omega
theorem Inv.tuple (I:Inv X QV σ H s) (h:dY X.K H a xs):∃QX:List Q8,Vals xs QX/\abo s.heap a QX.toArray/\xs.length<=sizeLine:=by
 rcases h with h | ⟨o,QX,n,hk,hc,hs,hz,r⟩
 ·obtain ⟨z,QX,r,p⟩:=h.ok I.hok
  exact ⟨QX,r,p,z⟩
 ·refine ⟨QX.toList,r,⟨o,I.kIn a o hk,hc,n,by simpa using hs⟩,?_⟩
  have e:=r.length
  simp only [Rm] at e
  omega
theorem Inv.list_inj (I:Inv X QV σ H s) (h:dw X.K H a xs) (h':dw X.K H a ys):xs=ys:=by
 obtain ⟨QX,r,⟨o,n,e,_,_,d⟩,_⟩:=I.list h
 obtain ⟨its',r',⟨o',n',e',_,_,d'⟩,_⟩:=I.list h'
 rw [e] at e';cases e'
 rw [d] at d'
 injection d' with d1 _
 have:QX=its':=by simpa using congrArg XM d1
 subst this
 exact r.inj r'
theorem Inv.tuple_inj (I:Inv X QV σ H s) (h:dY X.K H a xs) (h':dY X.K H a ys):xs=ys:=by
 obtain ⟨QX,r,⟨o,e,_,n,d⟩,_⟩:=I.tuple h
 obtain ⟨its',r',⟨o',e',_,n',d'⟩,_⟩:=I.tuple h'
 rw [e] at e';cases e'
 rw [d] at d'
 injection d' with d1 _
 have:QX=its':=by simpa using congrArg XM d1
 subst this
 exact r.inj r'
end
abbrev Cx.wish (X:Cx) (E:Q8->Q_->Prop):Cx:={X with xe:=E}
abbrev Cx.nox (X:Cx):Cx:=X.wish λ_ _=>False
theorem Cx.Ok.wish {X:Cx}(ok:X.Ok) (E:Q8->Q_->Prop):(X.wish E).Ok:=
 ⟨ok.mod,ok.kind,ok.glob,ok.blt,ok.above,ok.inj,ok.has,ok.cab,ok.hd,ok.frames,ok.stk,ok.exf,ok.bs,ok.bsz,ok.noex,ok.exfs,ok.funs,ok.frf⟩
theorem Cx.Ok.unwish {X:Cx}{E:Q8->Q_->Prop}(ok:(X.wish E).Ok):X.Ok:=
 ⟨ok.mod,ok.kind,ok.glob,ok.blt,ok.above,ok.inj,ok.has,ok.cab,ok.hd,ok.frames,ok.stk,ok.exf,ok.bs,ok.bsz,ok.noex,ok.exfs,ok.funs,ok.frf⟩
section
variable {X:Cx}{QV:List (Rq×Obj)}{σ:St}{H:Hp}{s:Q_}{E:Q8->Q_->Prop}
theorem Inv.wish (I:Inv X QV σ H s) (E:Q8->Q_->Prop):Inv (X.wish E) QV σ H s:=⟨I.ok.wish E,I.os,I.bare,I.base,I.loc,I.cell,I.free,I.freeC,I.pin,I.hok,I.len⟩
theorem Inv.unwish (I:Inv (X.wish E) QV σ H s):Inv X QV σ H s:=⟨I.ok.unwish,I.os,I.bare,I.base,I.loc,I.cell,I.free,I.freeC,I.pin,I.hok,I.len⟩
theorem SP.unwish {D:Ends}{f:Flow}{s':Q_}(h:SP (X.wish E) QV D f s'):SP X QV D f s':=by
 cases f with
 | next=>obtain ⟨σ',H',I,q⟩:=h;exact ⟨σ',H',I.unwish,q⟩
 | brk=>obtain ⟨σ',H',I,q⟩:=h;exact ⟨σ',H',I.unwish,q⟩
 | cont=>obtain ⟨σ',H',I,q⟩:=h;exact ⟨σ',H',I.unwish,q⟩
 | ret u=>obtain ⟨v,σ',H',I,r,q⟩:=h;exact ⟨v,σ',H',I.unwish,r,q⟩
theorem j_.nox {st:List Uy}{t:TS}(h:j_ X.nox st t):j_ X st t:=λQV s σ H D I hw=>
 Si (h QV s σ H D (I.wish _) hw) (λ_ _ q=>q.unwish) λ_ _ z=>UU z
end
section
variable {X:Cx}{st:Uy}{rest:List Uy}{t u:TS}{e:RX}{te:TE}{pos:Pos}
def NR:TS:=λD σ H=>D.nx σ H
def OP (t u:TS):TS:=λD σ H=>t {D with nx:=u D} σ H
theorem JN:j_ X [] NR:=λ_ _ σ H _ I h=>Wi ⟨σ,H,I,h⟩
theorem GL (h1:PS X st t) (h2:j_ X rest u):j_ X (st::rest) (OP t u):=by
 intro QV s σ H D I h
 refine Zv (b9 (h1 QV s σ H {D with nx:=u D} I h) λf s1 q=>?_)
 cases f with
 | next=>
  obtain ⟨σ',H',I',q⟩:=q
  exact h2 QV s1 σ' H' D I' q
 | ret v=>exact q
 | brk=>exact q
 | cont=>exact q
theorem JO (h1:PS X st t):j_ X [st] t:=by
 intro QV s σ H D I h
 refine Zv (b9 (h1 QV s σ H D I h) λf s1 q=>?_)
 cases f with
 | next=>exact Wi q
 | ret v=>exact q
 | brk=>exact q
 | cont=>exact q
theorem Inv.quiet {QV:List (Rq×Obj)}{σ:St}{H:Hp}{s:Q_}(I:Inv X QV σ H s):interactive X.env=false:=by simp [interactive,I.ok.kind]
def NQ (te:TE):TS:=λD σ H=>te σ H λ_ H1=>D.nx σ H1
theorem vc (he:PE X e te) (hs:US e none pos.line X.env=pure false:=by rfl):PS X (.Expr e pos) (NQ te):=by
 intro QV s σ H D I h
 exact wpAny_Expr_any (b9 (he QV s σ H _ I h) λv s1 ⟨x,H1,I1,r1,q1⟩=>⟨σ,H1,I1,q1⟩) I.quiet hs
def OO (te:TE):TS:=λD σ H=>te σ H D.rt
theorem Mm (he:PE X e te):PS X (.Return (some e) pos) (OO te):=by
 intro QV s σ H D I h
 exact wpAny_Return_some (b9 (he QV s σ H _ I h) λv s1 ⟨x,H1,I1,r1,q1⟩=>⟨x,σ,H1,I1,r1,q1⟩)
def OJ (c:TT) (t u:TS):TS:=λD σ H=>c σ H λb H1=>if b=true then t D σ H1 else u D σ H1
theorem NC {c:RX}{a b:List Uy}{tc:TT}(hc:PT X c tc) (ha:j_ X a t) (hb:j_ X b u):PS X (.If c a b pos) (OJ tc t u):=by
 intro QV s σ H D I h
 refine wpAny_If (b9 (hc QV s σ H _ I h) λd s1 ⟨H1,I1,q1⟩=>?_)
 cases d with
 | true=>exact ha QV s1 σ H1 D I1 q1
 | false=>exact hb QV s1 σ H1 D I1 q1
end
abbrev TG:=V->St->Hp->(St->Hp->Prop)->Prop
abbrev sF:=List V->St->Hp->(St->Hp->Prop)->Prop
noncomputable def PG (X:Cx) (QY:RX) (t:TG):Prop:=
 ∀(QV:List (Rq×Obj)) (s:Q_) (σ:St) (H:Hp) (v:V) (u:Q8) (Q:St->Hp->Prop),Inv X QV σ H s->RelV v u->t v σ H Q->
  RA (RG X.prog X.w) X.A (assign QY X.env u) (λ_ s'=>∃σ' H',Inv X QV σ' H' s'/\Q σ' H') X.xe s
noncomputable def yf (X:Cx) (ts:List RX) (t:sF):Prop:=
 ∀(QV:List (Rq×Obj)) (s:Q_) (σ:St) (H:Hp) (vs:List V) (us:List Q8) (Q:St->Hp->Prop),Inv X QV σ H s->Vals vs us->t vs σ H Q->
  RA (RG X.prog X.w) X.A (assignInOrder ((Uo ts X.env).map (·.2)) us) (λ_ s'=>∃σ' H',Inv X QV σ' H' s'/\Q σ' H') X.xe s
abbrev BU:=V->V->V->Hp->(Hp->Prop)->Prop
noncomputable def KW (X:Cx) (t:BU):Prop:=
 ∀(QV:List (Rq×Obj)) (s:Q_) (σ:St) (H:Hp) (o i v:V) (ov iv u:Q8) (Q:Hp->Prop),Inv X QV σ H s->RelV o ov->RelV i iv->RelV v u->t o i v H Q->
  RA (RG X.prog X.w) X.A (setItem ov iv u) (λ_ s'=>∃H',Inv X QV σ H' s'/\Q H') X.xe s
abbrev KZ:=V->V->Hp->VK->Prop
noncomputable def OV (X:Cx) (op:YB) (t:KZ):Prop:=
 ∀(QV:List (Rq×Obj)) (s:Q_) (σ:St) (H:Hp) (x y:V) (v u:Q8) (Q:VK),Inv X QV σ H s->RelV x v->RelV y u->t x y H Q->
  RA (RG X.prog X.w) X.A (XN op v u) (EP X QV σ Q) X.xe s
section
variable {X:Cx}{pos:Pos}
def HM (i:Nat):TG:=λv σ H Q=>Q (σ.set i (some v)) H
theorem JJ {i:Nat}{x:Str}(hN:X.N.Nodup) (hi:X.N[i]?=some x) (hx:Loc X.env.scope x) (hf:X.fn x=true\/X.env.scope.names.lookup x=some .local:=by first | exact .inl rfl | exact .inr rfl | assumption):PG X (.Name x pos) (HM i):=by
 intro QV s σ H v u Q I r h
 exact wpAny_assign_Name (r6 I hN hi hx r (λs' I'=>⟨_,H,I',h⟩) hf)
def av:sF:=λvs σ H Q=>vs=[]/\Q σ H
def ao (t:TG) (u:sF):sF:=λvs σ H Q=>∃v r,vs=v::r/\t v σ H λσ' H'=>u r σ' H' Q
theorem JK:yf X [] av:=by
 intro QV s σ H vs us Q I r h
 obtain ⟨e,h⟩:=h
 subst e
 cases r
 exact assignInOrder_nil ⟨σ,H,I,h⟩
theorem GI {e:RX}{es:List RX}{t:TG}{u:sF}(h1:PG X e t) (h2:yf X es u)
  (hs:(Uo (e::es) X.env).map (·.2)=assign e X.env::(Uo es X.env).map (·.2):=by rfl):yf X (e::es) (ao t u):=by
 intro QV s σ H vs us Q I r h
 obtain ⟨v,vr,e1,h⟩:=h
 subst e1
 cases r with
 | cons r rr=>
  rw [hs]
  refine assignInOrder_cons (b9 (h1 QV s σ H _ _ _ I r h) λ_ s1 ⟨σ1,H1,I1,q1⟩=>?_)
  exact h2 QV s1 σ1 H1 _ _ Q I1 rr q1
def bP (K:Q7) (n:Nat) (t:sF):TG:=λv σ H Q=>∃a xs,v=.ref a/\dY K H a xs/\xs.length=n/\t xs σ H Q
theorem Mh {es:List RX}{k:Nat}{t:sF}{n:Nat}(hc:X.calm=true) (h:yf X es t)
  (hn:(Uo es X.env).length=n:=by rfl) (hst:(Uo es X.env).findIdx? (·.1)=none:=by rfl):PG X (.Tuple es k pos) (bP X.K n t):=by
 intro QV s σ H v u Q I r hw
 obtain ⟨a,xs,e1,hq,hl,hw⟩:=hw
 subst e1
 cases r
 obtain ⟨QX,rv,ht,hz⟩:=I.tuple hq
 refine assign_Tuple_tuple (I.ok.hd hc) ht (by simp [hn,<-hl,rv.length]) hst λh' hx=>?_
 have I1:Inv X QV σ H {s with heap:=h'}:=I.kept (t':=s.toks) λb o e=>hx b o (RE (Ru e)) e
 exact h QV _ σ H xs _ Q I1 (by simpa using rv) hw
def Ol (to ti:TE) (t:BU):TG:=λv σ H Q=>to σ H λo H1=>ti σ H1 λi H2=>t o i v H2 λH3=>Q σ H3
theorem Mg {o i:RX}{to ti:TE}{t:BU}(ho:PE X o to) (hi:PE X i ti) (hs:KW X t)
  (ha:∀v,assign (.Subscript o i pos) X.env v=(do
   let ov <-holding [v] (eval o X.env)
   let iv <-holding [v,ov] (eval i X.env)
   Uz pos
   holding [v,ov,iv] (setItem ov iv v)
   release [v,ov,iv] []):=by intro _;rfl):PG X (.Subscript o i pos) (Ol to ti t):=by
 intro QV s σ H v u Q I r h
 rw [ha]
 refine Q6 (RU (b9 (ho QV s σ H _ I h) λov s1 ⟨x,H1,I1,r1,q1⟩=>?_))
 refine Q6 (RU (b9 (hi QV s1 σ H1 _ I1 q1) λiv s2 ⟨y,H2,I2,r2,q2⟩=>?_))
 refine Q6 (S8 (Q6 (RU (b9 (hs QV s2 σ H2 x y v ov iv u _ I2 r1 r2 r q2) λ_ s3 ⟨H3,I3,q3⟩=>?_))))
 exact wpAny_release ⟨σ,H3,I3,q3⟩
def Hj (te:TE) (g:TG):TS:=λD σ H=>te σ H λx H1=>g x σ H1 D.nx
theorem EK {tg e:RX}{te:TE}{g:TG}(he:PE X e te) (hg:PG X tg g) (hs:Vq [tg] e pos.line X.env=pure false:=by rfl) (hw:YC [tg] e X.env=pure none:=by rfl)
  (h1:(Uo [tg] X.env).map (·.2)=[assign tg X.env]:=by rfl):PS X (.Assign [tg] e pos) (Hj te g):=by
 intro QV s σ H D I h
 refine wpAny_Assign_stores (b9 (he QV s σ H _ I h) λv s1 ⟨x,H1,I1,r1,q1⟩=>?_) hs hw
 rw [h1]
 exact b9 (hg QV s1 σ H1 x v _ I1 r1 q1) λ_ s2 q=>q
theorem Mp {i:Nat}{x:Str}{e:RX}{te:TE}{pos':Pos}(hN:X.N.Nodup) (hi:X.N[i]?=some x) (hx:Loc X.env.scope x) (he:PE X e te) (hs:US e (some (.Name x pos')) pos.line X.env=pure false:=by rfl) (hf:X.fn x=true\/X.env.scope.names.lookup x=some .local:=by first | exact .inl rfl | exact .inr rfl | assumption):
  PS X (.Assign [.Name x pos'] e pos) (Hj te (HM i)):=by
 intro QV s σ H D I h
 refine wpAny_Assign_Name (b9 (he QV s σ H _ I h) λv s1 ⟨y,H1,I1,r1,q1⟩=>?_) hs
 exact r6 I1 hN hi hx r1 (λs2 I2=>⟨_,H1,I2,q1⟩) hf
def OH (i:Nat) (te:TE) (ti:KZ):TS:=λD σ H=>∃x,σ[i]?=some (some x)/\te σ H λy H1=>ti x y H1 λz H2=>D.nx (σ.set i (some z)) H2
theorem Mj {i:Nat}{x:Str}{e:RX}{te:TE}{op:YB}{ti:KZ}{pos':Pos}(hN:X.N.Nodup) (hi:X.N[i]?=some x) (hx:Loc X.env.scope x) (he:PE X e te) (ho:OV X op ti) (hf:X.fn x=true\/X.env.scope.names.lookup x=some .local:=by first | exact .inl rfl | exact .inr rfl | assumption):
  PS X (.AugAssign (.Name x pos') op e pos) (OH i te ti):=by
 intro QV s σ H D I h
 obtain ⟨v,e1,h⟩:=h
 obtain ⟨m,hn,hl⟩:=I.loc
 have vis:vA X.env.scope x:=by rcases hx with k | k;exact .inl k;exact .inr (.inl k)
 obtain ⟨u,r,l⟩:=hl i x v hi e1 vis
 refine wpAny_AugAssign_Name ?_
 have go:RA (RG X.prog X.w) X.A (eval e X.env) (λw s₂=>RA (RG X.prog X.w) X.A (XN op u w) (λr s₃=>RA (RG X.prog X.w) X.A (aa8 X.env x r) (λ_=>SP X QV D .next) X.xe s₃) X.xe s₂) X.xe s:=by
  refine b9 (he QV s σ H _ I h) λw s1 ⟨y,H1,I1,r1,q1⟩=>?_
  refine b9 (ho QV s1 σ H1 v y u w _ I1 r r1 q1) λz s2 ⟨zv,H2,I2,r2,q2⟩=>?_
  exact r6 I2 hN hi hx r2 (λs3 I3=>⟨_,H2,I3,q2⟩) hf
 rcases l with ⟨hk,hm⟩ | ⟨hk,c,hc,hcell⟩
 ·exact Yc I.ok.kind hk hn hm go
 ·rcases hk with hk | hk
  ·exact Yp I.ok.kind hk hc hcell go
  ·rcases hx with k | k
   ·have:X.env.scope.names.lookup x=some .free:=hk
    rw [k] at this;cases this
   ·have:X.env.scope.names.lookup x=some .free:=hk
    rw [k] at this;cases this
noncomputable def MP (c:TT) (tb:TS):TS:=λD σ H=>∃W:Nat->St->Hp->Prop,(∃m,W m σ H)/\∀m σ H,W m σ H->
 c σ H λb H1=>if b=true then ∃N:St->Hp->Prop,(∀σ' H',N σ' H'->∃m',m' < m/\W m' σ' H')/\tb {D with nx:=N,ct:=N,bk:=D.nx} σ H1 else D.nx σ H1
theorem GK {c:RX}{body:List Uy}{tc:TT}{tb:TS}(hp:ZH (RG X.prog X.w) X.A X.env X.xe) (hc:PT X c tc) (hb:j_ X body tb):PS X (.While c body [] pos) (MP tc tb):=by
 intro QV s σ H D I h
 obtain ⟨W,⟨m0,w0⟩,turn⟩:=h
 refine wpAny_While (codeAny_whileLoop (λn s'=>∃σ' H',Inv X QV σ' H' s'/\W n σ' H') ?_ m0 ⟨σ,H,I,w0⟩)
 rintro n s1 ⟨σ1,H1,I1,w1⟩
 refine Uq hp (b9 (hc QV s1 σ1 H1 _ I1 (turn n σ1 H1 w1)) λb s2 ⟨H2,I2,q2⟩=>?_)
 cases b with
 | true=>
  obtain ⟨N,hN,q2⟩:=q2
  rw [if_pos rfl]
  refine Uq hp (b9 (hb QV s2 σ1 H2 _ I2 q2) λf s3 q3=>?_)
  cases f with
  | next=>
   obtain ⟨σ3,H3,I3,n3⟩:=q3
   obtain ⟨m',hm,w3⟩:=hN σ3 H3 n3
   exact ⟨m',hm,σ3,H3,I3,w3⟩
  | cont=>
   obtain ⟨σ3,H3,I3,n3⟩:=q3
   obtain ⟨m',hm,w3⟩:=hN σ3 H3 n3
   exact ⟨m',hm,σ3,H3,I3,w3⟩
  | brk=>exact q3
  | ret v=>exact q3
 | false=>
  rw [if_neg RV]
  exact Wi ⟨σ1,H2,I2,q2⟩
end
structure It where
 go:Nat->Hp->Prop
 yld:Nat->Hp->V->Hp->Prop
 stop:Nat->Hp->Prop
noncomputable def jX (X:Cx) (QV:List (Rq×Obj)) (H:Hp) (b:Rq):Prop:=
 H b=none/\b≠X.env.locals/\b∉X.fs/\(b∈X.ex\/X.s₀.heap.objs.size<=b)/\(∀x c,X.env.cells.lookup x=some c->c≠b)/\∀p∈X.pn++QV,p.1≠b
theorem Inv.fpOk {X:Cx}{QV:List (Rq×Obj)}{σ:St}{H H':Hp}{s:Q_}{b:Rq}(I:Inv X QV σ H s) (hb:s.heap.objs.size<=b) (hn:H' b=none):jX X QV H' b:=by
 refine ⟨hn,Ux (RC I.lt hb),I.nofs hb,.inr (RS I.sz hb),λx c e z=>?_,λp hp z=>?_⟩
 ·obtain ⟨v,q⟩:=I.cell x c e
  exact absurd (RC q.lt (by rw [z];exact hb)) (Tr _)
 ·exact absurd (RC (Ru (I.pin p hp).1) (by rw [z];exact hb)) (Tr _)
structure Turn (P:Rz) (w:RZ) (K:Q7) (tg:RX) (J:It) (fp:List Rq) (it:Rq) (tn:Nat->SM->Prop):Prop where
 mem:it∈fp
 obj:∀i h,tn i h->∀b∈fp,∃o,h.get? b=some o/\∀v,o.data≠.cell v
 keep:∀i h h',tn i h->(∀b∈fp,∀o,h.get? b=some o->h'.get? b=some o)->tn i h'
 item:∀(X:Cx),X.prog=P->X.w=w->X.K=K->X.calm=true->∀(i:Nat) (QV:List (Rq×Obj)) (s:Q_) (σ:St) (H:Hp) (E:Q8->Q_->Prop),Inv X QV σ H s->(∀b∈fp,jX X QV H b)->tn i s.heap->J.go i H->
  RA (RG P w) X.A (VD (.ref it)) (λr s1=>∃u,r=some u/\
   RA (RG P w) X.A (TV tg (.ref it) u) (λ_ s2=>∃x H',Inv X QV σ H' s2/\RelV x u/\J.yld i H x H'/\tn (i + 1) s2.heap/\∀b∈fp,H' b=none) E s1) E s
 done:∀(X:Cx),X.prog=P->X.w=w->X.K=K->X.calm=true->∀(i:Nat) (QV:List (Rq×Obj)) (s:Q_) (σ:St) (H:Hp) (E:Q8->Q_->Prop),Inv X QV σ H s->(∀b∈fp,jX X QV H b)->tn i s.heap->J.stop i H->
  RA (RG P w) X.A (VD (.ref it)) (λr s1=>r=none/\Inv X QV σ H s1) E s
 self:∀(A:R4) (i:Nat) (s:Q_) (Q:Q8->Q_->Prop) (E:Q8->Q_->Prop),tn i s.heap->Q (.ref it) s->RA (RG P w) A (WB (.ref it)) Q E s
abbrev TI:=St->Hp->(It->Hp->Prop)->Prop
noncomputable def N5 (X:Cx) (QV:List (Rq×Obj)) (σ:St) (tg:RX) (R:It->Hp->Prop) (itv:Q8) (s2:Q_):Prop:=
 ∃(it:Rq) (fp:List Rq) (tn:Nat->SM->Prop) (J:It) (H':Hp),itv=.ref it/\Inv X QV σ H' s2/\Turn X.prog X.w X.K tg J fp it tn/\tn 0 s2.heap/\(∀b∈fp,jX X QV H' b)/\R J H'
noncomputable def PI (X:Cx) (tg QZ:RX) (wi:TI):Prop:=
 ∀(QV:List (Rq×Obj)) (s:Q_) (σ:St) (H:Hp) (R:It->Hp->Prop),Inv X QV σ H s->wi σ H R->
  RA (RG X.prog X.w) X.A (eval QZ X.env) (λv s1=>RA (RG X.prog X.w) X.A (WB v) (N5 X QV σ tg R) X.xe s1) X.xe s
theorem xJ {M:abT}{A:R4}{E:Q8->Q_->Prop}{s:Q_}{tg:RX}{it:Rq}{u:Q8}{o:Obj}{n:String}{vs:Array Q8}{Q:Unit->Q_->Prop}(ho:s.heap.get? it=some o) (hc:o.cls=.type n) (hd:o.data=.fields vs)
  (hn:["enumerate","zip","dict_itemiterator","dict_reverseitemiterator","odict_iterator","itertools.zip_longest","itertools.pairwise"].contains n=false) (hQ:Q () s):RA M A (TV tg (.ref it) u) Q E s:=by
 unfold TV
 cases tg <;> first
  | exact Q9 hQ
  | (cases u <;> first
    | exact Q9 hQ
    | (refine Q6 (wpAny_load ho ?_);rw [hc,hd];show RA M A (if (["enumerate","zip","dict_itemiterator","dict_reverseitemiterator","odict_iterator","itertools.zip_longest","itertools.pairwise"].contains n && vs[0]? == some (aat _))=true then _ else _) Q E s;rw [if_neg (by intro h;rw [hn,Bool.false_and] at h;cases h)];exact Q9 hQ))
noncomputable def Hu (K:Q7) (a:Rq):It:=
 ⟨λi H=>∃xs x,dw K H a xs/\xs[i]?=some x,λi H x H'=>H'=H/\∀xs,dw K H a xs->xs[i]?=some x,λi H=>∃xs,dw K H a xs/\xs.length<=i⟩
noncomputable def Hw (K:Q7) (a:Rq):It:=
 ⟨λi H=>∃xs x,dY K H a xs/\xs[i]?=some x,λi H x H'=>H'=H/\∀xs,dY K H a xs->xs[i]?=some x,λi H=>∃xs,dY K H a xs/\xs.length<=i⟩
def Hv (lo:Int) (n:Nat):It:=⟨λi _=>i < n,λi H x H'=>H'=H/\x=.int (lo + i),λi _=>n<=i⟩
theorem E_ {P:Rz}{w:RZ}{K:Q7}{tg:RX}(a it:Rq):Turn P w K tg (Hu K a) [it] it (λi h=>h.IsListIter it a i) where
 mem:=by simp
 obj:=λi h st b hb=>by
  have e:b=it:=by simpa using hb
  subst e
  obtain ⟨o,e,c,d⟩:=st
  exact ⟨o,e,λv z=>by rw [d] at z;cases z⟩
 keep:=λi h h' st k=>st.at λo e=>k it (by simp) o e
 item:=by
  intro X hP hw hK hc i QV s σ H E I hf st hg
  subst hP hw hK
  obtain ⟨xs,x,hq,hx⟩:=hg
  obtain ⟨QX,rv,p,hz⟩:=I.list hq
  obtain ⟨u,hu,ru⟩:=rv.get hx
  obtain ⟨f0,f1,f2,f3,f4,f5⟩:=hf it (by simp)
  refine wpAny_pyNext_list_item st p.isList (x:=u) (by simpa using hu) λh' st' sb=>?_
  have I1:Inv X QV σ H {s with heap:=h'}:=I.turned (t':=s.toks) (λb o hb e=>(sb.2 b hb).trans e) f0 f1 f3 f4 f5
  obtain ⟨o,e,c,d⟩:=id st'
  exact ⟨u,rfl,xJ (s:={s with heap:=h'}) e c d (by decide) ⟨x,H,I1,ru,⟨rfl,λys hy=>by rw [I.list_inj hy hq];exact hx⟩,st',λb hb=>(hf b hb).1⟩⟩
 done:=by
  intro X hP hw hK hc i QV s σ H E I hf st hg
  subst hP hw hK
  obtain ⟨xs,hq,hx⟩:=hg
  obtain ⟨QX,rv,p,hz⟩:=I.list hq
  obtain ⟨f0,f1,f2,f3,f4,f5⟩:=hf it (by simp)
  have hl:=rv.length
  exact wpAny_pyNext_list_end (I.ok.hd hc) st p.isList (by simp;omega) λh' eb=>⟨rfl,I.turned (t':=s.toks) (λb o hb e=>eb b o hb e) f0 f1 f3 f4 f5⟩
 self:=λ_ _ _ _ _ st h=>wpAny_pyIter_listiter st h
theorem C_ {P:Rz}{w:RZ}{K:Q7}{tg:RX}(a it:Rq):Turn P w K tg (Hw K a) [it] it (λi h=>h.IsTupleIter it a i) where
 mem:=by simp
 obj:=λi h st b hb=>by
  have e:b=it:=by simpa using hb
  subst e
  obtain ⟨o,e,c,d⟩:=st
  exact ⟨o,e,λv z=>by rw [d] at z;cases z⟩
 keep:=λi h h' st k=>st.at λo e=>k it (by simp) o e
 item:=by
  intro X hP hw hK hc i QV s σ H E I hf st hg
  subst hP hw hK
  obtain ⟨xs,x,hq,hx⟩:=hg
  obtain ⟨QX,rv,p,hz⟩:=I.tuple hq
  obtain ⟨u,hu,ru⟩:=rv.get hx
  obtain ⟨f0,f1,f2,f3,f4,f5⟩:=hf it (by simp)
  refine wpAny_pyNext_tuple_item st (show s.heap.IsTuple a QX.toArray from p) (x:=u) (by simpa using hu) λh' st' sb=>?_
  have I1:Inv X QV σ H {s with heap:=h'}:=I.turned (t':=s.toks) (λb o hb e=>(sb.2 b hb).trans e) f0 f1 f3 f4 f5
  obtain ⟨o,e,c,d⟩:=id st'
  exact ⟨u,rfl,xJ (s:={s with heap:=h'}) e c d (by decide) ⟨x,H,I1,ru,⟨rfl,λys hy=>by rw [I.tuple_inj hy hq];exact hx⟩,st',λb hb=>(hf b hb).1⟩⟩
 done:=by
  intro X hP hw hK hc i QV s σ H E I hf st hg
  subst hP hw hK
  obtain ⟨xs,hq,hx⟩:=hg
  obtain ⟨QX,rv,p,hz⟩:=I.tuple hq
  obtain ⟨f0,f1,f2,f3,f4,f5⟩:=hf it (by simp)
  have hl:=rv.length
  exact wpAny_pyNext_tuple_end (I.ok.hd hc) st (show s.heap.IsTuple a QX.toArray from p) (by simp;omega) λh' eb=>⟨rfl,I.turned (t':=s.toks) (λb o hb e=>eb b o hb e) f0 f1 f3 f4 f5⟩
 self:=λ_ _ _ _ _ st h=>wpAny_pyIter_tupleiter st h
theorem CZ {P:Rz}{w:RZ}{K:Q7}{tg:RX}(it:Rq) (lo:Int) (n:Nat):Turn P w K tg (Hv lo n) [it] it (λi h=>IsRangeIter h it (lo + (i:Nat) * 1) ((n:Int) - (i:Nat)) 1) where
 mem:=by simp
 obj:=λi h st b hb=>by
  have e:b=it:=by simpa using hb
  subst e
  exact ⟨_,st,λv z=>by
   have z':Data.fields _=Data.cell v:=z
   cases z'⟩
 keep:=λi h h' st k=>k it (by simp) _ st
 item:=by
  intro X hP hw hK hc i QV s σ H E I hf st hg
  subst hP hw hK
  obtain ⟨f0,f1,f2,f3,f4,f5⟩:=hf it (by simp)
  have W:=Walks.range (prog:=X.prog) (w:=X.w) (I.ok.hd hc) it lo 1 n
  refine W.item i s _ _ hg st λv h' tk hv st' kk=>?_
  obtain ⟨t,rfl⟩:=hv
  have I1:Inv X QV σ H {s with heap:=h',toks:=tk}:=I.turned (λb o hb e=>kk b o (by simpa using hb) e) f0 f1 f3 f4 f5
  refine ⟨_,rfl,xJ (s:={s with heap:=h',toks:=tk}) (n:="range_iterator") st' rfl rfl (by decide) ⟨.int (lo + i),H,I1,⟨t,?_⟩,⟨rfl,rfl⟩,st',λb hb=>(hf b hb).1⟩⟩
  rw [Int.mul_one]
 done:=by
  intro X hP hw hK hc i QV s σ H E I hf st hg
  subst hP hw hK
  obtain ⟨f0,f1,f2,f3,f4,f5⟩:=hf it (by simp)
  exact wpAny_pyNext_range_end (I.ok.hd hc) st (by have:n<=i:=hg;omega) λh' eb=>⟨rfl,I.turned (t':=s.toks) (λb o hb e=>eb b o hb e) f0 f1 f3 f4 f5⟩
 self:=λ_ _ _ _ _ st h=>wpAny_pyIter_rangeiter st h
section
variable {X:Cx}{tg:RX}
theorem G0 {QV:List (Rq×Obj)}{σ:St}{H:Hp}{s:Q_}{R:It->Hp->Prop}{E:Q8->Q_->Prop}{lo hi:Int}{t u v:Tok}{tk:Nat}(I:Inv X QV σ H s) (h1:-(2 ^ 62)<=lo) (h2:lo < 2 ^ 62) (h3:-(2 ^ 62)<=hi) (h4:hi < 2 ^ 62)
  (q:R (Hv lo (hi - lo).toNat) H):RA (RG X.prog X.w) X.A (WB (.ref s.heap.objs.size)) (N5 X QV σ tg R) E {s with heap:=s.heap.push {cls:=.type "range",data:=.fields #[.int lo t,.int hi u,.int 1 v]},toks:=tk}:=by
 refine wpAny_pyIter_range (IsRange.new ..) (small_one h1 h2 h3 h4) ?_
 have I1:Inv X QV σ H {s with heap:=s.heap.push {cls:=.type "range",data:=.fields #[.int lo t,.int hi u,.int 1 v]},toks:=tk}:=I.kept λb o e=>Rc _ e
 refine ⟨(s.heap.push {cls:=.type "range",data:=.fields #[.int lo t,.int hi u,.int 1 v]}).objs.size,[(s.heap.push {cls:=.type "range",data:=.fields #[.int lo t,.int hi u,.int 1 v]}).objs.size],_,_,H,rfl,
  I1.kept (t':=tk) λb o e=>Rc _ e,CZ _ lo (hi - lo).toNat,?_,λb hb=>?_,q⟩
 ·have e1:lo + ((0:Nat):Int) * 1=lo:=by simp
  have e2:(((hi - lo).toNat:Nat):Int) - ((0:Nat):Int)=Xc lo hi 1:=by rw [aaJ];split <;> omega
  show IsRangeIter _ _ (lo + ((0:Nat):Int) * 1) ((((hi - lo).toNat:Nat):Int) - ((0:Nat):Int)) 1
  rw [e1,e2]
  exact Rn _ rfl
 ·have e:b=(s.heap.push {cls:=.type "range",data:=.fields #[.int lo t,.int hi u,.int 1 v]}).objs.size:=by simpa using hb
  subst e
  exact I1.fpOk (Rj _) (I1.hok.fresh (Rj _))
def Nj (ta:TA):TI:=λσ H R=>ta σ H λvs H1=>∃j:Int,vs=[.int j]/\-(2 ^ 62)<=j/\j < 2 ^ 62/\R (Hv 0 j.toNat) H1
theorem EG {a:RX}{ta:TA}{p pos:Pos}(hg:Gl X "range") (hm:X.mg "range"=none) (ha:PA X [a] ta) (hs:Rr [a] X.env=[(false,eval a X.env)]:=by rfl):PI X tg (.Call (.Name "range" p) [a] [] pos) (Nj ta):=by
 intro QV s σ H R I h
 refine Call_ (tL I hg hm boot_range (Wj (b9 (ha pos QV s σ H _ I h) λus s1 ⟨vs,H1,I1,r1,q1⟩=>?_) hs rfl))
 obtain ⟨j,e,q1,q2,q⟩:=q1
 subst e
 cases r1 with
 | cons r rr=>
  cases rr
  obtain ⟨t,rfl⟩:=r
  exact call_range_1 (G0 I1 (by omega) (by omega) q1 q2 (by simpa using q))
noncomputable def OI (wi:TI) (g:TG) (tb:TS):TS:=λD σ H=>wi σ H λJ H1=>∃W:Nat->Nat->St->Hp->Prop,(∃m,W 0 m σ H1)/\∀i m σ H,W i m σ H->
 (J.stop i H/\D.nx σ H)\/(J.go i H/\∃N:St->Hp->Prop,(∀σ' H',N σ' H'->∃m',m' < m/\W (i + 1) m' σ' H')/\∀x H',J.yld i H x H'->g x σ H' λσ2 H2=>tb {D with nx:=N,ct:=N,bk:=D.nx} σ2 H2)
def pY (fp:List Rq) (h:SM):List (Rq×Obj):=fp.filterMap λb=>(h.get? b).map λo=>(b,o)
theorem ku {fp:List Rq}{h:SM}{b:Rq}{o:Obj}(hb:b∈fp) (e:h.get? b=some o):(b,o)∈pY fp h:=Vr.mpr ⟨b,hb,by rw [e];rfl⟩
theorem Eo {fp:List Rq}{h:SM}{p:Rq×Obj}(hp:p∈pY fp h):p.1∈fp/\h.get? p.1=some p.2:=by
 obtain ⟨b,hb,e⟩:=Vr.mp hp
 cases q:h.get? b with
 | none=>rw [q] at e;cases e
 | some o=>
  rw [q] at e
  have e':(b,o)=p:=Sv e
  subst e'
  exact ⟨hb,q⟩
theorem Inv.pinned {QV:List (Rq×Obj)}{σ:St}{H:Hp}{s:Q_}{fp:List Rq}(I:Inv X QV σ H s) (hf:∀b∈fp,jX X QV H b) (ho:∀b∈fp,∃o,s.heap.get? b=some o/\∀v,o.data≠.cell v):Inv X (QV++pY fp s.heap) σ H s:=
 I.pins_of λp hp=>(RJ.mp hp).elim (λz=>I.pin p (R9 _ z)) λz=>by
  obtain ⟨hb,e⟩:=Eo z
  obtain ⟨f0,f1,f2,_⟩:=hf p.1 hb
  obtain ⟨o,e',d⟩:=ho p.1 hb
  rw [e] at e';cases e'
  exact ⟨e,f0,f1,f2,d⟩
theorem Inv.unpinned {QV pl:List (Rq×Obj)}{σ:St}{H:Hp}{s:Q_}(I:Inv X (QV++pl) σ H s):Inv X QV σ H s:=I.pins_of λp hp=>I.pin p (R9 _ (Uj _ hp))
theorem Ml {QZ:RX}{body:List Uy}{wi:TI}{g:TG}{tb:TS}{pos:Pos}(hp:ZH (RG X.prog X.w) X.A X.env X.xe) (hc:X.calm=true) (hi:PI X tg QZ wi) (hg:PG X tg g) (hb:j_ X body tb)
  (hs:∀x,Rx QZ X.env x=pure x:=by intro _;rfl):PS X (.For tg QZ body [] pos) (OI wi g tb):=by
 intro QV s σ H D I h
 refine wpAny_For (b9 (hi QV s σ H _ I h) λv s1 h1=>b9 h1 λitv s2 h2=>?_) hs
 obtain ⟨it,fp,tn,J,H2,e,I2,T,st2,f2,W,⟨m0,w0⟩,turn⟩:=h2
 subst e
 have stat:∀{H':Hp},(∀b∈fp,H' b=none)->∀b∈fp,jX X QV H' b:=λhn b hb=>⟨hn b hb,(f2 b hb).2⟩
 refine codeAny_forLoop_any (λn s'=>∃i σ' H',Inv X QV σ' H' s'/\tn i s'.heap/\(∀b∈fp,H' b=none)/\W i n σ' H') ?_ m0 ⟨0,σ,H2,I2,st2,λb hb=>(f2 b hb).1,w0⟩
 rintro n s3 ⟨i,σ3,H3,I3,st3,fr3,w3⟩
 rcases turn i n σ3 H3 w3 with ⟨stop,qn⟩ | ⟨go,N,hN,step⟩
 ·refine Uq hp (b9 (T.done X rfl rfl rfl hc i QV s3 σ3 H3 X.xe I3 (stat fr3) st3 stop) λr s4 ⟨hr,I4⟩=>?_)
  subst hr
  exact Wi ⟨σ3,H3,I4,qn⟩
 ·refine Uq hp (b9 (T.item X rfl rfl rfl hc i QV s3 σ3 H3 X.xe I3 (stat fr3) st3 go) λr s4 ⟨u,hr,h4⟩=>?_)
  subst hr
  refine Uq hp (b9 h4 λ_ s5 ⟨x,H5,I5,r5,y5,st5,fr5⟩=>?_)
  have I5':=I5.pinned (stat fr5) (T.obj _ _ st5)
  refine Uq hp (b9 (hg _ s5 σ3 H5 x u _ I5' r5 (step x H5 y5)) λ_ s6 ⟨σ6,H6,I6,q6⟩=>?_)
  refine Uq hp (b9 (hb _ s6 σ6 H6 _ I6 q6) λf s7 q7=>?_)
  have again:∀{σ7:St}{H7:Hp},Inv X (QV++pY fp s5.heap) σ7 H7 s7->N σ7 H7->∃m,m < n/\∃i σ' H',Inv X QV σ' H' s7/\tn i s7.heap/\(∀b∈fp,H' b=none)/\W i m σ' H':=fun {σ7 H7} I7 n7=>by
   obtain ⟨m',hm,w7⟩:=hN σ7 H7 n7
   refine ⟨m',hm,i + 1,σ7,H7,I7.unpinned,T.keep _ _ _ st5 λb hb o e=>(I7.pin (b,o) (R9 _ (R9 _ (ku hb e)))).1,λb hb=>?_,w7⟩
   obtain ⟨o,e,d⟩:=T.obj _ _ st5 b hb
   exact (I7.pin (b,o) (R9 _ (R9 _ (ku hb e)))).2.1
  cases f with
  | next=>obtain ⟨σ7,H7,I7,n7⟩:=q7;exact again I7 n7
  | cont=>obtain ⟨σ7,H7,I7,n7⟩:=q7;exact again I7 n7
  | brk=>obtain ⟨σ7,H7,I7,q7⟩:=q7;exact ⟨σ7,H7,I7.unpinned,q7⟩
  | ret v=>obtain ⟨x7,σ7,H7,I7,r7,q7⟩:=q7;exact ⟨x7,σ7,H7,I7.unpinned,r7,q7⟩
end
abbrev R2:=V->V->Hp->VK->Prop
noncomputable def dZ (X:Cx) (f:Q8->Q8->Sem Q8) (r:R2):Prop:=
 ∀(QV:List (Rq×Obj)) (s:Q_) (σ:St) (H:Hp) (x y:V) (v u:Q8) (Q:VK),Inv X QV σ H s->RelV x v->RelV y u->r x y H Q->
  RA (RG X.prog X.w) X.A (f v u) (EP X QV σ Q) X.xe s
noncomputable def K1 (X:Cx) (f:Q8->Sem Q8) (r:V->Hp->VK->Prop):Prop:=
 ∀(QV:List (Rq×Obj)) (s:Q_) (σ:St) (H:Hp) (x:V) (v:Q8) (Q:VK),Inv X QV σ H s->RelV x v->r x H Q->
  RA (RG X.prog X.w) X.A (f v) (EP X QV σ Q) X.xe s
noncomputable def b8 (X:Cx) (f:Q8) (r:List V->Hp->VK->Prop):Prop:=
 ∀(QV:List (Rq×Obj)) (s:Q_) (σ:St) (H:Hp) (xs:List V) (us:List Q8) (Q:VK),Inv X QV σ H s->Vals xs us->r xs H Q->
  RA (RG X.prog X.w) X.A (call f us) (EP X QV σ Q) X.xe s
noncomputable def Of (X:Cx) (r:V->Hp->(Bool->Hp->Prop)->Prop):Prop:=
 ∀(QV:List (Rq×Obj)) (s:Q_) (σ:St) (H:Hp) (x:V) (v:Q8) (Q:Bool->Hp->Prop),Inv X QV σ H s->RelV x v->r x H Q->
  RA (RG X.prog X.w) X.A (truthy v) (TP X QV σ Q) X.xe s
def E7 (r:R2) (ta tb:TE):TE:=λσ H Q=>ta σ H λx H1=>tb σ H1 λy H2=>r x y H2 Q
def O7 (r:V->Hp->VK->Prop) (ta:TE):TE:=λσ H Q=>ta σ H λx H1=>r x H1 Q
def rI (C:Int->Int->Prop) (g:Int->Int->V):R2:=λx y H Q=>∃i j,x=.int i/\y=.int j/\C i j/\Q (g i j) H
def pZ (g:Int->Int->V):R2:=λx y H Q=>∃i j,x=.int i/\y=.int j/\Q (g i j) H
def rU (g:Int->V):V->Hp->VK->Prop:=λx H Q=>∃i,x=.int i/\Q (g i) H
section
variable {X:Cx}{a b c:RX}{ta tb tc:TE}{pos:Pos}
theorem Fz (ha:PE X a ta) (hb:PE X b tb){QV:List (Rq×Obj)}{s:Q_}{σ:St}{H:Hp}{R:V->V->Hp->Prop}(I:Inv X QV σ H s)
  (h:ta σ H λx H1=>tb σ H1 λy H2=>R x y H2){Q:Q8->Q_->Prop}{f:Q8->Q8->Sem Q8}
  (hf:∀v u s2 x y H2,Inv X QV σ H2 s2->RelV x v->RelV y u->R x y H2->RA (RG X.prog X.w) X.A (f v u) Q X.xe s2):
  RA (RG X.prog X.w) X.A (eval a X.env) (λv s₁=>RA (RG X.prog X.w) X.A (eval b X.env) (λu s₂=>RA (RG X.prog X.w) X.A (f v u) Q X.xe s₂) X.xe s₁) X.xe s:=by
 refine b9 (ha QV s σ H _ I h) λv s1 ⟨x,H1,I1,r1,q1⟩=>?_
 refine b9 (hb QV s1 σ H1 _ I1 q1) λu s2 ⟨y,H2,I2,r2,q2⟩=>?_
 exact hf v u s2 x y H2 I2 r1 r2 q2
theorem Ny {op:YB}{r:R2}(ho:dZ X (UA op) r) (ha:PE X a ta) (hb:PE X b tb):PE X (.BinOp a op b pos) (E7 r ta tb):=by
 intro QV s σ H Q I h
 exact wpAny_BinOp (Fz ha hb I h λv u s2 x y H2 I2 rx ry q=>ho QV s2 σ H2 x y v u Q I2 rx ry q)
theorem NB {op:UnaryOp}{r:V->Hp->VK->Prop}(ho:K1 X (unaryOp op) r) (ha:PE X a ta):PE X (.UnaryOp op a pos) (O7 r ta):=by
 intro QV s σ H Q I h
 exact UnaryOp_ (b9 (ha QV s σ H _ I h) λv s1 ⟨x,H1,I1,r1,q1⟩=>ho QV s1 σ H1 x v Q I1 r1 q1)
theorem Oh {op:YB}{r:R2}(ho:dZ X (XN op) r){QV:List (Rq×Obj)}{s:Q_}{σ:St}{H:Hp}{x y:V}{v u:Q8}{Q:VK}(I:Inv X QV σ H s)
  (rx:RelV x v) (ry:RelV y u) (q:r x y H Q):RA (RG X.prog X.w) X.A (XN op v u) (EP X QV σ Q) X.xe s:=ho QV s σ H x y v u Q I rx ry q
theorem Ep {f:Q8->Q8->Sem Q8}{C:Int->Int->Prop}{g:Int->Int->Int}
  (rule:∀(i j:Int) (t u:Tok) (s:Q_) (Q:Q8->Q_->Prop) (E:Q8->Q_->Prop),C i j->Q (.int (g i j) s.toks) {s with toks:=s.toks + 1}->RA (RG X.prog X.w) X.A (f (.int i t) (.int j u)) Q E s):
  dZ X f (rI C λi j=>.int (g i j)):=by
 intro QV s σ H x y v u Q I rx ry h
 obtain ⟨i,j,rfl,rfl,hc,q⟩:=h
 obtain ⟨t,rfl⟩:=rx
 obtain ⟨t',rfl⟩:=ry
 exact rule i j t t' s _ _ hc ⟨.int (g i j),H,I.tok _,⟨_,rfl⟩,q⟩
theorem Cv {f:Q8->Q8->Sem Q8}{g:Int->Int->Int}
  (rule:∀(i j:Int) (t u:Tok) (s:Q_) (Q:Q8->Q_->Prop) (E:Q8->Q_->Prop),Q (.int (g i j) s.toks) {s with toks:=s.toks + 1}->RA (RG X.prog X.w) X.A (f (.int i t) (.int j u)) Q E s):
  dZ X f (pZ λi j=>.int (g i j)):=by
 intro QV s σ H x y v u Q I rx ry h
 obtain ⟨i,j,rfl,rfl,q⟩:=h
 obtain ⟨t,rfl⟩:=rx
 obtain ⟨t',rfl⟩:=ry
 exact rule i j t t' s _ _ ⟨.int (g i j),H,I.tok _,⟨_,rfl⟩,q⟩
theorem LR {f:Q8->Q8->Sem Q8}{g:Int->Int->Bool}
  (rule:∀(i j:Int) (t u:Tok) (s:Q_) (Q:Q8->Q_->Prop) (E:Q8->Q_->Prop),Q (.bool (g i j)) s->RA (RG X.prog X.w) X.A (f (.int i t) (.int j u)) Q E s):
  dZ X f (pZ λi j=>.bl (g i j)):=by
 intro QV s σ H x y v u Q I rx ry h
 obtain ⟨i,j,rfl,rfl,q⟩:=h
 obtain ⟨t,rfl⟩:=rx
 obtain ⟨t',rfl⟩:=ry
 exact rule i j t t' s _ _ ⟨.bl (g i j),H,I,rfl,q⟩
def N_ (i j:Int):Prop:=0 < j/\j < 1073741824
def Oa (i j:Int):Prop:=0<=j/\j<=1000000/\i.natAbs < 2 ^ 64
def BB (i j:Int):Prop:=(-(2 ^ 64) < i/\i < 2 ^ 64)\/(-(2 ^ 64) < j/\j < 2 ^ 64)
theorem BB.ok {i j:Int}(h:BB i j):IntMulOk i j:=by
 rcases h with ⟨h1,h2⟩ | ⟨h1,h2⟩
 ·exact .of_left (aaK h1 h2)
 ·exact .of_right (aaK h1 h2)
theorem Dc (k:Nat):(0:Int)<=2 ^ k:=by
 rw [two_pow_cast]
 exact Int.natCast_nonneg _
theorem Er:dZ X (UA .Add) (pZ λi j=>.int (i + j)):=Cv λ_ _ _ _ _ _ _ q=>add_int q
theorem L3:dZ X (UA .Sub) (pZ λi j=>.int (i - j)):=Cv λ_ _ _ _ _ _ _ q=>sub_int q
theorem LW:dZ X (UA .Mult) (rI BB λi j=>.int (i * j)):=Ep λ_ _ _ _ _ _ _ hc q=>mul_int q hc.ok
theorem Jy:dZ X (UA .FloorDiv) (rI N_ λi j=>.int (i / j)):=Ep λi j _ _ _ _ _ hc q=>by
 have h1:(0:Int) < j:=hc.1
 have h2:j < 1073741824:=hc.2
 exact floordiv_int (by omega) (by rw [Wx i (by omega)];exact q) (.inl (PyProof.noPylong_small (by omega)))
theorem LV:dZ X (UA .Mod) (rI (λ_ j=>0 < j) λi j=>.int (i % j)):=Ep λi j _ _ _ _ _ hc q=>by
 have h1:(0:Int) < j:=hc
 exact mod_int' (by omega) (by rw [Int.fmod_eq_emod_of_nonneg i (by omega)];exact q)
theorem LX:dZ X (UA .Pow) (rI Oa λi j=>.int (i ^ j.toNat)):=Ep λ_ _ _ _ _ _ _ hc q=>pow_int_small hc.1 hc.2.1 hc.2.2 q
theorem LZ:dZ X (UA .RShift) (rI (λ_ j=>0<=j) λi j=>.int (i / 2 ^ j.toNat)):=Ep λi j _ _ _ _ _ hc q=>
 rshift_int hc (by rw [Wx i (Dc _)];exact q)
theorem LS:dZ X (UA .BitAnd) (pZ λi j=>.int (WL i j)):=Cv λ_ _ _ _ _ _ _ q=>and_int q
theorem Jc:dZ X (XN .Add) (pZ λi j=>.int (i + j)):=Cv λ_ _ _ _ _ _ _ q=>iadd_int q
theorem l_ {f:Q8->Sem Q8}{g:Int->Int}
  (rule:∀(i:Int) (t:Tok) (s:Q_) (Q:Q8->Q_->Prop) (E:Q8->Q_->Prop),Q (.int (g i) s.toks) {s with toks:=s.toks + 1}->RA (RG X.prog X.w) X.A (f (.int i t)) Q E s):
  K1 X f (rU λi=>.int (g i)):=by
 intro QV s σ H x v Q I rx h
 obtain ⟨i,rfl,q⟩:=h
 obtain ⟨t,rfl⟩:=rx
 exact rule i t s _ _ ⟨.int (g i),H,I.tok _,⟨_,rfl⟩,q⟩
theorem MY:K1 X (unaryOp .USub) (rU λi=>.int (-i)):=l_ λ_ _ _ _ _ q=>neg_int q
theorem xN:dZ X (S7 .Lt) (pZ λi j=>.bl (decide (i < j))):=LR λ_ _ _ _ _ _ _ q=>lt_int q
theorem tV:dZ X (S7 .Gt) (pZ λi j=>.bl (decide (j < i))):=LR λ_ _ _ _ _ _ _ q=>gt_int q
theorem dZ.or {f:Q8->Q8->Sem Q8}{r r':R2}(h:dZ X f r) (h':dZ X f r'):dZ X f (λx y H Q=>r x y H Q\/r' x y H Q):=by
 intro QV s σ H x y v u Q I rx ry q
 rcases q with q | q
 ·exact h QV s σ H x y v u Q I rx ry q
 ·exact h' QV s σ H x y v u Q I rx ry q
theorem zl (b:RX){op:aa9}(h:op≠.In:=by decide) (h2:op≠.NotIn:=by decide):SA op b=false:=by
 have e1:(op == ab7)=false:=by cases op <;> first | rfl | exact absurd rfl h
 have e2:(op == abp)=false:=by cases op <;> first | rfl | exact absurd rfl h2
 cases b <;> simp [SA,e1,e2]
theorem JI {op:aa9}{r:R2}(ho:dZ X (S7 op) r) (ha:PE X a ta) (hb:PE X b tb) (hm:SA op b=false):PE X (.Compare a [op] [b] pos) (E7 r ta tb):=by
 intro QV s σ H Q I h
 exact wpAny_Compare1 (Fz ha hb I h λv u s2 x y H2 I2 rx ry q=>ho QV s2 σ H2 x y v u Q I2 rx ry q) hm
def NU (t:TE):TT:=λσ H Q=>t σ H λx H'=>∃k,x=.bl k/\Q k H'
theorem JP {op:aa9}{r:R2}(ho:dZ X (S7 op) r) (ha:PE X a ta) (hb:PE X b tb) (hm:SA op b=false):PT X (.Compare a [op] [b] pos) (NU (E7 r ta tb)):=by
 intro QV s σ H Q I h
 refine XJ (b9 (ha QV s σ H _ I h) λv s1 ⟨x,H1,I1,r1,q1⟩=>b9 (hb QV s1 σ H1 _ I1 q1) λu s2 ⟨y,H2,I2,r2,q2⟩=>
  b9 (ho QV s2 σ H2 x y v u _ I2 r1 r2 q2) λc s3 ⟨z,H3,I3,r3,k,e,q3⟩=>?_) hm
 subst e
 cases r3
 exact Sw ⟨H3,I3,q3⟩
noncomputable def Fw (K:Q7) (x:V) (H:Hp) (k:Bool):Prop:=
 match x with
 | .non=>k=false
 | .bl b=>k=b
 | .int i=>k=(i != 0)
 | .str y=>y.length<=sizeLine/\k=((y.length:Int) != 0)
 | .byt y=>y.size<=sizeLine/\k=((y.size:Int) != 0)
 | .ref p=>(∃xs,dw K H p xs/\k=!xs.isEmpty)\/(∃xs,dY K H p xs/\k=!xs.isEmpty)\/∃Q4,H p=some (.dK Q4)/\k=!Q4.isEmpty
 | _=>False
theorem Ci {κ:Type}{Q4:List (κ×V)}{vs:List (κ×Q8)}(r:KV Q4 vs):(!vs.isEmpty)=!Q4.isEmpty:=by
 cases r <;> rfl
theorem tH {xs:List V}{QX:List Q8}(r:Vals xs QX):(!QX.toArray.isEmpty)=!xs.isEmpty:=by
 cases r <;> simp
theorem nt:(sizeLine:Nat) < 2 ^ 63:=by rw [Sh];decide
theorem MR:Of X (λx H Q=>∃k,Fw X.K x H k/\Q k H):=by
 intro QV s σ H x v Q I rx h
 obtain ⟨k,e,q⟩:=h
 have hl:=nt
 have hs:sizeLine=16777216:=Sh
 cases x with
 | non=>
  cases rx
  have e':k=false:=e
  subst e'
  exact truthy_none ⟨H,I,q⟩
 | bl b=>
  cases rx
  have e':k=b:=e
  subst e'
  exact Sw ⟨H,I,q⟩
 | int i=>
  obtain ⟨t,rfl⟩:=rx
  have e':k=(i != 0):=e
  subst e'
  exact PySem.P.truthy_int ⟨H,I,q⟩
 | str y=>
  obtain ⟨t,rfl⟩:=rx
  obtain ⟨hy,e'⟩:y.length<=sizeLine/\k=((y.length:Int) != 0):=e
  subst e'
  exact PySem.P.truthy_str (by omega) ⟨H,I.tok _,q⟩
 | byt y=>
  obtain ⟨t,rfl⟩:=rx
  obtain ⟨hy,e'⟩:y.size<=sizeLine/\k=((y.size:Int) != 0):=e
  subst e'
  exact W.truthy_bytes (by omega) ⟨H,I.tok _,q⟩
 | ref p=>
  cases rx
  have e':(∃xs,dw X.K H p xs/\k=!xs.isEmpty)\/(∃xs,dY X.K H p xs/\k=!xs.isEmpty)\/∃Q4,H p=some (.dK Q4)/\k=!Q4.isEmpty:=e
  rcases e' with ⟨xs,hx,e'⟩ | ⟨xs,hx,e'⟩ | ⟨Q4,hx,e'⟩
  ·subst e'
   obtain ⟨QX,r,pl,hz⟩:=I.list hx
   have hlen:=r.length
   exact wpAny_truthy_list pl.isList (by simp only [Ro];omega) ⟨H,I.tok _,by rw [tH r];exact q⟩
  ·subst e'
   obtain ⟨QX,r,pl,hz⟩:=I.tuple hx
   have hlen:=r.length
   exact truthy_tuple pl (by simp only [Ro];omega) ⟨H,I.tok _,by rw [tH r];exact q⟩
  ·subst e'
   obtain ⟨hz,hS,vs,r,m⟩:Q4.length<=sizeLine/\(p == UJ)=false/\∃vs,KV Q4 vs/\s.heap.DictOf (u7 X.prog X.w) p vs:=I.hok p _ hx
   have hlen:Q4.length=vs.length:=aaI r
   exact wpAny_truthy_dict hS m (by omega) ⟨H,I.tok _,by rw [Ci r];exact q⟩
 | _=>exact (show False from e).elim
theorem GN (ha:PE X a ta) (he:∀whole,Yk a X.env whole=(do let v <-whole;Uz a.pos;holding [v] (truthy v))):
  PT X a (λσ H Q=>ta σ H λx H'=>∃k,Fw X.K x H' k/\Q k H'):=by
 intro QV s σ H Q I h
 exact isTrue_plain (b9 (ha QV s σ H _ I h) λv s1 ⟨x,H1,I1,r1,q1⟩=>MR QV s1 σ H1 x v Q I1 r1 q1) (he _)
theorem tU:dZ X (UA .Add) (λx y H Q=>∃i j,x=.str i/\y=.str j/\i.length + j.length<=sizeLine/\Q (.str (i++j)) H):=by
 intro QV s σ H x y v u Q I rx ry h
 obtain ⟨i,j,rfl,rfl,hz,q⟩:=h
 obtain ⟨t,rfl⟩:=rx
 obtain ⟨t',rfl⟩:=ry
 exact add_str (λt' tk=>⟨.str (i++j),H,I.tok _,⟨_,rfl⟩,q⟩) hz
theorem vals1 {x:V}{us:List Q8}(r:Vals [x] us):∃u,us=[u]/\RelV x u:=by
 cases r with
 | cons r1 r2=>cases r2;exact ⟨_,rfl,r1⟩
theorem vals2 {x y:V}{us:List Q8}(r:Vals [x,y] us):∃u w',us=[u,w']/\RelV x u/\RelV y w':=by
 cases r with
 | cons r1 r2=>
  cases r2 with
  | cons r3 r4=>cases r4;exact ⟨_,_,rfl,r1,r3⟩
end
structure fk (k:Nat) (A:R4):Prop where
 hd:A.handled=none
 dp:A.depth + 3 * k + 5 < aaa
 un:A.units + 16 * k + 200 < S6
theorem fk.mono {j k:Nat}{A:R4}(r:fk k A) (h:j<=k):fk j A:=⟨r.hd,by have:=r.dp;omega,by have:=r.un;omega⟩
theorem fk.deeper {k:Nat}{A:R4}(r:fk (k + 1) A) (env:Env):fk k (A.deeper env):=
 ⟨r.hd,by have:=r.dp;show A.depth + 1 + 3 * k + 5 < _;omega,by have:=r.un;show A.units + 3 + 16 * k + 200 < _;omega⟩
theorem fk.depth {k:Nat}{A:R4}(r:fk k A):A.depth < aaa:=by have:=r.dp;omega
theorem fk.units {k:Nat}{A:R4}(r:fk k A):A.units + 64 < S6:=by have:=r.un;omega
def zW:TA:=λ_ H Q=>Q [] H
def NP (ta:TE) (tr:TA):TA:=λσ H Q=>ta σ H λx H1=>tr σ H1 λxs H2=>Q (x::xs) H2
section
variable {X:Cx}{e:RX}{es:List RX}{te:TE}{t:TA}{pos:Pos}
theorem jn:PA X [] zW:=λ_ _ _ _ H Q I h=>Calls.spliced_nil ⟨[],H,I,.nil,h⟩
theorem gq (ha:PE X e te) (hr:PA X es t) (hs:Rr (e::es) X.env=(false,eval e X.env)::Rr es X.env:=by rfl):PA X (e::es) (NP te t):=by
 intro pos QV s σ H Q I h
 rw [hs]
 show RA _ _ (spliced ((false,eval e X.env)::TU pos (Rr es X.env))) _ _ s
 refine Calls.spliced_cons (b9 (ha QV s σ H _ I h) λu s1 ⟨x,H1,I1,r1,q1⟩=>?_)
 exact b9 (hr pos QV s1 σ H1 _ I1 q1) λus s2 ⟨xs,H2,I2,r2,q2⟩=>⟨x::xs,H2,I2,.cons r1 r2,q2⟩
def OQ (t:TA):TE:=λσ H Q=>t σ H λxs H1=>xs.length<=sizeLine/\∀p,H1 p=none->Q (.ref p) (upd H1 p (.tup xs))
def OL (t:TA):TE:=λσ H Q=>t σ H λxs H1=>xs.length<=sizeLine/\∀p,H1 p=none->Q (.ref p) (upd H1 p (.lst xs))
theorem Mf {x1}(h:PA X es t):PE X (.Tuple es x1 pos) (OQ t):=by
 intro QV s σ H Q I hq
 refine wpAny_Tuple_spliced (b9 (h pos QV s σ H _ I hq) λus s1 ⟨xs,H1,I1,r,z,q⟩=>⟨by rw [<-r.length];exact z,?_⟩)
 have hf:H1 s1.heap.objs.size=none:=I1.hok.fresh (Rj _)
 refine ⟨.ref s1.heap.objs.size,upd H1 s1.heap.objs.size (.tup xs),I1.laid (t':=s1.toks) (λb u e=>Rc _ e) (Rj _) ?_,rfl,q _ hf⟩
 exact ⟨z,us,r,⟨_,Rn _ rfl,rfl,_,rfl⟩⟩
theorem L_ (h:PA X es t):PE X (.List es pos) (OL t):=by
 intro QV s σ H Q I hq
 refine wpAny_List_spliced (b9 (h pos QV s σ H _ I hq) λus s1 ⟨xs,H1,I1,r,z,q⟩=>⟨by rw [<-r.length];exact z,?_⟩)
 have hf:H1 s1.heap.objs.size=none:=I1.hok.fresh (Rj _)
 refine ⟨.ref s1.heap.objs.size,upd H1 s1.heap.objs.size (.lst xs),I1.laid (t':=s1.toks) (λb u e=>Rc _ e) (Rj _) ?_,rfl,q _ hf⟩
 exact ⟨z,us,0,r,Rn _ rfl⟩
end
abbrev Sp:=List V->Hp->VK->XK->Prop
abbrev qP:=List Env->Hp->Q_->XK->Q8->Q_->Prop
structure BE (P:Rz) (w:RZ) (K:Q7) (mg:Str->Option Q8) (base:SM) (A:R4) (outer:List Env) (s:Q_) (H:Hp):Prop where
 frames:A.frames=some outer
 mod:Mod K mg base
 bs:∀b o,base.get? b=some o->s.heap.get? b=some o/\H b=none
 bsz:base.objs.size<=s.heap.objs.size
 funs:s.heap.FunFrames base outer
 frf:∀b∈frs outer,H b=none
 hok:gJ P w H s.heap
 bare:XH s.gens
noncomputable def CE (outer:List Env) (P:Rz) (w:RZ) (H:Hp) (s:Q_) (Q:VK) (u:Q8) (s':Q_):Prop:=
 ∃v H',s'.os=s.os/\XH s'.gens/\Un (frs outer) [] H H' s.heap s'.heap/\gJ P w H' s'.heap/\RelV v u/\Q v H'
noncomputable def CR (CX:qP) (outer:List Env) (P:Rz) (w:RZ) (H:Hp) (s:Q_) (Q:VK) (E:XK) (r:ZI) (s':Q_):Prop:=
 match r with
 | .ok (.ret u)=>CE outer P w H s Q u s'
 | .ok _=>False
 | .error e=>CX outer H s E e s'
structure jB (P:Rz) (w:RZ) (K:Q7) (mg:Str->Option Q8) (base:SM) (CX:qP) (k:Nat) (f:Rq) (fd:RO) (ps:List Str) (sp:Sp):Prop where
 len:∀vs H Q E,sp vs H Q E->vs.length=ps.length
 run:∀(A:R4) (outer:List Env) (s:Q_) (H:Hp) (args:Args) (us:List Q8) (vs:List V) (Q:VK) (E:XK),fk k A->BE P w K mg base A outer s H->ZJ s fd args (ps.zip us)->Vals vs us->sp vs H Q E->
  T8 (RG P w) A (.call (.ref f) args) (CR CX outer P w H s Q E) s
section
variable {X:Cx}{QV:List (Rq×Obj)}{σ:St}{H:Hp}{s s':Q_}
theorem Inv.env0 (I:Inv X QV σ H s):BE X.prog X.w X.K X.mg X.base X.A X.stack s H:=
 ⟨I.ok.frames,I.ok.mod,I.bs,RS I.ok.bsz I.sz,I.stack,I.stkFree,I.hok,I.bare⟩
theorem Inv.after {Q:VK}{u:Q8}(I:Inv X QV σ H s) (h:CE X.stack X.prog X.w H s Q u s'):EP X QV σ Q u s':=by
 obtain ⟨v,H',os,bare,un,hok,r,q⟩:=h
 obtain ⟨hh,g,d,t,os'⟩:=s'
 obtain rfl:os'=s.os:=os
 exact ⟨v,H',I.call (h':=hh) (g':=g) (d':=d) (t':=t) (ch:=[]) un hok bare (λb z=>absurd z (by simp)),r,q⟩
end
def Il (sp:Sp) (dvs:List V) (E:XK) (t:TA):TE:=λσ H Q=>t σ H λvs H1=>sp (vs++dvs) H1 Q E
noncomputable def Binds (K:Q7) (fd:RO) (ps:List Str) (ds:List Q8):Prop:=
 ∀(s:Q_) (us:List Q8),K.In s.heap->(us++ds).length=ps.length->ZJ s fd ⟨us,[]⟩ (ps.zip (us++ds))
theorem Binds.all {K:Q7}{fd:RO}{ps:List Str}(h:∀us:List Q8,us.length=ps.length->ZE fd ⟨us,[]⟩=pure (ps.zip us)):Binds K fd ps []:=λs us _ hl=>by
 rw [Ur] at hl ⊢
 exact .of_eq (h us hl)
def Passes (CX:qP) (X:Cx) (E:XK):Prop:=∀(QV:List (Rq×Obj)) (σ:St) (H:Hp) (s:Q_) (e:Q8) (s':Q_),Inv X QV σ H s->CX X.stack H s E e s'->X.xe e s'
section
variable {X:Cx}{CX:qP}{k:Nat}{f C:Rq}{fd:RO}{ps:List Str}{sp:Sp}{dvs:List V}{ds:List Q8}{E:XK}{x m:Str}{p pos apos:Pos}{e o:RX}{es:List RX}{ta:TE}{t:TA}
theorem EX {QV:List (Rq×Obj)}{σ:St}{H:Hp}{s:Q_}{Q:VK}{us:List Q8}{vs:List V}(F:jB X.prog X.w X.K X.mg X.base CX k f fd ps sp) (hr:fk k X.A) (hb:Binds X.K fd ps ds) (hd:Vals dvs ds) (hx:Passes CX X E)
  (I:Inv X QV σ H s) (r:Vals vs us) (h:sp (vs++dvs) H Q E):RA (RG X.prog X.w) X.A (call (.ref f) us) (EP X QV σ Q) X.xe s:=by
 have r2:Vals (vs++dvs) (us++ds):=r.append hd
 have hl:(us++ds).length=ps.length:=by rw [<-r2.length];exact F.len _ _ _ _ h
 refine WV (Tw (F.run X.A X.stack s H ⟨us,[]⟩ (us++ds) (vs++dvs) Q E hr I.env0 (hb s us I.kIn hl) r2 h) λr s' hq=>?_)
 cases r with
 | error e=>exact hx QV σ H s e s' I hq
 | ok fl=>
  cases fl with
  | ret u=>exact I.after hq
  | next=>exact UU hq
  | brk=>exact UU hq
  | cont=>exact UU hq
theorem Bj (F:jB X.prog X.w X.K X.mg X.base CX k f fd ps sp) (hr:fk k X.A) (hg:Gl X x) (hm:X.mg x=some (.ref f)) (hk:UK X.K (.ref f)=true) (hb:Binds X.K fd ps ds) (hd:Vals dvs ds) (hx:Passes CX X E)
  (ha:PA X (e::es) t) (hdb:(x == ("__debug__":Str))=false:=by decide) (he:Rr (e::es) X.env=(false,eval e X.env)::Rr es X.env:=by rfl) (hpl:(TU pos (Rr es X.env)).any (·.1)=false:=by rfl):
  PE X (.Call (.Name x p) (e::es) [] pos) (Il sp dvs E t):=by
 intro QV s σ H Q I h
 refine Vs (Bb I hg hm ?_ hdb)
 refine YD (h₀:=X.base) I.ok.mod.kin hk (b9 (ha pos QV s σ H _ I h) λus s1 ⟨vs,H1,I1,r,q⟩=>⟨I1.kIn,?_⟩) he hpl
 exact EX F hr hb hd hx I1 r q
end
structure br (N P:List Str) (sc:T7):Prop where
 kind:sc.kind=.function
 co:sc.isCoroutine=false
 gen:sc.isGenerator=false
 nd:N.Nodup
 pre:N.take P.length=P
 par:∀x∈P,sc.names.lookup x=some .local\/sc.names.lookup x=some .cell
 nofree:∀y∈sc.names,y.2≠.free
theorem vF {kindOf:Str->Option Tt}{x:Str}:∀{binds:List (Str×Q8)}{m:Str->Option Q8},(∀v,(x,v)∉binds)->abq kindOf binds m x=m x
 | [],_,_=>rfl
 | (n,v)::r,m,h=>by
  unfold abq
  rw [vF λw hw=>h w (Rb _ hw)]
  split
  ·have:x≠n:=by rintro rfl;exact h v Rf
   simp [this]
  ·rfl
theorem vD {kindOf:Str->Option Tt}{x:Str}:∀{binds:List (Str×Q8)}{m:Str->Option Q8},(∀v,(x,v)∉binds)->abr kindOf binds m x=m x
 | [],_,_=>rfl
 | (n,v)::r,m,h=>by
  unfold abr
  rw [vD λw hw=>h w (Rb _ hw)]
  split
  ·rfl
  ·have:x≠n:=by rintro rfl;exact h v Rf
   simp [this]
theorem vE {kindOf:Str->Option Tt}{x:Str}{v:Q8}:∀{P:List Str}{vs:List Q8}{i:Nat}{m:Str->Option Q8},P.Nodup->P[i]?=some x->vs[i]?=some v->kindOf x=some .local->
  abq kindOf (P.zip vs) m x=some v
 | [],_,_,_,_,h,_,_=>by simp at h
 | _::_,[],_,_,_,_,h,_=>by simp at h
 | p::P,w::vs,0,m,nd,h1,h2,hk=>by
  simp at h1 h2;subst h1;subst h2
  show abq kindOf ((p,w)::P.zip vs) m p=_
  unfold abq
  rw [vF λv hv=>(S9.mp nd).1 (XQ hv).1,if_pos hk]
  simp
 | p::P,w::vs,i + 1,m,nd,h1,h2,hk=>by
  show abq kindOf ((p,w)::P.zip vs) m x=_
  unfold abq
  exact vE (i:=i) (S9.mp nd).2 (by simpa using h1) (by simpa using h2) hk
theorem vC {kindOf:Str->Option Tt}{x:Str}{v:Q8}:∀{P:List Str}{vs:List Q8}{i:Nat}{m:Str->Option Q8},P.Nodup->P[i]?=some x->vs[i]?=some v->kindOf x≠some .local->
  abr kindOf (P.zip vs) m x=some v
 | [],_,_,_,_,h,_,_=>by simp at h
 | _::_,[],_,_,_,_,h,_=>by simp at h
 | p::P,w::vs,0,m,nd,h1,h2,hk=>by
  simp at h1 h2;subst h1;subst h2
  show abr kindOf ((p,w)::P.zip vs) m p=_
  unfold abr
  rw [vD λv hv=>(S9.mp nd).1 (XQ hv).1,if_neg hk]
  simp
 | p::P,w::vs,i + 1,m,nd,h1,h2,hk=>by
  show abr kindOf ((p,w)::P.zip vs) m x=_
  unfold abr
  exact vC (i:=i) (S9.mp nd).2 (by simpa using h1) (by simpa using h2) hk
def start (N:List Str) (vs:List V):St:=vs.map some++R5 (N.length - vs.length) none
noncomputable def rK (CX:qP) (P:Rz) (w:RZ) (K:Q7) (mg:Str->Option Q8) (base:SM) (N:List Str) (Q2:Str) (QU:T7) (f:Rq) (cd:Q8) (A:R4) (outer:List Env) (s:Q_) (H:Hp) (E:XK):Cx where
 prog:=P
 w:=w
 K:=K
 mg:=mg
 base:=base
 A:=A.deeper (Xo Q2 QU s.heap.objs.size f cd)
 N:=N
 s₀:=s
 H₀:=H
 env:=Xo Q2 QU s.heap.objs.size f cd
 outer:=outer
 stack:=Xo Q2 QU s.heap.objs.size f cd::outer
 ex:=[]
 calm:=true
 fn:=λ_=>true
 pn:=[]
 xe:=λe s'=>RA (RG P w) (A.deeper (Xo Q2 QU s.heap.objs.size f cd)) (leaving (Xo Q2 QU s.heap.objs.size f cd) e) (λ_ s''=>CX outer H s E e s'') (λe' s''=>CX outer H s E e' s'') s'
theorem yG {sc:T7}{n:Nat}{x:Str}(h:sc.names.lookup x=some .cell):∃c,(Sj n sc.names []).lookup x=some c:=by
 have q:=Xx sc.names n [] (.inl h)
 exact SE.mp q
theorem D_ {CX:qP}{P:Rz}{w:RZ}{K:Q7}{mg:Str->Option Q8}{base:SM}{N ps:List Str}{Q2:Str}{QU:T7}{f:Rq}{cd:Q8}{A:R4}{outer:List Env}{s s1:Q_}{H:Hp}{E:XK}{us:List Q8}{vs:List V}
  (S:br N ps QU) (hd:A.handled=none) (e0:BE P w K mg base A outer s H) (hl:vs.length=ps.length) (r:Vals vs us)
  (x:InCallC s s.heap.objs.size (abq (Xo Q2 QU s.heap.objs.size f cd).kindOf (ps.zip us) λ_=>none) (Sj (s.heap.objs.size + 1) QU.names []) (abr (Xo Q2 QU s.heap.objs.size f cd).kindOf (ps.zip us) λ_=>none) s1):
  Inv (rK CX P w K mg base N Q2 QU f cd A outer s H E) [] (start N vs) H s1:=by
 have hpl:ps.length<=N.length:=by have:=congrArg Xd S.pre;rw [Th] at this;omega
 obtain ⟨h1,tk,rfl,hk⟩:=x.done
 have noA:∀b:Rq,b∉(rK CX P w K mg base N Q2 QU f cd A outer s H E).ex:=λb z=>absurd (show b∈([]:List Rq) from z) (by simp)
 refine ⟨⟨e0.mod,S.kind,rfl,rfl,Rj _,λy z c h1 h2=>?_,λy hy=>?_,λy c _ h=>?_,λ_=>hd,Around.frames_deeper e0.frames,.inr ⟨rfl,rfl⟩,λb z=>absurd z (noA b),e0.bs,e0.bsz,λb _ _=>noA b,λb z=>absurd z (noA b),e0.funs,e0.frf⟩,
  rfl,e0.bare,Un.kept hk,⟨_,x.toInCall.ns,λi y v h1 h2 h3=>?_⟩,λy c h=>⟨_,x.cell y c h⟩,e0.hok.fresh (Rj _),λy c h=>?_,λp hp=>absurd (show p∈([]:List (Rq×Obj)) from hp) (by simp),e0.hok.kept hk,?_⟩
 ·exact name_of_addr x.apart (UB h1) (UB h2)
 ·have hy:QU.names.lookup y=some .cell\/QU.names.lookup y=some .free:=hy
  rcases hy with hy | hy
  ·exact yG hy
  ·exact absurd rfl (S.nofree _ (UB hy))
 ·exact XI (x.above y c (UB h))
 ·have hi:i < vs.length:=by
   unfold start at h2
   by_cases hi:i < vs.length
   ·exact hi
   ·rw [SI (by simpa using hi)] at h2
    rw [Vt] at h2
    split at h2 <;> cases h2
  have ha:vs[i]?=some v:=by
   unfold start at h2
   rw [Tu (by simpa using hi),RD] at h2
   cases e:vs[i]? with
   | none=>rw [e] at h2;cases h2
   | some a=>rw [e] at h2;cases h2;rfl
  obtain ⟨u,hu,rv⟩:=r.get ha
  have hp:ps[i]?=some y:=by
   rw [<-S.pre,List.getElem?_take_of_lt (by omega)];exact h1
  have ndP:ps.Nodup:=by rw [<-S.pre];exact S.nd.sublist (WW _ _)
  refine ⟨u,rv,?_⟩
  rcases S.par y (SJ hp) with k | k
  ·exact .inl ⟨k,vE ndP hp hu k⟩
  ·obtain ⟨c,e⟩:=yG (n:=s.heap.objs.size + 1) k
   refine .inr ⟨.inl k,c,e,?_⟩
   have q:=x.cell y c e
   rw [vC ndP hp hu (by show QU.names.lookup y≠_;rw [k];decide)] at q
   exact q
 ·exact e0.hok.fresh (XI (x.above y c (UB h)))
 ·unfold start
  show _=N.length
  rw [RI,Rh,Ss]
  omega
theorem Nh {CX:qP}{P:Rz}{w:RZ}{K:Q7}{mg:Str->Option Q8}{base:SM}{k:Nat}{f:Rq}{name Q2:Str}{params:Arguments}{body:List Uy}{QU:T7}{dV kV doc pm cdv ct oc:Q8}{an od:Option Rq}
  {osl:Array (Option Q8)}{N ps:List Str}{sp:Sp}(lk:K.lookup f=some ⟨oc,od,.func (Rw name Q2 params body QU dV kV doc pm an cdv ct),osl⟩) (hcd:VR K cdv Q2=true) (S:br N ps QU)
  (len:∀vs H Q E,sp vs H Q E->vs.length=ps.length)
  (hbody:∀(A:R4) (outer:List Env) (s:Q_) (H:Hp) (vs:List V) (Q:VK) (E:XK),fk k (A.deeper (Xo Q2 QU s.heap.objs.size f cdv))->sp vs H Q E->
   ∃t,j_ (rK CX P w K mg base N Q2 QU f cdv A outer s H E) body t/\t {nx:=λ_ H'=>Q .non H',rt:=Q} (start N vs) H):
  jB P w K mg base CX (k + 1) f (Rw name Q2 params body QU dV kV doc pm an cdv ct) ps sp:=by
 refine ⟨len,λA outer s H args us vs Q E hr e0 hb r PJ=>?_⟩
 have hl:=len _ _ _ _ PJ
 have KX:K.In s.heap:=e0.mod.kin.keeps λb o e=>(e0.bs b o e).1
 have lim:s.heap.NoLimit:=e0.mod.nolimit.keeps λb o e=>(e0.bs b o e).1
 have hkind:∀y∈ps.zip us,QU.names.lookup y.1=some .local\/(QU.names.lookup y.1=some .cell/\((Sj (s.heap.objs.size + 1) QU.names []).lookup y.1).isSome=true):=λ⟨n,v⟩ hy=>by
  rcases S.par n (XQ hy).1 with q | q
  ·exact .inl q
  ·exact .inr ⟨q,Xx _ _ _ (.inl q)⟩
 refine codeAny_call_function hr.depth (KX _ _ lk) rfl S.co S.gen rfl (W.codeRec_of KX hcd) (hb _ _ _ _ ?_)
 refine wpAny_newFunctionEnv_cells S.kind hkind λenv he s1 x=>?_
 subst he
 refine ⟨lim.keeps x.toInCall.keep,codeAny_func ?_⟩
 obtain ⟨t,ht,hq⟩:=hbody A outer s H vs Q E (hr.deeper _) PJ
 have I:Inv (rK CX P w K mg base N Q2 QU f cdv A outer s H E) [] (start N vs) H s1:=D_ S hr.hd e0 hl r x
 refine Si (ht [] s1 (start N vs) H _ I hq) (λfl s' hs=>?_) λe s' hs=>hs
 have fin:∀{σ':St}{H':Hp}{v:V}{u:Q8},Inv (rK CX P w K mg base N Q2 QU f cdv A outer s H E) [] σ' H' s'->RelV v u->Q v H'->CE outer P w H s Q u s':=
  fun {σ' H' v u} J rv q=>⟨v,H',J.os,J.bare,J.base,J.hok,rv,q⟩
 cases fl with
 | ret u=>
  obtain ⟨v,σ',H',J,rv,q⟩:=hs
  exact fin J rv q
 | next=>
  obtain ⟨σ',H',J,q⟩:=hs
  exact fin (v:=V.non) (u:=R7) J rfl q
 | brk=>
  obtain ⟨_,_,_,q⟩:=hs
  exact UU q
 | cont=>
  obtain ⟨_,_,_,q⟩:=hs
  exact UU q
section
variable {X:Cx}{x:Str}{p pos:Pos}{e:RX}{es:List RX}{t:TA}{id T:String}{r:List V->Hp->VK->Prop}
def N8 (r:List V->Hp->VK->Prop) (t:TA):TE:=λσ H Q=>t σ H λvs H1=>r vs H1 Q
theorem oA (hc:b8 X (.builtin id) r) (hg:Gl X x) (hm:X.mg x=none) (hv:Sd x=some (.builtin id)) (ha:PA X (e::es) t) (hn:x≠"__name__":=by decide) (hdb:(x == ("__debug__":Str))=false:=by decide)
  (he:Rr (e::es) X.env=(false,eval e X.env)::Rr es X.env:=by rfl) (hpl:(TU pos (Rr es X.env)).any (·.1)=false:=by rfl):PE X (.Call (.Name x p) (e::es) [] pos) (N8 r t):=by
 intro QV s σ H Q I h
 refine Vs (tL I hg hm hv ?_ hn hdb)
 exact Zk (b9 (ha pos QV s σ H _ I h) λus s1 ⟨vs,H1,I1,r1,q1⟩=>hc QV s1 σ H1 vs us Q I1 r1 q1) he hpl
theorem jU (hc:b8 X (.type T) r) (hg:Gl X x) (hm:X.mg x=none) (hv:Sd x=some (.type T)) (ha:PA X (e::es) t) (hn:x≠"__name__":=by decide) (hdb:(x == ("__debug__":Str))=false:=by decide)
  (he:Rr (e::es) X.env=(false,eval e X.env)::Rr es X.env:=by rfl) (hpl:(TU pos (Rr es X.env)).any (·.1)=false:=by rfl):PE X (.Call (.Name x p) (e::es) [] pos) (N8 r t):=by
 intro QV s σ H Q I h
 refine Vs (tL I hg hm hv ?_ hn hdb)
 exact Wj (b9 (ha pos QV s σ H _ I h) λus s1 ⟨vs,H1,I1,r1,q1⟩=>hc QV s1 σ H1 vs us Q I1 r1 q1) he hpl
end
end L2
namespace HT
open PySem PyProof.Rows
theorem FP (A:R4) (s:Q_) (a:Int) (t:Tok) (c:Int) (u:Tok):∃e,TF A s (.int a t) (.int c u) e/\(e=true↔a=c):=
 ⟨(a == c),YE a t c u,by simp⟩
section
open PySem.SeqAt
open PySem.AutoSeq1 (wpAny_loadPart')
open PySem.MeetsSeq PySem.MeetsSeq2 PySem.MeetsSeq3
end
section
variable {prog:Rz}{w:RZ}{A:R4}{E:Q8->Q_->Prop}{s:Q_}
theorem IQ {t b:Rq}{vs ws:List Q8}{Q:Q8->Q_->Prop}(ht:abo s.heap t vs.toArray) (hb:abo s.heap b ws.toArray) (hv:vs≠[])
  (h1:ws=[]->Q (.ref t) s) (h2:ws≠[]->Q (.ref s.heap.objs.size) {s with heap:=s.heap.push {cls:=.type "tuple",data:=.seq (vs++ws).toArray}})
  (hsz:vs.length + ws.length<=sizeLine):RA (RG prog w) A (UA .Add (.ref t) (.ref b)) Q E s:=by
 obtain ⟨⟨cls,dd,data,sl⟩,ho,hc,n,hd⟩:=id ht
 obtain ⟨⟨cls2,dd2,data2,sl2⟩,ho2,hc2,n2,hd2⟩:=id hb
 simp only at hc hd hc2 hd2
 subst hc hd hc2 hd2
 have e:vs.toArray++ws.toArray=(vs++ws).toArray:=by simp
 by_cases hw:ws=[]
 ·exact Zl ⟨_,ho,rfl⟩ ⟨_,ho2,rfl⟩ Xp YF VE Vu (Vk _ _)
   (tuple_addW1 t b vs.toArray ws.toArray n n2 dd dd2 sl sl2 (by simpa using hv) (by simp [hw])) ⟨ho,ho2,h1 hw⟩
 ·refine Zl ⟨_,ho,rfl⟩ ⟨_,ho2,rfl⟩ Xp YF VE Vu (Vk _ _)
   (tuple_addW2 t b vs.toArray ws.toArray n n2 dd dd2 sl sl2 (by simpa using hv) (by simpa using hw) (by rw [Ro,Ro];exact hsz)) ⟨ho,ho2,?_⟩
  rw [e]
  exact h2 hw
noncomputable def bO (n d:Nat):Option Int->Nat
 | none=>d
 | some v=>if v < 0 then (v + (n:Int)).toNat else min v.toNat n
theorem G5 (n d:Nat):bO n d none=d:=rfl
theorem vh (n d k:Nat):bO n d (some (k:Int))=min k n:=by
 show (if (k:Int) < 0 then ((k:Int) + (n:Int)).toNat else min (k:Int).toNat n)=min k n
 rw [if_neg (by omega),Tn]
theorem MI (n d:Nat) (hd:d<=n) (o:Option Int):bO n d o<=n:=by
 cases o with
 | none=>exact hd
 | some v=>
  show (if v < 0 then (v + (n:Int)).toNat else min v.toNat n)<=n
  by_cases hv:v < 0
  ·rw [if_pos hv];omega
  ·rw [if_neg hv];exact Nat.min_le_right _ _
theorem AZ (v:Int) (n d:Nat):(if v < 0 then max (v + (n:Int)) 0 else min v (n:Int))=((bO n d (some v):Nat):Int):=by
 show (if v < 0 then max (v + (n:Int)) 0 else min v (n:Int))=(((if v < 0 then (v + (n:Int)).toNat else min v.toNat n):Nat):Int)
 by_cases hv:v < 0
 ·simp only [if_pos hv];omega
 ·simp only [if_neg hv];omega
theorem BY (lo hi:Option Int) (n:Nat):U8 lo hi 1 (n:Int)=(((bO n 0 lo:Nat):Int),((bO n n hi:Nat):Int)):=by
 have h1:¬((1:Int) < 0):=by omega
 unfold U8
 simp only [h1,if_false]
 refine Prod.ext ?_ ?_
 ·cases lo with
  | none=>rfl
  | some v=>exact AZ v n 0
 ·cases hi with
  | none=>rfl
  | some v=>exact AZ v n n
theorem CA (i j:Nat):Ue (i:Int) (j:Int) 1=j - i:=by
 unfold Ue
 have h1:(1:Int) > 0:=by omega
 simp only [h1,if_true,Int.ediv_one]
 split <;> omega
theorem uf {v:Q8}{o:Option Int}{Q:Option Int->Q_->Prop}(p:YG v o) (h:Q o s):RA (RG prog w) A (ZF v) Q E s:=by
 cases p with
 | none=>exact aab h
 | int i t=>exact slicePart_int h
theorem lG {sl:Rq}{vl vu:Q8}{lo hi:Option Int}{n:Nat}{Q:Int×Int×Nat->Q_->Prop}(hs:s.heap.IsSliceOf sl vl vu .none) (pl:YG vl lo) (pu:YG vu hi)
  (h:Q (((bO n 0 lo:Nat):Int),1,bO n n hi - bO n 0 lo) s):RA (RG prog w) A (Wy (.ref sl) (pure (n:Int))) Q E s:=by
 obtain ⟨os,hos,hcs,hds⟩:=id hs
 unfold Wy aac
 refine Q6 (Q6 (ZK hos hds (x:=vl) rfl (Q6 (ZK hos hds (x:=vu) rfl (Q6 (ZK hos hds (x:=.none) rfl (Q9 ?_)))))))
 refine Q6 (aab ?_)
 show RA _ _ (if ((1:Int) == 0)=true then _ else _) _ _ s
 rw [if_neg (by decide)]
 refine Q6 (uf pl (Q6 (uf pu (Q6 (Q9 ?_)))))
 show RA _ _ (match U8 lo hi 1 (n:Int) with | (lo,hi)=>pure (lo,(1:Int),Ue lo hi 1)) _ _ s
 rw [BY lo hi n]
 show RA _ _ (pure (((bO n 0 lo:Nat):Int),(1:Int),Ue ((bO n 0 lo:Nat):Int) ((bO n n hi:Nat):Int) 1)) _ _ s
 rw [CA]
 exact Q9 h
theorem GJ (xs:Array Q8) (i k:Nat):((Ra k).filterMap λ(m:Nat)=>xs[((i:Int) + (m:Int) * 1).toNat]?).toArray=((xs.toList.drop i).take k).toArray:=by
 have e:(λ(m:Nat)=>xs[((i:Int) + (m:Int) * 1).toNat]?)=λm=>xs[i + m]?:=by
  funext m
  have:((i:Int) + (m:Int) * 1).toNat=i + m:=by omega
  rw [this]
 rw [e]
 have:=pick_run xs i k
 rw [YH] at this
 have e2:((λx=>xs[x]?) ∘ λx=>i + x)=λm=>xs[i + m]?:=rfl
 rw [e2] at this
 rw [this]
theorem qN {t sl:Rq}{QW:Array Q8}{vl vu:Q8}{lo hi:Option Int}{Q:Q8->Q_->Prop}(ht:abo s.heap t QW) (hs:s.heap.IsSliceOf sl vl vu .none) (pl:YG vl lo) (pu:YG vu hi)
  (hw:¬(bO QW.size 0 lo=0/\bO QW.size QW.size hi=QW.size))
  (h:Q (.ref s.heap.objs.size) {s with heap:=s.heap.push {cls:=.type "tuple",data:=.seq ((QW.toList.drop (bO QW.size 0 lo)).take (bO QW.size QW.size hi - bO QW.size 0 lo)).toArray}})
  (hsz:QW.size<=sizeLine):RA (RG prog w) A (Y0 (.ref t) (.ref sl)) Q E s:=by
 have Pn:sizeOk (.seq ((QW.toList.drop (bO QW.size 0 lo)).take (bO QW.size QW.size hi - bO QW.size 0 lo)).toArray):=by
  show ((QW.toList.drop (bO QW.size 0 lo)).take (bO QW.size QW.size hi - bO QW.size 0 lo)).toArray.size<=sizeLine
  rw [Ro,Th,UH,Rm]
  omega
 have hj:bO QW.size QW.size hi<=QW.size:=MI _ _ (Rj _) hi
 obtain ⟨os,hos,hcs,hds⟩:=id hs
 have Qi:s.TypeIs (.ref sl) "slice":=⟨os,hos,hcs⟩
 unfold Y0
 try with_reducible refine RU ?_
 first | refine Q6 (Q9 ?_) | skip
 refine Q6 (Y3 ht.typeIs (by decide) ?_)
 refine Q6 (S_ (name:=VX "__getitem__") ht.typeIs Sm
  (Sb Sm ht.typeIs Yq ?_ (YI _ _)))
 show RA _ _ (U0 (.ref t) >>= _) _ _ s
 refine Q6 (aaL ht ?_)
 refine Q6 (VY Qi ?_)
 rw [if_pos (by decide)]
 refine Q6 (lG hs pl pu ?_)
 have hno:¬((((bO QW.size 0 lo:Nat):Int) == 0 && (1:Int) == 1 && (bO QW.size QW.size hi - bO QW.size 0 lo) == QW.size)=true):=by
  intro q
  rw [Ri,Ri] at q
  have q1:((bO QW.size 0 lo:Nat):Int)=0:=eq_of_beq q.1.1
  have q2:bO QW.size QW.size hi - bO QW.size 0 lo=QW.size:=eq_of_beq q.2
  exact hw ⟨by omega,by omega⟩
 show RA _ _ (if (((bO QW.size 0 lo:Nat):Int) == 0 && (1:Int) == 1 && (bO QW.size QW.size hi - bO QW.size 0 lo) == QW.size)=true then _ else _) _ _ s
 rw [if_neg hno,GJ]
 first
  | exact Q6 (m:=Us _) (R8 (Q9 ⟨_,rfl,Q9 h⟩) Pn)
  | exact Q6 (m:=Us _) (R8 (Q6 (Q9 (Q9 ⟨_,rfl,Q9 h⟩))) Pn)
  | exact Q6 (Q6 (m:=Us _) (R8 (Q9 (Q9 ⟨_,rfl,Q9 h⟩)) Pn))
  | exact Q6 (Q6 (m:=Us _) (R8 (Q9 ⟨_,rfl,Q9 h⟩) Pn))
end
end HT
namespace L2
open PySem PySem.Spec PyProof.Rows
abbrev TO:=St->Hp->(Option Int->Hp->Prop)->Prop
noncomputable def PO (X:Cx) (e:Option RX) (t:TO):Prop:=
 ∀(QV:List (Rq×Obj)) (s:Q_) (σ:St) (H:Hp) (Q:Option Int->Hp->Prop),Inv X QV σ H s->t σ H Q->
  RA (RG X.prog X.w) X.A (evalPart e X.env) (λu s'=>∃o H',Inv X QV σ H' s'/\YG u o/\Q o H') X.xe s
def Ko:TO:=λ_ H Q=>Q none H
def NT (t:TE):TO:=λσ H Q=>t σ H λx H1=>∃i,x=.int i/\Q (some i) H1
theorem intsAre_of {ns:List Int}:∀{us:List Q8},Vals (ns.map V.int) us->Vh us ns:=by
 induction ns with
 | nil=>intro us r;rw [WC] at r;cases r;exact .nil
 | cons n ns ih=>
  intro us r
  rw [Rv] at r
  cases r with
  | cons r1 r2=>
   obtain ⟨t,e⟩:=r1
   subst e
   exact .cons n t (ih r2)
section
variable {X:Cx}{e:RX}{te:TE}{lo hi:Option RX}{tl th:TO}{pos p2:Pos}
theorem JL:PO X none Ko:=by
 intro QV s σ H Q I h
 rw [aaM]
 exact Q9 ⟨none,H,I,.none,h⟩
theorem JM (h:PE X e te):PO X (some e) (NT te):=by
 intro QV s σ H Q I hw
 rw [evalPart_some]
 refine b9 (h QV s σ H _ I hw) λu s1 ⟨x,H1,I1,r1,q1⟩=>?_
 obtain ⟨i,rfl,q⟩:=q1
 obtain ⟨t,rfl⟩:=r1
 exact ⟨some i,H1,I1,.int i t,q⟩
noncomputable def sE (X:Cx) (r:V->Option Int->Option Int->Hp->VK->Prop):Prop:=
 ∀(QV:List (Rq×Obj)) (s:Q_) (σ:St) (H:Hp) (x:V) (v vl vu:Q8) (lo hi:Option Int) (sl:Rq) (Q:VK),Inv X QV σ H s->RelV x v->s.heap.IsSliceOf sl vl vu .none->YG vl lo->YG vu hi->r x lo hi H Q->
  ∃T id,typeLookup (.type T) "__getitem__"=pure (some (.builtin id))/\s.TypeIs v T/\RA (RG X.prog X.w) X.A (Y0 v (.ref sl)) (EP X QV σ Q) X.xe s
theorem sE.or {r r':V->Option Int->Option Int->Hp->VK->Prop}(h:sE X r) (h':sE X r'):sE X (λx lo hi H Q=>r x lo hi H Q\/r' x lo hi H Q):=by
 intro QV s σ H x v vl vu lo hi sl Q I rx hs pl pu q
 rcases q with q | q
 ·exact h QV s σ H x v vl vu lo hi sl Q I rx hs pl pu q
 ·exact h' QV s σ H x v vl vu lo hi sl Q I rx hs pl pu q
def O5 (r:V->Option Int->Option Int->Hp->VK->Prop) (te:TE) (tl th:TO):TE:=λσ H Q=>te σ H λx H1=>tl σ H1 λl H2=>th σ H2 λu H3=>r x l u H3 Q
theorem GH {r:V->Option Int->Option Int->Hp->VK->Prop}(hr:sE X r) (he:PE X e te) (hl:PO X lo tl) (hu:PO X hi th):PE X (.Subscript e (.Slice lo hi none p2) pos) (O5 r te tl th):=by
 intro QV s σ H Q I h
 refine Subscript_ (b9 (he QV s σ H _ I h) λv s1 ⟨x,H1,I1,r1,q1⟩=>?_)
 refine wpAny_Slice (b9 (hl QV s1 σ H1 _ I1 q1) λvl s2 ⟨l,H2,I2,pl,q2⟩=>b9 (hu QV s2 σ H2 _ I2 q2) λvu s3 ⟨u,H3,I3,pu,q3⟩=>?_)
 rw [aaM]
 refine Q9 ?_
 have I4:Inv X QV σ H3 {s3 with heap:=s3.heap.push {cls:=.type "slice",data:=.fields #[vl,vu,.none]}}:=I3.kept (t':=s3.toks) λb ob q=>Rc _ q
 obtain ⟨T,id,hT,ht,hg⟩:=hr QV {s3 with heap:=s3.heap.push {cls:=.type "slice",data:=.fields #[vl,vu,.none]}} σ H3 x v vl vu l u s3.heap.objs.size Q I4 r1 (abM ..) pl pu q3
 show RA (RG X.prog X.w) X.A (aaN e (.Slice lo hi none p2) v (.ref s3.heap.objs.size)) (EP X QV σ Q) X.xe {s3 with heap:=s3.heap.push {cls:=.type "slice",data:=.fields #[vl,vu,.none]}}
 exact tail_any (ops:=[.ref s3.heap.objs.size,v]) ht hT hg (by with_unfolding_all rfl)
def mz (xs:List V) (lo hi:Option Int):List V:=(xs.drop (HT.bO xs.length 0 lo)).take (HT.bO xs.length xs.length hi - HT.bO xs.length 0 lo)
theorem qV (xs:List V) (lo hi:Option Int):(mz xs lo hi).length<=xs.length:=by
 unfold mz
 rw [Th,UH]
 omega
noncomputable def Oz (K:Q7):V->Option Int->Option Int->Hp->VK->Prop:=λx lo hi H Q=>∃a xs,x=.ref a/\dY K H a xs/\
 ¬(HT.bO xs.length 0 lo=0/\HT.bO xs.length xs.length hi=xs.length)/\∀p,H p=none->Q (.ref p) (upd H p (.tup (mz xs lo hi)))
theorem ML:sE X (Oz X.K):=by
 intro QV s σ H x v vl vu lo hi sl Q I rx hs pl pu h
 obtain ⟨a,xs,rfl,hx,hw,q⟩:=h
 cases rx
 obtain ⟨QX,r,ht,hz⟩:=I.tuple hx
 have hlen:QX.toArray.size=xs.length:=by rw [Ro];exact r.length.symm
 refine ⟨"tuple",_,Sm.lookup,ht.typeIs,?_⟩
 refine HT.qN ht hs pl pu (by rw [hlen];exact hw) ?_ (by rw [hlen];exact hz)
 rw [hlen]
 refine ⟨.ref s.heap.objs.size,_,I.laid (t':=s.toks) (o:=.tup (mz xs lo hi)) (λb ob q=>Rc _ q) (Rj _) ?_,rfl,q _ (I.hok.fresh (Rj _))⟩
 exact ⟨RS (qV xs lo hi) hz,_,(r.drop (HT.bO xs.length 0 lo)).take (HT.bO xs.length xs.length hi - HT.bO xs.length 0 lo),aa_ _ _⟩
noncomputable def NF (K:Q7):R2:=λx y H Q=>∃a b xs ys,x=.ref a/\y=.ref b/\dY K H a xs/\dY K H b ys/\xs≠[]/\xs.length + ys.length<=sizeLine/\
 (ys=[]->Q (.ref a) H)/\(ys≠[]->∀p,H p=none->Q (.ref p) (upd H p (.tup (xs++ys))))
theorem Vals.nil_iff {xs:List V}{us:List Q8}(r:Vals xs us):us=[]↔xs=[]:=by
 cases r with
 | nil=>simp
 | cons _ _=>simp
theorem Jx:dZ X (UA .Add) (NF X.K):=by
 intro QV s σ H x y v u Q I rx ry h
 obtain ⟨a,b,xs,ys,rfl,rfl,ha,hb,hx,hz,q1,q2⟩:=h
 cases rx
 cases ry
 obtain ⟨QX,r1,p1,_⟩:=I.tuple ha
 obtain ⟨its2,r2,p2,_⟩:=I.tuple hb
 refine HT.IQ p1 p2 (λz=>hx (r1.nil_iff.mp z)) (λz=>⟨.ref a,H,I,rfl,q1 (r2.nil_iff.mp z)⟩) (λz=>?_) (by rw [<-r1.length,<-r2.length];exact hz)
 refine ⟨.ref s.heap.objs.size,_,I.laid (t':=s.toks) (o:=.tup (xs++ys)) (λb ob q=>Rc _ q) (Rj _) ?_,rfl,q2 (λw=>z (r2.nil_iff.mpr w)) _ (I.hok.fresh (Rj _))⟩
 exact ⟨by rw [RI];exact hz,_,r1.append r2,aa_ _ _⟩
end
def yZ (n:Nat) (i:Int):Option Nat:=if 0<=i then (if i < n then some i.toNat else none) else if -(n:Int)<=i then some (i + n).toNat else none
def lP {α:Type}(xs:List α) (i:Int):Option α:=(yZ xs.length i).bind λj=>xs[j]?
theorem Jd {n:Nat}{i:Int}{j:Nat}(h:yZ n i=some j):seqIndex? i n=some j/\j < n/\-(n:Int)<=i/\i < n:=by
 unfold yZ at h
 by_cases h0:0<=i
 ·rw [if_pos h0] at h
  by_cases h1:i < n
  ·rw [if_pos h1] at h
   have e:i.toNat=j:=Sv h
   exact ⟨by rw [seqIndex_of h0 h1,e],by omega,by omega,h1⟩
  ·rw [if_neg h1] at h;cases h
 ·rw [if_neg h0] at h
  by_cases h1:-(n:Int)<=i
  ·rw [if_pos h1] at h
   have e:(i + n).toNat=j:=Sv h
   exact ⟨by rw [seqIndex_neg (by omega) h1,e],by omega,h1,by omega⟩
  ·rw [if_neg h1] at h;cases h
theorem uE {α:Type}{xs:List α}{i:Int}{v:α}(h:lP xs i=some v):∃j,seqIndex? i xs.length=some j/\xs[j]?=some v/\j < xs.length/\-(xs.length:Int)<=i/\i < xs.length:=by
 unfold lP at h
 cases e:yZ xs.length i with
 | none=>rw [e] at h;cases h
 | some j=>
  rw [e] at h
  obtain ⟨h1,h2,h3,h4⟩:=Jd e
  exact ⟨j,h1,h,h2,h3,h4⟩
def qw (b:RX):Prop:=∀o i,subscripted b false o i=operate [o,i] (Y0 o i)
noncomputable def pq (X:Cx) (r:R2):Prop:=
 ∀(value slice:RX) (QV:List (Rq×Obj)) (s:Q_) (σ:St) (H:Hp) (x y:V) (v u:Q8) (Q:VK),Inv X QV σ H s->RelV x v->RelV y u->r x y H Q->
  subscripted slice false v u=operate [v,u] (Y0 v u)->RA (RG X.prog X.w) X.A (aaN value slice v u) (EP X QV σ Q) X.xe s
noncomputable def OS (X:Cx) (id:String) (r:V->List V->Hp->VK->Prop):Prop:=
 ∀(QV:List (Rq×Obj)) (s:Q_) (σ:St) (H:Hp) (x:V) (xs:List V) (v:Q8) (us:List Q8) (Q:VK),Inv X QV σ H s->RelV x v->Vals xs us->r x xs H Q->
  RA (RG X.prog X.w) X.A (call (.builtin id) (v::us)) (EP X QV σ Q) X.xe s
section
variable {X:Cx}{a b:RX}{ta tb:TE}{pos:Pos}
theorem pq.or {r r':R2}(h:pq X r) (h':pq X r'):pq X (λx y H Q=>r x y H Q\/r' x y H Q):=by
 intro value slice QV s σ H x y v u Q I rx ry q hs
 rcases q with q | q
 ·exact h value slice QV s σ H x y v u Q I rx ry q hs
 ·exact h' value slice QV s σ H x y v u Q I rx ry q hs
theorem Nx {r:R2}(hr:pq X r) (ha:PE X a ta) (hb:PE X b tb) (hs:qw b):PE X (.Subscript a b pos) (E7 r ta tb):=by
 intro QV s σ H Q I h
 exact Subscript_ (Fz ha hb I h λv u s2 x y H2 I2 rx ry q=>hr a b QV s2 σ H2 x y v u Q I2 rx ry q (hs _ _))
def Mx (K:Q7):R2:=λx y H Q=>∃p xs i v,x=.ref p/\y=.int i/\dw K H p xs/\lP xs i=some v/\Q v H
def Mz (K:Q7):R2:=λx y H Q=>∃p xs i v,x=.ref p/\y=.int i/\dY K H p xs/\lP xs i=some v/\Q v H
def My:R2:=λx y H Q=>∃z i c,x=.str z/\y=.int i/\z.length<=sizeLine/\lP z.cps.toList i=some c/\Q (.str ⟨#[c]⟩) H
theorem Jg:pq X (Mx X.K):=by
 intro value slice QV s σ H x y v u Q I rx ry h hs
 obtain ⟨p,xs,i,z,rfl,rfl,hq,he,q⟩:=h
 cases rx
 obtain ⟨t,rfl⟩:=ry
 obtain ⟨QX,r,pl,hz⟩:=I.list hq
 obtain ⟨j,h1,h2,h3,h4,h5⟩:=uE he
 obtain ⟨w,ew,rw'⟩:=r.get h2
 have hl:=r.length
 have hn:=nt
 have fin:EP X QV σ Q w s:=⟨z,H,I,rw',q⟩
 by_cases h0:0<=i
 ·have hj:i.toNat=j:=by
   rw [seqIndex_of h0 h5] at h1
   exact Sv h1
  exact item_listR pl.isList h0 (by omega) (by rw [hj];simpa using ew) fin hs
 ·have hj:(i + (QX.toArray.size:Int)).toNat=j:=by
   rw [seqIndex_neg (by omega) h4] at h1
   rw [Ro,<-hl]
   exact Sv h1
  exact VF (x:=w) pl.isList.typeIs Y4.lookup
   (wpAny_getItem_list_neg (Q:=λr s'=>r=w/\EP X QV σ Q r s') pl.isList (by omega) (by rw [Ro] <;> omega) (by omega) (by rw [hj];simpa using ew) ⟨rfl,fin⟩) hs
theorem Ly:pq X (Mz X.K):=by
 intro value slice QV s σ H x y v u Q I rx ry h hs
 obtain ⟨p,xs,i,z,rfl,rfl,hq,he,q⟩:=h
 cases rx
 obtain ⟨t,rfl⟩:=ry
 obtain ⟨QX,r,pl,hz⟩:=I.tuple hq
 obtain ⟨j,h1,h2,h3,h4,h5⟩:=uE he
 obtain ⟨w,ew,rw'⟩:=r.get h2
 have hl:=r.length
 have hn:=nt
 have fin:EP X QV σ Q w s:=⟨z,H,I,rw',q⟩
 exact VF (x:=w) pl.typeIs slot_tuple_getitem.lookup
  (getItem_tuple (j:=j) (Q:=λr s'=>r=w/\EP X QV σ Q r s') pl (by omega) (by omega) (by rw [Ro,<-hl];exact h1) (by simpa using ew) ⟨rfl,fin⟩) hs
theorem Lx:pq X My:=by
 intro value slice QV s σ H x y v u Q I rx ry h hs
 obtain ⟨z,i,c,rfl,rfl,hz,he,q⟩:=h
 obtain ⟨t,rfl⟩:=rx
 obtain ⟨t',rfl⟩:=ry
 obtain ⟨j,h1,h2,h3,h4,h5⟩:=uE he
 have hl:z.cps.toList.length=z.length:=by simp [Y5]
 rw [hl] at h1 h4 h5
 have hn:=nt
 exact tail_any (typeIs_str s z t) slot_str_getitem.lookup (getItem_str (c:=c) (by
  have e1:decide (i < -(2 ^ 63:Int))=false:=decide_eq_false (by omega)
  have e2:decide (i ≥ 2 ^ 63)=false:=decide_eq_false (by omega)
  rw [e1,e2,aaO]) (by rw [h1];simpa using h2) ⟨.str ⟨#[c]⟩,H,I.tok _,⟨_,rfl⟩,q⟩) hs
def OZ (K:Q7):R2:=λx y H Q=>Mx K x y H Q\/Mz K x y H Q\/My x y H Q
theorem Lw:pq X (OZ X.K):=Jg.or (Ly.or Lx)
theorem Inv.lst {QV:List (Rq×Obj)}{σ:St}{H:Hp}{s:Q_}{p:Rq}{xs:List V}(I:Inv X QV σ H s) (h:H p=some (.lst xs)):
  ∃(QX:List Q8) (n:Nat),Vals xs QX/\s.heap.get? p=some {cls:=.type "list",data:=.seq QX.toArray n}/\xs.length<=sizeLine:=by
 obtain ⟨z,QX,n,r,e⟩:=I.hok p _ h
 exact ⟨QX,n,r,e,z⟩
theorem zS (lo hi:Option Int) (n:Nat):(VI lo hi none n).1=((HT.bO n 0 lo:Nat):Int)/\(VI lo hi none n).2.1=((HT.bO n n hi:Nat):Int)/\(VI lo hi none n).2.2=1:=by
 refine ⟨?_,?_,rfl⟩
 ·cases lo with
  | none=>simp [VI,HT.bO]
  | some i=>
   simp only [VI,HT.bO,Zw,show (1:Int) > 0 by decide,if_true]
   by_cases h:i < 0
   ·simp only [h,if_true] <;> omega
   ·simp only [h,if_false] <;> omega
 ·cases hi with
  | none=>simp [VI,HT.bO]
  | some i=>
   simp only [VI,HT.bO,Zw,show (1:Int) > 0 by decide,if_true]
   by_cases h:i < 0
   ·simp only [h,if_true] <;> omega
   ·simp only [h,if_false] <;> omega
theorem xq (QX:List Q8) (lo hi:Option Int):slicePick QX.toArray lo hi none=((QX.drop (HT.bO QX.length 0 lo)).take (HT.bO QX.length QX.length hi - HT.bO QX.length 0 lo)).toArray:=by
 obtain ⟨h1,h2,h3⟩:=zS lo hi QX.toArray.size
 unfold slicePick
 rw [h1,h2,h3]
 simp only [sliceRange_one,pick_run,Ro] <;> rfl
noncomputable def Ox (K:Q7):V->Option Int->Option Int->Hp->VK->Prop:=λx lo hi H Q=>∃a xs,x=.ref a/\dw K H a xs/\∀p,H p=none->Q (.ref p) (upd H p (.lst (mz xs lo hi)))
theorem Kh:sE X (Ox X.K):=by
 intro QV s σ H x v vl vu lo hi sl Q I rx hs pl pu h
 obtain ⟨a,xs,rfl,hx,q⟩:=h
 cases rx
 obtain ⟨QX,r,ht,hz⟩:=I.list hx
 have hlen:=r.length
 refine ⟨"list",_,Y4.lookup,ht.isList.typeIs,?_⟩
 refine wpAny_getItem_list_slice ht.isList hs pl pu .none (by simp) ?_ (by rw [Ro] <;> omega)
 rw [xq,<-hlen]
 refine ⟨.ref s.heap.objs.size,_,I.laid (t':=s.toks) (o:=.lst (mz xs lo hi)) (λb ob q=>Rc _ q) (Rj _) ?_,rfl,q _ (I.hok.fresh (Rj _))⟩
 exact ⟨RS (qV xs lo hi) hz,_,0,(r.drop (HT.bO xs.length 0 lo)).take (HT.bO xs.length xs.length hi - HT.bO xs.length 0 lo),Rn _ rfl⟩
noncomputable def sU:V->Bool
 | .non=>true
 | .bl _=>true
 | .int _=>true
 | .str _=>true
 | _=>false
noncomputable def Lf:V->V->Bool
 | .non,.non=>true
 | .bl a,.bl b=>a == b
 | .bl a,.int b=>(if a then 1 else 0) == b
 | .int a,.bl b=>a == (if b then 1 else 0)
 | .int a,.int b=>a == b
 | .str a,.str b=>a == b
 | _,_=>false
theorem Le {A:R4}{s:Q_}{y x:V}{u v:Q8}(ry:RelV y u) (rx:RelV x v) (fy:sU y=true) (fx:sU x=true):TF A s u v (Lf y x):=by
 cases y with
 | non=>
  cases ry
  cases x with
  | non=>cases rx;exact XR _
  | bl b=>cases rx;exact abj b
  | int b=>obtain ⟨t,rfl⟩:=rx;exact abt b t
  | str b=>obtain ⟨t,rfl⟩:=rx;exact abu b t
  | _=>exact absurd (show false=true from fx) RV
 | bl a=>
  cases ry
  cases x with
  | non=>cases rx;exact abk a
  | bl b=>cases rx;exact abl a b
  | int b=>obtain ⟨t,rfl⟩:=rx;exact abv a b t
  | str b=>obtain ⟨t,rfl⟩:=rx;exact abw a b t
  | _=>exact absurd (show false=true from fx) RV
 | int a=>
  obtain ⟨t',rfl⟩:=ry
  cases x with
  | non=>cases rx;exact abx a t'
  | bl b=>cases rx;exact aby a t' b
  | int b=>obtain ⟨t,rfl⟩:=rx;exact YE a t' b t
  | str b=>obtain ⟨t,rfl⟩:=rx;exact Yy a t' b t
  | _=>exact absurd (show false=true from fx) RV
 | str a=>
  obtain ⟨t',rfl⟩:=ry
  cases x with
  | non=>cases rx;exact abz a t'
  | bl b=>cases rx;exact abA a t' b
  | int b=>obtain ⟨t,rfl⟩:=rx;exact Yz a t' b t
  | str b=>obtain ⟨t,rfl⟩:=rx;exact abN a t' b t
  | _=>exact absurd (show false=true from fx) RV
 | _=>exact absurd (show false=true from fy) RV
theorem yw:b8 X (.builtin "len") (λxs H Q=>∃p ys,xs=[.ref p]/\(dw X.K H p ys\/dY X.K H p ys)/\Q (.int ys.length) H):=by
 intro QV s σ H xs us Q I r h
 obtain ⟨p,ys,rfl,hq,q⟩:=h
 obtain ⟨u,rfl,rx⟩:=vals1 r
 cases rx
 have hn:=nt
 rcases hq with hq | hq
 ·obtain ⟨QX,r',pl,hz⟩:=I.list hq
  have hlen:=r'.length
  exact Calls.call_len_list pl.isList (by simp only [Ro] <;> omega) ⟨.int ys.length,H,I.tok _,⟨s.toks + 1,by rw [Ro,hlen]⟩,q⟩
 ·obtain ⟨QX,r',pl,hz⟩:=I.tuple hq
  have hlen:=r'.length
  exact len_tuple pl (by simp only [Ro] <;> omega) ⟨.int ys.length,H,I.tok _,⟨s.toks + 1,by rw [Ro,hlen]⟩,q⟩
theorem yx:b8 X (.builtin "len") (λxs H Q=>∃z,xs=[.str z]/\z.length<=sizeLine/\Q (.int z.length) H):=by
 intro QV s σ H xs us Q I r h
 obtain ⟨z,rfl,hz,q⟩:=h
 obtain ⟨u,rfl,t,rfl⟩:=vals1 r
 have hn:=nt
 exact len_str (by omega) ⟨.int z.length,H,I.tok _,⟨_,rfl⟩,q⟩
theorem b8.or {f:Q8}{r r':List V->Hp->VK->Prop}(h:b8 X f r) (h':b8 X f r'):b8 X f (λxs H Q=>r xs H Q\/r' xs H Q):=by
 intro QV s σ H xs us Q I rs q
 rcases q with q | q
 ·exact h QV s σ H xs us Q I rs q
 ·exact h' QV s σ H xs us Q I rs q
theorem yy:b8 X (.type "list") (λxs H Q=>∃p ys,xs=[.ref p]/\(dw X.K H p ys\/dY X.K H p ys)/\∀l,H l=none->Q (.ref l) (upd H l (.lst ys))):=by
 intro QV s σ H xs us Q I r h
 obtain ⟨p,ys,rfl,hq,q⟩:=h
 obtain ⟨u,rfl,rx⟩:=vals1 r
 cases rx
 have fin:∀(QX:List Q8),Vals ys QX->ys.length<=sizeLine->∀(h':SM) (c':Nat),(∀b o',s.heap.get? b=some o'->h'.get? b=some o')->
   h'.get? s.heap.objs.size=some {cls:=.type "list",dict:=none,data:=.seq QX.toArray c',slots:=#[]}->EP X QV σ Q (.ref s.heap.objs.size) {s with heap:=h'}:=λQX r' hz h' c' kp e=>
  ⟨.ref s.heap.objs.size,_,I.laid (t':=s.toks) kp (Rj _) (show cM X.prog X.w _ h' _ (.lst ys) from ⟨hz,QX,c',r',e⟩),rfl,q _ (I.hok.fresh (Rj _))⟩
 rcases hq with hq | hq
 ·obtain ⟨QX,r',pl,hz⟩:=I.list hq
  have hlen:=r'.length
  obtain ⟨o,ho,hc,n,hd⟩:=pl.isList
  exact aaP p (.inl rfl) ho hc hd (λh' c' kp e=>fin QX r' hz h' c' kp e) (by simp only [Ro] <;> omega)
 ·obtain ⟨QX,r',pl,hz⟩:=I.tuple hq
  have hlen:=r'.length
  obtain ⟨o,ho,hc,n,hd⟩:=pl
  exact aaP p (.inr rfl) ho hc hd (λh' c' kp e=>fin QX r' hz h' c' kp e) (by simp only [Ro] <;> omega)
theorem wU:b8 X (.type "tuple") (λxs H Q=>∃p ys,xs=[.ref p]/\((dw X.K H p ys/\∀l,H l=none->Q (.ref l) (upd H l (.tup ys)))\/(dY X.K H p ys/\Q (.ref p) H))):=by
 intro QV s σ H xs us Q I r h
 obtain ⟨p,ys,rfl,h⟩:=h
 obtain ⟨u,rfl,rx⟩:=vals1 r
 cases rx
 rcases h with ⟨hq,q⟩ | ⟨hq,q⟩
 ·obtain ⟨QX,r',pl,hz⟩:=I.list hq
  have hlen:=r'.length
  refine call_tuple_list pl.isList (λh' kp=>?_) (by simp only [Ro] <;> omega)
  have I1:Inv X QV σ H {s with heap:=h'}:=I.kept (t':=s.toks) kp
  have I2:Inv X QV σ (upd H h'.objs.size (.tup ys)) {s with heap:=h'.push {cls:=.type "tuple",data:=.seq QX.toArray}}:=
   I1.laid (t':=s.toks) (λb o e=>Rc _ e) (Rj _) (show cM X.prog X.w _ _ _ (.tup ys) from ⟨hz,QX,r',aa_ _ _⟩)
  exact ⟨.ref h'.objs.size,_,I2,rfl,q _ (I1.hok.fresh (Rj _))⟩
 ·obtain ⟨QX,r',pl,hz⟩:=I.tuple hq
  exact call_tuple_same pl ⟨.ref p,H,I,rfl,q⟩
noncomputable def N9 (K:Q7) (T:String) (x:V) (H:Hp):Prop:=match x with
 | .str _=>T="str"
 | .int _=>T="int"
 | .ref p=>(T="list"/\∃xs,dw K H p xs)\/(T="tuple"/\∃o,K.lookup p=some o/\o.cls=.type "tuple"/\o.dict=none)\/
   (T="dict"/\((∃Q4,H p=some (.dK Q4))\/∃Q4,H p=some (.dT Q4)))\/(T="set"/\∃S n,H p=some (.set S n))
 | _=>False
theorem MW {QV:List (Rq×Obj)}{σ:St}{H:Hp}{s:Q_}{T:String}{x:V}{v:Q8}(I:Inv X QV σ H s) (r:RelV x v) (ty:N9 X.K T x H):
  s.TypeIs v T/\∀a,v=.ref a->∃ob,s.heap.get? a=some ob/\ob.dict=none:=by
 cases x with
 | str z=>
  obtain ⟨t,rfl⟩:=r
  cases (show T="str" from ty)
  exact ⟨typeIs_str s z t,λ_ e=>nomatch e⟩
 | int i=>
  obtain ⟨t,rfl⟩:=r
  cases (show T="int" from ty)
  exact ⟨typeIs_int s i t,λ_ e=>nomatch e⟩
 | ref p=>
  cases r
  rcases ty with ⟨rfl,xs,hq⟩ | ⟨rfl,o,hk,hc,hd⟩ | ⟨rfl,hk⟩ | ⟨rfl,S,n,hk⟩
  ·obtain ⟨QX,_,pl,_⟩:=I.list hq
   refine ⟨pl.isList.typeIs,λa e=>?_⟩
   cases e
   obtain ⟨o,n,e,c,hd,_⟩:=pl
   exact ⟨o,e,hd⟩
  ·refine ⟨⟨o,I.kIn p o hk,hc⟩,λa e=>?_⟩
   cases e
   exact ⟨o,I.kIn _ o hk,hd⟩
  ·have z:∃o,s.heap.get? p=some o/\o.ExactDict:=by
    rcases hk with ⟨Q4,hk⟩ | ⟨Q4,hk⟩
    ·obtain ⟨_,_,_,_,o,_,_,e,ex,_⟩:=I.hok p _ hk
     exact ⟨o,e,ex⟩
    ·obtain ⟨_,_,_,_,o,_,_,e,ex,_⟩:=I.hok p _ hk
     exact ⟨o,e,ex⟩
   obtain ⟨o,e,ex⟩:=z
   refine ⟨⟨o,e,ex.1⟩,λa e2=>?_⟩
   cases e2
   exact ⟨o,e,ex.2.1⟩
  ·obtain ⟨o,_,_,_,e,ex,_⟩:=I.hok p _ hk
   refine ⟨⟨o,e,ex.1⟩,λa e2=>?_⟩
   cases e2
   exact ⟨o,e,ex.2.1⟩
 | _=>exact UU ty
def O1 (K:Q7) (T:String) (r:V->List V->Hp->VK->Prop) (to:TE) (t:TA):TE:=λσ H Q=>to σ H λx H1=>N9 K T x H1/\t σ H1 λxs H2=>r x xs H2 Q
variable {o e:RX}{es:List RX}{to:TE}{t:TA}{name:Str}{apos cpos:Pos}{T id:String}{r:V->List V->Hp->VK->Prop}
theorem Ib (pa:PlainAttrs T) (slot:Slot T name id) (hty:typeOf (.builtin id)=pure (.type "method_descriptor")) (hm:OS X id r) (ho:PE X o to) (ha:PA X (e::es) t)
  (hbase:YJ o name X.env (eval o X.env)=eval o X.env:=by rfl)
  (hfew:((TU cpos (Rr (e::es) X.env)).all (λx=>!x.1) && (abO cpos (ZL [] X.env)).all (λx=>x.1.isSome)
   && decide ((e::es).length + ([]:List ZM).length + (if ([]:List ZM).isEmpty then 0 else 1) < 30))=true:=by rfl)
  (hline:(apos.endLine == cpos.line)=true:=by rfl) (hs:Rr (e::es) X.env=(false,eval e X.env)::Rr es X.env:=by rfl) (hplain:(TU cpos (Rr es X.env)).any (·.1)=false:=by rfl):
  PE X (.Call (.Attribute o name apos) (e::es) [] cpos) (O1 X.K T r to t):=by
 intro QV s σ H Q I h
 refine wpAny_Call_method_late hbase hfew hline rfl (b9 (ho QV s σ H _ I h) λv s1 ⟨x,H1,I1,r1,ty,q1⟩=>?_)
 obtain ⟨h1,h2⟩:=MW I1 r1 ty
 refine ⟨T,id,pa,slot,hty,h1,h2,?_⟩
 have hA:=ha cpos QV s1 σ H1 _ I1 q1
 rw [hs] at hA ⊢
 refine Calls.callWith_builtin (by show (false || (TU cpos (Rr es X.env)).any (·.1))=false;rw [hplain] <;> rfl) (Calls.evalArgs_plain ?_)
 exact b9 hA λus s2 ⟨vs,H2,I2,r2,q2⟩=>hm QV s2 σ H2 x vs v us Q I2 r1 r2 q2
end
noncomputable def KN (X:Cx) (id:String) (r:V->List V->Hp->VK->Prop):Prop:=
 ∀(QV:List (Rq×Obj)) (s:Q_) (σ:St) (H:Hp) (x:V) (xs:List V) (v:Q8) (us:List Q8) (Q:VK),Inv X QV σ H s->RelV x v->Vals xs us->r x xs H Q->
  RA (RG X.prog X.w) X.A (call (.builtin id) (v::us)) (EP X QV σ Q) X.xe s
theorem Vals.one:∀{x:V}{us:List Q8},Vals [x] us->∃u,us=[u]/\RelV x u
 | _,_,.cons r .nil=>⟨_,rfl,r⟩
section
variable {X:Cx}{QV:List (Rq×Obj)}{σ:St}{H:Hp}{s:Q_}{l b:Rq}{xs ys zs:List V}
theorem Inv.lset {QX its':List Q8}{n:Nat}{f:Array Q8->Array Q8}{t':Nat}(I:Inv X QV σ H s) (hH:H l=some (.lst xs))
  (e:s.heap.get? l=some {cls:=.type "list",data:=.seq QX.toArray n}) (hf:f QX.toArray=its'.toArray) (hv:Vals ys its') (hz:ys.length<=sizeLine):
  Inv X QV σ (upd H l (.lst ys)) {s with heap:=s.heap.update l (SX f),toks:=t'}:=by
 have q:=abY e f
 rw [hf] at q
 refine I.write (x:=l) (e:=l) (by rw [hH];exact trivial) (.inl rfl) (λb' u hb hu=>(VG s.heap (SX f) (Um hb)).trans hu) ⟨_,q⟩ ?_
 exact ⟨hz,its',_,hv,q⟩
theorem Inv.lnew {QX:List Q8}{t':Nat}(I:Inv X QV σ H s) (hv:Vals ys QX) (hz:ys.length<=sizeLine):
  Inv X QV σ (upd H s.heap.objs.size (.lst ys)) {s with heap:=s.heap.push {cls:=.type "list",data:=.seq QX.toArray},toks:=t'}:=
 I.laid (λ_ _ q=>Rc _ q) (Rj _) ⟨hz,QX,0,hv,Rn _ rfl⟩
theorem Inv.fresh (I:Inv X QV σ H s):H s.heap.objs.size=none:=I.hok.fresh (Rj _)
theorem Inv.lstM (I:Inv X QV σ H s) (hH:H l=some (.lst xs)):xs.length<=sizeLine/\∃(QX:List Q8) (n:Nat),Vals xs QX/\xs.length=QX.length/\s.heap.get? l=some {cls:=.type "list",data:=.seq QX.toArray n}:=by
 obtain ⟨z,QX,n,r,e⟩:=I.hok l _ hH
 exact ⟨z,QX,n,r,r.length,e⟩
theorem zm {n:Nat}(h:n<=sizeLine):TH n=false:=by
 unfold TH
 exact decide_eq_false (by omega)
end
section
variable {X:Cx}
noncomputable def JZ:V->List V->Hp->VK->Prop:=λx vs H Q=>∃l xs y,x=.ref l/\vs=[y]/\H l=some (.lst xs)/\xs.length < sizeLine/\Q .non (upd H l (.lst (xs++[y])))
theorem vW:KN X "list.append" JZ:=by
 intro QV s σ H x vs v us Q I rx rv h
 obtain ⟨l,xs,y,rfl,rfl,hH,hz,q⟩:=h
 cases rx
 obtain ⟨u,rfl,ru⟩:=rv.one
 obtain ⟨z,QX,n,r,hl,e⟩:=I.lstM hH
 refine aau F.slot_list_append ⟨_,e,rfl⟩ F.entry_list_append (F.args_list_append_2 _ _) (PySem.list_append l QX.toArray n u (by rw [Ro];omega)) ⟨e,?_⟩
 refine ⟨.non,_,I.lset (its':=QX++[u]) hH e (by simp) (r.append (.cons ru .nil)) ?_,rfl,q⟩
 rw [RI,List.length_singleton]
 omega
noncomputable def J6:V->List V->Hp->VK->Prop:=λx vs H Q=>∃l b xs zs,x=.ref l/\vs=[.ref b]/\H l=some (.lst xs)/\H b=some (.lst zs)/\xs.length + zs.length<=sizeLine/\Q .non (upd H l (.lst (xs++zs)))
theorem N7:KN X "list.extend" J6:=by
 intro QV s σ H x vs v us Q I rx rv h
 obtain ⟨l,b,xs,zs,rfl,rfl,hH,hB,hz,q⟩:=h
 cases rx
 obtain ⟨u,rfl,ru⟩:=rv.one
 cases ru
 obtain ⟨z,QX,n,r,hl,e⟩:=I.lstM hH
 obtain ⟨z2,its2,n2,r2,hl2,e2⟩:=I.lstM hB
 have hsz:QX.toArray.size + its2.toArray.size<=sizeLine:=by rw [Ro,Ro];omega
 have Pw:¬(!QX.toArray.isEmpty && TH (QX.toArray.size + its2.toArray.size))=true:=by
  rw [zm hsz,UL]
  exact RV
 refine aau YK ⟨_,e,rfl⟩ Yr (Yd _ _)
  (AutoSeq1.list_extend_list_list_0 l QX.toArray n b its2.toArray n2 Pw (by rw [Ro];omega) (by omega)) ⟨e,e2,?_⟩
 refine ⟨.non,_,I.lset (its':=QX++its2) hH e (by simp) (r.append r2) ?_,rfl,q⟩
 rw [RI]
 omega
noncomputable def Ov:R2:=λx y H Q=>∃l b xs zs,x=.ref l/\y=.ref b/\H l=some (.lst xs)/\H b=some (.lst zs)/\xs.length + zs.length<=sizeLine/\∀p,H p=none->Q (.ref p) (upd H p (.lst (xs++zs)))
theorem Es:dZ X (UA .Add) Ov:=by
 intro QV s σ H x y v u Q I rx ry h
 obtain ⟨l,b,xs,zs,rfl,rfl,hH,hB,hz,q⟩:=h
 cases rx
 cases ry
 obtain ⟨z,QX,n,r,hl,e⟩:=I.lstM hH
 obtain ⟨z2,its2,n2,r2,hl2,e2⟩:=I.lstM hB
 refine PySem.P.add_list e e2 ?_ (by rw [Ro,Ro];omega)
 have ea:QX.toArray++its2.toArray=(QX++its2).toArray:=by simp
 rw [ea]
 exact ⟨.ref _,_,I.lnew (t':=s.toks) (r.append r2) (by rw [RI];omega),rfl,q _ I.fresh⟩
end
end L2
namespace Att
open PySem PySem.W PySem.Calls PyProof.Rows
theorem tG {P:aba}{h:SM}:∀(ns:List Int) (vs:List Q8),WellAll P h vs (ns.map ab2)->Vh vs ns:=by
 intro ns
 induction ns with
 | nil=>
  intro vs w
  rw [WC] at w
  cases w
  exact .nil
 | cons n ns ih=>
  intro vs w
  rw [Rv] at w
  cases w with
  | cons a b=>
   cases a
   exact .cons _ _ (ih _ b)
theorem EZ {l:OpenLaw}{n:Nat}(hn:l.most=some n){P:aba}{h:SM}{args:List WData}{vals:List Q8}
  (hpre:l.row.toRowW.claim.pre args=true) (hwl:WellAll P h vals args):
  ∃a vs ns,vals=[Vp a]/\args=[WData.list (ns.map ab2)]/\h.get? a=some {cls:=.type "list",data:=.seq vs.toArray}/\Vh vs ns/\ns.length<=n:=by
 have hsh:WShape.hasAll [] args [.list .int]=true:=(pre_splitW hpre).1
 have hc:l.pre.holds [] {args:=args}=true:=(pre_splitW hpre).2
 obtain ⟨d,r,rfl,h1,h2⟩:=hasAllW_cons hsh
 obtain rfl:=hasAllW_nil h2
 obtain ⟨xs,rfl,h3⟩:=hasW_list h1
 obtain ⟨ns,rfl⟩:=items_int h3
 have hlen:ns.length<=n:=by
  unfold OpenLaw.pre at hc
  have h4:(WTm.not (.lt (.lit (.int (n:Int))) (.len (.arg 0)))).holds [] {args:=[.list (ns.map .int)]}=true:=by
   have h4:=(holds_andW hc).1
   rw [hn] at h4
   exact h4
  have h5:=condW_of h4 (w_not (w_lt w_lit (w_len_list (w_arg rfl))))
  rw [Rh] at h5
  refine Nat.le_of_not_lt λq=>?_
  have q':(n:Int) < ((ns.length:Nat):Int):=by omega
  first
   | (rw [decide_eq_true q'] at h5;exact absurd h5 (by decide))
   | (simp at h5;omega)
 cases hwl with
 | cons w1 w2=>
  cases w2
  cases w1 with
  | list ho hall=>exact ⟨_,_,ns,rfl,rfl,ho,tG ns _ hall,hlen⟩
theorem EI (l:OpenLaw) (args:List WData):l.row.toRowW.claim.post args (.bool true) args=true:=
 postW_of (r:=l.row.toRowW) (X:=(true == true))
  (show abU [] (.bool true) .bool=true by first | rfl | decide | simp [abU,WShape.arms,WShape.armsAll])
  (show (WTm.eq .res (.lit (.bool true))).value [] {args:=args,res:=some (.bool true),after:=args}=some (.bool (true == true)) from w_eq_bool (w_res rfl) w_lit) rfl
theorem Ak {l:OpenLaw}{n:Nat}{q:Rz}{loose:List Str}{XP:(Str->Option Q8)->SM->Prop}{YP:RZ->SM->Prop}{d:DefRec}
  (hn:l.most=some n) (hdf:d.params.defaults=[])
  (call:∀(w:RZ) (s₀ s₁:Q_) (mg mb:Str->Option Q8) (fa:Rq) (o:Obj) (pm cd doc:Q8) (a:Rq) (vs:List Q8) (ns:List Int),
   Ground q loose [] XP w s₀ mg mb s₁.heap->YP w s₁.heap->
   s₁.heap.get? fa=some o->o.data=.func (docDef d.name d.params d.body d.scope pm cd doc)->s₁.heap.CodeRec cd d.name->mg d.name=some (.ref fa)->
   s₁.heap.get? a=some {cls:=.type "list",data:=.seq vs.toArray}->Vh vs ns->ns.length<=n->s₁.gens=#[]->
   T8 (RG l.prog w) Y6 (.call (.ref fa) ⟨[.ref a],[]⟩) (λr s'=>r=.ok (.ret (.bool true))/\OldK s₁.heap s'.heap/\s'.os=s₁.os/\XH s'.gens) s₁):
  WalkO q loose XP YP l.row.toRowW d [] (λf vs=>aav f vs):=by
 intro w s₀ s₁ mg mb G Y fa o pm cd doc dV kV ho hd hcd hD hmg hg args vals as hpre hlay hrd hwl hlo
 obtain rfl:dV=.none:=Dflts.none hD hdf
 obtain rfl:kV=.none:=Dflts.noKw hD
 obtain ⟨a,vs,ns,rfl,rfl,hobj,hints,hlen⟩:=EZ hn hpre hwl
 refine enter_call (Tw (call w s₀ s₁ mg mb fa o pm cd doc a vs ns G Y ho (fd_plain hd) hcd hmg hobj hints hlen hg) λr s' hq=>?_)
 obtain ⟨rfl,h2,h3,h4⟩:=hq
 exact ⟨.inl ⟨.bool true,.bool true,[],rfl,λ_=>rfl,.bool true,EI l _,λ_=>⟨UW,λ_ hm=>(nomatch hm)⟩⟩,h2,h3,h4⟩
end Att
namespace L2
open PySem PySem.Spec PyProof.Rows
theorem wI:∀{vs:List Q8}{ns:List Int},Vh vs ns->Vals (ns.map V.int) vs
 | _,_,.nil=>.nil
 | _,_,.cons n t h=>.cons ⟨t,rfl⟩ (wI h)
def BO (H:Hp):Prop:=∀b,H b=none\/∃o xs,H b=some (.frz o (.lst xs))
theorem Gj {P:Rz}{w:RZ}{K:Q7}{mg mb:Str->Option Q8}{CX:qP}{k:Nat}{fa a:Rq}{fd:RO}{x:Str}{sp:Sp}{s₁:Q_}{vs:List Q8}{ns:List Int}
  (KX:K.In s₁.heap) (hns:s₁.heap.Ns RP mg) (hb:s₁.heap.Ns aar mb) (QE:∀x:Str,x≠"__name__"->mb x=Sd x) (hlim:s₁.heap.NoLimit) (hg:s₁.gens=#[])
  (ha:s₁.heap.get? a=some {cls:=.type "list",data:=.seq vs.toArray}) (hi:Vh vs ns) (hl:ns.length<=sizeLine) (hr:fk k Y6)
  (F:∀base:SM,K.In base->base.Ns RP mg->jB P w K mg base CX k fa fd [x] sp) (hbind:∀(s:Q_) (u:Q8),ZJ s fd ⟨[u],[]⟩ [(x,u)])
  (PJ:∀H:Hp,BO H->dw K H a (ns.map V.int)->sp [.ref a] H (λv _=>v=.bl true) λ_ _ _=>False)
  (Qe:∀H e s',CX [] H s₁ (λ_ _ _=>False) e s'->False):
  T8 (RG P w) Y6 (.call (.ref fa) ⟨[.ref a],[]⟩) (λr s'=>r=.ok (.ret (.bool true))/\OldK s₁.heap s'.heap/\s'.os=s₁.os/\XH s'.gens) s₁:=by
 have rv:=wI hi
 have lenV:=hi.length
 have core:∀H:Hp,BO H->dw K H a (ns.map V.int)->gJ P w H s₁.heap->(∀b,H b≠none->b=a)->(H a≠none->K.lookup a=none)->
   T8 (RG P w) Y6 (.call (.ref fa) ⟨[.ref a],[]⟩) (λr s'=>r=.ok (.ret (.bool true))/\OldK s₁.heap s'.heap/\s'.os=s₁.os/\XH s'.gens) s₁:=by
  intro H hO hS hok hA hK
  have base_of:∀{b:Rq}{o:Obj},s₁.heap.get? b=some o->H b=none->(n6 s₁.heap H).get? b=some o:=λe n=>F_ e n
  have noA:∀{b:Rq}{o:Obj}{es:Array YL}{ep:Nat},s₁.heap.get? b=some o->o.data=.dict es ep->H b=none:=fun {b o es ep} e d=>by
   cases q:H b with
   | none=>rfl
   | some u=>
    have e':b=a:=hA b (by rw [q];simp)
    subst e'
    rw [ha] at e;cases e
    have d':Data.seq vs.toArray _=Data.dict es ep:=d
    cases d'
  have nsK:∀{b:Rq}{m:Str->Option Q8},s₁.heap.Ns b m->(n6 s₁.heap H).Ns b m:=fun {b m} ⟨o,es,ep,e,d,r⟩=>⟨o,es,ep,base_of e (noA e d),d,r⟩
  have Qv:K.In (n6 s₁.heap H):=λb o e=>base_of (KX b o e) (by
   cases q:H b with
   | none=>rfl
   | some u=>
    have e':b=a:=hA b (by rw [q];simp)
    subst e'
    rw [hK (by rw [q];simp)] at e;cases e)
  have hM:Mod K mg (n6 s₁.heap H):=⟨Qv,nsK hns,⟨mb,nsK hb,QE⟩,let ⟨mc,h1,h2⟩:=hlim;⟨mc,nsK h1,h2⟩⟩
  have e0:BE P w K mg (n6 s₁.heap H) Y6 [] s₁ H:=⟨rfl,hM,λb o e=>Jv e,abb (D8 _ _),trivial,λb hb=>absurd (show b∈([]:List Rq) from hb) (by simp),hok,.of_eq hg⟩
  refine Tw ((F _ Qv (nsK hns)).run Y6 [] s₁ H ⟨[.ref a],[]⟩ [.ref a] [.ref a] _ _ hr e0 (hbind s₁ (.ref a)) (.cons rfl .nil) (PJ H hO hS)) λr s' h=>?_
  cases r with
  | error e=>exact (Qe H e s' h).elim
  | ok fl=>
   cases fl with
   | next=>exact UU h
   | brk=>exact UU h
   | cont=>exact UU h
   | ret u=>
    obtain ⟨v,H',os,bare,un,Qn,r',q⟩:=h
    have q':v=.bl true:=q
    subst q'
    obtain rfl:u=Uk true:=r'
    refine ⟨rfl,OldK.of_keep λb o e=>?_,os,bare⟩
    cases q:H b with
    | none=>exact un.keep b o e q (by intro z;exact absurd (show b∈([]:List Rq) from z) (by simp)) (by simp)
    | some u=>
     rcases hO b with z | ⟨ob,xs,z⟩
     ·rw [q] at z;cases z
     ·have z2:=un.frzs b ob _ z
      obtain ⟨e1,_⟩:=hok b _ z
      obtain ⟨e2,_⟩:=Qn b _ z2
      rw [e] at e1;cases e1
      exact e2
 cases hk:K.lookup a with
 | some o=>
  have e:=KX a o hk
  rw [ha] at e
  cases e
  refine core (λ_=>none) (λ_=>.inl rfl) (.inr ⟨_,vs.toArray,_,hk,rfl,rfl,rfl,by rw [Ro,lenV];exact hl,by simpa using rv⟩) (λb u z=>by have z':(none:Option HO)=some u:=z;cases z') (λb z=>absurd rfl z) λz=>absurd rfl z
 | none=>
  refine core (λb=>if b=a then some (.frz {cls:=.type "list",data:=.seq vs.toArray} (.lst (ns.map V.int))) else none) (λb=>?_) (.inl (.inr ⟨{cls:=.type "list",data:=.seq vs.toArray},if_pos rfl⟩)) (λb u z=>?_) (λb z=>?_) λ_=>hk
  ·by_cases hb:b=a
   ·exact .inr ⟨_,_,if_pos hb⟩
   ·exact .inl (if_neg hb)
  ·by_cases hb:b=a
   ·have z':=(if_pos hb).symm.trans z
    cases z'
    subst hb
    exact ⟨ha,by rw [Rh];exact hl,vs,_,rv,ha⟩
   ·have z':=(if_neg hb).symm.trans z
    cases z'
  ·by_cases hb:b=a
   ·exact hb
   ·exact absurd (if_neg hb) z
abbrev Pb {K:Q7}{h:SM}(_:K.In h):Q7:=K
theorem Kv {l:XS}{n k:Nat}{q:Rz}{loose:List Str}{XP:(Str->Option Q8)->SM->Prop}{YP:RZ->SM->Prop}{d:DefRec}{K:aba->Q7}{CX:RZ->qP}{sp:RZ->Sp}{x:Str}
  (hn:l.most=some n) (hn2:n<=sizeLine) (hdf:d.params.defaults=[]) (hr:fk k Y6)
  (hY:∀(w:RZ) (h:SM),YP w h->(K w.params).In h)
  (F:∀(w:RZ) (mg:Str->Option Q8) (fa:Rq) (h:SM),(K w.params).In h->h.Ns RP mg->mg d.name=some (.ref fa)->
   ∃fd:RO,(∀(s:Q_) (u:Q8),ZJ s fd ⟨[u],[]⟩ [(x,u)])/\
    ∀base:SM,(K w.params).In base->base.Ns RP mg->jB l.prog w (K w.params) mg base (CX w) k fa fd [x] (sp w))
  (PJ:∀(w:RZ) (H:Hp) (a:Rq) (ns:List Int),ns.length<=n->BO H->dw (K w.params) H a (ns.map V.int)->sp w [.ref a] H (λv _=>v=.bl true) λ_ _ _=>False)
  (Qe:∀(w:RZ) (H:Hp) (s:Q_) (e:Q8) (s':Q_),CX w [] H s (λ_ _ _=>False) e s'->False):
  aaQ q loose XP YP l.row.toRowW d [] (λf vs=>aav f vs):=by
 refine Att.Ak hn hdf λw s₀ s₁ mg mb fa o pm cd doc a vs ns G Y ho hd hcd hmg hobj hints hlen hg=>?_
 have KX:=hY w _ Y
 obtain ⟨fd,hb,hF⟩:=F w mg fa _ KX G.T.g hmg
 exact Gj KX G.T.g G.T.b G.T.builtins G.T.nolimit hg hobj hints (RS hlen hn2) hr hF hb (λH hO hS=>PJ w H a ns hlen hO hS) λH e s'=>Qe w H s₁ e s'
noncomputable def a_ (s:Uy):Arguments:=match s with
 | .FunctionDef _ a _ _ _ _ _ _ _ _=>a
 | _=>{posonlyargs:=[],args:=[],vararg:=none,kwonlyargs:=[],kw_defaults:=[],kwarg:=none,defaults:=[]}
noncomputable def aW (s:Uy):List Uy:=match s with
 | .FunctionDef _ _ b _ _ _ _ _ _ _=>b
 | _=>[]
noncomputable def az (s:Uy):T7:=match s with
 | .FunctionDef _ _ _ _ _ _ sc _ _ _=>sc
 | _=>{kind:=.function,names:=[],isGenerator:=false,isCoroutine:=false}
abbrev oW:qP:=λ_ _ _ _ _ _=>False
abbrev E0:XK:=λ_ _ _=>False
theorem Cy {X:Cx}:Passes oW X E0:=λ_ _ _ _ _ _ _ h=>h.elim
structure dh (K:Q7) (x Q2:Str) (st:Uy) (f:Rq) (fd:RO):Prop where
 ex:∃(oc:Q8) (od:Option Rq) (kV doc pm:Q8) (an:Option Rq) (cdv ct:Q8) (osl:Array (Option Q8)),
  fd=Rw x Q2 (a_ st) (aW st) (az st) .none kV doc pm an cdv ct/\K.lookup f=some ⟨oc,od,.func fd,osl⟩/\VR K cdv Q2=true
 kp:UK K (.ref f)=true
section
variable {P:Rz}{w:RZ}{K:Q7}{mg:Str->Option Q8}{base:SM}
theorem dh.ok {x Q2:Str}{st:Uy}{f:Rq}{fd:RO}{N ps:List Str}{k:Nat}{sp:Sp}(F:dh K x Q2 st f fd) (S:br N ps (az st)) (len:∀vs H Q E,sp vs H Q E->vs.length=ps.length)
  (hbody:∀(cdv:Q8) (A:R4) (outer:List Env) (s:Q_) (H:Hp) (vs:List V) (Q:VK) (E:XK),fk k (A.deeper (Xo Q2 (az st) s.heap.objs.size f cdv))->sp vs H Q E->
   ∃t,j_ (rK oW P w K mg base N Q2 (az st) f cdv A outer s H E).nox (aW st) t/\t {nx:=λ_ H'=>Q .non H',rt:=Q} (start N vs) H):jB P w K mg base oW (k + 1) f fd ps sp:=by
 obtain ⟨oc,od,kV,doc,pm,an,cdv,ct,osl,rfl,lk,hcd⟩:=F.ex
 refine Nh lk hcd S len λA outer s H vs Q E hr PJ=>?_
 obtain ⟨t,h,q⟩:=hbody cdv A outer s H vs Q E hr PJ
 exact ⟨t,h.nox,q⟩
theorem dh.binds {x Q2:Str}{st:Uy}{f:Rq}{fd:RO}{ps:List Str}(F:dh K x Q2 st f fd)
  (h:∀(kV doc pm:Q8) (an:Option Rq) (cdv ct:Q8) (us:List Q8),us.length=ps.length->ZE (Rw x Q2 (a_ st) (aW st) (az st) .none kV doc pm an cdv ct) ⟨us,[]⟩=pure (ps.zip us)):Binds K fd ps []:=by
 obtain ⟨oc,od,kV,doc,pm,an,cdv,ct,osl,rfl,lk,hcd⟩:=F.ex
 exact .all (h kV doc pm an cdv ct)
theorem DY {x Q2:Str}{st:Uy}{f:Rq}{oc:Q8}{od an:Option Rq}{osl:Array (Option Q8)}{kV doc pm cdv ct:Q8}(l:K.lookup f=some ⟨oc,od,.func (Rw x Q2 (a_ st) (aW st) (az st) .none kV doc pm an cdv ct),osl⟩)
  (c:VR K cdv Q2=true) (k:UK K (.ref f)=true):dh K x Q2 st f (Rw x Q2 (a_ st) (aW st) (az st) .none kV doc pm an cdv ct):=⟨⟨oc,od,kV,doc,pm,an,cdv,ct,osl,rfl,l,c⟩,k⟩
end
theorem Ls {A B:Prop}(h:B):if false=true then A else B:=by
 rw [if_neg RV]
 exact h
theorem Lu {A B:Prop}(h:A):if true=true then A else B:=by
 rw [if_pos rfl]
 exact h
def aX (H H':Hp):Prop:=∀b o,H b=some o->H' b=some o
theorem aX.refl (H:Hp):aX H H:=λ_ _ h=>h
theorem aX.trans {H H1 H2:Hp}(a:aX H H1) (b:aX H1 H2):aX H H2:=λc o h=>b c o (a c o h)
theorem aX.free {H H':Hp}(e:aX H H'){l:Rq}(h:H' l=abB):H l=abB:=by
 cases q:H l with
 | none=>rfl
 | some o=>
  rw [e l o q] at h
  cases h
theorem aX.seq {K:Q7}{H H':Hp}{a:Rq}{xs:List V}(e:aX H H') (h:dw K H a xs):dw K H' a xs:=by
 rcases h with (h | ⟨o,h⟩) | h
 ·exact .inl (.inl (e _ _ h))
 ·exact .inl (.inr ⟨o,e _ _ h⟩)
 ·exact .inr h
end L2
set_option maxHeartbeats 4000000
namespace K81
open PySem
def top (i:Nat):Uy:=PySem.Challenge.pw_pickalike_k81_classes_of_points.main.body.getD i (.Pass ⟨0,0,0,0⟩)
noncomputable def topC (i j:Nat):Uy:=match top i with
 | .ClassDef (body:=b) ..=>b.getD j (.Pass ⟨0,0,0,0⟩)
 | _=>.Pass ⟨0,0,0,0⟩
end K81
namespace K81
open PySem PySem.Spec PyProof.Rows L2
abbrev E (P:aba) (k:Str) (t:Nat) (v:Q8):YL:=⟨PyData.keyHash P k,.str k t,v⟩
def KF (P:aba):Q7:=
(nat_lit 2,⟨.none,none,(.dict #[] 0),#[]⟩)::
(nat_lit 3,⟨(.type "dict"),none,(.dict #[E P "__name__" 165 (.str "law_pickalike_k81_classes_of_points" 470),E P "__doc__" 166 .none,E P "__package__" 167 .none,E P "__loader__" 168 (.builtin "__main__.__loader__#opaque"),E P "__spec__" 169 .none,E P "__annotations__" 170 (.ref 6),E P "__builtins__" 171 (.ref 4),E P "__file__" 173 (.str "/claim/cut.py" 172),E P "__cached__" 174 .none,E P "PickError" 206 (.ref 24),E P "NoTongue" 222 (.ref 37),E P "TooMany" 247 (.ref 56),E P "NoCount" 272 (.ref 75),E P "is_whole" 281 (.ref 84),E P "tongue_of" 287 (.ref 89),E P "need_tongue" 295 (.ref 96),E P "MOST_SMALL" 299 (.int 4 298),E P "need_few_points" 307 (.ref 103),E P "need_small" 315 (.ref 110),E P "need_count" 324 (.ref 117),E P "rising" 333 (.ref 124),E P "view" 339 (.ref 129),E P "views" 345 (.ref 134),E P "agree" 355 (.ref 141),E P "goes_behind" 366 (.ref 148),E P "pairings" 372 (.ref 153),E P "MOST_DEPTH" 376 (.int 6 375),E P "added" 384 (.ref 160),E P "pairs_with" 390 (.ref 165),E P "picks_of" 396 (.ref 170),E P "outcomes" 402 (.ref 175),E P "answered_still" 408 (.ref 180),E P "peeled" 414 (.ref 185),E P "pairings_with" 420 (.ref 190),E P "parting_depths" 426 (.ref 195),E P "in_layer" 435 (.ref 202),E P "layers_of" 441 (.ref 207),E P "layers" 450 (.ref 214),E P "each_once" 461 (.ref 221),E P "classes" 469 (.ref 226),E P "_law_cell" 479 (.ref 233),E P "_law_names" 485 (.ref 238),E P "_law_some" 495 (.ref 245),E P "_law_pairs" 506 (.ref 252),E P "_law_tongue" 516 (.ref 259),E P "_law_world" 530 (.ref 266),E P "_law_even" 536 (.ref 271),E P "_law_shaped" 542 (.ref 276),E P "_law_same" 548 (.ref 281),E P "_law_home" 557 (.ref 288),E P "_law_parted" 563 (.ref 293),E P "law" 569 (.ref 298)] 52),#[]⟩)::
(nat_lit 15,⟨(.type "tuple"),none,(.seq #[(.type "ValueError")] 0),#[]⟩)::
(nat_lit 22,⟨(.type "tuple"),none,(.seq #[] 0),#[]⟩)::
(nat_lit 23,⟨(.type "dict"),none,(.dict #[E P "__module__" 196 (.str "pickalike.errors" 187),E P "__firstlineno__" 200 (.int 2 199),E P "__static_attributes__" 201 (.ref 22),E P "__weakref__" 203 (.ref 25),E P "__doc__" 204 .none] 3),#[]⟩)::
(nat_lit 24,⟨(.type "type"),none,(.cls ⟨"PickError",[(.type "ValueError")],[(.ref 24),(.type "ValueError"),(.type "Exception"),(.type "BaseException"),(.type "object")],23,"PickError",true,[],[(.ref 37),(.ref 56),(.ref 75)],false,none,false⟩),#[(some (.ref 15)),none,(some (.str "PickError" 189)),(some (.str "PickError" 197)),(some (.builtin "ValueError.__new__")),(some (.bool true))]⟩)::
(nat_lit 25,⟨(.type "getset_descriptor"),none,(.fields #[(.str "__weakref__" 202),(.ref 24),(.builtin "ExceptionGroup.__weakref__"),.none]),#[]⟩)::
(nat_lit 28,⟨(.type "tuple"),none,(.seq #[(.ref 24)] 0),#[]⟩)::
(nat_lit 35,⟨(.type "tuple"),none,(.seq #[] 0),#[]⟩)::
(nat_lit 36,⟨(.type "dict"),none,(.dict #[E P "__module__" 214 (.str "pickalike.errors" 187),E P "__firstlineno__" 218 (.int 4 217),E P "__static_attributes__" 219 (.ref 35),E P "__doc__" 220 .none] 2),#[]⟩)::
(nat_lit 37,⟨(.type "type"),none,(.cls ⟨"NoTongue",[(.ref 24)],[(.ref 37),(.ref 24),(.type "ValueError"),(.type "Exception"),(.type "BaseException"),(.type "object")],36,"NoTongue",true,[],[],false,none,false⟩),#[(some (.ref 28)),none,(some (.str "NoTongue" 207)),(some (.str "NoTongue" 215)),(some (.builtin "ValueError.__new__")),(some (.bool true))]⟩)::
(nat_lit 40,⟨(.type "tuple"),none,(.seq #[(.ref 24)] 0),#[]⟩)::
(nat_lit 47,⟨(.type "tuple"),none,(.seq #[] 0),#[]⟩)::
(nat_lit 49,⟨(.type "tuple"),none,(.seq #[(.str "self" 238),(.str "many" 239)] 0),#[]⟩)::
(nat_lit 50,⟨(.type "tuple"),none,(.seq #[] 0),#[]⟩)::
(nat_lit 52,⟨(.type "code"),none,(.fields #[(.str "__init__" 235),(.str "TooMany.__init__" 236),(.str "/claim/cut.py" 237),(.int 8 0),(.int 2 0),(.int 0 0),(.int 0 0),(.int 3 0),(.ref 47),(.bool true),(.int 181 0),(.ref 48),.none,(.ref 49),(.ref 50),(.ref 51),(.int 240 0),(.int 8 0),(.str "/claim/cut.py" 241)]),#[]⟩)::
(nat_lit 53,⟨(.type "function"),none,(.func (Rw "__init__" "TooMany.__init__" (a_ (topC 3 0)) (aW (topC 3 0)) (az (topC 3 0)) .none .none .none (.str "pickalike.errors" 187) none (.ref 52) .none)),#[]⟩)::
(nat_lit 54,⟨(.type "tuple"),none,(.seq #[(.str "many" 243)] 0),#[]⟩)::
(nat_lit 55,⟨(.type "dict"),none,(.dict #[E P "__module__" 230 (.str "pickalike.errors" 187),E P "__firstlineno__" 234 (.int 6 233),E P "__init__" 242 (.ref 53),E P "__static_attributes__" 244 (.ref 54),E P "__doc__" 245 .none] 2),#[]⟩)::
(nat_lit 56,⟨(.type "type"),none,(.cls ⟨"TooMany",[(.ref 24)],[(.ref 56),(.ref 24),(.type "ValueError"),(.type "Exception"),(.type "BaseException"),(.type "object")],55,"TooMany",true,[],[],false,none,false⟩),#[(some (.ref 40)),none,(some (.str "TooMany" 223)),(some (.str "TooMany" 231)),(some (.builtin "ValueError.__new__")),(some (.bool true))]⟩)::
(nat_lit 59,⟨(.type "tuple"),none,(.seq #[(.ref 24)] 0),#[]⟩)::
(nat_lit 66,⟨(.type "tuple"),none,(.seq #[] 0),#[]⟩)::
(nat_lit 68,⟨(.type "tuple"),none,(.seq #[(.str "self" 263),(.str "told" 264)] 0),#[]⟩)::
(nat_lit 69,⟨(.type "tuple"),none,(.seq #[] 0),#[]⟩)::
(nat_lit 71,⟨(.type "code"),none,(.fields #[(.str "__init__" 260),(.str "NoCount.__init__" 261),(.str "/claim/cut.py" 262),(.int 13 0),(.int 2 0),(.int 0 0),(.int 0 0),(.int 3 0),(.ref 66),(.bool true),(.int 181 0),(.ref 67),.none,(.ref 68),(.ref 69),(.ref 70),(.int 265 0),(.int 13 0),(.str "/claim/cut.py" 266)]),#[]⟩)::
(nat_lit 72,⟨(.type "function"),none,(.func (Rw "__init__" "NoCount.__init__" (a_ (topC 4 0)) (aW (topC 4 0)) (az (topC 4 0)) .none .none .none (.str "pickalike.errors" 187) none (.ref 71) .none)),#[]⟩)::
(nat_lit 73,⟨(.type "tuple"),none,(.seq #[(.str "told" 268)] 0),#[]⟩)::
(nat_lit 74,⟨(.type "dict"),none,(.dict #[E P "__module__" 255 (.str "pickalike.errors" 187),E P "__firstlineno__" 259 (.int 11 258),E P "__init__" 267 (.ref 72),E P "__static_attributes__" 269 (.ref 73),E P "__doc__" 270 .none] 2),#[]⟩)::
(nat_lit 75,⟨(.type "type"),none,(.cls ⟨"NoCount",[(.ref 24)],[(.ref 75),(.ref 24),(.type "ValueError"),(.type "Exception"),(.type "BaseException"),(.type "object")],74,"NoCount",true,[],[],false,none,false⟩),#[(some (.ref 59)),none,(some (.str "NoCount" 248)),(some (.str "NoCount" 256)),(some (.builtin "ValueError.__new__")),(some (.bool true))]⟩)::
(nat_lit 78,⟨(.type "tuple"),none,(.seq #[] 0),#[]⟩)::
(nat_lit 80,⟨(.type "tuple"),none,(.seq #[(.str "thing" 278)] 0),#[]⟩)::
(nat_lit 81,⟨(.type "tuple"),none,(.seq #[] 0),#[]⟩)::
(nat_lit 83,⟨(.type "code"),none,(.fields #[(.str "is_whole" 275),(.str "is_whole" 276),(.str "/claim/cut.py" 277),(.int 17 0),(.int 1 0),(.int 0 0),(.int 0 0),(.int 3 0),(.ref 78),(.bool true),(.int 181 0),(.ref 79),.none,(.ref 80),(.ref 81),(.ref 82),(.int 279 0),(.int 17 0),(.str "/claim/cut.py" 280)]),#[]⟩)::
(nat_lit 84,⟨(.type "function"),none,(.func (Rw "is_whole" "is_whole" (a_ (top 6)) (aW (top 6)) (az (top 6)) .none .none .none (.str "pickalike.worlds" 273) none (.ref 83) .none)),#[]⟩)::
(nat_lit 85,⟨(.type "tuple"),none,(.seq #[] 0),#[]⟩)::
(nat_lit 88,⟨(.type "code"),none,(.fields #[(.str "tongue_of" 282),(.str "tongue_of" 283),(.str "/claim/cut.py" 284),(.int 19 0),(.int 1 0),(.int 0 0),(.int 0 0),(.int 3 0),(.ref 85),(.bool true),(.int 181 0),(.ref 86),.none,.none,.none,(.ref 87),(.int 285 0),(.int 19 0),(.str "/claim/cut.py" 286)]),#[]⟩)::
(nat_lit 89,⟨(.type "function"),none,(.func (Rw "tongue_of" "tongue_of" (a_ (top 7)) (aW (top 7)) (az (top 7)) .none .none .none (.str "pickalike.worlds" 273) none (.ref 88) .none)),#[]⟩)::
(nat_lit 90,⟨(.type "tuple"),none,(.seq #[] 0),#[]⟩)::
(nat_lit 92,⟨(.type "tuple"),none,(.seq #[(.str "one" 291),(.str "other" 292)] 0),#[]⟩)::
(nat_lit 93,⟨(.type "tuple"),none,(.seq #[] 0),#[]⟩)::
(nat_lit 95,⟨(.type "code"),none,(.fields #[(.str "need_tongue" 288),(.str "need_tongue" 289),(.str "/claim/cut.py" 290),(.int 22 0),(.int 2 0),(.int 0 0),(.int 0 0),(.int 3 0),(.ref 90),(.bool true),(.int 181 0),(.ref 91),.none,(.ref 92),(.ref 93),(.ref 94),(.int 293 0),(.int 22 0),(.str "/claim/cut.py" 294)]),#[]⟩)::
(nat_lit 96,⟨(.type "function"),none,(.func (Rw "need_tongue" "need_tongue" (a_ (top 8)) (aW (top 8)) (az (top 8)) .none .none .none (.str "pickalike.worlds" 273) none (.ref 95) .none)),#[]⟩)::
(nat_lit 97,⟨(.type "tuple"),none,(.seq #[] 0),#[]⟩)::
(nat_lit 99,⟨(.type "tuple"),none,(.seq #[(.str "worlds" 303),(.str "world" 304)] 0),#[]⟩)::
(nat_lit 100,⟨(.type "tuple"),none,(.seq #[] 0),#[]⟩)::
(nat_lit 102,⟨(.type "code"),none,(.fields #[(.str "need_few_points" 300),(.str "need_few_points" 301),(.str "/claim/cut.py" 302),(.int 27 0),(.int 1 0),(.int 0 0),(.int 0 0),(.int 3 0),(.ref 97),(.bool true),(.int 181 0),(.ref 98),.none,(.ref 99),(.ref 100),(.ref 101),(.int 305 0),(.int 27 0),(.str "/claim/cut.py" 306)]),#[]⟩)::
(nat_lit 103,⟨(.type "function"),none,(.func (Rw "need_few_points" "need_few_points" (a_ (top 11)) (aW (top 11)) (az (top 11)) .none .none .none (.str "pickalike.checks" 296) none (.ref 102) .none)),#[]⟩)::
(nat_lit 104,⟨(.type "tuple"),none,(.seq #[] 0),#[]⟩)::
(nat_lit 106,⟨(.type "tuple"),none,(.seq #[(.str "one" 311),(.str "other" 312)] 0),#[]⟩)::
(nat_lit 107,⟨(.type "tuple"),none,(.seq #[] 0),#[]⟩)::
(nat_lit 109,⟨(.type "code"),none,(.fields #[(.str "need_small" 308),(.str "need_small" 309),(.str "/claim/cut.py" 310),(.int 31 0),(.int 2 0),(.int 0 0),(.int 0 0),(.int 3 0),(.ref 104),(.bool true),(.int 181 0),(.ref 105),.none,(.ref 106),(.ref 107),(.ref 108),(.int 313 0),(.int 31 0),(.str "/claim/cut.py" 314)]),#[]⟩)::
(nat_lit 110,⟨(.type "function"),none,(.func (Rw "need_small" "need_small" (a_ (top 12)) (aW (top 12)) (az (top 12)) .none .none .none (.str "pickalike.checks" 296) none (.ref 109) .none)),#[]⟩)::
(nat_lit 111,⟨(.type "tuple"),none,(.seq #[] 0),#[]⟩)::
(nat_lit 113,⟨(.type "tuple"),none,(.seq #[(.str "told" 319),(.str "least" 320),(.str "most" 321)] 0),#[]⟩)::
(nat_lit 114,⟨(.type "tuple"),none,(.seq #[] 0),#[]⟩)::
(nat_lit 116,⟨(.type "code"),none,(.fields #[(.str "need_count" 316),(.str "need_count" 317),(.str "/claim/cut.py" 318),(.int 34 0),(.int 3 0),(.int 0 0),(.int 0 0),(.int 3 0),(.ref 111),(.bool true),(.int 181 0),(.ref 112),.none,(.ref 113),(.ref 114),(.ref 115),(.int 322 0),(.int 34 0),(.str "/claim/cut.py" 323)]),#[]⟩)::
(nat_lit 117,⟨(.type "function"),none,(.func (Rw "need_count" "need_count" (a_ (top 13)) (aW (top 13)) (az (top 13)) .none .none .none (.str "pickalike.checks" 296) none (.ref 116) .none)),#[]⟩)::
(nat_lit 118,⟨(.type "tuple"),none,(.seq #[] 0),#[]⟩)::
(nat_lit 120,⟨(.type "tuple"),none,(.seq #[(.str "pairs" 330)] 0),#[]⟩)::
(nat_lit 121,⟨(.type "tuple"),none,(.seq #[] 0),#[]⟩)::
(nat_lit 123,⟨(.type "code"),none,(.fields #[(.str "rising" 327),(.str "rising" 328),(.str "/claim/cut.py" 329),(.int 38 0),(.int 1 0),(.int 0 0),(.int 0 0),(.int 3 0),(.ref 118),(.bool true),(.int 181 0),(.ref 119),.none,(.ref 120),(.ref 121),(.ref 122),(.int 331 0),(.int 38 0),(.str "/claim/cut.py" 332)]),#[]⟩)::
(nat_lit 124,⟨(.type "function"),none,(.func (Rw "rising" "rising" (a_ (top 15)) (aW (top 15)) (az (top 15)) .none .none .none (.str "pickalike.pairings" 325) none (.ref 123) .none)),#[]⟩)::
(nat_lit 125,⟨(.type "tuple"),none,(.seq #[] 0),#[]⟩)::
(nat_lit 128,⟨(.type "code"),none,(.fields #[(.str "view" 334),(.str "view" 335),(.str "/claim/cut.py" 336),(.int 42 0),(.int 3 0),(.int 0 0),(.int 0 0),(.int 3 0),(.ref 125),(.bool true),(.int 181 0),(.ref 126),.none,.none,.none,(.ref 127),(.int 337 0),(.int 42 0),(.str "/claim/cut.py" 338)]),#[]⟩)::
(nat_lit 129,⟨(.type "function"),none,(.func (Rw "view" "view" (a_ (top 16)) (aW (top 16)) (az (top 16)) .none .none .none (.str "pickalike.pairings" 325) none (.ref 128) .none)),#[]⟩)::
(nat_lit 130,⟨(.type "tuple"),none,(.seq #[] 0),#[]⟩)::
(nat_lit 133,⟨(.type "code"),none,(.fields #[(.str "views" 340),(.str "views" 341),(.str "/claim/cut.py" 342),(.int 47 0),(.int 1 0),(.int 0 0),(.int 0 0),(.int 3 0),(.ref 130),(.bool true),(.int 181 0),(.ref 131),.none,.none,.none,(.ref 132),(.int 343 0),(.int 47 0),(.str "/claim/cut.py" 344)]),#[]⟩)::
(nat_lit 134,⟨(.type "function"),none,(.func (Rw "views" "views" (a_ (top 17)) (aW (top 17)) (az (top 17)) .none .none .none (.str "pickalike.pairings" 325) none (.ref 133) .none)),#[]⟩)::
(nat_lit 135,⟨(.type "tuple"),none,(.seq #[] 0),#[]⟩)::
(nat_lit 137,⟨(.type "tuple"),none,(.seq #[(.str "first" 349),(.str "second" 350),(.str "pair" 351),(.str "again" 352)] 0),#[]⟩)::
(nat_lit 138,⟨(.type "tuple"),none,(.seq #[] 0),#[]⟩)::
(nat_lit 140,⟨(.type "code"),none,(.fields #[(.str "agree" 346),(.str "agree" 347),(.str "/claim/cut.py" 348),(.int 49 0),(.int 4 0),(.int 0 0),(.int 0 0),(.int 3 0),(.ref 135),(.bool true),(.int 181 0),(.ref 136),.none,(.ref 137),(.ref 138),(.ref 139),(.int 353 0),(.int 49 0),(.str "/claim/cut.py" 354)]),#[]⟩)::
(nat_lit 141,⟨(.type "function"),none,(.func (Rw "agree" "agree" (a_ (top 18)) (aW (top 18)) (az (top 18)) .none .none .none (.str "pickalike.pairings" 325) none (.ref 140) .none)),#[]⟩)::
(nat_lit 142,⟨(.type "tuple"),none,(.seq #[] 0),#[]⟩)::
(nat_lit 144,⟨(.type "tuple"),none,(.seq #[(.str "first" 359),(.str "second" 360),(.str "pairing" 361),(.str "pair" 362),(.str "again" 363)] 0),#[]⟩)::
(nat_lit 145,⟨(.type "tuple"),none,(.seq #[] 0),#[]⟩)::
(nat_lit 147,⟨(.type "code"),none,(.fields #[(.str "goes_behind" 356),(.str "goes_behind" 357),(.str "/claim/cut.py" 358),(.int 51 0),(.int 4 0),(.int 0 0),(.int 0 0),(.int 3 0),(.ref 142),(.bool true),(.int 181 0),(.ref 143),.none,(.ref 144),(.ref 145),(.ref 146),(.int 364 0),(.int 51 0),(.str "/claim/cut.py" 365)]),#[]⟩)::
(nat_lit 148,⟨(.type "function"),none,(.func (Rw "goes_behind" "goes_behind" (a_ (top 19)) (aW (top 19)) (az (top 19)) .none .none .none (.str "pickalike.pairings" 325) none (.ref 147) .none)),#[]⟩)::
(nat_lit 149,⟨(.type "tuple"),none,(.seq #[] 0),#[]⟩)::
(nat_lit 152,⟨(.type "code"),none,(.fields #[(.str "pairings" 367),(.str "pairings" 368),(.str "/claim/cut.py" 369),(.int 58 0),(.int 3 0),(.int 0 0),(.int 0 0),(.int 3 0),(.ref 149),(.bool true),(.int 181 0),(.ref 150),.none,.none,.none,(.ref 151),(.int 370 0),(.int 58 0),(.str "/claim/cut.py" 371)]),#[]⟩)::
(nat_lit 153,⟨(.type "function"),none,(.func (Rw "pairings" "pairings" (a_ (top 20)) (aW (top 20)) (az (top 20)) .none .none .none (.str "pickalike.pairings" 325) none (.ref 152) .none)),#[]⟩)::
(nat_lit 154,⟨(.type "tuple"),none,(.seq #[] 0),#[]⟩)::
(nat_lit 156,⟨(.type "tuple"),none,(.seq #[(.str "pairing" 380),(.str "pair" 381)] 0),#[]⟩)::
(nat_lit 157,⟨(.type "tuple"),none,(.seq #[] 0),#[]⟩)::
(nat_lit 159,⟨(.type "code"),none,(.fields #[(.str "added" 377),(.str "added" 378),(.str "/claim/cut.py" 379),(.int 72 0),(.int 2 0),(.int 0 0),(.int 0 0),(.int 3 0),(.ref 154),(.bool true),(.int 181 0),(.ref 155),.none,(.ref 156),(.ref 157),(.ref 158),(.int 382 0),(.int 72 0),(.str "/claim/cut.py" 383)]),#[]⟩)::
(nat_lit 160,⟨(.type "function"),none,(.func (Rw "added" "added" (a_ (top 23)) (aW (top 23)) (az (top 23)) .none .none .none (.str "pickalike.layers" 373) none (.ref 159) .none)),#[]⟩)::
(nat_lit 161,⟨(.type "tuple"),none,(.seq #[] 0),#[]⟩)::
(nat_lit 164,⟨(.type "code"),none,(.fields #[(.str "pairs_with" 385),(.str "pairs_with" 386),(.str "/claim/cut.py" 387),(.int 74 0),(.int 4 0),(.int 0 0),(.int 0 0),(.int 3 0),(.ref 161),(.bool true),(.int 181 0),(.ref 162),.none,.none,.none,(.ref 163),(.int 388 0),(.int 74 0),(.str "/claim/cut.py" 389)]),#[]⟩)::
(nat_lit 165,⟨(.type "function"),none,(.func (Rw "pairs_with" "pairs_with" (a_ (top 24)) (aW (top 24)) (az (top 24)) .none .none .none (.str "pickalike.layers" 373) none (.ref 164) .none)),#[]⟩)::
(nat_lit 166,⟨(.type "tuple"),none,(.seq #[] 0),#[]⟩)::
(nat_lit 169,⟨(.type "code"),none,(.fields #[(.str "picks_of" 391),(.str "picks_of" 392),(.str "/claim/cut.py" 393),(.int 78 0),(.int 2 0),(.int 0 0),(.int 0 0),(.int 3 0),(.ref 166),(.bool true),(.int 181 0),(.ref 167),.none,.none,.none,(.ref 168),(.int 394 0),(.int 78 0),(.str "/claim/cut.py" 395)]),#[]⟩)::
(nat_lit 170,⟨(.type "function"),none,(.func (Rw "picks_of" "picks_of" (a_ (top 25)) (aW (top 25)) (az (top 25)) .none .none .none (.str "pickalike.layers" 373) none (.ref 169) .none)),#[]⟩)::
(nat_lit 171,⟨(.type "tuple"),none,(.seq #[] 0),#[]⟩)::
(nat_lit 174,⟨(.type "code"),none,(.fields #[(.str "outcomes" 397),(.str "outcomes" 398),(.str "/claim/cut.py" 399),(.int 80 0),(.int 4 0),(.int 0 0),(.int 0 0),(.int 3 0),(.ref 171),(.bool true),(.int 181 0),(.ref 172),.none,.none,.none,(.ref 173),(.int 400 0),(.int 80 0),(.str "/claim/cut.py" 401)]),#[]⟩)::
(nat_lit 175,⟨(.type "function"),none,(.func (Rw "outcomes" "outcomes" (a_ (top 26)) (aW (top 26)) (az (top 26)) .none .none .none (.str "pickalike.layers" 373) none (.ref 174) .none)),#[]⟩)::
(nat_lit 176,⟨(.type "tuple"),none,(.seq #[] 0),#[]⟩)::
(nat_lit 179,⟨(.type "code"),none,(.fields #[(.str "answered_still" 403),(.str "answered_still" 404),(.str "/claim/cut.py" 405),(.int 83 0),(.int 2 0),(.int 0 0),(.int 0 0),(.int 3 0),(.ref 176),(.bool true),(.int 181 0),(.ref 177),.none,.none,.none,(.ref 178),(.int 406 0),(.int 83 0),(.str "/claim/cut.py" 407)]),#[]⟩)::
(nat_lit 180,⟨(.type "function"),none,(.func (Rw "answered_still" "answered_still" (a_ (top 27)) (aW (top 27)) (az (top 27)) .none .none .none (.str "pickalike.layers" 373) none (.ref 179) .none)),#[]⟩)::
(nat_lit 181,⟨(.type "tuple"),none,(.seq #[] 0),#[]⟩)::
(nat_lit 184,⟨(.type "code"),none,(.fields #[(.str "peeled" 409),(.str "peeled" 410),(.str "/claim/cut.py" 411),(.int 85 0),(.int 2 0),(.int 0 0),(.int 0 0),(.int 3 0),(.ref 181),(.bool true),(.int 181 0),(.ref 182),.none,.none,.none,(.ref 183),(.int 412 0),(.int 85 0),(.str "/claim/cut.py" 413)]),#[]⟩)::
(nat_lit 185,⟨(.type "function"),none,(.func (Rw "peeled" "peeled" (a_ (top 28)) (aW (top 28)) (az (top 28)) .none .none .none (.str "pickalike.layers" 373) none (.ref 184) .none)),#[]⟩)::
(nat_lit 186,⟨(.type "tuple"),none,(.seq #[] 0),#[]⟩)::
(nat_lit 189,⟨(.type "code"),none,(.fields #[(.str "pairings_with" 415),(.str "pairings_with" 416),(.str "/claim/cut.py" 417),(.int 95 0),(.int 3 0),(.int 0 0),(.int 0 0),(.int 3 0),(.ref 186),(.bool true),(.int 181 0),(.ref 187),.none,.none,.none,(.ref 188),(.int 418 0),(.int 95 0),(.str "/claim/cut.py" 419)]),#[]⟩)::
(nat_lit 190,⟨(.type "function"),none,(.func (Rw "pairings_with" "pairings_with" (a_ (top 29)) (aW (top 29)) (az (top 29)) .none .none .none (.str "pickalike.layers" 373) none (.ref 189) .none)),#[]⟩)::
(nat_lit 191,⟨(.type "tuple"),none,(.seq #[] 0),#[]⟩)::
(nat_lit 194,⟨(.type "code"),none,(.fields #[(.str "parting_depths" 421),(.str "parting_depths" 422),(.str "/claim/cut.py" 423),(.int 97 0),(.int 3 0),(.int 0 0),(.int 0 0),(.int 3 0),(.ref 191),(.bool true),(.int 181 0),(.ref 192),.none,.none,.none,(.ref 193),(.int 424 0),(.int 97 0),(.str "/claim/cut.py" 425)]),#[]⟩)::
(nat_lit 195,⟨(.type "function"),none,(.func (Rw "parting_depths" "parting_depths" (a_ (top 30)) (aW (top 30)) (az (top 30)) .none .none .none (.str "pickalike.layers" 373) none (.ref 194) .none)),#[]⟩)::
(nat_lit 196,⟨(.type "tuple"),none,(.seq #[] 0),#[]⟩)::
(nat_lit 198,⟨(.type "tuple"),none,(.seq #[(.str "depths" 430),(.str "pairing" 431),(.str "depth" 432)] 0),#[]⟩)::
(nat_lit 199,⟨(.type "tuple"),none,(.seq #[] 0),#[]⟩)::
(nat_lit 201,⟨(.type "code"),none,(.fields #[(.str "in_layer" 427),(.str "in_layer" 428),(.str "/claim/cut.py" 429),(.int 101 0),(.int 3 0),(.int 0 0),(.int 0 0),(.int 3 0),(.ref 196),(.bool true),(.int 181 0),(.ref 197),.none,(.ref 198),(.ref 199),(.ref 200),(.int 433 0),(.int 101 0),(.str "/claim/cut.py" 434)]),#[]⟩)::
(nat_lit 202,⟨(.type "function"),none,(.func (Rw "in_layer" "in_layer" (a_ (top 31)) (aW (top 31)) (az (top 31)) .none .none .none (.str "pickalike.layers" 373) none (.ref 201) .none)),#[]⟩)::
(nat_lit 203,⟨(.type "tuple"),none,(.seq #[] 0),#[]⟩)::
(nat_lit 206,⟨(.type "code"),none,(.fields #[(.str "layers_of" 436),(.str "layers_of" 437),(.str "/claim/cut.py" 438),(.int 103 0),(.int 2 0),(.int 0 0),(.int 0 0),(.int 3 0),(.ref 203),(.bool true),(.int 181 0),(.ref 204),.none,.none,.none,(.ref 205),(.int 439 0),(.int 103 0),(.str "/claim/cut.py" 440)]),#[]⟩)::
(nat_lit 207,⟨(.type "function"),none,(.func (Rw "layers_of" "layers_of" (a_ (top 32)) (aW (top 32)) (az (top 32)) .none .none .none (.str "pickalike.layers" 373) none (.ref 206) .none)),#[]⟩)::
(nat_lit 208,⟨(.type "tuple"),none,(.seq #[] 0),#[]⟩)::
(nat_lit 210,⟨(.type "tuple"),none,(.seq #[(.str "one" 445),(.str "other" 446),(.str "depth" 447)] 0),#[]⟩)::
(nat_lit 211,⟨(.type "tuple"),none,(.seq #[] 0),#[]⟩)::
(nat_lit 213,⟨(.type "code"),none,(.fields #[(.str "layers" 442),(.str "layers" 443),(.str "/claim/cut.py" 444),(.int 105 0),(.int 3 0),(.int 0 0),(.int 0 0),(.int 3 0),(.ref 208),(.bool true),(.int 181 0),(.ref 209),.none,(.ref 210),(.ref 211),(.ref 212),(.int 448 0),(.int 105 0),(.str "/claim/cut.py" 449)]),#[]⟩)::
(nat_lit 214,⟨(.type "function"),none,(.func (Rw "layers" "layers" (a_ (top 33)) (aW (top 33)) (az (top 33)) .none .none .none (.str "pickalike.layers" 373) none (.ref 213) .none)),#[]⟩)::
(nat_lit 215,⟨(.type "tuple"),none,(.seq #[] 0),#[]⟩)::
(nat_lit 217,⟨(.type "tuple"),none,(.seq #[(.str "things" 456),(.str "told" 457),(.str "thing" 458)] 0),#[]⟩)::
(nat_lit 218,⟨(.type "tuple"),none,(.seq #[] 0),#[]⟩)::
(nat_lit 220,⟨(.type "code"),none,(.fields #[(.str "each_once" 453),(.str "each_once" 454),(.str "/claim/cut.py" 455),(.int 110 0),(.int 1 0),(.int 0 0),(.int 0 0),(.int 3 0),(.ref 215),(.bool true),(.int 181 0),(.ref 216),.none,(.ref 217),(.ref 218),(.ref 219),(.int 459 0),(.int 110 0),(.str "/claim/cut.py" 460)]),#[]⟩)::
(nat_lit 221,⟨(.type "function"),none,(.func (Rw "each_once" "each_once" (a_ (top 35)) (aW (top 35)) (az (top 35)) .none .none .none (.str "pickalike.parts" 451) none (.ref 220) .none)),#[]⟩)::
(nat_lit 222,⟨(.type "tuple"),none,(.seq #[] 0),#[]⟩)::
(nat_lit 225,⟨(.type "code"),none,(.fields #[(.str "classes" 464),(.str "classes" 465),(.str "/claim/cut.py" 466),(.int 117 0),(.int 2 0),(.int 0 0),(.int 0 0),(.int 3 0),(.ref 222),(.bool true),(.int 181 0),(.ref 223),.none,.none,.none,(.ref 224),(.int 467 0),(.int 117 0),(.str "/claim/cut.py" 468)]),#[]⟩)::
(nat_lit 226,⟨(.type "function"),none,(.func (Rw "classes" "classes" (a_ (top 37)) (aW (top 37)) (az (top 37)) .none .none .none (.str "pickalike.points" 462) none (.ref 225) .none)),#[]⟩)::
(nat_lit 227,⟨(.type "tuple"),none,(.seq #[] 0),#[]⟩)::
(nat_lit 229,⟨(.type "tuple"),none,(.seq #[(.str "_law_script" 475),(.str "_law_k" 476)] 0),#[]⟩)::
(nat_lit 230,⟨(.type "tuple"),none,(.seq #[] 0),#[]⟩)::
(nat_lit 232,⟨(.type "code"),none,(.fields #[(.str "_law_cell" 472),(.str "_law_cell" 473),(.str "/claim/cut.py" 474),(.int 124 0),(.int 2 0),(.int 0 0),(.int 0 0),(.int 3 0),(.ref 227),(.bool true),(.int 181 0),(.ref 228),.none,(.ref 229),(.ref 230),(.ref 231),(.int 477 0),(.int 124 0),(.str "/claim/cut.py" 478)]),#[]⟩)::
(nat_lit 233,⟨(.type "function"),none,(.func (Rw "_law_cell" "_law_cell" (a_ (top 39)) (aW (top 39)) (az (top 39)) .none .none .none (.str "law_pickalike_k81_classes_of_points" 470) none (.ref 232) .none)),#[]⟩)::
(nat_lit 234,⟨(.type "tuple"),none,(.seq #[] 0),#[]⟩)::
(nat_lit 237,⟨(.type "code"),none,(.fields #[(.str "_law_names" 480),(.str "_law_names" 481),(.str "/claim/cut.py" 482),(.int 128 0),(.int 2 0),(.int 0 0),(.int 0 0),(.int 3 0),(.ref 234),(.bool true),(.int 181 0),(.ref 235),.none,.none,.none,(.ref 236),(.int 483 0),(.int 128 0),(.str "/claim/cut.py" 484)]),#[]⟩)::
(nat_lit 238,⟨(.type "function"),none,(.func (Rw "_law_names" "_law_names" (a_ (top 40)) (aW (top 40)) (az (top 40)) .none .none .none (.str "law_pickalike_k81_classes_of_points" 470) none (.ref 237) .none)),#[]⟩)::
(nat_lit 239,⟨(.type "tuple"),none,(.seq #[] 0),#[]⟩)::
(nat_lit 241,⟨(.type "tuple"),none,(.seq #[(.str "_law_bits" 489),(.str "_law_many" 490),(.str "_law_found" 491),(.str "_law_point" 492)] 0),#[]⟩)::
(nat_lit 242,⟨(.type "tuple"),none,(.seq #[] 0),#[]⟩)::
(nat_lit 244,⟨(.type "code"),none,(.fields #[(.str "_law_some" 486),(.str "_law_some" 487),(.str "/claim/cut.py" 488),(.int 145 0),(.int 2 0),(.int 0 0),(.int 0 0),(.int 3 0),(.ref 239),(.bool true),(.int 181 0),(.ref 240),.none,(.ref 241),(.ref 242),(.ref 243),(.int 493 0),(.int 145 0),(.str "/claim/cut.py" 494)]),#[]⟩)::
(nat_lit 245,⟨(.type "function"),none,(.func (Rw "_law_some" "_law_some" (a_ (top 41)) (aW (top 41)) (az (top 41)) .none .none .none (.str "law_pickalike_k81_classes_of_points" 470) none (.ref 244) .none)),#[]⟩)::
(nat_lit 246,⟨(.type "tuple"),none,(.seq #[] 0),#[]⟩)::
(nat_lit 248,⟨(.type "tuple"),none,(.seq #[(.str "_law_bits" 499),(.str "_law_many" 500),(.str "_law_found" 501),(.str "_law_one" 502),(.str "_law_other" 503)] 0),#[]⟩)::
(nat_lit 249,⟨(.type "tuple"),none,(.seq #[] 0),#[]⟩)::
(nat_lit 251,⟨(.type "code"),none,(.fields #[(.str "_law_pairs" 496),(.str "_law_pairs" 497),(.str "/claim/cut.py" 498),(.int 152 0),(.int 2 0),(.int 0 0),(.int 0 0),(.int 3 0),(.ref 246),(.bool true),(.int 181 0),(.ref 247),.none,(.ref 248),(.ref 249),(.ref 250),(.int 504 0),(.int 152 0),(.str "/claim/cut.py" 505)]),#[]⟩)::
(nat_lit 252,⟨(.type "function"),none,(.func (Rw "_law_pairs" "_law_pairs" (a_ (top 42)) (aW (top 42)) (az (top 42)) .none .none .none (.str "law_pickalike_k81_classes_of_points" 470) none (.ref 251) .none)),#[]⟩)::
(nat_lit 253,⟨(.type "tuple"),none,(.seq #[] 0),#[]⟩)::
(nat_lit 255,⟨(.type "tuple"),none,(.seq #[(.str "_law_cell_here" 510),(.str "_law_names_here" 511),(.str "_law_number" 512),(.str "_law_first" 513)] 0),#[]⟩)::
(nat_lit 256,⟨(.type "tuple"),none,(.seq #[] 0),#[]⟩)::
(nat_lit 258,⟨(.type "code"),none,(.fields #[(.str "_law_tongue" 507),(.str "_law_tongue" 508),(.str "/claim/cut.py" 509),(.int 160 0),(.int 1 0),(.int 0 0),(.int 0 0),(.int 3 0),(.ref 253),(.bool true),(.int 181 0),(.ref 254),.none,(.ref 255),(.ref 256),(.ref 257),(.int 514 0),(.int 160 0),(.str "/claim/cut.py" 515)]),#[]⟩)::
(nat_lit 259,⟨(.type "function"),none,(.func (Rw "_law_tongue" "_law_tongue" (a_ (top 43)) (aW (top 43)) (az (top 43)) .none .none .none (.str "law_pickalike_k81_classes_of_points" 470) none (.ref 258) .none)),#[]⟩)::
(nat_lit 260,⟨(.type "tuple"),none,(.seq #[] 0),#[]⟩)::
(nat_lit 262,⟨(.type "tuple"),none,(.seq #[(.str "_law_script" 520),(.str "_law_at" 521),(.str "_law_many" 522),(.str "_law_tongue_here" 523),(.str "_law_marks" 524),(.str "_law_k" 525),(.str "_law_arrows" 526),(.str "_law_bits" 527)] 0),#[]⟩)::
(nat_lit 263,⟨(.type "tuple"),none,(.seq #[] 0),#[]⟩)::
(nat_lit 265,⟨(.type "code"),none,(.fields #[(.str "_law_world" 517),(.str "_law_world" 518),(.str "/claim/cut.py" 519),(.int 165 0),(.int 4 0),(.int 0 0),(.int 0 0),(.int 3 0),(.ref 260),(.bool true),(.int 181 0),(.ref 261),.none,(.ref 262),(.ref 263),(.ref 264),(.int 528 0),(.int 165 0),(.str "/claim/cut.py" 529)]),#[]⟩)::
(nat_lit 266,⟨(.type "function"),none,(.func (Rw "_law_world" "_law_world" (a_ (top 44)) (aW (top 44)) (az (top 44)) .none .none .none (.str "law_pickalike_k81_classes_of_points" 470) none (.ref 265) .none)),#[]⟩)::
(nat_lit 267,⟨(.type "tuple"),none,(.seq #[] 0),#[]⟩)::
(nat_lit 270,⟨(.type "code"),none,(.fields #[(.str "_law_even" 531),(.str "_law_even" 532),(.str "/claim/cut.py" 533),(.int 174 0),(.int 2 0),(.int 0 0),(.int 0 0),(.int 3 0),(.ref 267),(.bool true),(.int 181 0),(.ref 268),.none,.none,.none,(.ref 269),(.int 534 0),(.int 174 0),(.str "/claim/cut.py" 535)]),#[]⟩)::
(nat_lit 271,⟨(.type "function"),none,(.func (Rw "_law_even" "_law_even" (a_ (top 45)) (aW (top 45)) (az (top 45)) .none .none .none (.str "law_pickalike_k81_classes_of_points" 470) none (.ref 270) .none)),#[]⟩)::
(nat_lit 272,⟨(.type "tuple"),none,(.seq #[] 0),#[]⟩)::
(nat_lit 275,⟨(.type "code"),none,(.fields #[(.str "_law_shaped" 537),(.str "_law_shaped" 538),(.str "/claim/cut.py" 539),(.int 184 0),(.int 4 0),(.int 0 0),(.int 0 0),(.int 3 0),(.ref 272),(.bool true),(.int 181 0),(.ref 273),.none,.none,.none,(.ref 274),(.int 540 0),(.int 184 0),(.str "/claim/cut.py" 541)]),#[]⟩)::
(nat_lit 276,⟨(.type "function"),none,(.func (Rw "_law_shaped" "_law_shaped" (a_ (top 46)) (aW (top 46)) (az (top 46)) .none .none .none (.str "law_pickalike_k81_classes_of_points" 470) none (.ref 275) .none)),#[]⟩)::
(nat_lit 277,⟨(.type "tuple"),none,(.seq #[] 0),#[]⟩)::
(nat_lit 280,⟨(.type "code"),none,(.fields #[(.str "_law_same" 543),(.str "_law_same" 544),(.str "/claim/cut.py" 545),(.int 197 0),(.int 2 0),(.int 0 0),(.int 0 0),(.int 3 0),(.ref 277),(.bool true),(.int 181 0),(.ref 278),.none,.none,.none,(.ref 279),(.int 546 0),(.int 197 0),(.str "/claim/cut.py" 547)]),#[]⟩)::
(nat_lit 281,⟨(.type "function"),none,(.func (Rw "_law_same" "_law_same" (a_ (top 47)) (aW (top 47)) (az (top 47)) .none .none .none (.str "law_pickalike_k81_classes_of_points" 470) none (.ref 280) .none)),#[]⟩)::
(nat_lit 282,⟨(.type "tuple"),none,(.seq #[] 0),#[]⟩)::
(nat_lit 284,⟨(.type "tuple"),none,(.seq #[(.str "_law_some_here" 552),(.str "_law_point" 553),(.str "_law_k" 554)] 0),#[]⟩)::
(nat_lit 285,⟨(.type "tuple"),none,(.seq #[] 0),#[]⟩)::
(nat_lit 287,⟨(.type "code"),none,(.fields #[(.str "_law_home" 549),(.str "_law_home" 550),(.str "/claim/cut.py" 551),(.int 205 0),(.int 2 0),(.int 0 0),(.int 0 0),(.int 3 0),(.ref 282),(.bool true),(.int 181 0),(.ref 283),.none,(.ref 284),(.ref 285),(.ref 286),(.int 555 0),(.int 205 0),(.str "/claim/cut.py" 556)]),#[]⟩)::
(nat_lit 288,⟨(.type "function"),none,(.func (Rw "_law_home" "_law_home" (a_ (top 48)) (aW (top 48)) (az (top 48)) .none .none .none (.str "law_pickalike_k81_classes_of_points" 470) none (.ref 287) .none)),#[]⟩)::
(nat_lit 289,⟨(.type "tuple"),none,(.seq #[] 0),#[]⟩)::
(nat_lit 292,⟨(.type "code"),none,(.fields #[(.str "_law_parted" 558),(.str "_law_parted" 559),(.str "/claim/cut.py" 560),(.int 210 0),(.int 2 0),(.int 0 0),(.int 0 0),(.int 3 0),(.ref 289),(.bool true),(.int 181 0),(.ref 290),.none,.none,.none,(.ref 291),(.int 561 0),(.int 210 0),(.str "/claim/cut.py" 562)]),#[]⟩)::
(nat_lit 293,⟨(.type "function"),none,(.func (Rw "_law_parted" "_law_parted" (a_ (top 49)) (aW (top 49)) (az (top 49)) .none .none .none (.str "law_pickalike_k81_classes_of_points" 470) none (.ref 292) .none)),#[]⟩)::
(nat_lit 294,⟨(.type "tuple"),none,(.seq #[] 0),#[]⟩)::
(nat_lit 297,⟨(.type "code"),none,(.fields #[(.str "law" 564),(.str "law" 565),(.str "/claim/cut.py" 566),(.int 222 0),(.int 1 0),(.int 0 0),(.int 0 0),(.int 3 0),(.ref 294),(.bool true),(.int 181 0),(.ref 295),.none,.none,.none,(.ref 296),(.int 567 0),(.int 222 0),(.str "/claim/cut.py" 568)]),#[]⟩)::
(nat_lit 298,⟨(.type "function"),none,(.func (Rw "law" "law" (a_ (top 50)) (aW (top 50)) (az (top 50)) .none .none .none (.str "law_pickalike_k81_classes_of_points" 470) none (.ref 297) .none)),#[]⟩)::[]
noncomputable def VW:Rz:={PySem.Challenge.pw_pickalike_k81_classes_of_points with main:={PySem.Challenge.pw_pickalike_k81_classes_of_points.main with body:=[top 1,top 2,top 3,top 4,top 6,top 7,top 8,top 10,top 11,top 12,top 13,top 15,top 16,top 17,top 18,top 19,top 20,top 22,top 23,top 24,top 25,top 26,top 27,top 28,top 29,top 30,top 31,top 32,top 33,top 35,top 37,top 39,top 40,top 41,top 42,top 43,top 44,top 45,top 46,top 47,top 48,top 49,top 50]}}
noncomputable def HK:W.Hook:=W.kHook KF [2,3,15,22,23,24,25,28,35,36,37,40,47,49,50,52,53,54,55,56,59,66,68,69,71,72,73,74,75,78,80,81,83,84,85,88,89,90,92,93,95,96,97,99,100,102,103,104,106,107,109,110,111,113,114,116,117,118,120,121,123,124,125,128,129,130,133,134,135,137,138,140,141,142,144,145,147,148,149,152,153,154,156,157,159,160,161,164,165,166,169,170,171,174,175,176,179,180,181,184,185,186,189,190,191,194,195,196,198,199,201,202,203,206,207,208,210,211,213,214,215,217,218,220,221,222,225,226,227,229,230,232,233,234,237,238,239,241,242,244,245,246,248,249,251,252,253,255,256,258,259,260,262,263,265,266,267,270,271,272,275,276,277,280,281,282,284,285,287,288,289,292,293,294,297,298] (λ_=>by kernel_rfl)
def XT:Q_->Bool:=λs=>W.xlAt VW [] s && W.recOk (abm PySem.Challenge.rw_pickalike_k81_classes_of_points.row.toRowW) s
theorem look:aaw PySem.Challenge.rw_pickalike_k81_classes_of_points=true:=by decide +kernel
theorem left:W.LeftO PySem.Challenge.rw_pickalike_k81_classes_of_points.row.prog VW [] XT (abZ HK) (ab0 HK) 4194:=λw=>by kernel_rfl
end K81
namespace DX
open PySem PySem.Spec
open Sem (wp)
end DX
namespace DX
open PySem PySem.Spec
end DX
namespace DX
open PySem PySem.Spec PyProof.Rows L2
def M8 (a C:Rq) (dx:Option Rq):SM->Prop:=λh=>∃oe vs,h.get? a=some oe/\oe.cls=.ref C/\oe.dict=dx/\oe.data=.fields vs
abbrev XO (a C:Rq) (dx:Option Rq):HO:=.ext (M8 a C dx)
end DX
namespace DX
open PySem PySem.Spec PyProof.Rows
open Sem (wp)
section
variable {prog:Rz}{w:RZ}{A:R4}{E:Q8->Q_->Prop}{s:Q_}{K:Q7}{x C:Rq}{ox:Obj}{od:Option Obj}{name:Str}
theorem FI {M:abT}{nameV:Q8}{Q:Unit->Q_->Prop}(X:K.In s.heap) (I:U9 s.heap x ox C od) (hm:UX K C (.type "BaseException")=some true) (hq:Q () s):RA M A (Xq "BaseException.__getattribute__" ⟨[.ref x,nameV],[]⟩) Q E s:=by
 have hk:builtinKind "BaseException.__getattribute__"=some .slot:=by decide +kernel
 have PJ:splitId "BaseException.__getattribute__"=some ("BaseException","__getattribute__"):=by decide +kernel
 have ha:=F.args_bexc_ga (.ref x) nameV
 have L1:=I.type (M:=M)
 have L2:=W.looks_mroIn (M:=M) X hm
 simp only [Xq,hk,PJ]
 have L:W.Looks M s.heap (aax (.ref x) (.type "BaseException")) true:=L1.andThen L2
 refine Q6 (L.here ?_)
 obtain ⟨h,g,d,t,os⟩:=s
 repeat (any_goals (first | assumption | wp_step))
theorem entry_class {tk:Tok}{Q:Fin->Q_->Prop}(X:K.In s.heap) (I:U9 s.heap x ox C od) (hf:Wk K C od "__class__"=some (.bind (.builtin "getset_descriptor.__get__") (.builtin "object.__class__"))) (hm:UX K C (.type "object")=some true) (h:Q (.done (.ret (.ref C))) s):
  RA (RG prog w) A (U3.«object.__getattribute__» ⟨[.ref x,.str "__class__" tk],[]⟩) Q E s:=by
 obtain ⟨hh,g,d,t,os⟩:=s
 have L0:=I.type (M:=RG prog w)
 have L1:=W.looks_find (M:=RG prog w) X I hf
 refine Q6 (Q9 (Q6 (Q9 (Q6 (L0.at (Q6 (L1.at ?_)))))))
 show RA _ _ (holding [_] (call _ [_,.ref x,.ref C]) >>= ret) _ _ _
 exact Q6 (RU (WV (W.class_get (ox:=ox) (od:=od) X I hm (Q9 h))))
theorem Li {tk:Tok}{fill expr:Bool}{Q:Q8->Q_->Prop}(X:K.In s.heap) (I:U9 s.heap x ox C od) (hga:Ug K (.ref C) "__getattribute__"=some (some (.builtin "BaseException.__getattribute__"))) (hgt:Ug K (.ref C) "__getattr__"=some none)
  (h:T8 (RG prog w) A (.call (.builtin "BaseException.__getattribute__") ⟨[.ref x,.str name tk],[]⟩) (λr s'=>match r with | .ok (.ret v)=>RA (RG prog w) A (handedOut v) Q E s' | _=>False) s):RA (RG prog w) A (getAttrBy (.ref x) (.str name tk) fill expr) Q E s:=by
 obtain ⟨hh,g,d,t,os⟩:=s
 have L0:=I.type (M:=RG prog w)
 have L1:=Ye (M:=RG prog w) X hga
 have L2:=Ye (M:=RG prog w) X hgt
 have PK:(Xe "BaseException.__getattribute__" == Xe "object.__getattribute__")=false:=by decide +kernel
 unfold getAttrBy
 refine RU (Q6 (L0.at (Q6 (L1.at ?_))))
 dsimp only
 rw [PK,UL,if_neg (by decide)]
 unfold getAttrByItsOwn
 refine Q6 (L2.at ?_)
 have h0:(expr && onTheHeap (Xe "BaseException.__getattribute__"))=false:=by cases expr <;> rfl
 refine Q6 (Vv (RU ?_))
 unfold callGetattribute
 rw [h0,if_neg (by decide)]
 unfold boundAndCalled
 rw [Wl.ga.bind (.ref x)]
 refine Q6 (Q9 (WV (Tw h λr s' q=>?_)))
 match r,q with
 | .ok (.ret v),q=>exact q
theorem get_class {Q:Option Q8->Q_->Prop}(X:K.In s.heap) (I:U9 s.heap x ox C od) (hga:Ug K (.ref C) "__getattribute__"=some (some (.builtin "BaseException.__getattribute__"))) (hgt:Ug K (.ref C) "__getattr__"=some none)
  (hm:UX K C (.type "BaseException")=some true) (hf:Wk K C od "__class__"=some (.bind (.builtin "getset_descriptor.__get__") (.builtin "object.__class__"))) (ho:UX K C (.type "object")=some true) (h:Q (some (.ref C)) {s with toks:=s.toks + 1}):
  RA (RG prog w) A (getAttr? (.ref x) "__class__") Q E s:=by
 obtain ⟨hp,g,d,t,os⟩:=s
 unfold getAttr? getAttrBy?
 refine Q6 (wpAny_mkText (Q6 (Vv (Li (s:=⟨hp,g,d,t + 1,os⟩) X I hga hgt ?_))))
 refine U4 Wl.ga.plain F.entry_bexc_ga (FI (s:=⟨hp,g,d,t + 1,os⟩) X I hm (entry_class (s:=⟨hp,g,d,t + 1,os⟩) X I hf ho ?_))
 exact Q9 (Q9 h)
end
end DX
namespace DX
open PySem PySem.Spec PyProof.Rows L2
abbrev Aa:List Q8:=[.type "ValueError",.type "Exception",.type "BaseException",.type "object"]
def quiet:List Str:=["__init__","__setattr__","name","letter","many","told","point","row"]
structure GX (K:Q7) (P:Rq):Prop where
 gt:Y7 K (.builtin "object.__class__") "__get__"=some (some (.builtin "getset_descriptor.__get__"))
 tk:ZN K (.builtin "object.__class__")=some true
 lk:∃nm q N bs sn sub ab col dd k0 k1 k2 k3 k5,K.lookup P=some (excClassObj nm q P N bs Aa true sn sub ab col dd k0 k1 k2 k3 k5 "ValueError.__new__")/\∀h,K.In h->∃m,h.Ns N m/\∀n∈quiet,m n=none
structure XE (K:Q7) (P C:Rq):Prop where
 lk:∃nm q N bs sn sub ab col dd k0 k1 k2 k3 k5,K.lookup C=some (excClassObj nm q C N bs (.ref P::Aa) true sn sub ab col dd k0 k1 k2 k3 k5 "ValueError.__new__")
 ga:Ug K (.ref C) "__getattribute__"=some (some (.builtin "BaseException.__getattribute__"))
 gt:Ug K (.ref C) "__getattr__"=some none
 cl:Ug K (.ref C) "__class__"=some (some (.builtin "object.__class__"))
section
variable {K:Q7}{P C:Rq}
theorem DJ (X:XE K P C):∃cd,Vw K C=some cd/\cd.mro=.ref C::.ref P::Aa/\cd.hasDict=true/\W.typeIn K (.ref C)=some (.type "type"):=by
 obtain ⟨nm,q,N,bs,sn,sub,ab,col,dd,k0,k1,k2,k3,k5,l⟩:=X.lk
 have h1:Vw K C=some {name:=nm,bases:=bs,mro:=.ref C::.ref P::Aa,ns:=N,qualname:=q,hasDict:=true,slotNames:=sn,subclasses:=sub,abstract:=ab,collection:=col,hasDel:=false}:=by
  unfold Vw
  rw [l]
 refine ⟨_,h1,rfl,rfl,?_⟩
 show (K.lookup C).map (·.cls)=_
 rw [l]
 rfl
theorem zh (X:XE K P C) (b:Q8):UX K C b=some ((Vp C::.ref P::Aa).contains b):=by
 obtain ⟨cd,h1,h2,_⟩:=DJ X
 unfold UX
 rw [h1,Xr,h2]
 rfl
end
theorem LF {K:Q7}{P C:Rq}(X:XE K P C){T:String}(h1:ZO T=true) (h2:Aa.contains (.type T)=false):Yl K (.ref C) (.type T)=some false:=by
 unfold Yl W.kitCls
 rw [if_neg (by simp)]
 simp only [h1,if_true]
 show UX K C _=_
 rw [zh X,YM,YM,h2]
 rfl
theorem I_ {K:Q7}{C:Rq}{od:Option Obj}{name:Str}{a g:Q8}(hc:(Vw K C).isSome=true) (ha:Ug K (.ref C) name=some (some a)) (hg:Y7 K a "__get__"=some (some g)) (ht:ZN K a=some true):Wk K C od name=some (.bind g a):=by
 obtain ⟨cd,hc⟩:=SE.mp hc
 unfold Wk
 rw [hc,Xr,ha,Xr]
 simp [hg,ht]
theorem Gh {K:Q7}{e P C:Rq}(G:GX K P) (E:XE K P C):W.KitX K (.ref e) (.ref C) (λh=>∃ox od,U9 h e ox C od):=by
 obtain ⟨cd,hc,hm,hd,ht⟩:=DJ E
 refine ⟨λM h _ ⟨ox,od,I⟩=>I.type,λM h X _=>?_,λh tp dd QX n sl X htp=>?_,λX ⟨ox,od,I⟩ k=>?_⟩
 ·unfold Vw at hc
  split at hc
  ·rename_i ho
   intro A' Q' E' s' k q
   unfold isType loadHead
   exact Q6 (wpAny_loadPart (k _ _ (X _ _ ho)) (Q9 q))
  ·cases hc
 ·refine Y8.mpr λq=>?_
  obtain rfl:C=tp:=ab8 (beq_iff_eq.mp q)
  unfold Vw at hc
  split at hc
  ·rename_i ho
   have z:=(X _ _ ho).symm.trans htp
   cases z
  ·cases hc
 ·exact get_class X I E.ga E.gt (by rw [zh E];simp) (I_ (by rw [hc];rfl) E.cl G.gt G.tk) (by rw [zh E];simp) k
end DX
namespace DL
open PySem PySem.Spec PyProof.Rows L2
inductive D where
 | non | bl (b:Bool) | int (i:Int) | str (x:Str) | tup (xs:List D) | lst (xs:List D) | emp
 | exn (cls:Str) (ns:List Str) (ds:List D)
  | dct (ks vs:List D)
mutual
noncomputable def isKey:D->Bool
 | .int _=>true
 | .tup xs=>areKeys xs
 | _=>false
noncomputable def areKeys:List D->Bool
 | []=>true
 | x::xs=>isKey x && areKeys xs
end
mutual
noncomputable def cC:D->Int
 | .int i=>U1 i
 | .tup xs=>aay (Sx (c_ xs))
 | _=>0
noncomputable def c_:List D->List Int
 | []=>[]
 | x::xs=>cC x::c_ xs
end
mutual
noncomputable def dep:D->Nat
 | .tup xs=>deps xs + 1
 | .lst xs=>deps xs + 1
 | .emp=>5000
 | .exn _ _ _=>5000
 | .dct _ _=>5000
 | _=>0
noncomputable def deps:List D->Nat
 | []=>0
 | x::xs=>max (dep x) (deps xs)
end
structure KL (ks:List D):Prop where
 key:areKeys ks=true
 nd:ks.Nodup
 dp:deps ks<=8
 tp:∀k∈ks,∃xs,k=.tup xs
def xW (p:Int×V×V) (e:YL):Prop:=e.hash=p.1/\RelV p.2.1 e.key/\RelV p.2.2 e.val
abbrev kT (a:Rq) (ep:Nat) (Q4:List (Int×V×V)):HO:=.ext λh=>∃o es,h.get? a=some o/\o.ExactDict/\o.data=.dict es ep/\WT xW Q4 es.toList
noncomputable def XF (J:Hp) (dx:Option Rq) (ns:List Str) (vs:List V):Prop:=(dx=none/\ns=[]/\vs=[])\/∃d,dx=some d/\ns.length=vs.length/\J d=some (.xd (ns.zip vs))
theorem XF.mono {J J':Hp}(e:aX J J'){dx:Option Rq}{ns:List Str}{vs:List V}(h:XF J dx ns vs):XF J' dx ns vs:=by
 rcases h with h | ⟨d,h1,h2,h3⟩
 ·exact .inl h
 ·exact .inr ⟨d,h1,h2,e _ _ h3⟩
mutual
inductive Rep (K:Q7) (J:Hp):D->V->Prop
 | non:Rep K J .non .non
 | bl (b:Bool):Rep K J (.bl b) (.bl b)
 | int (i:Int):Rep K J (.int i) (.int i)
 | str (x:Str):Rep K J (.str x) (.str x)
 | emp {a:Rq}:J a=some (.dK [])->Rep K J .emp (.ref a)
 | tup {a:Rq}{vs:List V}{ds:List D}:dY K J a vs->aJ K J ds vs->Rep K J (.tup ds) (.ref a)
 | lst {a:Rq}{vs:List V}{ds:List D}:dw K J a vs->aJ K J ds vs->Rep K J (.lst ds) (.ref a)
 | exn {a C:Rq}{dx:Option Rq}{cls:Str}{ns:List Str}{vs:List V}{ds:List D}:J a=some (DX.XO a C dx)->R_ K RP cls=some (some (.ref C))->XF J dx ns vs->aJ K J ds vs->(∃P,DX.GX K P/\DX.XE K P C)->Rep K J (.exn cls ns ds) (.ref a)
 | dct {a:Rq}{ep:Nat}{ks vs:List D}{us ws:List V}:J a=some (kT a ep ((c_ ks).zip (us.zip ws)))->aJ K J ks us->aJ K J vs ws->KL ks->(a == UJ)=false/\ks.length=vs.length->Rep K J (.dct ks vs) (.ref a)
inductive aJ (K:Q7) (J:Hp):List D->List V->Prop
 | nil:aJ K J [] []
 | cons {d:D}{v:V}{ds:List D}{vs:List V}:Rep K J d v->aJ K J ds vs->aJ K J (d::ds) (v::vs)
end
theorem gc {K:Q7}{H H':Hp}{a:Rq}{xs:List V}(e:aX H H') (h:dY K H a xs):dY K H' a xs:=by
 rcases h with (h | ⟨o,h⟩) | h
 ·exact .inl (.inl (e _ _ h))
 ·exact .inl (.inr ⟨o,e _ _ h⟩)
 ·exact .inr h
mutual
theorem Rep.mono {K:Q7}{J J':Hp}(e:aX J J'):∀{d:D}{v:V},Rep K J d v->Rep K J' d v
 | _,_,.non=>.non
 | _,_,.bl b=>.bl b
 | _,_,.int i=>.int i
 | _,_,.str x=>.str x
 | _,_,.emp h=>.emp (e _ _ h)
 | _,_,.tup h hs=>.tup (gc e h) (aJ.mono e hs)
 | _,_,.lst h hs=>.lst (e.seq h) (aJ.mono e hs)
 | _,_,.exn h1 h2 h3 hs hx=>.exn (e _ _ h1) h2 (h3.mono e) (aJ.mono e hs) hx
 | _,_,.dct h h1 h2 h3 h4=>.dct (e _ _ h) (aJ.mono e h1) (aJ.mono e h2) h3 h4
theorem aJ.mono {K:Q7}{J J':Hp}(e:aX J J'):∀{ds:List D}{vs:List V},aJ K J ds vs->aJ K J' ds vs
 | _,_,.nil=>.nil
 | _,_,.cons h hs=>.cons (Rep.mono e h) (aJ.mono e hs)
end
section
variable {K:Q7}{J:Hp}
theorem aJ.length:∀{ds:List D}{vs:List V},aJ K J ds vs->ds.length=vs.length
 | _,_,.nil=>rfl
 | _,_,.cons _ hs=>congrArg (· + 1) (aJ.length hs)
theorem aJ.get:∀{ds:List D}{vs:List V}{i:Nat}{d:D},aJ K J ds vs->ds[i]?=some d->∃v,vs[i]?=some v/\Rep K J d v
 | _,_,_,_,.nil,e=>by simp at e
 | _,_,0,_,.cons r _,e=>by simp at e;subst e;exact ⟨_,rfl,r⟩
 | _,_,i + 1,d,.cons _ t,e=>by
  obtain ⟨v,h1,h2⟩:=aJ.get (i:=i) (d:=d) t (by simpa using e)
  exact ⟨v,by simpa using h1,h2⟩
theorem aJ.append:∀{ds es:List D}{vs us:List V},aJ K J ds vs->aJ K J es us->aJ K J (ds++es) (vs++us)
 | _,_,_,_,.nil,s=>s
 | _,_,_,_,.cons r t,s=>.cons r (aJ.append t s)
theorem aJ.take:∀{ds:List D}{vs:List V}(n:Nat),aJ K J ds vs->aJ K J (ds.take n) (vs.take n)
 | _,_,0,_=>.nil
 | _,_,_ + 1,.nil=>.nil
 | _,_,n + 1,.cons r t=>.cons r (aJ.take n t)
theorem aJ.drop:∀{ds:List D}{vs:List V}(n:Nat),aJ K J ds vs->aJ K J (ds.drop n) (vs.drop n)
 | _,_,0,r=>r
 | _,_,_ + 1,.nil=>.nil
 | _,_,n + 1,.cons _ t=>aJ.drop n t
end
noncomputable def fj (K:Q7) (J H:Hp) (a:Rq) (ks vs:List D):Prop:=∃us ws ep,H a=some (kT a ep ((c_ ks).zip (us.zip ws)))/\aJ K J ks us/\aJ K J vs ws/\KL ks/\(a == UJ)=false/\ks.length=vs.length
theorem fj.mono {K:Q7}{J J' H H':Hp}{a:Rq}{ks vs:List D}(e:aX J J') (e':aX H H'):fj K J H a ks vs->fj K J' H' a ks vs
 | ⟨us,ws,ep,h1,h2,h3,h4⟩=>⟨us,ws,ep,e' _ _ h1,h2.mono e,h3.mono e,h4⟩
theorem fj.ne {K:Q7}{J H:Hp}{a:Rq}{ks vs:List D}:fj K J H a ks vs->H a≠none
 | ⟨us,ws,ep,h1,_⟩=>by rw [h1];intro z;cases z
theorem fj.rep {K:Q7}{J H:Hp}{a:Rq}{ks vs:List D}(e:aX J H):fj K J H a ks vs->Rep K H (.dct ks vs) (.ref a)
 | ⟨us,ws,ep,h1,h2,h3,h4,h5⟩=>.dct h1 (h2.mono e) (h3.mono e) h4 h5
structure Exc where
 cls:Str
 ns:List Str
 ds:List D
inductive M (α:Type) where
 | bad | ok (a:α) | exc (x:Exc)
noncomputable def M.bind {α β:Type}:M α->(α->M β)->M β
 | .bad,_=>.bad
 | .ok a,f=>f a
 | .exc x,_=>.exc x
instance:Monad M where
 pure:=M.ok
 bind:=M.bind
@[simp] theorem aL {α β:Type}(a:α) (f:α->M β):(M.ok a >>= f)=f a:=rfl
noncomputable def dJ {α:Type}(m:M α) (Q:α->Prop) (T:Exc->Prop):Prop:=match m with
 | .bad=>False
 | .ok a=>Q a
 | .exc x=>T x
theorem aM {α β:Type}{m:M α}{f:α->M β}{Q:β->Prop}{T:Exc->Prop}(h:dJ (m >>= f) Q T):dJ m (λa=>dJ (f a) Q T) T:=by
 cases m with
 | bad=>exact h
 | ok a=>exact h
 | exc x=>exact h
theorem aG {α:Type}{m:M α}{Q Q':α->Prop}{T:Exc->Prop}(h:dJ m Q T) (k:∀a,Q a->Q' a):dJ m Q' T:=by
 cases m with
 | bad=>exact h
 | ok a=>exact k a h
 | exc x=>exact h
inductive Md where
 | fresh | own | bor
inductive R where
 | d (x:D) | l (m:Md) (xs:List D)
  | mo (ks vs:List D) | mb (ks vs:List D) | mf (ks vs:List D)
inductive S where
 | d (x:D) | own (xs:List D) | bor (xs:List D) | dk (ks vs:List D) | db (ks vs:List D)
  | fn (x:Str)
abbrev Ev:=List (Option S)
abbrev Mn:=List D ⊕ (List D×List D)
noncomputable def mS:Mn->S
 | .inl xs=>.own xs
 | .inr p=>.dk p.1 p.2
structure C where
 K:Q7
 H0:Hp
 J0:Hp
 T:Exc->Prop
structure HI (c:C) (J H:Hp):Prop where
 sub:aX J H
 ent:aX c.H0 H
 entJ:aX c.J0 J
 frz:∀a,c.H0 a≠none->c.J0 a=none->J a=none
structure Ext (J H J' H':Hp):Prop where
 h:aX H H'
 j:aX J J'
 sub:aX J' H'
 frz:∀a,H a≠none->J a=none->J' a=none
theorem aX.ne {H H':Hp}(e:aX H H'){a:Rq}(h:H a≠none):H' a≠none:=by
 cases q:H a with
 | none=>exact absurd q h
 | some o=>rw [e a o q];intro z;cases z
theorem Ext.refl {J H:Hp}(h:aX J H):Ext J H J H:=⟨aX.refl H,aX.refl J,h,λ_ _ q=>q⟩
theorem Ext.trans {J H J1 H1 J2 H2:Hp}(a:Ext J H J1 H1) (b:Ext J1 H1 J2 H2):Ext J H J2 H2:=
 ⟨a.h.trans b.h,a.j.trans b.j,b.sub,λp h q=>b.frz p (aX.ne a.h h) (a.frz p h q)⟩
theorem HI.ext {c:C}{J H J' H':Hp}(h:HI c J H) (e:Ext J H J' H'):HI c J' H':=
 ⟨e.sub,h.ent.trans e.h,h.entJ.trans e.j,λa h0 j0=>e.frz a (aX.ne h.ent h0) (h.frz a h0 j0)⟩
theorem dM {H:Hp}{p:Rq}(h:H p=none) (o:HO):aX H (upd H p o):=λb u q=>by rw [bG (fX q h)];exact q
theorem Ext.new {J H:Hp}(h:aX J H){p:Rq}(e:H p=none) (o:HO):Ext J H J (upd H p o):=
 ⟨dM e o,aX.refl J,λb u q=>dM e o b u (h b u q),λ_ _ q=>q⟩
theorem Ext.newJ {J H:Hp}(h:aX J H){p:Rq}(e:H p=none) (o:HO):Ext J H (upd J p o) (upd H p o):=
 ⟨dM e o,dM (h.free e) o,λb u q=>by
  by_cases hb:b=p
  ·subst hb;rw [cK] at q ⊢;exact q
  ·rw [bG hb] at q ⊢;exact h b u q,λa ha q=>by
  have:a≠p:=λz=>ha (z▸e)
  rw [bG this];exact q⟩
noncomputable def rA (c:C) (J H:Hp):S->V->Prop
 | .d x,v=>Rep c.K J x v
 | .own xs,v=>∃a vs,v=.ref a/\H a=some (.lst vs)/\J a=none/\c.H0 a=none/\aJ c.K J xs vs
 | .bor xs,v=>∃a vs,v=.ref a/\dw c.K c.H0 a vs/\aJ c.K J xs vs
 | .dk ks vs,v=>∃a,v=.ref a/\fj c.K J H a ks vs/\J a=none/\c.H0 a=none
 | .db ks vs,v=>∃a,v=.ref a/\fj c.K J c.H0 a ks vs
 | .fn x,v=>∃f,v=.ref f/\R_ c.K RP x=some (some (.ref f))
theorem rA.ext {c:C}{J H J' H':Hp}(e:Ext J H J' H'):∀{x:S}{v:V},rA c J H x v->rA c J' H' x v
 | .d x,v,h=>Rep.mono e.j h
 | .own xs,v,⟨a,vs,h1,h2,h3,h4,h5⟩=>⟨a,vs,h1,e.h _ _ h2,e.frz a (by rw [h2];intro z;cases z) h3,h4,aJ.mono e.j h5⟩
 | .bor xs,v,⟨a,vs,h1,h2,h3⟩=>⟨a,vs,h1,h2,aJ.mono e.j h3⟩
 | .dk _ _,v,⟨a,h1,h2,h3,h4⟩=>⟨a,h1,h2.mono e.j e.h,e.frz a h2.ne h3,h4⟩
 | .db _ _,v,⟨a,h1,h2⟩=>⟨a,h1,h2.mono e.j (aX.refl _)⟩
 | .fn _,v,h=>h
structure SR (c:C) (J H:Hp) (σ:L2.St) (env:Ev):Prop where
 hp:HI c J H
 len:env.length=σ.length
 at_:∀(i:Nat) (x:S),env[i]?=some (some x)->∃v,σ[i]?=some (some v)/\rA c J H x v
 sep:∀(i j:Nat) (xs ys:Mn) (v:V),i≠j->env[i]?=some (some (mS xs))->env[j]?=some (some (mS ys))->σ[i]?=some (some v)->σ[j]?≠some (some v)
theorem SR.ext {c:C}{J H J' H':Hp}{σ:L2.St}{env:Ev}(h:SR c J H σ env) (e:Ext J H J' H'):SR c J' H' σ env:=
 ⟨h.hp.ext e,h.len,λi x q=>let ⟨v,q1,q2⟩:=h.at_ i x q;⟨v,q1,q2.ext e⟩,h.sep⟩
theorem SR.mine {c:C}{J H:Hp}{σ:L2.St}{env:Ev}(sr:SR c J H σ env){i:Nat}:∀{x:Mn},env[i]?=some (some (mS x))->∃p,σ[i]?=some (some (.ref p))/\H p≠none/\J p=none/\c.H0 p=none
 | .inl xs,h=>let ⟨_,k1,p,vs,e,k2,k3,k4,_⟩:=sr.at_ i (.own xs) h;⟨p,e▸k1,by rw [k2];exact λz=>(by cases z),k3,k4⟩
 | .inr q,h=>let ⟨_,k1,p,e,k2,k3,k4⟩:=sr.at_ i (.dk q.1 q.2) h;⟨p,e▸k1,k2.ne,k3,k4⟩
noncomputable def RR (c:C) (He J H:Hp):R->V->Prop
 | .d x,v=>Rep c.K J x v
 | .l .fresh xs,v=>∃a vs,v=.ref a/\H a=some (.lst vs)/\J a=none/\He a=none/\aJ c.K J xs vs
 | .l .own xs,v=>∃a vs,v=.ref a/\H a=some (.lst vs)/\J a=none/\c.H0 a=none/\aJ c.K J xs vs
 | .l .bor xs,v=>∃a vs,v=.ref a/\dw c.K c.H0 a vs/\aJ c.K J xs vs
 | .mo ks vs,v=>∃a,v=.ref a/\fj c.K J H a ks vs/\J a=none/\c.H0 a=none
 | .mb ks vs,v=>∃a,v=.ref a/\fj c.K J c.H0 a ks vs
 | .mf ks vs,v=>∃a,v=.ref a/\fj c.K J H a ks vs/\J a=none/\He a=none
theorem RR.ext {c:C}{He J H J' H':Hp}(e:Ext J H J' H'):∀{x:R}{v:V},RR c He J H x v->RR c He J' H' x v
 | .d x,v,h=>Rep.mono e.j h
 | .l .fresh xs,v,⟨a,vs,h1,h2,h3,h4,h5⟩=>⟨a,vs,h1,e.h _ _ h2,e.frz a (by rw [h2];intro z;cases z) h3,h4,aJ.mono e.j h5⟩
 | .l .own xs,v,⟨a,vs,h1,h2,h3,h4,h5⟩=>⟨a,vs,h1,e.h _ _ h2,e.frz a (by rw [h2];intro z;cases z) h3,h4,aJ.mono e.j h5⟩
 | .l .bor xs,v,⟨a,vs,h1,h2,h3⟩=>⟨a,vs,h1,h2,aJ.mono e.j h3⟩
 | .mo _ _,v,⟨a,h1,h2,h3,h4⟩=>⟨a,h1,h2.mono e.j e.h,e.frz a h2.ne h3,h4⟩
 | .mb _ _,v,⟨a,h1,h2⟩=>⟨a,h1,h2.mono e.j (aX.refl _)⟩
 | .mf _ _,v,⟨a,h1,h2,h3,h4⟩=>⟨a,h1,h2.mono e.j e.h,e.frz a h2.ne h3,h4⟩
theorem RR.from {c:C}{He He' J H:Hp}(e:aX He He'):∀{x:R}{v:V},RR c He' J H x v->RR c He J H x v
 | .d x,v,h=>h
 | .l .fresh xs,v,⟨a,vs,h1,h2,h3,h4,h5⟩=>⟨a,vs,h1,h2,h3,e.free h4,h5⟩
 | .l .own xs,v,h=>h
 | .l .bor xs,v,h=>h
 | .mo _ _,v,h=>h
 | .mb _ _,v,h=>h
 | .mf _ _,v,⟨a,h1,h2,h3,h4⟩=>⟨a,h1,h2,h3,e.free h4⟩
noncomputable def jP:R->M (List D)
 | .d (.lst xs)=>.ok xs
 | .l _ xs=>.ok xs
 | _=>.bad
noncomputable def toD:R->M D
 | .d x=>.ok x
 | .l .fresh xs=>.ok (.lst xs)
 | .mf ks vs=>.ok (.dct ks vs)
 | _=>.bad
theorem RR.list {c:C}{He J H:Hp}(hp:HI c J H):∀{r:R}{v:V}{xs:List D},RR c He J H r v->jP r=.ok xs->∃a vs,v=.ref a/\dw c.K H a vs/\aJ c.K J xs vs
 | .d (.lst ys),v,xs,h,e=>by
  cases e
  cases h with
  | lst h hs=>exact ⟨_,_,rfl,hp.sub.seq h,hs⟩
 | .l .fresh ys,v,xs,⟨a,vs,h1,h2,h3,h4,h5⟩,e=>by cases e;exact ⟨a,vs,h1,dw.of h2,h5⟩
 | .l .own ys,v,xs,⟨a,vs,h1,h2,h3,h4,h5⟩,e=>by cases e;exact ⟨a,vs,h1,dw.of h2,h5⟩
 | .l .bor ys,v,xs,⟨a,vs,h1,h2,h3⟩,e=>by cases e;exact ⟨a,vs,h1,hp.ent.seq h2,h3⟩
 | .d .non,_,_,_,e=>nomatch e
 | .d (.bl _),_,_,_,e=>nomatch e
 | .d (.int _),_,_,_,e=>nomatch e
 | .d (.str _),_,_,_,e=>nomatch e
 | .d (.tup _),_,_,_,e=>nomatch e
 | .d .emp,_,_,_,e=>nomatch e
 | .d (.dct _ _),_,_,_,e=>nomatch e
 | .mo _ _,_,_,_,e=>nomatch e
 | .mb _ _,_,_,_,e=>nomatch e
 | .mf _ _,_,_,_,e=>nomatch e
theorem A6 {Je He J H:Hp}(x:Ext Je He J H){a:Rq}{o:HO}(h2:H a=some o) (h3:J a=none) (h4:He a=none):Ext Je He (upd J a o) H:=by
 refine ⟨x.h,x.j.trans (dM h3 _),λb u q=>?_,λb hb q=>?_⟩
 ·by_cases hb:b=a
  ·subst hb;rw [cK] at q;cases q;exact h2
  ·rw [bG hb] at q;exact x.sub b u q
 ·have:b≠a:=λz=>hb (z▸h4)
  rw [bG this];exact x.frz b hb q
theorem freeze {c:C}{Je He J H:Hp}(x:Ext Je He J H):∀{r:R}{v:V}{d:D},RR c He J H r v->toD r=.ok d->∃J',Ext Je He J' H/\aX J J'/\Rep c.K J' d v
 | .d y,v,d,h,e=>by cases e;exact ⟨J,x,aX.refl J,h⟩
 | .l .fresh ys,v,d,⟨a,vs,h1,h2,h3,h4,h5⟩,e=>by
  cases e
  subst h1
  exact ⟨_,A6 x h2 h3 h4,dM h3 _,.lst (.inl (.inl cK)) (aJ.mono (dM h3 _) h5)⟩
 | .mf ks vs,v,d,⟨a,h1,⟨us,ws,ep,h2,m1,m2,m3⟩,h3,h4⟩,e=>by
  cases e
  subst h1
  exact ⟨_,A6 x h2 h3 h4,dM h3 _,.dct cK (m1.mono (dM h3 _)) (m2.mono (dM h3 _)) m3.1 m3.2⟩
 | .l .own _,_,_,_,e=>nomatch e
 | .l .bor _,_,_,_,e=>nomatch e
 | .mo _ _,_,_,_,e=>nomatch e
 | .mb _ _,_,_,_,e=>nomatch e
abbrev G (α:Type):=Ev->M α
def tD (c:C) (g:G R):TE:=λσ H Q=>∃J env,SR c J H σ env/\dJ (g env) (λr=>∀v J' H',Ext J H J' H'->RR c H J' H' r v->Q v H') c.T
def PD (X:Cx) (c:C) (e:RX) (g:G R):Prop:=PE X e (tD c g)
def tB (c:C) (g:G Bool):TT:=λσ H Q=>∃J env,SR c J H σ env/\dJ (g env) (λb=>∀J' H',Ext J H J' H'->Q b H') c.T
def PB (X:Cx) (c:C) (e:RX) (g:G Bool):Prop:=PT X e (tB c g)
noncomputable def lO (c:C) (He J H:Hp):List R->List V->Prop
 | [],vs=>vs=[]
 | r::rs,vs=>∃v us,vs=v::us/\RR c He J H r v/\lO c He J H rs us
def tA (c:C) (g:G (List R)):TA:=λσ H Q=>∃J env,SR c J H σ env/\dJ (g env) (λrs=>∀vs J' H',Ext J H J' H'->lO c H J' H' rs vs->Q vs H') c.T
def HB (X:Cx) (c:C) (es:List RX) (g:G (List R)):Prop:=PA X es (tA c g)
def O0 (c:C) (g:G (List D)):TA:=λσ H Q=>∃J env,SR c J H σ env/\dJ (g env) (λds=>∀vs J' H',Ext J H J' H'->aJ c.K J' ds vs->Q vs H') c.T
def OT (X:Cx) (c:C) (es:List RX) (g:G (List D)):Prop:=PA X es (O0 c g)
inductive O where
 | nx (e:Ev) | rt (r:R) | bk (e:Ev) | ct (e:Ev)
noncomputable def RF (c:C) (J H:Hp):R->V->Prop
 | .d x,v=>Rep c.K J x v
 | .l _ xs,v=>∃a vs,v=.ref a/\H a=some (.lst vs)/\J a=none/\c.H0 a=none/\aJ c.K J xs vs
 | .mf ks vs,v=>∃a,v=.ref a/\fj c.K J H a ks vs/\J a=none/\c.H0 a=none
 | _,_=>False
noncomputable def oP (c:C) (J:Hp) (E:Ends):O->Prop
 | .nx e=>∀σ' J' H',aX J J'->SR c J' H' σ' e->E.nx σ' H'
 | .rt r=>∀v J' H',aX J J'->HI c J' H'->RF c J' H' r v->E.rt v H'
 | .bk e=>∀σ' J' H',aX J J'->SR c J' H' σ' e->E.bk σ' H'
 | .ct e=>∀σ' J' H',aX J J'->SR c J' H' σ' e->E.ct σ' H'
def tS (c:C) (g:G O):TS:=λE σ H=>∃J env,SR c J H σ env/\dJ (g env) (oP c J E) c.T
def AO (X:Cx) (c:C) (st:Uy) (g:G O):Prop:=PS X st (tS c g)
def KS (X:Cx) (c:C) (st:List Uy) (g:G O):Prop:=j_ X st (tS c g)
theorem oP.mono {c:C}{J J1:Hp}{E:Ends}(e:aX J J1):∀{o:O},oP c J E o->oP c J1 E o
 | .nx _,h=>λσ' J' H' q r=>h σ' J' H' (e.trans q) r
 | .rt _,h=>λσ' J' H' q r=>h σ' J' H' (e.trans q) r
 | .bk _,h=>λσ' J' H' q r=>h σ' J' H' (e.trans q) r
 | .ct _,h=>λσ' J' H' q r=>h σ' J' H' (e.trans q) r
theorem gH {X:Cx}{e:RX}{t t':TE}(h:PE X e t) (k:∀σ H Q,t' σ H Q->t σ H Q):PE X e t':=λQV s σ H Q I q=>h QV s σ H Q I (k σ H Q q)
theorem xP {X:Cx}{e:RX}{t t':TT}(h:PT X e t) (k:∀σ H Q,t' σ H Q->t σ H Q):PT X e t':=λQV s σ H Q I q=>h QV s σ H Q I (k σ H Q q)
theorem xO {X:Cx}{es:List RX}{t t':TA}(h:PA X es t) (k:∀σ H Q,t' σ H Q->t σ H Q):PA X es t':=λpos QV s σ H Q I q=>h pos QV s σ H Q I (k σ H Q q)
theorem jo {X:Cx}{st:Uy}{t t':TS}(h:PS X st t) (k:∀D σ H,t' D σ H->t D σ H):PS X st t':=λQV s σ H D I q=>h QV s σ H D I (k D σ H q)
theorem EL {X:Cx}{st:List Uy}{t t':TS}(h:j_ X st t) (k:∀D σ H,t' D σ H->t D σ H):j_ X st t':=λQV s σ H D I q=>h QV s σ H D I (k D σ H q)
section
variable {X:Cx}{c:C}{e a b:RX}{ga gb:G R}{pos:Pos}
noncomputable def S.rd:S->M R
 | .d x=>.ok (.d x)
 | .own xs=>.ok (.l .own xs)
 | .bor xs=>.ok (.l .bor xs)
 | .dk ks vs=>.ok (.mo ks vs)
 | .db ks vs=>.ok (.mb ks vs)
 | .fn _=>.bad
noncomputable def af (i:Nat):G R:=λenv=>match env[i]? with
 | some (some x)=>x.rd
 | _=>.bad
theorem JG {x:Str}{i:Nat}(h:PE X (.Name x pos) (MO i)):PD X c (.Name x pos) (af i):=gH h λσ H Q ⟨J,env,sr,w⟩=>by
 unfold af at w
 cases q:env[i]? with
 | none=>rw [q] at w;exact w.elim
 | some o=>
  cases o with
  | none=>rw [q] at w;exact w.elim
  | some x=>
   rw [q] at w
   obtain ⟨v,h1,h2⟩:=sr.at_ i x q
   refine ⟨v,h1,?_⟩
   cases x with
   | fn _=>exact w.elim
   | _=>exact w v J H (Ext.refl sr.hp.sub) h2
def gC (d:D):G R:=λ_=>.ok (.d d)
theorem tW {d:D}{v:V}(hr:∀J,Rep c.K J d v) (h:PE X e (tC v)):PD X c e (gC d):=gH h λσ H Q ⟨J,env,sr,w⟩=>w v J H (Ext.refl sr.hp.sub) (hr J)
noncomputable def BD (c:C) (r:R2) (f:R->R->M R):Prop:=∀(He He' J H:Hp) (x y:R) (u v:V) (Q:VK),HI c J H->RR c He J H x u->RR c He' J H y v->
 dJ (f x y) (λz=>∀w J' H',Ext J H J' H'->RR c H J' H' z w->Q w H') c.T->r u v H Q
def g2 (f:R->R->M R) (ga gb:G R):G R:=λenv=>ga env >>= λx=>gb env >>= λy=>f x y
theorem two {P:R->R->M R}{σ:L2.St}{H:Hp}{k:V->V->Hp->Prop}{Q:VK}{J:Hp}{env:Ev}(sr:SR c J H σ env)
  (w:dJ (g2 P ga gb env) (λr=>∀v J' H',Ext J H J' H'->RR c H J' H' r v->Q v H') c.T)
  (hk:∀x y u v J2 H2,SR c J2 H2 σ env->Ext J H J2 H2->RR c H J2 H2 x u->RR c H J2 H2 y v->dJ (P x y) (λz=>∀w J' H',Ext J2 H2 J' H'->RR c H2 J' H' z w->Q w H') c.T->k u v H2):
  tD c ga σ H λu H1=>tD c gb σ H1 λv H2=>k u v H2:=by
 refine ⟨J,env,sr,aG (aM w) λx wx u J1 H1 e1 r1=>?_⟩
 have sr1:=sr.ext e1
 refine ⟨J1,env,sr1,aG (aM wx) λy wy v J2 H2 e2 r2=>?_⟩
 exact hk x y u v J2 H2 (sr1.ext e2) (e1.trans e2) (r1.ext e2) (RR.from e1.h r2) (aG wy λz q w J' H' e3 r3=>q w J' H' ((e1.trans e2).trans e3) (RR.from (e1.h.trans e2.h) r3))
theorem GF {t:TE}{r:R2}{f:R->R->M R}(ht:PE X e t) (heq:t=E7 r (tD c ga) (tD c gb)) (hf:BD c r f):PD X c e (g2 f ga gb):=by
 subst heq
 exact gH ht λσ H Q ⟨J,env,sr,w⟩=>two (k:=λu v H2=>r u v H2 Q) sr w λx y u v J2 H2 sr2 e2 r1 r2 q=>hf H H J2 H2 x y u v Q sr2.hp r1 r2 q
theorem kC {op:YB}{r:R2}{f:R->R->M R}(ho:dZ X (UA op) r) (hf:BD c r f) (ha:PD X c a ga) (hb:PD X c b gb):PD X c (.BinOp a op b pos) (g2 f ga gb):=GF (Ny ho ha hb) rfl hf
theorem nB {op:aa9}{r:R2}{f:R->R->M R}(ho:dZ X (S7 op) r) (hf:BD c r f) (ha:PD X c a ga) (hb:PD X c b gb) (hm:SA op b=false:=by first | exact zl _ | rfl):PD X c (.Compare a [op] [b] pos) (g2 f ga gb):=GF (JI ho ha hb hm) rfl hf
theorem Ia {r:R2}{f:R->R->M R}(ho:pq X r) (hf:BD c r f) (ha:PD X c a ga) (hb:PD X c b gb) (hs:qw b:=by exact λ_ _=>rfl):PD X c (.Subscript a b pos) (g2 f ga gb):=GF (Nx ho ha hb hs) rfl hf
theorem BD.or {r r':R2}{f f':R->R->M R}(p:R->R->Bool) (h:BD c r f) (h':BD c r' f'):BD c (λx y H Q=>r x y H Q\/r' x y H Q) (λx y=>if p x y then f x y else f' x y):=by
 intro He He' J H x y u v Q hp rx ry w
 simp only at w
 cases q:p x y with
 | true=>rw [q] at w;exact .inl (h He He' J H x y u v Q hp rx ry w)
 | false=>rw [q] at w;exact .inr (h' He He' J H x y u v Q hp rx ry w)
noncomputable def fI (C:Int->Int->Bool) (f:Int->Int->D):R->R->M R
 | .d (.int i),.d (.int j)=>if C i j then .ok (.d (f i j)) else .bad
 | _,_=>.bad
noncomputable def cj (f:Int->Int->D):R->R->M R
 | .d (.int i),.d (.int j)=>.ok (.d (f i j))
 | _,_=>.bad
theorem ym {P:Int->Int->Prop}{Cb:Int->Int->Bool}{g:Int->Int->V}{f:Int->Int->D}(hC:∀i j,Cb i j=true->P i j) (hr:∀i j J,Rep c.K J (f i j) (g i j)):BD c (rI P g) (fI Cb f):=by
 intro He He' J H x y u v Q hp rx ry w
 unfold fI at w
 split at w
 ·cases rx;cases ry
  rename_i i j
  cases q:Cb i j with
  | true=>rw [q] at w;exact ⟨i,j,rfl,rfl,hC i j q,w _ J H (Ext.refl hp.sub) (hr i j J)⟩
  | false=>rw [q] at w;exact w.elim
 ·exact w.elim
theorem gV {g:Int->Int->V}{f:Int->Int->D}(hr:∀i j J,Rep c.K J (f i j) (g i j)):BD c (pZ g) (cj f):=by
 intro He He' J H x y u v Q hp rx ry w
 unfold cj at w
 split at w
 ·cases rx;cases ry
  rename_i i j
  exact ⟨i,j,rfl,rfl,w _ J H (Ext.refl hp.sub) (hr i j J)⟩
 ·exact w.elim
def below (n:Nat) (j:Int):Bool:=Nat.blt j.natAbs n
theorem eB {n:Nat}{j:Int}:below n j=true↔-(n:Int) < j/\j < n:=by
 unfold below
 rw [Nat.blt_eq]
 omega
def Cm (_ j:Int):Bool:=decide (0 < j) && below 1073741824 j
def Lz (_ j:Int):Bool:=decide (0 < j)
def rR (i j:Int):Bool:=below 18446744073709551616 i || below 18446744073709551616 j
theorem Jj {i j:Int}(h:rR i j=true):(-(2 ^ 64) < i/\i < 2 ^ 64)\/(-(2 ^ 64) < j/\j < 2 ^ 64):=by
 unfold rR at h
 rw [TX] at h
 exact h.imp eB.mp eB.mp
theorem Ji {i j:Int}(h:Cm i j=true):0 < j/\j < 1073741824:=by
 unfold Cm at h
 rw [Ri] at h
 exact ⟨of_decide_eq_true h.1,(eB.mp h.2).2⟩
def Gf (i j:Int):Bool:=decide (0<=j) && below 1000001 j && below 18446744073709551616 i
theorem Jk {i j:Int}(h:Gf i j=true):0<=j/\j<=1000000/\i.natAbs < 2 ^ 64:=by
 unfold Gf at h
 rw [Ri,Ri] at h
 have h2:=eB.mp h.1.2
 have h3:=eB.mp h.2
 exact ⟨of_decide_eq_true h.1.1,by omega,by omega⟩
abbrev yP:R->R->M R:=cj λi j=>.int (i + j)
abbrev mD:R->R->M R:=cj λi j=>.int (i - j)
abbrev Lg:R->R->M R:=fI rR λi j=>.int (i * j)
abbrev fO:R->R->M R:=fI Cm λi j=>.int (i / j)
abbrev cQ:R->R->M R:=fI Lz λi j=>.int (i % j)
abbrev mC:R->R->M R:=fI Gf λi j=>.int (i ^ j.toNat)
noncomputable def sO:R->R->M R
 | .d (.str i),.d (.str j)=>if i.length + j.length<=sizeLine then .ok (.d (.str (i++j))) else .bad
 | _,_=>.bad
theorem Ka {K:Q7}{J:Hp}{ds:List D}{vs:List V}{i:Int}{d:D}(h:aJ K J ds vs) (e:lP ds i=some d):∃v,lP vs i=some v/\Rep K J d v:=by
 unfold lP at e ⊢
 rw [h.length] at e
 cases q:yZ vs.length i with
 | none=>rw [q] at e;cases e
 | some j=>rw [q] at e;exact h.get e
theorem kN {x:R}{f:List D->M R}{Q:R->Prop}{T:Exc->Prop}(w:dJ (jP x >>= f) Q T):∃xs,jP x=.ok xs/\dJ (f xs) Q T:=by
 cases q:jP x with
 | bad=>rw [q] at w;exact w.elim
 | ok xs=>rw [q] at w;exact ⟨xs,rfl,w⟩
 | exc z=>unfold jP at q;split at q <;> cases q
noncomputable def yY:R->Bool
 | .l .fresh _=>true
 | .l .own _=>true
 | _=>false
noncomputable def sP (x y:R):M R:=if yY x && yY y then jP x >>= λxs=>jP y >>= λys=>if xs.length + ys.length<=sizeLine then .ok (.l .fresh (xs++ys)) else .bad else .bad
theorem RR.made {He J H:Hp}:∀{r:R}{v:V},yY r=true->RR c He J H r v->∃a vs xs,jP r=.ok xs/\v=.ref a/\H a=some (.lst vs)/\aJ c.K J xs vs
 | .l .fresh xs,v,_,⟨a,vs,h1,h2,h3,h4,h5⟩=>⟨a,vs,xs,rfl,h1,h2,h5⟩
 | .l .own xs,v,_,⟨a,vs,h1,h2,h3,h4,h5⟩=>⟨a,vs,xs,rfl,h1,h2,h5⟩
 | .l .bor _,_,e,_=>nomatch e
 | .mo _ _,_,e,_=>nomatch e
 | .mb _ _,_,e,_=>nomatch e
 | .mf _ _,_,e,_=>nomatch e
 | .d _,_,e,_=>nomatch e
theorem iC {J H:Hp}{xs:List D}{vs:List V}{p:Rq}(hp:HI c J H) (e:H p=none) (h:aJ c.K J xs vs):RR c H J (upd H p (.lst vs)) (.l .fresh xs) (.ref p):=
 ⟨p,vs,rfl,cK,hp.sub.free e,e,h⟩
noncomputable def CD (c:C) (r:List V->Hp->VK->Prop) (f:List R->M R):Prop:=∀(He J H:Hp) (xs:List R) (vs:List V) (Q:VK),HI c J H->lO c He J H xs vs->
 dJ (f xs) (λz=>∀w J' H',Ext J H J' H'->RR c H J' H' z w->Q w H') c.T->r vs H Q
def gN (f:List R->M R) (gs:G (List R)):G R:=λenv=>gs env >>= f
theorem Cz {t:TE}{ta:TA}{r:List V->Hp->VK->Prop}{f:List R->M R}{gs:G (List R)}(ht:PE X e t) (heq:t=λσ H Q=>tA c gs σ H λvs H1=>r vs H1 Q) (hf:CD c r f):PD X c e (gN f gs):=by
 subst heq
 refine gH ht λσ H Q ⟨J,env,sr,w⟩=>⟨J,env,sr,aG (aM w) λrs w vs J1 H1 e1 r1=>?_⟩
 exact hf H J1 H1 rs vs Q (sr.hp.ext e1) r1 (aG w λz q v J' H' e2 r2=>q v J' H' (e1.trans e2) (RR.from e1.h r2))
def av:G (List R):=λ_=>.ok []
def ao (g:G R) (gs:G (List R)):G (List R):=λenv=>g env >>= λx=>gs env >>= λxs=>.ok (x::xs)
theorem lO.from {He He' J H:Hp}(e:aX He He'):∀{xs:List R}{vs:List V},lO c He' J H xs vs->lO c He J H xs vs
 | [],_,h=>h
 | _::_,_,⟨v,us,h1,h2,h3⟩=>⟨v,us,h1,RR.from e h2,lO.from e h3⟩
theorem lg {id:String}{x:Str}{p:Pos}{es:List RX}{r:List V->Hp->VK->Prop}{f:List R->M R}{gs:G (List R)}(hc:b8 X (.builtin id) r) (hf:CD c r f) (hv:Sd x=some (.builtin id)) (hm:X.mg x=none) (ha:HB X c (e::es) gs)
  (hg:Gl X x:=by rfl) (hn:x≠"__name__":=by decide) (hdb:(x == ("__debug__":Str))=false:=by decide)
  (he:Rr (e::es) X.env=(false,eval e X.env)::Rr es X.env:=by rfl) (hpl:(TU pos (Rr es X.env)).any (·.1)=false:=by rfl):PD X c (.Call (.Name x p) (e::es) [] pos) (gN f gs):=
 Cz (ta:=zW) (oA hc hg hm hv ha hn hdb he hpl) rfl hf
theorem vY {T:String}{x:Str}{p:Pos}{es:List RX}{r:List V->Hp->VK->Prop}{f:List R->M R}{gs:G (List R)}(hc:b8 X (.type T) r) (hf:CD c r f) (hv:Sd x=some (.type T)) (hm:X.mg x=none) (ha:HB X c (e::es) gs)
  (hg:Gl X x:=by rfl) (hn:x≠"__name__":=by decide) (hdb:(x == ("__debug__":Str))=false:=by decide)
  (he:Rr (e::es) X.env=(false,eval e X.env)::Rr es X.env:=by rfl) (hpl:(TU pos (Rr es X.env)).any (·.1)=false:=by rfl):PD X c (.Call (.Name x p) (e::es) [] pos) (gN f gs):=
 Cz (ta:=zW) (jU hc hg hm hv ha hn hdb he hpl) rfl hf
end
section
variable {X:Cx}{c:C}{e a b:RX}{es:List RX}{ga gb g:G R}{pos:Pos}
def aK:G (List D):=λ_=>.ok []
def ay (g:G R) (gs:G (List D)):G (List D):=λenv=>g env >>= λx=>toD x >>= λd=>gs env >>= λds=>.ok (d::ds)
theorem iY {α:Type}{x:R}{f:D->M α}{Q:α->Prop}{T:Exc->Prop}(w:dJ (toD x >>= f) Q T):∃d,toD x=.ok d/\dJ (f d) Q T:=by
 cases q:toD x with
 | bad=>rw [q] at w;exact w.elim
 | ok xs=>rw [q] at w;exact ⟨xs,rfl,w⟩
 | exc z=>unfold toD at q;split at q <;> cases q
def bP (gs:G (List D)):G R:=λenv=>gs env >>= λds=>if ds.length<=sizeLine then .ok (.d (.tup ds)) else .bad
def gm (gs:G (List D)):G R:=λenv=>gs env >>= λds=>if ds.length<=sizeLine then .ok (.l .fresh ds) else .bad
theorem p_ {J H:Hp}{xs:List D}{vs:List V}{p:Rq}(hp:HI c J H) (e:H p=none) (h:aJ c.K J xs vs):Rep c.K (upd J p (.tup vs)) (.tup xs) (.ref p):=
 .tup (.inl (.inl cK)) (h.mono (dM (hp.sub.free e) _))
noncomputable def jg:R->M (List D)
 | .d (.tup xs)=>.ok xs
 | .d (.lst xs)=>.ok xs
 | .l _ xs=>.ok xs
 | _=>.bad
theorem mZ {He J H:Hp}(hp:HI c J H):∀{r:R}{v:V}{xs:List D},RR c He J H r v->jg r=.ok xs->∃a vs,v=.ref a/\(dw c.K H a vs\/dY c.K H a vs)/\aJ c.K J xs vs
 | .d (.tup ys),v,xs,h,e=>by
  cases e
  cases h with
  | tup h hs=>exact ⟨_,_,rfl,.inr (gc hp.sub h),hs⟩
 | .d (.lst ys),v,xs,h,e=>let ⟨a,vs,h1,h2,h3⟩:=RR.list hp h e;⟨a,vs,h1,.inl h2,h3⟩
 | .l m ys,v,xs,h,e=>let ⟨a,vs,h1,h2,h3⟩:=RR.list hp h e;⟨a,vs,h1,.inl h2,h3⟩
 | .d .non,_,_,_,e=>nomatch e
 | .d (.bl _),_,_,_,e=>nomatch e
 | .d (.int _),_,_,_,e=>nomatch e
 | .d (.str _),_,_,_,e=>nomatch e
 | .d .emp,_,_,_,e=>nomatch e
 | .d (.dct _ _),_,_,_,e=>nomatch e
theorem kO {α:Type}{x:R}{f:List D->M α}{Q:α->Prop}{T:Exc->Prop}(w:dJ (jg x >>= f) Q T):∃xs,jg x=.ok xs/\dJ (f xs) Q T:=by
 cases q:jg x with
 | bad=>rw [q] at w;exact w.elim
 | ok xs=>rw [q] at w;exact ⟨xs,rfl,w⟩
 | exc z=>unfold jg at q;split at q <;> cases q
noncomputable def j3:List R->M R
 | [.d (.str z)]=>if z.length<=sizeLine then .ok (.d (.int z.length)) else .bad
 | [r]=>jg r >>= λxs=>.ok (.d (.int xs.length))
 | _=>.bad
theorem lO.one {He J H:Hp}{r:R}{vs:List V}(h:lO c He J H [r] vs):∃v,vs=[v]/\RR c He J H r v:=by
 obtain ⟨v,us,rfl,h1,h2⟩:=h
 cases h2
 exact ⟨v,rfl,h1⟩
noncomputable def dW:List R->M R
 | [r]=>jg r >>= λxs=>.ok (.d (.tup xs))
 | _=>.bad
theorem Am:Sd "tuple"=some (.type "tuple"):=by decide +kernel
theorem sJ:Sd "list"=some (.type "list"):=by decide +kernel
noncomputable def xG:List R->M R
 | [r]=>jg r >>= λxs=>.ok (.l .fresh xs)
 | _=>.bad
noncomputable def aT (g:G R):G Bool:=λenv=>g env >>= λr=>match r with
 | .d (.bl k)=>.ok k
 | _=>.bad
theorem jT {op:aa9}{r:R2}{f:R->R->M R}(ho:dZ X (S7 op) r) (hf:BD c r f) (ha:PD X c a ga) (hb:PD X c b gb) (hm:SA op b=false:=by first | exact zl _ | rfl):PB X c (.Compare a [op] [b] pos) (aT (g2 f ga gb)):=
 xP (JP ho ha hb hm) λσ H Q ⟨J,env,sr,w⟩=>by
  have w2:=aM w
  refine two (k:=λu v H2=>r u v H2 λz H3=>∃k,z=.bl k/\Q k H3) (Q:=λz H3=>∃k,z=.bl k/\Q k H3) sr (aG w2 λr0 wr v J1 H1 e1 r1=>?_)
   λx y u v J2 H2 sr2 e2 r1 r2 q=>hf H H J2 H2 x y u v _ sr2.hp r1 r2 q
  split at wr
  ·cases r1;exact ⟨_,rfl,wr J1 H1 e1⟩
  ·exact wr.elim
def bK (g h:G Bool):G Bool:=λenv=>g env >>= λk=>if k=true then h env else .ok false
def bU (g h:G Bool):G Bool:=λenv=>g env >>= λk=>if k=true then .ok true else h env
def bB (g:G Bool):G Bool:=λenv=>g env >>= λk=>.ok (!k)
def OU (X:Cx) (c:C) (e:RX) (g:G Bool):Prop:=PW X e (tB c g)
variable {t u:G Bool}{rest:List RX}
theorem Ig {X:Cx}{e:RX}{t t':TT}(h:PW X e t) (k:∀σ H Q,t' σ H Q->t σ H Q):PW X e t':=λwh QV s σ H Q I q=>h wh QV s σ H Q I (k σ H Q q)
noncomputable def bx (g h:G R):G R:=λenv=>g env >>= λr=>match r with
 | .d (.bl true)=>h env
 | .d (.bl false)=>.ok (.d (.bl false))
 | _=>.bad
noncomputable def rP (g h:G R):G R:=λenv=>g env >>= λr=>match r with
 | .d (.bl false)=>h env
 | .d (.bl true)=>.ok (.d (.bl true))
 | _=>.bad
noncomputable def bI (g:G R):G R:=λenv=>g env >>= λr=>match r with
 | .d (.bl k)=>.ok (.d (.bl (!k)))
 | _=>.bad
end
section
variable {X:Cx}{c:C}{e a b tg:RX}{es:List RX}{ga gb g:G R}{pos:Pos}{st:Uy}{rest:List Uy}{t u:G O}{tb:G Bool}
def bF:G O:=λenv=>.ok (.nx env)
noncomputable def aC (t u:G O):G O:=λenv=>t env >>= λo=>match o with
 | .nx e=>u e
 | o=>.ok o
def jk (g:G R):G O:=λenv=>g env >>= λ_=>.ok (.nx env)
noncomputable def rF:R->M R
 | .d x=>.ok (.d x)
 | .l .fresh xs=>.ok (.l .fresh xs)
 | .l .own xs=>.ok (.l .fresh xs)
 | .l .bor _=>.bad
 | .mo ks vs=>.ok (.mf ks vs)
 | .mf ks vs=>.ok (.mf ks vs)
 | .mb _ _=>.bad
def aO (g:G R):G O:=λenv=>g env >>= λr=>rF r >>= λr=>.ok (.rt r)
theorem RR.rf {J H J1 H1:Hp}(hp:HI c J H):∀{r r':R}{v:V},RR c H J1 H1 r v->rF r=.ok r'->RF c J1 H1 r' v
 | .d x,r',v,h,e=>by cases e;exact h
 | .l .fresh xs,r',v,⟨a,vs,h1,h2,h3,h4,h5⟩,e=>by cases e;exact ⟨a,vs,h1,h2,h3,hp.ent.free h4,h5⟩
 | .l .own xs,r',v,⟨a,vs,h1,h2,h3,h4,h5⟩,e=>by cases e;exact ⟨a,vs,h1,h2,h3,h4,h5⟩
 | .l .bor _,_,_,_,e=>nomatch e
 | .mo _ _,_,v,⟨a,h1,h2,h3,h4⟩,e=>by cases e;exact ⟨a,h1,h2,h3,h4⟩
 | .mb _ _,_,_,_,e=>nomatch e
 | .mf _ _,_,v,⟨a,h1,h2,h3,h4⟩,e=>by cases e;exact ⟨a,h1,h2,h3,hp.ent.free h4⟩
def aY (b:G Bool) (t u:G O):G O:=λenv=>b env >>= λk=>if k=true then t env else u env
noncomputable def toS:R->M S
 | .d x=>.ok (.d x)
 | .l .fresh xs=>.ok (.own xs)
 | .l .bor xs=>.ok (.bor xs)
 | .l .own _=>.bad
 | .mb ks vs=>.ok (.db ks vs)
 | .mf ks vs=>.ok (.dk ks vs)
 | .mo _ _=>.bad
theorem gM {α:Type}{l:List (Option α)}{i j:Nat}{x y:α}(h:(l.set i (some x))[j]?=some (some y)):(j=i/\i < l.length/\y=x)\/(j≠i/\l[j]?=some (some y)):=by
 by_cases e:j=i
 ·subst e
  have hj:j < l.length:=by
   have:=(RK.mp h).1
   simpa using this
  rw [SK hj] at h
  cases h
  exact .inl ⟨rfl,hj,rfl⟩
 ·rw [Se (Um e)] at h
  exact .inr ⟨e,h⟩
theorem SR.setD {J H:Hp}{σ:L2.St}{env:Ev}(sr:SR c J H σ env){i:Nat}{x:S}{v:V}(h:rA c J H x v) (hx:∀xs,x≠mS xs):SR c J H (σ.set i (some v)) (env.set i (some x)):=by
 refine ⟨sr.hp,by simpa using sr.len,λj y q=>?_,λj k xs ys w hjk q1 q2 q3 q4=>?_⟩
 ·rcases gM q with ⟨rfl,hl,rfl⟩ | ⟨hj,q⟩
  ·exact ⟨v,by rw [SK (by rw [<-sr.len];exact hl)],h⟩
  ·obtain ⟨w,h1,h2⟩:=sr.at_ j y q
   exact ⟨w,by rw [Se (Um hj)];exact h1,h2⟩
 ·rcases gM q1 with ⟨rfl,hl,e⟩ | ⟨hj,q1⟩
  ·exact hx xs e.symm
  ·rcases gM q2 with ⟨rfl,hl,e⟩ | ⟨hk,q2⟩
   ·exact hx ys e.symm
   ·rw [Se (Um hj)] at q3
    rw [Se (Um hk)] at q4
    exact sr.sep j k xs ys w hjk q1 q2 q3 q4
theorem SR.setM {J He:Hp}{σ:L2.St}{env:Ev}(sr:SR c J He σ env){J1 H1:Hp}(e1:Ext J He J1 H1){i:Nat}{y:Mn}{p:Rq}(h3:He p=none) (h:rA c J1 H1 (mS y) (.ref p)):SR c J1 H1 (σ.set i (some (.ref p))) (env.set i (some (mS y))):=by
 have sr1:=sr.ext e1
 have old:∀(j:Nat) (ys:Mn),env[j]?=some (some (mS ys))->σ[j]?≠some (some (.ref p)):=λj ys qj z=>by
  obtain ⟨a,k1,k2,_⟩:=sr.mine qj
  rw [z] at k1
  cases k1
  exact k2 h3
 refine ⟨sr1.hp,by simpa using sr.len,λj y q=>?_,λj k ys zs w hjk q1 q2 q3 q4=>?_⟩
 ·rcases gM q with ⟨rfl,hl,rfl⟩ | ⟨hj,q⟩
  ·exact ⟨.ref p,by rw [SK (by rw [<-sr.len];exact hl)],h⟩
  ·obtain ⟨w,k1,k2⟩:=sr1.at_ j y q
   exact ⟨w,by rw [Se (Um hj)];exact k1,k2⟩
 ·rcases gM q1 with ⟨rfl,hl,e⟩ | ⟨hj,q1'⟩
  ·rcases gM q2 with ⟨rfl,_,_⟩ | ⟨hk,q2⟩
   ·exact hjk rfl
   ·rw [SK (by rw [<-sr.len];exact hl)] at q3
    cases q3
    rw [Se (Um hk)] at q4
    exact old k zs q2 q4
  ·rw [Se (Um hj)] at q3
   rcases gM q2 with ⟨rfl,hl,e⟩ | ⟨hk,q2⟩
   ·rw [SK (by rw [<-sr.len];exact hl)] at q4
    cases q4
    exact old j ys q1' q3
   ·rw [Se (Um hk)] at q4
    exact sr.sep j k ys zs w hjk q1' q2 q3 q4
theorem SR.set {J He:Hp}{σ:L2.St}{env:Ev}(sr:SR c J He σ env){J1 H1:Hp}(e1:Ext J He J1 H1){i:Nat}{r:R}{x:S}{v:V}(h:RR c He J1 H1 r v) (q:toS r=.ok x):SR c J1 H1 (σ.set i (some v)) (env.set i (some x)):=by
 have sr1:=sr.ext e1
 cases r with
 | d y=>cases q;exact sr1.setD h (λx z=>by cases x <;> cases z)
 | mb _ _=>cases q;exact sr1.setD h (λx z=>by cases x <;> cases z)
 | mf ks vs=>cases q;obtain ⟨p,rfl,h1,h2,h3⟩:=h;exact sr.setM (y:=.inr (ks,vs)) e1 h3 ⟨p,rfl,h1,h2,sr.hp.ent.free h3⟩
 | mo _ _=>cases q
 | l m xs=>
  cases m with
  | own=>cases q
  | bor=>cases q;exact sr1.setD h (λx z=>by cases x <;> cases z)
  | fresh=>
   cases q
   obtain ⟨p,vs,rfl,h1,h2,h3,h4⟩:=h
   exact sr.setM (y:=.inl xs) e1 h3 ⟨p,vs,rfl,h1,h2,sr.hp.ent.free h3,h4⟩
theorem nL {α:Type}{x:R}{f:S->M α}{Q:α->Prop}{T:Exc->Prop}(w:dJ (toS x >>= f) Q T):∃d,toS x=.ok d/\dJ (f d) Q T:=by
 cases q:toS x with
 | bad=>rw [q] at w;exact w.elim
 | ok xs=>rw [q] at w;exact ⟨xs,rfl,w⟩
 | exc z=>unfold toS at q;split at q <;> cases q
def aN (i:Nat) (g:G R):G O:=λenv=>g env >>= λr=>toS r >>= λx=>.ok (.nx (env.set i (some x)))
abbrev GT:=D->Ev->M Ev
def KO (env:Ev) (σ:L2.St) (e:Ev) (σ':L2.St):Prop:=∀(j:Nat) (xs:Mn),e[j]?=some (some (mS xs))->env[j]?=some (some (mS xs))/\σ'[j]?=σ[j]?
theorem KO.refl {env:Ev}{σ:L2.St}:KO env σ env σ:=λ_ _ h=>⟨h,rfl⟩
theorem KO.trans {env e1 e2:Ev}{σ s1 s2:L2.St}(a:KO env σ e1 s1) (b:KO e1 s1 e2 s2):KO env σ e2 s2:=λj xs h=>by
 obtain ⟨h1,h2⟩:=b j xs h
 obtain ⟨h3,h4⟩:=a j xs h1
 exact ⟨h3,h2.trans h4⟩
def tT (c:C) (g:GT):TG:=λv σ H Q=>∃J env d,SR c J H σ env/\Rep c.K J d v/\dJ (g d env) (λe=>∀σ',SR c J H σ' e->KO env σ e σ'->Q σ' H) c.T
def jb (X:Cx) (c:C) (tg:RX) (g:GT):Prop:=PG X tg (tT c g)
abbrev se:=List D->Ev->M Ev
def O6 (c:C) (g:se):sF:=λvs σ H Q=>∃J env ds,SR c J H σ env/\aJ c.K J ds vs/\dJ (g ds env) (λe=>∀σ',SR c J H σ' e->KO env σ e σ'->Q σ' H) c.T
def Oe (X:Cx) (c:C) (tgs:List RX) (g:se):Prop:=yf X tgs (O6 c g)
theorem Ic {X:Cx}{e:RX}{t t':TG}(h:PG X e t) (k:∀v σ H Q,t' v σ H Q->t v σ H Q):PG X e t':=λQV s σ H v u Q I r q=>h QV s σ H v u Q I r (k v σ H Q q)
theorem EE {X:Cx}{e:List RX}{t t':sF}(h:yf X e t) (k:∀v σ H Q,t' v σ H Q->t v σ H Q):yf X e t':=λQV s σ H vs us Q I r q=>h QV s σ H vs us Q I r (k vs σ H Q q)
def aB (i:Nat):GT:=λd env=>.ok (env.set i (some (.d d)))
noncomputable def jw:se:=λds env=>match ds with
 | []=>.ok env
 | _=>.bad
noncomputable def dB (t:GT) (u:se):se:=λds env=>match ds with
 | d::r=>t d env >>= λe=>u r e
 | []=>.bad
noncomputable def iG (n:Nat) (u:se):GT:=λd env=>match d with
 | .tup ds=>if ds.length=n then u ds env else .bad
 | _=>.bad
def uQ (t:GT) (g:G R):G O:=λenv=>g env >>= λr=>toD r >>= λd=>t d env >>= λe=>.ok (.nx e)
theorem JC {t:GT}(h:PD X c e g) (ht:jb X c tg t)
  (hq:PS X (.Assign [tg] e pos) (Hj (tD c g) (tT c t))):AO X c (.Assign [tg] e pos) (uQ t g):=jo hq λE σ H ⟨J,env,sr,w⟩=>by
 refine ⟨J,env,sr,aG (aM w) λr wr v J1 H1 e1 r1=>?_⟩
 obtain ⟨d,q,wr⟩:=iY wr
 obtain ⟨J1',e1',s1,rd⟩:=freeze e1 r1 q
 refine ⟨J1',env,d,sr.ext e1',rd,aG (aM wr) λe2 w2 σ' sr' _=>?_⟩
 exact w2 σ' J1' H1 e1'.j sr'
noncomputable def Walk (c:C) (It:It) (ds:List D) (J1:Hp) (U:Hp->Hp->Prop):Prop:=∀(i:Nat) (J H:Hp),HI c J H->U J H->
 (ds.length<=i->It.stop i H)/\∀d,ds[i]?=some d->It.go i H/\∀x H2,It.yld i H x H2->∃J2,Ext J H J2 H2/\Rep c.K J2 d x
noncomputable def tI (c:C) (g:G (List D)):TI:=λσ H Q=>∃J env,SR c J H σ env/\dJ (g env) (λds=>∀It J1 H1,Ext J H J1 H1->Walk c It ds J1 (λJ' _=>aX J1 J')->Q It H1) c.T
def yg (X:Cx) (c:C) (tg QZ:RX) (g:G (List D)):Prop:=PI X tg QZ (tI c g)
theorem tX {X:Cx}{tg it:RX}{t t':TI}(h:PI X tg it t) (k:∀σ H Q,t' σ H Q->t σ H Q):PI X tg it t':=λQV s σ H Q I q=>h QV s σ H Q I (k σ H Q q)
noncomputable def e_ (t:GT) (u:G O):List D->Ev->M O
 | [],env=>.ok (.nx env)
 | d::ds,env=>t d env >>= λe=>u e >>= λo=>match o with
  | .nx e=>e_ t u ds e
  | .ct e=>e_ t u ds e
  | .bk e=>.ok (.nx e)
  | .rt r=>.ok (.rt r)
def eV (g:G (List D)) (t:GT) (u:G O):G O:=λenv=>g env >>= λds=>e_ t u ds env
noncomputable def Pa (g:G R):G (List D):=λenv=>g env >>= λr=>match r with
 | .d (.tup xs)=>.ok xs
 | _=>.bad
theorem qq {J1:Hp}{a:Rq}{vs:List V}{ds:List D}(h:dw c.K J1 a vs\/dw c.K c.H0 a vs) (hs:aJ c.K J1 ds vs):Walk c (Hu c.K a) ds J1 (λJ' _=>aX J1 J'):=by
 intro i J H hp u
 have h':dw c.K H a vs:=h.elim (λh=>hp.sub.seq (u.seq h)) λh=>hp.ent.seq h
 refine ⟨λhl=>⟨vs,h',by rw [<-hs.length];exact hl⟩,λd hd=>?_⟩
 obtain ⟨v,h1,h2⟩:=hs.get hd
 refine ⟨⟨vs,v,h',h1⟩,λx H2 ⟨e,hy⟩=>?_⟩
 subst e
 have:=hy vs h'
 rw [h1] at this
 cases this
 exact ⟨J,Ext.refl hp.sub,h2.mono u⟩
def d_ (lo:Int) (n:Nat):List D:=(Ra n).map λ(k:Nat)=>.int (lo + (k:Int))
theorem Df {J1:Hp}{lo:Int}{n:Nat}{Ut:Hp->Hp->Prop}:Walk c (Hv lo n) (d_ lo n) J1 Ut:=by
 intro i J H hp u
 refine ⟨λhl=>(show n<=i by simpa [d_] using hl),λd hd=>?_⟩
 have hi:i < n:=by
  have:=(RK.mp hd).1
  simpa [d_] using this
 have hd':d=.int (lo + i):=by
  unfold d_ at hd
  rw [RD,Vi hi] at hd
  exact (Sv hd).symm
 subst hd'
 exact ⟨hi,λx H2 ⟨e,hx⟩=>by subst e hx;exact ⟨J,Ext.refl hp.sub,.int _⟩⟩
noncomputable def bS (gs:G (List R)):G (List D):=λenv=>gs env >>= λrs=>match rs with
 | [.d (.int j)]=>if below 4611686018427387904 j then .ok (d_ 0 j.toNat) else .bad
 | _=>.bad
noncomputable def O3 (c:C) (g:G (List D)):TI:=λσ H Q=>∃J env,SR c J H σ env/\dJ (g env) (λds=>∀It J1 H1,Ext J H J1 H1->Walk c It ds J1 (λJ' H'=>aX J1 J'/\aX H1 H')->Q It H1) c.T
def pA (X:Cx) (c:C) (tg QZ:RX) (g:G (List D)):Prop:=PI X tg QZ (O3 c g)
end
section
variable {X:Cx}{c:C}{e a b tg:RX}{es:List RX}{ga gb g:G R}{pos:Pos}
theorem SR.updM {J H:Hp}{σ:L2.St}{env:Ev}(sr:SR c J H σ env){i:Nat}{x y:Mn}{p:Rq}{o:HO}(hi:env[i]?=some (some (mS x))) (hs:σ[i]?=some (some (.ref p))) (hJ:J p=none) (h0:c.H0 p=none)
  (h:rA c J (L2.upd H p o) (mS y) (.ref p)):SR c J (L2.upd H p o) σ (env.set i (some (mS y))):=by
 refine ⟨⟨λb o q=>?_,λb o q=>?_,sr.hp.entJ,sr.hp.frz⟩,by simpa using sr.len,λj y q=>?_,λj k ys zs w hjk q1 q2 q3 q4=>?_⟩
 ·have:b≠p:=λz=>by rw [z,hJ] at q;cases q
  rw [bG this];exact sr.hp.sub b o q
 ·have:b≠p:=λz=>by rw [z,h0] at q;cases q
  rw [bG this];exact sr.hp.ent b o q
 ·rcases gM q with ⟨rfl,hl,rfl⟩ | ⟨hj,q⟩
  ·exact ⟨.ref p,hs,h⟩
  ·obtain ⟨w,k1,k2⟩:=sr.at_ j y q
   refine ⟨w,k1,?_⟩
   have hne:∀(z:Mn) p',y=mS z->w=.ref p'->p'≠p:=λz p' e ew ep=>sr.sep i j x z (.ref p) (Um hj) hi (e▸q) hs (ep▸ew▸k1)
   cases y with
   | d x=>exact k2
   | bor zs=>exact k2
   | db _ _=>exact k2
   | fn _=>exact k2
   | dk ks zs=>
    obtain ⟨p',rfl,⟨us,ws,ep,m1,mr⟩,m2⟩:=k2
    exact ⟨p',rfl,⟨us,ws,ep,by rw [bG (hne (.inr (ks,zs)) p' rfl rfl)];exact m1,mr⟩,m2⟩
   | own zs=>
    obtain ⟨p',us,rfl,m1,m2,m3,m4⟩:=k2
    exact ⟨p',us,rfl,by rw [bG (hne (.inl zs) p' rfl rfl)];exact m1,m2,m3,m4⟩
 ·have f:∀(k:Nat) (ys:Mn),(env.set i (some (mS y)))[k]?=some (some (mS ys))->∃ys',env[k]?=some (some (mS ys')):=λk ys q=>by
   rcases gM q with ⟨rfl,_,_⟩ | ⟨_,q⟩
   ·exact ⟨x,hi⟩
   ·exact ⟨ys,q⟩
  obtain ⟨ys',r1⟩:=f j ys q1
  obtain ⟨zs',r2⟩:=f k zs q2
  exact sr.sep j k ys' zs' w hjk r1 r2 q3 q4
theorem SR.upd {J H:Hp}{σ:L2.St}{env:Ev}(sr:SR c J H σ env){i:Nat}{xs xs':List D}{p:Rq}{vs vs':List V}(hi:env[i]?=some (some (.own xs))) (hs:σ[i]?=some (some (.ref p))) (hH:H p=some (.lst vs)) (hJ:J p=none) (h0:c.H0 p=none)
  (h:aJ c.K J xs' vs'):SR c J (L2.upd H p (.lst vs')) σ (env.set i (some (.own xs'))):=sr.updM (x:=.inl xs) (y:=.inl xs') hi hs hJ h0 ⟨p,vs',rfl,cK,hJ,h0,h⟩
noncomputable def eE (i:Nat) (g:G R):G O:=λenv=>match env[i]? with
 | some (some (.own xs))=>g env >>= λr=>toD r >>= λd=>if xs.length < sizeLine then .ok (.nx (env.set i (some (.own (xs++[d]))))) else .bad
 | _=>.bad
noncomputable def bR:R->S
 | .d x=>.d x
 | .l _ xs=>.bor xs
 | .mo ks vs=>.db ks vs
 | .mb ks vs=>.db ks vs
 | .mf ks vs=>.db ks vs
noncomputable def mh (K:Q7) (J H:Hp):List S->List V->Prop
 | [],vs=>vs=[]
 | s::ss,vs=>∃v us,vs=v::us/\(match s with
  | .d x=>Rep K J x v
  | .bor xs=>∃a ws,v=.ref a/\dw K H a ws/\aJ K J xs ws
  | .db ks ws=>∃a,v=.ref a/\fj K J H a ks ws
  | .fn x=>∃f,v=.ref f/\R_ K RP x=some (some (.ref f))
  | _=>False)/\mh K J H ss us
theorem mh.length {K:Q7}{J H:Hp}:∀{ss:List S}{vs:List V},mh K J H ss vs->vs.length=ss.length
 | [],_,h=>by cases h;rfl
 | _::_,_,⟨_,_,h,_,h2⟩=>by subst h;exact congrArg (· + 1) h2.length
theorem mh.get {K:Q7}{J H:Hp}:∀{ss:List S}{vs:List V}{i:Nat}{s:S},mh K J H ss vs->ss[i]?=some s->∃v,vs[i]?=some v/\(match s with
  | .d x=>Rep K J x v
  | .bor xs=>∃a ws,v=.ref a/\dw K H a ws/\aJ K J xs ws
  | .db ks ws=>∃a,v=.ref a/\fj K J H a ks ws
  | .fn x=>∃f,v=.ref f/\R_ K RP x=some (some (.ref f))
  | _=>False)
 | [],_,_,_,_,e=>by simp at e
 | _::_,_,0,_,⟨v,us,h,h1,h2⟩,e=>by simp at e;subst e;subst h;exact ⟨v,rfl,h1⟩
 | _::_,_,i + 1,s,⟨v,us,h,h1,h2⟩,e=>by
  subst h
  obtain ⟨v,k1,k2⟩:=mh.get (i:=i) (s:=s) h2 (by simpa using e)
  exact ⟨v,by simpa using k1,k2⟩
noncomputable def FR (K:Q7) (H J' H':Hp):R->V->Prop
 | .d x,v=>Rep K J' x v
 | .l _ xs,v=>∃a vs,v=.ref a/\H' a=some (.lst vs)/\J' a=none/\H a=none/\aJ K J' xs vs
 | .mf ks vs,v=>∃a,v=.ref a/\fj K J' H' a ks vs/\J' a=none/\H a=none
 | _,_=>False
noncomputable def qh (K:Q7) (n:Nat) (F:List S->M R):Sp:=λvs H Q _=>∃J as,aX J H/\as.length=n/\mh K J H as vs/\dJ (F as) (λr=>∀v J' H',Ext J H J' H'->FR K H J' H' r v->Q v H') (λ_=>False)
noncomputable def fin:M O->M R
 | .ok (.rt r)=>.ok r
 | .ok (.nx _)=>.ok (.d .non)
 | .exc x=>.exc x
 | _=>.bad
def aI (N:List Str) (as:List S):Ev:=as.map some++R5 (N.length - as.length) none
theorem wD {N:List Str}{as:List S}{i:Nat}{x:S}(h:(aI N as)[i]?=some (some x)):as[i]?=some x:=by
 unfold aI at h
 by_cases hi:i < as.length
 ·rw [Tu (by simpa using hi),RD] at h
  cases q:as[i]? with
  | none=>rw [q] at h;cases h
  | some y=>rw [q] at h;cases h;rfl
 ·rw [SI (by simpa using hi),Vt] at h
  split at h <;> cases h
theorem Hi {N:List Str}{vs:List V}{i:Nat}{v:V}(h:vs[i]?=some v):(L2.start N vs)[i]?=some (some v):=by
 unfold L2.start
 have hi:i < vs.length:=(RK.mp h).1
 rw [Tu (by simpa using hi),RD,h]
 rfl
theorem Hg {K:Q7}{J H:Hp}{T:Exc->Prop}{N:List Str}{as:List S}{vs:List V}(hs:aX J H) (h:mh K J H as vs):SR ⟨K,H,J,T⟩ J H (L2.start N vs) (aI N as):=by
 have own:∀(i:Nat) (xs:Mn),(aI N as)[i]?≠some (some (mS xs)):=λi xs q=>by
  obtain ⟨v,_,k⟩:=h.get (wD q)
  cases xs <;> exact k
 refine ⟨⟨hs,aX.refl H,aX.refl J,λ_ _ q=>q⟩,?_,λi x q=>?_,λi j xs ys v _ q=>absurd q (own i xs)⟩
 ·unfold aI L2.start
  rw [RI,RI,Rh,Rh,Ss,Ss,h.length]
 ·obtain ⟨v,k1,k2⟩:=h.get (wD q)
  refine ⟨v,Hi k1,?_⟩
  cases x with
  | d y=>exact k2
  | own y=>exact k2.elim
  | bor y=>exact k2
  | dk _ _=>exact k2.elim
  | db _ _=>exact k2
  | fn _=>exact k2
abbrev HH (P:Rz) (w:RZ) (K:Q7) (mg:Str->Option Q8) (base:SM) (N:List Str) (Q2:Str) (sc:T7) (f:Rq) (cd:Q8) (A:R4) (outer:List Env) (s:Q_) (H:Hp) (E:XK):Cx:=(rK oW P w K mg base N Q2 sc f cd A outer s H E).nox
theorem DV {P:Rz}{w:RZ}{K:Q7}{mg:Str->Option Q8}{base:SM}{x Q2:Str}{st:Uy}{f:Rq}{fd:RO}{N ps:List Str}{k:Nat}{Fm:List S->M R}(F:dh K x Q2 st f fd) (Sc:br N ps (az st)){gB:G O}
  (hb:∀(cdv:Q8) (A:R4) (outer:List Env) (s:Q_) (H:Hp) (E:XK) (J:Hp) (T:Exc->Prop),fk k (A.deeper (Xo Q2 (az st) s.heap.objs.size f cdv))->
   KS (HH P w K mg base N Q2 (az st) f cdv A outer s H E) ⟨K,H,J,T⟩ (aW st) gB)
  (hF:∀as r,as.length=ps.length->Fm as=.ok r->fin (gB (aI N as))=.ok r):jB P w K mg base oW (k + 1) f fd ps (qh K ps.length Fm):=by
 refine F.ok Sc (λvs H Q E h=>?_) (λcdv A outer s H vs Q E hr h=>?_)
 ·obtain ⟨J,as,h1,h2,h3,h4⟩:=h
  rw [h3.length,h2]
 ·obtain ⟨J,as,h1,h2,h3,h4⟩:=h
  refine ⟨_,hb cdv A outer s H E J (λ_=>False) hr,J,aI N as,Hg h1 h3,?_⟩
  cases q:Fm as with
  | bad=>rw [q] at h4;exact h4.elim
  | exc x=>rw [q] at h4;exact h4.elim
  | ok r=>
   rw [q] at h4
   have z:=hF as r h2 q
   have ext:∀{J' H':Hp},HI ⟨K,H,J,λ_=>False⟩ J' H'->Ext J H J' H':=λhp=>⟨hp.ent,hp.entJ,hp.sub,hp.frz⟩
   cases qg:gB (aI N as) with
   | bad=>rw [qg] at z;cases z
   | exc x=>rw [qg] at z;cases z
   | ok o=>
    rw [qg] at z
    cases o with
    | bk _=>cases z
    | ct _=>cases z
    | nx env=>cases z;exact λσ' J' H' _ sr=>h4 .non J' H' (ext sr.hp) .non
    | rt r'=>
     cases z
     exact λv J' H' _ hp rf=>h4 v J' H' (ext hp) (by
      cases r with
      | d x=>exact rf
      | l m xs=>exact rf
      | mo _ _=>exact rf
      | mf _ _=>exact rf
      | mb _ _=>exact rf)
noncomputable def cF:R->R
 | .d x=>.d x
 | .l _ xs=>.l .fresh xs
 | .mo ks vs=>.mo ks vs
 | .mb ks vs=>.mb ks vs
 | .mf ks vs=>.mf ks vs
noncomputable def aE (n:Nat) (F:List S->M R):List R->M R:=λrs=>if rs.length=n then (match F (rs.map bR) with
 | .ok r=>.ok (cF r)
 | _=>.bad) else .bad
theorem lO.args {He J H:Hp}(hp:HI c J H):∀{rs:List R}{vs:List V},lO c He J H rs vs->mh c.K J H (rs.map bR) vs
 | [],_,h=>h
 | r::rs,_,⟨v,us,h,h1,h2⟩=>by
  refine ⟨v,us,h,?_,lO.args hp h2⟩
  cases r with
  | d x=>exact h1
  | l m xs=>exact RR.list hp h1 rfl
  | mo _ _=>obtain ⟨a,h1,h2,_⟩:=h1;exact ⟨a,h1,h2⟩
  | mb _ _=>obtain ⟨a,h1,h2⟩:=h1;exact ⟨a,h1,h2.mono (aX.refl _) hp.ent⟩
  | mf _ _=>obtain ⟨a,h1,h2,_⟩:=h1;exact ⟨a,h1,h2⟩
theorem Ij {n:Nat}{F:List S->M R}{J H J1 H1:Hp}{Q:VK}{as:List S}{vs:List V}{T:Exc->Prop}(hT:c.K=X.K) (e1:Ext J H J1 H1) (ar:mh c.K J1 H1 as vs) (hl:as.length=n)
  (wr:dJ (match F as with
   | .ok r=>.ok (cF r)
   | _=>.bad) (λr=>∀v J' H',Ext J H J' H'->RR c H J' H' r v->Q v H') T):qh X.K n F (vs++[]) H1 Q E0:=by
 rw [hT] at ar
 refine ⟨J1,as,e1.sub,hl,by rw [Ur];exact ar,?_⟩
 cases q:F as with
 | bad=>rw [q] at wr;exact wr
 | exc x=>rw [q] at wr;exact wr
 | ok r=>
  rw [q] at wr
  intro v J' H' e2 fr
  refine wr v J' H' (e1.trans e2) ?_
  cases r with
  | d y=>exact (show Rep c.K J' y v from hT▸fr)
  | mo _ _=>exact fr.elim
  | mb _ _=>exact fr.elim
  | mf _ _=>obtain ⟨a,h1,h2,h3,h4⟩:=fr;exact ⟨a,h1,hT▸h2,h3,e1.h.free h4⟩
  | l m ys=>
   obtain ⟨a,us,h1,h2,h3,h4,h5⟩:=fr
   exact ⟨a,us,h1,h2,h3,e1.h.free h4,hT▸h5⟩
theorem yv {n:Nat}{F:List S->M R}{gs:G (List R)}(hT:c.K=X.K):∀σ H Q,tD c (gN (aE n F) gs) σ H Q->Il (qh X.K n F) [] E0 (tA c gs) σ H Q:=λσ H Q ⟨J,env,sr,w⟩=>by
 refine ⟨J,env,sr,aG (aM w) λrs wr vs J1 H1 e1 r1=>?_⟩
 unfold aE at wr
 split at wr
 ·rename_i hl
  exact Ij hT e1 (r1.args (sr.hp.ext e1)) (by simpa using hl) wr
 ·exact wr.elim
theorem JE {k n:Nat}{f:Rq}{fd:RO}{ps:List Str}{F:List S->M R}{x:Str}{p:Pos}{gs:G (List R)}(G:jB X.prog X.w X.K X.mg X.base oW k f fd ps (qh X.K n F)) (hr:fk k X.A) (hm:X.mg x=some (.ref f)) (hk:UK X.K (.ref f)=true)
  (hb:Binds X.K fd ps []) (ha:HB X c (e::es) gs) (hT:c.K=X.K:=by rfl) (hg:Gl X x:=by rfl) (hdb:(x == ("__debug__":Str))=false:=by decide) (he:Rr (e::es) X.env=(false,eval e X.env)::Rr es X.env:=by rfl)
  (hpl:(TU pos (Rr es X.env)).any (·.1)=false:=by rfl):PD X c (.Call (.Name x p) (e::es) [] pos) (gN (aE n F) gs):=
 gH (Bj (E:=E0) G hr hg hm hk hb .nil Cy ha hdb he hpl) (yv hT)
end
noncomputable def bH (cells:List (Str×Rq)):List (Str×Tt)->List (Str×Rq)->Option (List (Str×Rq))
 | [],cs=>some cs
 | (n,k)::r,cs=>if k == .free then (match cells.lookup n with
  | some a=>bH cells r ((n,a)::cs)
  | none=>none) else bH cells r cs
theorem mw {env:Env}:∀(names:List (Str×Tt)) (cs cl:List (Str×Rq)),bH env.cells names cs=some cl->
  (forIn names cs λ(x:Str×Tt) (r:List (Str×Rq))=>(if (x.2 == .free)=true then do let a <-cellOf env x.1;pure (TY ((x.1,a)::r)) else pure (TY r):Sem (ForInStep (List (Str×Rq)))))=(pure cl:Sem (List (Str×Rq)))
 | [],cs,cl,h=>by cases h;rfl
 | (n,k)::r,cs,cl,h=>by
  unfold bH at h
  rw [List.forIn_cons]
  cases hk:(k == SD) with
  | true=>
   rw [hk,if_pos rfl] at h
   cases hc:env.cells.lookup n with
   | none=>rw [hc] at h;cases h
   | some a=>
    rw [hc] at h
    have e:cellOf env n=pure a:=by unfold cellOf;rw [hc]
    simp only [hk,if_true,e]
    exact mw r ((n,a)::cs) cl h
  | false=>
   rw [hk,if_neg (by decide)] at h
   simp only [hk]
   exact mw r cs cl h
theorem wZ {QU:T7}{env:Env}{cl:List (Str×Rq)}(h:bH env.cells QU.names []=some cl):closureFor QU env=pure cl:=by
 have q:=mw (env:=env) QU.names [] cl h
 unfold closureFor
 show ((forIn QU.names [] λ(x:Str×Tt) (r:List (Str×Rq))=>(if (x.2 == .free)=true then do let a <-cellOf env x.1;pure (TY ((x.1,a)::r)) else pure (TY r):Sem (ForInStep (List (Str×Rq))))) >>= λz=>pure z)=pure cl
 rw [q]
 rfl
theorem gY {cells:List (Str×Rq)}:∀(names:List (Str×Tt)) (cs cl:List (Str×Rq)),bH cells names cs=some cl->(∀x c,cs.lookup x=some c->cells.lookup x=some c)->
  (∀x c,cl.lookup x=some c->cells.lookup x=some c)/\(∀x,((cs.lookup x).isSome=true\/(x,SD)∈names)->(cl.lookup x).isSome=true)
 | [],cs,cl,h,k=>by
  cases h
  exact ⟨k,λx hx=>hx.elim id λz=>by cases z⟩
 | (n,kd)::r,cs,cl,h,k=>by
  unfold bH at h
  cases hk:(kd == SD) with
  | true=>
   rw [hk,if_pos rfl] at h
   cases hc:cells.lookup n with
   | none=>rw [hc] at h;cases h
   | some a=>
    rw [hc] at h
    obtain ⟨h1,h2⟩:=gY r ((n,a)::cs) cl h (λx c q=>by
     rw [SQ] at q
     cases e:x == n with
     | true=>
      rw [e] at q
      cases q
      have:x=n:=by simpa using e
      rw [this];exact hc
     | false=>rw [e] at q;exact k x c q)
    refine ⟨h1,λx hx=>h2 x ?_⟩
    by_cases e:x=n
    ·left;subst e;rw [SQ];simp
    ·have e':(x == n)=false:=by simpa using e
     rcases hx with hx | hx
     ·left;rw [SQ,e'];exact hx
     ·right
      rcases Rt.mp hx with z | z
      ·cases z;exact absurd rfl e
      ·exact z
  | false=>
   rw [hk,if_neg (by decide)] at h
   obtain ⟨h1,h2⟩:=gY r cs cl h k
   refine ⟨h1,λx hx=>h2 x ?_⟩
   rcases hx with hx | hx
   ·exact .inl hx
   ·rcases Rt.mp hx with z | z
    ·cases z;simp at hk
    ·exact .inr z
section
variable {X:Cx}
def cN (X:Cx) (own:List Str) (cap:List Nat):List Str:=own++cap.map λ(j:Nat)=>(X.N[j]?).getD ("":Str)
noncomputable def Lb (X:Cx) (own:List Str) (cap:List Nat) (QU:T7) (cl:List (Str×Rq)) (C:Rq) (s:Q_) (H:Hp) (fp:List Rq):Cx where
 prog:=X.prog
 w:=X.w
 K:=X.K
 mg:=X.mg
 base:=X.base
 A:=X.A
 N:=cN X own cap
 s₀:=s
 H₀:=H
 env:=compEnvC QU cl C X.env
 outer:=X.stack
 stack:=X.stack
 ex:=fp
 fn:=λ_=>false
 calm:=X.calm
 pn:=[]
 xe:=λ_ _=>False
noncomputable def eK (X:Cx) (cap:List Nat):Bool:=cap.all λj=>match X.N[j]? with
 | some x=>(match X.env.scope.names.lookup x with
  | some .cell=>true
  | some .free=>true
  | _=>false)
 | none=>false
theorem zE {QU:T7}{env:Env}(hc:∀y∈QU.names,y.2≠.cell):∀{x:Str},((relabel QU env).names.lookup x=some .cell\/(relabel QU env).names.lookup x=some .free)->(x,SD)∈QU.names:=by
 unfold relabel
 have main:∀(names:List (Str×Tt)),(∀y∈names,y.2≠.cell)->∀x,((names.map λ(n,k)=>if (k == SD && env.scope.kind == .function && env.kindOf n == some .cell) then (n,Vx) else (n,k)).lookup x=some .cell\/
   (names.map λ(n,k)=>if (k == SD && env.scope.kind == .function && env.kindOf n == some .cell) then (n,Vx) else (n,k)).lookup x=some .free)->(x,SD)∈names:=by
  intro names
  induction names with
  | nil=>intro _ x h;simp at h
  | cons p r ih=>
   obtain ⟨n,k⟩:=p
   intro hc x h
   rw [Rv] at h
   simp only at h
   by_cases hx:x=n
   ·subst hx
    have hk:k≠.cell:=hc (x,k) Rf
    have:k=.free:=by
     by_cases q:(k == SD && env.scope.kind == .function && env.kindOf x == some .cell)=true
     ·rw [Ri,Ri] at q
      simpa using q.1.1
     ·rw [if_neg q,SQ] at h
      simp at h
      rcases h with h | h
      ·exact absurd h hk
      ·exact h
    subst this
    exact Rf
   ·have hx':(x == n)=false:=by simpa using hx
    refine Rb _ (ih (λy hy=>hc y (Rb _ hy)) x ?_)
    have red:∀(q:Str×Tt) (l:List (Str×Tt)),q.1=n->abC x (q::l)=abC x l:=λq l hq=>by
     obtain ⟨q1,q2⟩:=q
     simp only at hq
     subst hq
     rw [SQ,hx']
    have hq:(if (k == SD && env.scope.kind == .function && env.kindOf n == some .cell) then (n,Vx) else (n,k)).1=n:=by split <;> rfl
    rw [red _ _ hq] at h
    exact h
 intro x h
 exact main QU.names hc x h
end
section
variable {X:Cx}{c:C}
noncomputable def gU (X:Cx) (c:C) (ifs:List RX) (g:G Bool):Prop:=
 ∀(QV:List (Rq×Obj)) (s:Q_) (σ:L2.St) (H:Hp) (Q:Bool->Hp->Prop),Inv X QV σ H s->tB c g σ H Q->
  RA (RG X.prog X.w) X.A (forIn ifs true λc r=>if r=true then do let ok <-Yk c X.env (eval c X.env);pure (TY ok) else pure (TY r)) (TP X QV σ Q) X.xe s
def cR:G Bool:=λ_=>.ok true
noncomputable def dG (gt:GT) (gts:G Bool) (ge:G R):List D->Ev->M (List D)
 | [],_=>.ok []
 | d::ds,env=>gt d env >>= λe=>gts e >>= λk=>if k=true then ge e >>= λr=>toD r >>= λy=>dG gt gts ge ds e >>= λys=>.ok (y::ys) else dG gt gts ge ds e
def cE (n:Nat) (cap:List Nat) (env:Ev):Ev:=R5 n none++cap.map λ(j:Nat)=>(env[j]?).getD none
noncomputable def bN (n:Nat) (cap:List Nat) (gi:G (List D)) (gt:GT) (gts:G Bool) (ge:G R):G R:=λenv=>gi env >>= λds=>if ds.length<=sizeLine then dG gt gts ge ds (cE n cap env) >>= λys=>.ok (.l .fresh ys) else .bad
theorem ki {α:Type}{n:Nat}{cap:List Nat}{env:List (Option α)}{i:Nat}{x:α}(h:(R5 n none++cap.map λ(j:Nat)=>(env[j]?).getD none)[i]?=some (some x)):∃j,n<=i/\cap[i - n]?=some j/\env[j]?=some (some x):=by
 by_cases hi:i < n
 ·rw [Tu (by simpa using hi),Vt] at h
  split at h <;> cases h
 ·rw [SI (by simpa using hi),Ss,RD] at h
  cases q:cap[i - n]? with
  | none=>rw [q] at h;cases h
  | some j=>
   rw [q] at h
   refine ⟨j,by omega,rfl,?_⟩
   have h':(env[j]?).getD none=some x:=Sv h
   cases z:env[j]? with
   | none=>rw [z] at h';cases h'
   | some o=>rw [z] at h';exact congrArg some h'
theorem Nb {α:Type}{n:Nat}{cap:List Nat}{env:List (Option α)}{i j:Nat}{x:α}(h1:n<=i) (h2:cap[i - n]?=some j) (h3:env[j]?=some (some x)):(R5 n none++cap.map λ(j:Nat)=>(env[j]?).getD none)[i]?=some (some x):=by
 rw [SI (by simpa using h1),Ss,RD,h2]
 simp [h3]
theorem SR.cap {J H:Hp}{σ:L2.St}{env:Ev}(sr:SR c J H σ env) (n:Nat) (cap:List Nat) (hnd:cap.Nodup):SR c J H (R5 n none++cap.map λ(j:Nat)=>(σ[j]?).getD none) (cE n cap env):=by
 refine ⟨sr.hp,by simp [cE],λi x q=>?_,λi j xs ys v hij q1 q2 q3 q4=>?_⟩
 ·obtain ⟨j,h1,h2,h3⟩:=ki q
  obtain ⟨v,k1,k2⟩:=sr.at_ j x h3
  exact ⟨v,Nb h1 h2 k1,k2⟩
 ·obtain ⟨a,h1,h2,h3⟩:=ki q1
  obtain ⟨b,h4,h5,h6⟩:=ki q2
  obtain ⟨a',h7,h8,h9⟩:=ki q3
  obtain ⟨b',QT,h11,h12⟩:=ki q4
  rw [h2] at h8;cases h8
  rw [h5] at h11;cases h11
  have hab:a≠b:=λz=>by
   subst z
   have e1:=(RK.mp h2)
   have e2:=(RK.mp h5)
   have:=(Zu hnd).mp (e1.2.trans e2.2.symm)
   omega
  exact sr.sep a b xs ys v hab h3 h6 h9 h12
theorem SR.other {J H:Hp}{σ:L2.St}{env:Ev}(sr:SR c J H σ env){p:Rq}{o:HO}(hJ:J p=none) (h0:c.H0 p=none) (hn:∀(j:Nat) (xs:Mn),env[j]?=some (some (mS xs))->σ[j]?≠some (some (.ref p))):SR c J (L2.upd H p o) σ env:=by
 refine ⟨⟨λb u q=>?_,λb u q=>?_,sr.hp.entJ,sr.hp.frz⟩,sr.len,λj y q=>?_,sr.sep⟩
 ·have:b≠p:=λz=>by rw [z,hJ] at q;cases q
  rw [bG this];exact sr.hp.sub b u q
 ·have:b≠p:=λz=>by rw [z,h0] at q;cases q
  rw [bG this];exact sr.hp.ent b u q
 ·obtain ⟨w,k1,k2⟩:=sr.at_ j y q
  refine ⟨w,k1,?_⟩
  cases y with
  | d x=>exact k2
  | bor zs=>exact k2
  | db _ _=>exact k2
  | fn _=>exact k2
  | dk ks zs=>
   obtain ⟨p',rfl,⟨us,ws,ep,m1,mr⟩,m2⟩:=k2
   have hne:p'≠p:=λz=>hn j (.inr (ks,zs)) q (z▸k1)
   exact ⟨p',rfl,⟨us,ws,ep,by rw [bG hne];exact m1,mr⟩,m2⟩
  | own zs=>
   obtain ⟨p',us,rfl,m1,m2,m3,m4⟩:=k2
   have hne:p'≠p:=λz=>hn j (.inl zs) q (z▸k1)
   exact ⟨p',us,rfl,by rw [bG hne];exact m1,m2,m3,m4⟩
theorem Ext.other {J H J' H':Hp}(e:Ext J H J' H'){p:Rq}{o:HO}(h:H p=none) (hJ:J' p=none):Ext J H J' (L2.upd H' p o):=
 ⟨λb u q=>by rw [bG (fX q h)];exact e.h b u q,e.j,λb u q=>by
  have:b≠p:=λz=>by rw [z,hJ] at q;cases q
  rw [bG this];exact e.sub b u q,e.frz⟩
theorem Az {P:Rz}{w:RZ}{H:Hp}{h h':SM}{a:Rq}(x:gJ P w H h) (hn:H a=none) (sb:Sy a h h'):gJ P w H h':=λb u e=>by
 refine (x b u e).stay (λd v hd q=>(sb.2 d ?_).trans q) (λ_ q=>q) λ_ _ q=>q
 rintro rfl
 rcases hd with rfl | hd
 ·rw [hn] at e;cases e
 ·rw [hn] at hd;cases hd
theorem OR {QV:List (Rq×Obj)}{σ:L2.St}{H:Hp}{s:Q_}{own:List Str}{cap:List Nat}{QU:T7}{cl:List (Str×Rq)}{fp:List Rq}{h1:SM}{m:Str->Option Q8}{tk:Nat}(I:Inv X QV σ H s) (ok:(Lb X own cap QU cl s.heap.objs.size s H fp).Ok)
  (hcl:bH X.env.cells QU.names []=some cl) (hcell:∀y∈QU.names,y.2≠.cell) (hcap:eK X cap=true) (Pj:∀j∈cap,∀x,X.N[j]?=some x->(relabel QU X.env).names.lookup x≠some .local)
  (hns:h1.Ns s.heap.objs.size m) (old:∀b o,s.heap.get? b=some o->h1.get? b=some o):
  Inv (Lb X own cap QU cl s.heap.objs.size s H fp) [] (R5 own.length none++cap.map λ(j:Nat)=>(σ[j]?).getD none) H {s with heap:=h1,toks:=tk}:=by
 obtain ⟨m1,m2⟩:=gY QU.names [] cl hcl (λx c h=>by simp at h)
 refine ⟨ok,rfl,I.bare,Un.kept old,⟨m,hns,λi x v q1 q2 q3=>?_⟩,λx d h=>?_,I.hok.fresh (Rj _),λx d h=>I.freeC x d (m1 x d h),λp hp=>absurd (show p∈([]:List (Rq×Obj)) from hp) (by simp),I.hok.kept old,?_⟩
 ·obtain ⟨j,h2,h3,h4⟩:=ki q2
  have q1':(own++cap.map λ(j:Nat)=>(X.N[j]?).getD ("":Str))[i]?=some x:=q1
  rw [SI (by exact h2),RD,h3] at q1'
  have hj:j∈cap:=SJ h3
  have hc:(match X.N[j]? with
   | some x=>(match X.env.scope.names.lookup x with
    | some .cell=>true
    | some .free=>true
    | _=>false)
   | none=>false)=true:=by
   unfold eK at hcap
   exact R0.mp hcap j hj
  cases hx:X.N[j]? with
  | none=>rw [hx] at hc;cases hc
  | some y=>
   rw [ZP,hx] at q1'
   rw [hx] at hc
   have e:y=x:=by simpa using q1'
   subst e
   have kd:X.env.kindOf y=some .cell\/X.env.kindOf y=some .free:=by
    unfold abV
    simp only at hc
    split at hc
    ·rename_i z;exact .inl z
    ·rename_i z;exact .inr z
    ·cases hc
   obtain ⟨mX,nX,lX⟩:=I.loc
   obtain ⟨u,ru,lu⟩:=lX j y v hx h4 (kd.elim (λz=>.inr (.inl z)) λz=>.inr (.inr z))
   refine ⟨u,ru,.inr ?_⟩
   have kd':(relabel QU X.env).names.lookup y=some .cell\/(relabel QU X.env).names.lookup y=some .free:=by
    rcases q3 with z | z | z
    ·exact absurd z (Pj j hj y hx)
    ·exact .inl z
    ·exact .inr z
   refine ⟨kd',?_⟩
   obtain ⟨d,hd⟩:=SE.mp (m2 y (.inr (zE hcell kd')))
   refine ⟨d,hd,?_⟩
   rcases lu with ⟨z,_⟩ | ⟨_,d',hd',z⟩
   ·rcases kd with k | k <;> (rw [k] at z;cases z)
   ·have:=m1 y d hd
    rw [hd'] at this
    cases this
    obtain ⟨o,ho,hod⟩:=z
    exact ⟨o,old _ _ ho,hod⟩
 ·obtain ⟨v,o,ho,hod⟩:=I.cell x d (m1 x d h)
  exact ⟨v,o,old _ _ ho,hod⟩
 ·show _=(own++cap.map λ(j:Nat)=>(X.N[j]?).getD ("":Str)).length
  simp
noncomputable def eU (X:Cx) (cap:List Nat) (QU:T7):Bool:=cap.all λj=>match X.N[j]? with
 | some x=>!((relabel QU X.env).names.lookup x == some .local)
 | none=>true
noncomputable def gp:List Nat->Bool
 | []=>true
 | x::r=>!(r.contains x) && gp r
theorem Bg:∀{l:List Nat},gp l=true->l.Nodup
 | [],_=>TR
 | x::r,h=>by
  unfold gp at h
  rw [Ri] at h
  refine S9.mpr ⟨λz=>?_,Bg h.2⟩
  have:=h.1
  simp [z] at this
theorem K4 {X:Cx}{QV:List (Rq×Obj)}{σ:L2.St}{H:Hp}{s:Q_}(I:L2.Inv X QV σ H s){T:Rq}(h:s.heap.objs.size<=T):(T∈X.ex\/X.s₀.heap.objs.size<=T)/\T≠X.env.locals/\(∀x c,X.env.cells.lookup x=some c->c≠T)/\∀p∈X.pn++QV,p.1≠T:=by
 have ne:∀b,b < s.heap.objs.size->b≠T:=λb hb z=>absurd (RC (z▸hb) h) (Tr _)
 refine ⟨.inr (RS I.sz h),(ne _ I.lt).symm,λx c hc=>?_,λp hp=>ne _ (Ru (I.pin p hp).1)⟩
 obtain ⟨v,o,hv,_⟩:=I.cell x c hc
 exact ne _ (Ru hv)
theorem pV {X:Cx}{QV:List (Rq×Obj)}{σ:L2.St}{H:Hp}{s:Q_}{C:Rq}{h':SM}{o0:Obj}(I:L2.Inv X QV σ H s) (ap:(C∈X.ex\/X.s₀.heap.objs.size<=C)/\C≠X.env.locals/\(∀x c,X.env.cells.lookup x=some c->c≠C)/\∀p∈X.pn++QV,p.1≠C) (hf:H C=none) (sb:Sy C s.heap h'):L2.Inv X QV σ H {s with heap:=h'}:=by
 refine I.call' (ch:=[C]) rfl ⟨λb o hb hn _ hx=>?_,λb o hb hn _ hx=>⟨o.slots,?_⟩,λ_ _ _ n _=>n,λb o hb hx=>⟨o,?_⟩,λ_ _ q=>q,λ_ _ _ q=>q,λ_ ps q=>⟨#[],by rw [q];simp⟩⟩ (λa o ha=>?_) I.bare (λb hb=>by rw [Rp.mp hb];exact ap)
 ·exact (sb.2 b λz=>hx (by simp [z])).trans hb
 ·exact (sb.2 b λz=>hx (by simp [z])).trans hb
 ·exact (sb.2 b λz=>hx (by simp [z])).trans hb
 ·refine (I.hok a o ha).stay (λb u hb q=>(sb.2 b λz=>?_).trans q) (λ_ q=>q) λ_ _ q=>q
  rcases hb with rfl | hb
  ·rw [z,hf] at ha;cases ha
  ·rw [z,hf] at hb;cases hb
end
mutual
noncomputable def bz:D->D->Bool
 | .non,.non=>true
 | .bl p,.bl q=>p == q
 | .bl p,.int q=>(if p then 1 else 0) == q
 | .int p,.bl q=>p == (if q then 1 else 0)
 | .int p,.int q=>p == q
 | .str p,.str q=>p == q
 | .tup p,.tup q=>cP p q
 | .lst p,.lst q=>cP p q
 | .emp,.emp=>true
 | .exn _ _ _,.exn _ _ _=>true
 | .dct _ _,.dct _ _=>true
 | _,_=>false
noncomputable def cP:List D->List D->Bool
 | [],[]=>true
 | x::xs,y::ys=>bz x y && cP xs ys
 | _,_=>false
end
mutual
theorem fF:∀d:D,bz d d=true
 | .non=>by simp [bz]
 | .bl _=>by simp [bz]
 | .int _=>by simp [bz]
 | .str _=>by simp [bz]
 | .tup xs=>by simp only [bz];exact pI xs
 | .lst xs=>by simp only [bz];exact pI xs
 | .emp=>by simp [bz]
 | .exn _ _ _=>by simp [bz]
 | .dct _ _=>by simp [bz]
theorem pI:∀ds:List D,cP ds ds=true
 | []=>by simp [cP]
 | x::xs=>by simp only [cP,fF x,pI xs,aaR]
end
theorem nS:∀{xs ys:List D},xs.length≠ys.length->cP xs ys=false
 | [],[],h=>absurd rfl h
 | [],_::_,_=>by simp [cP]
 | _::_,[],_=>by simp [cP]
 | x::xs,y::ys,h=>by
  simp only [cP,nS (xs:=xs) (ys:=ys) (λz=>h (congrArg (· + 1) z)),UL]
noncomputable def oz (xs ys:List D) (j:Nat):Bool:=match xs[j]?,ys[j]? with
 | some x,some y=>bz x y
 | _,_=>false
theorem nT:∀{xs ys:List D},xs.length=ys.length->(Ra xs.length).all (oz xs ys)=cP xs ys
 | [],[],_=>by simp [cP]
 | x::xs,y::ys,h=>by
  have ih:=nT (xs:=xs) (ys:=ys) (by simpa using h)
  rw [SG,UM,UC,XU]
  simp only [cP]
  rw [<-ih]
  rfl
theorem yN (xs ys:List D):((Ra (min xs.length ys.length)).all (oz xs ys) && xs.length == ys.length)=cP xs ys:=by
 by_cases h:xs.length=ys.length
 ·rw [<-h,Nat.min_self,nT h];simp
 ·rw [nS h,beq_eq_false_iff_ne.mpr h,UL]
section
structure HF (K:Q7) (J:Hp) (s:Q_):Prop where
 t:∀a xs,dY K J a xs->∃QX:List Q8,Vals xs QX/\s.heap.IsTuple a QX.toArray
 l:∀a xs,dw K J a xs->∃QX:List Q8,Vals xs QX/\s.heap.IsList a QX.toArray
 e:∀a,J a=some (.dK [])->∃o,s.heap.get? a=some o/\o.cls=.type "dict"
 d:∀a ep Q4,J a=some (kT a ep Q4)->∃o es,s.heap.get? a=some o/\o.ExactDict/\o.data=.dict es ep/\WT xW Q4 es.toList
variable {K:Q7}{J:Hp}{s:Q_}
theorem HF.of {X:Cx}{c:C}{QV:List (Rq×Obj)}{σ:L2.St}{H:Hp}(I:Inv X QV σ H s) (hs:aX J H):HF X.K J s:=
 ⟨λa xs h=>let ⟨QX,r,p,_⟩:=I.tuple (gc hs h);⟨QX,r,p⟩,λa xs h=>let ⟨QX,r,p,_⟩:=I.list (hs.seq h);⟨QX,r,p.isList⟩,λa h=>by
  obtain ⟨_,_,vs,_,p⟩:=(show cM X.prog X.w H s.heap a (.dK []) from I.hok a _ (hs _ _ h))
  obtain ⟨o,es,ep,h1,h2,_⟩:=p
  exact ⟨o,h1,h2.1⟩,λa ep Q4 h=>(show cM X.prog X.w H s.heap a (kT a ep Q4) from I.hok a _ (hs _ _ h)).1⟩
theorem Eb {a:Rq}{xs ys:List Q8}(h:s.heap.IsTuple a xs.toArray) (h':s.heap.IsTuple a ys.toArray):xs=ys:=by
 obtain ⟨o,ho,_,n,hd⟩:=h
 obtain ⟨o',ho',_,n',hd'⟩:=h'
 rw [ho] at ho';cases ho'
 rw [hd] at hd'
 injection hd' with h1 _
 simpa using congrArg XM h1
theorem Cj {a:Rq}{xs ys:List Q8}(h:s.heap.IsList a xs.toArray) (h':s.heap.IsList a ys.toArray):xs=ys:=by
 obtain ⟨o,ho,_,n,hd⟩:=h
 obtain ⟨o',ho',_,n',hd'⟩:=h'
 rw [ho] at ho';cases ho'
 rw [hd] at hd'
 injection hd' with h1 _
 simpa using congrArg XM h1
mutual
theorem Rep.inj (F:HF K J s):∀{d e:D}{v:V},Rep K J d v->Rep K J e v->dep d<=1000->dep e<=1000->d=e
 | _,_,_,.emp _,_,h,_=>by unfold dep at h;omega
 | _,_,_,.exn _ _ _ _ _,_,h,_=>by unfold dep at h;omega
 | _,_,_,.dct _ _ _ _ _,_,h,_=>by unfold dep at h;omega
 | _,_,_,.non,.non,_,_=>rfl
 | _,_,_,.bl _,.bl _,_,_=>rfl
 | _,_,_,.int _,.int _,_,_=>rfl
 | _,_,_,.str _,.str _,_,_=>rfl
 | _,_,_,.tup _ _,.emp _,_,h=>by unfold dep at h;omega
 | _,_,_,.lst _ _,.emp _,_,h=>by unfold dep at h;omega
 | _,_,_,.tup _ _,.exn _ _ _ _ _,_,h=>by unfold dep at h;omega
 | _,_,_,.tup _ _,.dct _ _ _ _ _,_,h=>by unfold dep at h;omega
 | _,_,_,.lst _ _,.exn _ _ _ _ _,_,h=>by unfold dep at h;omega
 | _,_,_,.lst _ _,.dct _ _ _ _ _,_,h=>by unfold dep at h;omega
 | _,_,_,.tup h hs,.tup h' hs',k,k'=>by
  obtain ⟨QX,r,p⟩:=F.t _ _ h
  obtain ⟨its',r',p'⟩:=F.t _ _ h'
  have:=Eb p p'
  subst this
  have:=r.inj r'
  subst this
  rw [aJ.inj F hs hs' (by unfold dep at k;omega) (by unfold dep at k';omega)]
 | _,_,_,.lst h hs,.lst h' hs',k,k'=>by
  obtain ⟨QX,r,p⟩:=F.l _ _ h
  obtain ⟨its',r',p'⟩:=F.l _ _ h'
  have:=Cj p p'
  subst this
  have:=r.inj r'
  subst this
  rw [aJ.inj F hs hs' (by unfold dep at k;omega) (by unfold dep at k';omega)]
 | _,_,_,.tup h _,.lst h' _,_,_=>by
  obtain ⟨QX,r,p⟩:=F.t _ _ h
  obtain ⟨its',r',p'⟩:=F.l _ _ h'
  exact absurd rfl (Xy p' p)
 | _,_,_,.lst h _,.tup h' _,_,_=>by
  obtain ⟨QX,r,p⟩:=F.l _ _ h
  obtain ⟨its',r',p'⟩:=F.t _ _ h'
  exact absurd rfl (Xy p p')
theorem aJ.inj (F:HF K J s):∀{ds es:List D}{vs:List V},aJ K J ds vs->aJ K J es vs->deps ds<=1000->deps es<=1000->ds=es
 | _,_,_,.nil,.nil,_,_=>rfl
 | _,_,_,.cons h hs,.cons h' hs',k,k'=>by rw [Rep.inj F h h' (by unfold deps at k;omega) (by unfold deps at k';omega),aJ.inj F hs hs' (by unfold deps at k;omega) (by unfold deps at k';omega)]
end
theorem jy {A:R4}{a:Rq}{QX:Array Q8}{v:V}{u:Q8}(h:s.heap.IsTuple a QX) (r:RelV v u) (f:sU v=true) (hu:A.units < S6):TF A s (.ref a) u false/\TF A s u (.ref a) false:=by
 cases v with
 | non=>cases r;exact ⟨.tuple_none h hu,.none_tuple h hu⟩
 | bl b=>cases r;exact ⟨.tuple_bool b h hu,.bool_tuple b h hu⟩
 | int i=>obtain ⟨t,rfl⟩:=r;exact ⟨.tuple_int i t h hu,.int_tuple i t h hu⟩
 | str x=>obtain ⟨t,rfl⟩:=r;exact ⟨.tuple_str x t h hu,.str_tuple x t h hu⟩
 | _=>exact absurd (show false=true from f) RV
theorem jS {A:R4}{a:Rq}{QX:Array Q8}{v:V}{u:Q8}(h:s.heap.IsList a QX) (r:RelV v u) (f:sU v=true) (hu:A.units < S6):TF A s (.ref a) u false/\TF A s u (.ref a) false:=by
 cases v with
 | non=>cases r;exact ⟨.list_none h hu,.none_list h hu⟩
 | bl b=>cases r;exact ⟨.list_bool b h hu,.bool_list b h hu⟩
 | int i=>obtain ⟨t,rfl⟩:=r;exact ⟨.list_int i t h hu,.int_list i t h hu⟩
 | str x=>obtain ⟨t,rfl⟩:=r;exact ⟨.list_str x t h hu,.str_list x t h hu⟩
 | _=>exact absurd (show false=true from f) RV
noncomputable def pR:D->Bool
 | .tup _=>false
 | .lst _=>false
 | .emp=>false
 | .exn _ _ _=>false
 | .dct _ _=>false
 | _=>true
theorem Rep.flat {d:D}{v:V}(h:Rep K J d v) (f:pR d=true):sU v=true:=by
 cases h <;> first | rfl | cases f
theorem FQ {d e:D}{v w:V}(h:Rep K J d v) (h':Rep K J e w) (f:pR d=true) (f':pR e=true):Lf v w=bz d e:=by
 cases h <;> cases h' <;> first | rfl | cases f | cases f' | simp [Lf,bz]
theorem in1_units (A:R4):A.in1.units=A.units + 1:=rfl
theorem sS (F:HF K J s){d e:D}{v w:V}{u u':Q8}(A:R4) (hd:Rep K J d v) (he:Rep K J e w) (rv:RelV v u) (rw':RelV w u') (f:pR d=true) (hu:A.units < S6) (hu':dep e<=1000):TF A s u u' (bz d e):=by
 cases q:pR e with
 | true=>rw [<-FQ hd he f q];exact Le rv rw' (hd.flat f) (he.flat q)
 | false=>
  cases he with
  | tup h' hs'=>
   cases rw'
   obtain ⟨its',r',p'⟩:=F.t _ _ h'
   have:=(jy p' rv (hd.flat f) hu).2
   cases hd <;> first | exact this | cases f
  | lst h' hs'=>
   cases rw'
   obtain ⟨its',r',p'⟩:=F.l _ _ h'
   have:=(jS p' rv (hd.flat f) hu).2
   cases hd <;> first | exact this | cases f
  | emp _=>unfold dep at hu';omega
  | exn _ _ _ _ _=>unfold dep at hu';omega
  | dct _ _ _ _ _=>unfold dep at hu';omega
  | _=>cases q
mutual
theorem ng (F:HF K J s):∀{d e:D}{v w:V}{u u':Q8}(A:R4),Rep K J d v->Rep K J e w->RelV v u->RelV w u'->A.units + dep d < S6->dep d<=1000->dep e<=1000->TF A s u u' (bz d e)
 | .tup ds,e,_,w,u,u',A,.tup h hs,he,rv,rw',hu,hd1,hu'=>by
  cases rv
  obtain ⟨QX,r,p⟩:=F.t _ _ h
  have Pd:A.units < S6:=by unfold dep at hu;omega
  cases he with
  | tup h' hs'=>
   cases rw'
   obtain ⟨its',r',p'⟩:=F.t _ _ h'
   rename_i a vs b ws es
   by_cases q:a=b
   ·subst q
    have:=Rep.inj F (.tup h hs) (.tup h' hs') hd1 hu'
    rw [<-this,fF]
    exact XR _
   ·have l1:QX.length=ds.length:=by rw [<-r.length,hs.length]
    have l2:its'.length=es.length:=by rw [<-r'.length,hs'.length]
    simp only [bz]
    rw [<-yN,<-l1,<-l2]
    refine YN q ?_
    have:=Y9 (e:=oz ds es) p p' Pd λj j1 j2=>by
     have k1:j < ds.length:=by rw [<-l1];simpa using j1
     have k2:j < es.length:=by rw [<-l2];simpa using j2
     have:=nh F A.in1 hs hs' r r' (by rw [in1_units];unfold dep at hu;omega) (by unfold dep at hd1;omega) (by unfold dep at hu';omega) j k1 k2
     have m1:j < QX.length:=by simpa using j1
     have m2:j < its'.length:=by simpa using j2
     simpa [m1,m2] using this
    simpa using this
  | lst h' hs'=>
   cases rw'
   obtain ⟨its',r',p'⟩:=F.l _ _ h'
   exact abd p p' Pd
  | non=>exact (jy p rw' rfl Pd).1
  | bl _=>exact (jy p rw' rfl Pd).1
  | int _=>exact (jy p rw' rfl Pd).1
  | str _=>exact (jy p rw' rfl Pd).1
  | emp _=>unfold dep at hu';omega
  | exn _ _ _ _ _=>unfold dep at hu';omega
  | dct _ _ _ _ _=>unfold dep at hu';omega
 | .lst ds,e,_,w,u,u',A,.lst h hs,he,rv,rw',hu,hd1,hu'=>by
  cases rv
  obtain ⟨QX,r,p⟩:=F.l _ _ h
  have Pd:A.units < S6:=by unfold dep at hu;omega
  cases he with
  | lst h' hs'=>
   cases rw'
   obtain ⟨its',r',p'⟩:=F.l _ _ h'
   rename_i a vs b ws es
   by_cases q:a=b
   ·subst q
    have:=Rep.inj F (.lst h hs) (.lst h' hs') hd1 hu'
    rw [<-this,fF]
    exact XR _
   ·have l1:QX.length=ds.length:=by rw [<-r.length,hs.length]
    have l2:its'.length=es.length:=by rw [<-r'.length,hs'.length]
    simp only [bz]
    refine YN q ?_
    by_cases z:ds.length=es.length
    ·rw [<-nT z,<-l1]
     have:=Zx (e:=oz ds es) p p' (by simp;omega) Pd λj j1 j2=>by
      have k1:j < ds.length:=by rw [<-l1];simpa using j1
      have k2:j < es.length:=by rw [<-l2];simpa using j2
      have:=nh F A.in1 hs hs' r r' (by rw [in1_units];unfold dep at hu;omega) (by unfold dep at hd1;omega) (by unfold dep at hu';omega) j k1 k2
      have m1:j < QX.length:=by simpa using j1
      have m2:j < its'.length:=by simpa using j2
      simpa [m1,m2] using this
     simpa using this
    ·rw [nS z]
     exact aaz p p' (by simp;omega) Pd
  | tup h' hs'=>
   cases rw'
   obtain ⟨its',r',p'⟩:=F.t _ _ h'
   exact abe p p' Pd
  | non=>exact (jS p rw' rfl Pd).1
  | bl _=>exact (jS p rw' rfl Pd).1
  | int _=>exact (jS p rw' rfl Pd).1
  | str _=>exact (jS p rw' rfl Pd).1
  | emp _=>unfold dep at hu';omega
  | exn _ _ _ _ _=>unfold dep at hu';omega
  | dct _ _ _ _ _=>unfold dep at hu';omega
 | .non,e,v,w,u,u',A,hd,he,rv,rw',hu,_,hu'=>sS F A hd he rv rw' rfl (by omega) hu'
 | .bl _,e,v,w,u,u',A,hd,he,rv,rw',hu,_,hu'=>sS F A hd he rv rw' rfl (by omega) hu'
 | .int _,e,v,w,u,u',A,hd,he,rv,rw',hu,_,hu'=>sS F A hd he rv rw' rfl (by omega) hu'
 | .emp,e,v,w,u,u',A,hd,he,rv,rw',hu,hd1,hu'=>by unfold dep at hd1;omega
 | .exn _ _ _,e,v,w,u,u',A,hd,he,rv,rw',hu,hd1,hu'=>by unfold dep at hd1;omega
 | .dct _ _,e,v,w,u,u',A,hd,he,rv,rw',hu,hd1,hu'=>by unfold dep at hd1;omega
 | .str _,e,v,w,u,u',A,hd,he,rv,rw',hu,_,hu'=>sS F A hd he rv rw' rfl (by omega) hu'
theorem nh (F:HF K J s):∀{ds es:List D}{vs ws:List V}{us us':List Q8}(A:R4),aJ K J ds vs->aJ K J es ws->Vals vs us->Vals ws us'->A.units + deps ds < S6->deps ds<=1000->deps es<=1000->
  ∀(j:Nat) (h1:j < ds.length) (h2:j < es.length),TF A s (us.getD j .none) (us'.getD j .none) (oz ds es j)
 | _,_,_,_,_,_,A,.cons h hs,.cons h' hs',.cons r rs,.cons r' rs',hu,k1,k2,0,_,_=>ng F A h h' r r' (by unfold deps at hu;omega) (by unfold deps at k1;omega) (by unfold deps at k2;omega)
 | _,_,_,_,_,_,A,.cons h hs,.cons h' hs',.cons r rs,.cons r' rs',hu,k1,k2,j + 1,h1,h2=>nh F A hs hs' rs rs' (by unfold deps at hu;omega) (by unfold deps at k1;omega) (by unfold deps at k2;omega) j (by simpa using h1) (by simpa using h2)
end
end
section
variable {K:Q7}{J:Hp}{s:Q_}
theorem EU (F:HF K J s){d e:D}{v w:V}{u u':Q8}(A:R4) (hd:Rep K J d v) (he:Rep K J e w) (rv:RelV v u) (rw':RelV w u') (hu:A.units + dep d < S6) (hd1:dep d<=1000) (hu':dep e<=1000):SeqAt.RcAt A s u u' (bz d e)/\SeqAt.RcNeAt A s u u' (!bz d e):=by
 have Pd:A.units < S6:=by omega
 cases hd with
 | non=>
  cases rv
  cases he with
  | non=>cases rw';exact ⟨.none_none,.none_none⟩
  | bl b=>cases rw';exact ⟨.none_bool b,.none_bool b⟩
  | int i=>obtain ⟨t,rfl⟩:=rw';exact ⟨.none_int i t,.none_int i t⟩
  | str x=>obtain ⟨t,rfl⟩:=rw';exact ⟨.none_str x t,.none_str x t⟩
  | tup h hs=>cases rw';obtain ⟨QX,r,p⟩:=F.t _ _ h;exact ⟨.none_tuple p Pd,.none_tuple p Pd⟩
  | lst h hs=>cases rw';obtain ⟨QX,r,p⟩:=F.l _ _ h;exact ⟨.none_list p Pd,.none_list p Pd⟩
  | emp _=>unfold dep at hu';omega
  | exn _ _ _ _ _=>unfold dep at hu';omega
  | dct _ _ _ _ _=>unfold dep at hu';omega
 | bl a=>
  cases rv
  cases he with
  | non=>cases rw';exact ⟨.bool_none a,.bool_none a⟩
  | bl b=>cases rw';exact ⟨.bool_bool a b,.bool_bool a b⟩
  | int i=>obtain ⟨t,rfl⟩:=rw';exact ⟨.bool_int a i t,.bool_int a i t⟩
  | str x=>obtain ⟨t,rfl⟩:=rw';exact ⟨.bool_str a x t,.bool_str a x t⟩
  | tup h hs=>cases rw';obtain ⟨QX,r,p⟩:=F.t _ _ h;exact ⟨.bool_tuple a p Pd,.bool_tuple a p Pd⟩
  | lst h hs=>cases rw';obtain ⟨QX,r,p⟩:=F.l _ _ h;exact ⟨.bool_list a p Pd,.bool_list a p Pd⟩
  | emp _=>unfold dep at hu';omega
  | exn _ _ _ _ _=>unfold dep at hu';omega
  | dct _ _ _ _ _=>unfold dep at hu';omega
 | int a=>
  obtain ⟨t0,rfl⟩:=rv
  cases he with
  | non=>cases rw';exact ⟨.int_none a t0,.int_none a t0⟩
  | bl b=>cases rw';exact ⟨.int_bool a t0 b,.int_bool a t0 b⟩
  | int i=>obtain ⟨t,rfl⟩:=rw';exact ⟨.int_int a t0 i t,.int_int a t0 i t⟩
  | str x=>obtain ⟨t,rfl⟩:=rw';exact ⟨.int_str a t0 x t,.int_str a t0 x t⟩
  | tup h hs=>cases rw';obtain ⟨QX,r,p⟩:=F.t _ _ h;exact ⟨.int_tuple a t0 p Pd,.int_tuple a t0 p Pd⟩
  | lst h hs=>cases rw';obtain ⟨QX,r,p⟩:=F.l _ _ h;exact ⟨.int_list a t0 p Pd,.int_list a t0 p Pd⟩
  | emp _=>unfold dep at hu';omega
  | exn _ _ _ _ _=>unfold dep at hu';omega
  | dct _ _ _ _ _=>unfold dep at hu';omega
 | str a=>
  obtain ⟨t0,rfl⟩:=rv
  cases he with
  | non=>cases rw';exact ⟨.str_none a t0,.str_none a t0⟩
  | bl b=>cases rw';exact ⟨.str_bool a t0 b,.str_bool a t0 b⟩
  | int i=>obtain ⟨t,rfl⟩:=rw';exact ⟨.str_int a t0 i t,.str_int a t0 i t⟩
  | str x=>obtain ⟨t,rfl⟩:=rw';exact ⟨.str_str a t0 x t,.str_str a t0 x t⟩
  | tup h hs=>cases rw';obtain ⟨QX,r,p⟩:=F.t _ _ h;exact ⟨.str_tuple a t0 p Pd,.str_tuple a t0 p Pd⟩
  | lst h hs=>cases rw';obtain ⟨QX,r,p⟩:=F.l _ _ h;exact ⟨.str_list a t0 p Pd,.str_list a t0 p Pd⟩
  | emp _=>unfold dep at hu';omega
  | exn _ _ _ _ _=>unfold dep at hu';omega
  | dct _ _ _ _ _=>unfold dep at hu';omega
 | tup h hs=>
  cases rv
  obtain ⟨QX,r,p⟩:=F.t _ _ h
  cases he with
  | non=>cases rw';exact ⟨.tuple_none p Pd,.tuple_none p Pd⟩
  | bl b=>cases rw';exact ⟨.tuple_bool b p Pd,.tuple_bool b p Pd⟩
  | int i=>obtain ⟨t,rfl⟩:=rw';exact ⟨.tuple_int i t p Pd,.tuple_int i t p Pd⟩
  | str x=>obtain ⟨t,rfl⟩:=rw';exact ⟨.tuple_str x t p Pd,.tuple_str x t p Pd⟩
  | lst h' hs'=>cases rw';obtain ⟨its',r',p'⟩:=F.l _ _ h';exact ⟨.tuple_list p p' Pd,.tuple_list p p' Pd⟩
  | emp _=>unfold dep at hu';omega
  | exn _ _ _ _ _=>unfold dep at hu';omega
  | dct _ _ _ _ _=>unfold dep at hu';omega
  | tup h' hs'=>
   cases rw'
   obtain ⟨its',r',p'⟩:=F.t _ _ h'
   rename_i a vs ds b ws es
   have l1:QX.length=ds.length:=by rw [<-r.length,hs.length]
   have l2:its'.length=es.length:=by rw [<-r'.length,hs'.length]
   have it:∀(j:Nat) (j1:j < QX.toArray.size) (j2:j < its'.toArray.size),TF A.in1 s QX.toArray[j] its'.toArray[j] (oz ds es j):=λj j1 j2=>by
    have k1:j < ds.length:=by rw [<-l1];simpa using j1
    have k2:j < es.length:=by rw [<-l2];simpa using j2
    have:=nh F A.in1 hs hs' r r' (by rw [in1_units];unfold dep at hu;omega) (by unfold dep at hd1;omega) (by unfold dep at hu';omega) j k1 k2
    have m1:j < QX.length:=by simpa using j1
    have m2:j < its'.length:=by simpa using j2
    simpa [m1,m2] using this
   simp only [bz]
   rw [<-yN,<-l1,<-l2]
   have q1:=Y9 p p' Pd it
   have q2:=abD p p' Pd it
   exact ⟨by simpa using q1,by simpa using q2⟩
 | emp _=>unfold dep at hd1;omega
 | exn _ _ _ _ _=>unfold dep at hd1;omega
 | dct _ _ _ _ _=>unfold dep at hd1;omega
 | lst h hs=>
  cases rv
  obtain ⟨QX,r,p⟩:=F.l _ _ h
  cases he with
  | non=>cases rw';exact ⟨.list_none p Pd,.list_none p Pd⟩
  | bl b=>cases rw';exact ⟨.list_bool b p Pd,.list_bool b p Pd⟩
  | int i=>obtain ⟨t,rfl⟩:=rw';exact ⟨.list_int i t p Pd,.list_int i t p Pd⟩
  | str x=>obtain ⟨t,rfl⟩:=rw';exact ⟨.list_str x t p Pd,.list_str x t p Pd⟩
  | tup h' hs'=>cases rw';obtain ⟨its',r',p'⟩:=F.t _ _ h';exact ⟨.list_tuple p p' Pd,.list_tuple p p' Pd⟩
  | emp _=>unfold dep at hu';omega
  | exn _ _ _ _ _=>unfold dep at hu';omega
  | dct _ _ _ _ _=>unfold dep at hu';omega
  | lst h' hs'=>
   cases rw'
   obtain ⟨its',r',p'⟩:=F.l _ _ h'
   rename_i a vs ds b ws es
   have l1:QX.length=ds.length:=by rw [<-r.length,hs.length]
   have l2:its'.length=es.length:=by rw [<-r'.length,hs'.length]
   have it:∀(j:Nat) (j1:j < QX.toArray.size) (j2:j < its'.toArray.size),TF A.in1 s QX.toArray[j] its'.toArray[j] (oz ds es j):=λj j1 j2=>by
    have k1:j < ds.length:=by rw [<-l1];simpa using j1
    have k2:j < es.length:=by rw [<-l2];simpa using j2
    have:=nh F A.in1 hs hs' r r' (by rw [in1_units];unfold dep at hu;omega) (by unfold dep at hd1;omega) (by unfold dep at hu';omega) j k1 k2
    have m1:j < QX.length:=by simpa using j1
    have m2:j < its'.length:=by simpa using j2
    simpa [m1,m2] using this
   simp only [bz]
   by_cases z:ds.length=es.length
   ·rw [<-nT z,<-l1]
    have q1:=Zx p p' (by simp;omega) Pd it
    have q2:=abP p p' (by simp;omega) Pd it
    exact ⟨by simpa using q1,by simpa using q2⟩
   ·rw [nS z]
    exact ⟨.lists_lengths p p' (by simp;omega) Pd,.lists_lengths p p' (by simp;omega) Pd⟩
end
section
variable {X:Cx}{c:C}{e a b tg:RX}{es:List RX}{ga gb g:G R}{pos:Pos}
theorem RR.rep {He J H:Hp}(hp:HI c J H):∀{r:R}{v:V}{d:D},RR c He J H r v->(∀xs,r=.l .fresh xs\/r=.l .own xs\/r=.l .bor xs->d=.lst xs)->(∀x,r=.d x->d=x)->(∀ks vs,r≠.mo ks vs/\r≠.mb ks vs/\r≠.mf ks vs)->Rep c.K H d v
 | .mo _ _,_,_,_,_,_,n=>((n _ _).1 rfl).elim
 | .mb _ _,_,_,_,_,_,n=>((n _ _).2.1 rfl).elim
 | .mf _ _,_,_,_,_,_,n=>((n _ _).2.2 rfl).elim
 | .d x,v,d,h,_,k,_=>by rw [k x rfl];exact Rep.mono hp.sub h
 | .l m xs,v,d,h,k,_,_=>by
  have e:d=.lst xs:=k xs (by cases m;exact .inl rfl;exact .inr (.inl rfl);exact .inr (.inr rfl))
  obtain ⟨a,vs,rfl,h1,h2⟩:=RR.list hp h rfl
  rw [e]
  exact .lst h1 (h2.mono hp.sub)
noncomputable def R.dat:R->D
 | .d x=>x
 | .l _ xs=>.lst xs
 | .mo ks vs=>.dct ks vs
 | .mb ks vs=>.dct ks vs
 | .mf ks vs=>.dct ks vs
theorem RR.dat {He J H:Hp}(hp:HI c J H){r:R}{v:V}(h:RR c He J H r v):Rep c.K H r.dat v:=by
 by_cases hm:∃ks vs,r=.mo ks vs
 ·obtain ⟨ks,vs,rfl⟩:=hm;obtain ⟨a,rfl,h,_⟩:=h;exact h.rep hp.sub
 by_cases hb:∃ks vs,r=.mb ks vs
 ·obtain ⟨ks,vs,rfl⟩:=hb;obtain ⟨a,rfl,h⟩:=h;exact (h.mono (aX.refl _) hp.ent).rep hp.sub
 by_cases hf:∃ks vs,r=.mf ks vs
 ·obtain ⟨ks,vs,rfl⟩:=hf;obtain ⟨a,rfl,h,_⟩:=h;exact h.rep hp.sub
 refine h.rep hp (λxs q=>?_) (λx q=>by rw [q];rfl) λks vs=>⟨λz=>hm ⟨_,_,z⟩,λz=>hb ⟨_,_,z⟩,λz=>hf ⟨_,_,z⟩⟩
 rcases q with q | q | q <;> (rw [q];rfl)
def GU (K:Q7) (neg:Bool):R2:=λx y H Q=>∃d e,Rep K H d x/\Rep K H e y/\dep d<=60/\dep e<=60/\Q (.bl (if neg then !bz d e else bz d e)) H
theorem h_ {QV:List (Rq×Obj)}{σ:L2.St}{H:Hp}{s:Q_}(I:Inv X QV σ H s):HF X.K H s:=HF.of (c:=⟨X.K,H,H,λ_=>True⟩) I (aX.refl H)
theorem Eu (hu:X.A.units + 64 < S6):dZ X (S7 .Eq) (GU X.K false):=by
 intro QV s σ H x y v u Q I rx ry h
 obtain ⟨d,e,h1,h2,h3,h4,q⟩:=h
 exact (EU (h_ I) X.A h1 h2 rx ry (by omega) (by omega) (by omega)).1 X.prog X.w X.xe _ ⟨.bl _,H,I,rfl,q⟩
theorem Ez (hu:X.A.units + 64 < S6):dZ X (S7 .NotEq) (GU X.K true):=by
 intro QV s σ H x y v u Q I rx ry h
 obtain ⟨d,e,h1,h2,h3,h4,q⟩:=h
 exact (EU (h_ I) X.A h1 h2 rx ry (by omega) (by omega) (by omega)).2 X.prog X.w X.xe _ ⟨.bl _,H,I,rfl,q⟩
def cY (neg:Bool) (x y:R):M R:=if dep x.dat<=60/\dep y.dat<=60 then .ok (.d (.bl (if neg then !bz x.dat y.dat else bz x.dat y.dat))) else .bad
theorem xB (neg:Bool) (hK:X.K=c.K):BD c (GU X.K neg) (cY neg):=by
 intro He He' J H x y u v Q hp rx ry w
 unfold cY at w
 split at w
 ·rename_i hd
  exact ⟨x.dat,y.dat,by rw [hK];exact rx.dat hp,by rw [hK];exact ry.dat hp,hd.1,hd.2,w _ J H (Ext.refl hp.sub) (.bl _)⟩
 ·exact w.elim
def inD (d:D) (xs:List D):Bool:=xs.any λx=>bz x d
noncomputable def GV (K:Q7) (neg:Bool):R2:=λx y H Q=>∃d p vs ds,Rep K H d x/\dep d<=60/\y=.ref p/\(dw K H p vs\/dY K H p vs)/\aJ K H ds vs/\deps ds<=60/\Q (.bl (if neg then !inD d ds else inD d ds)) H
theorem we {K:Q7}{H:Hp}{y:Q8}:∀{ds:List D}{vs:List V}{us:List Q8},aJ K H ds vs->Vals vs us->deps ds<=60->y∈us->∃d' v',Rep K H d' v'/\RelV v' y/\dep d'<=60
 | _,_,_,.nil,.nil,_,hy=>nomatch hy
 | _,_,_,.cons r hs,.cons q rs,hd,hy=>by
  unfold deps at hd
  rcases Rt.mp hy with rfl | hy
  ·exact ⟨_,_,r,q,by omega⟩
  ·exact we hs rs (by omega) hy
open Classical in
noncomputable def BZ (K:Q7) (H:Hp) (d:D) (y:Q8):Bool:=decide (∃d' v',Rep K H d' v'/\RelV v' y/\dep d'<=1000/\bz d' d=true)
theorem AX {K:Q7}{H:Hp}{s:Q_}(F:HF K H s){d d':D}{v':V}{y:Q8}(r':Rep K H d' v') (q':RelV v' y) (hd:dep d'<=1000):BZ K H d y=bz d' d:=by
 classical
 unfold BZ
 cases z:bz d' d with
 | true=>exact decide_eq_true ⟨d',v',r',q',hd,z⟩
 | false=>
  refine decide_eq_false ?_
  rintro ⟨d2,v2,r2,q2,hd2,z2⟩
  have:v2=v':=q2.inj q'
  subst this
  rw [Rep.inj F r2 r' hd2 hd] at z2
  rw [z] at z2
  cases z2
theorem yj {K:Q7}{H:Hp}{s:Q_}(F:HF K H s){d:D}:∀{ds:List D}{vs:List V}{us:List Q8},aJ K H ds vs->Vals vs us->deps ds<=1000->us.any (BZ K H d)=inD d ds
 | _,_,_,.nil,.nil,_=>rfl
 | _,_,_,.cons r hs,.cons q rs,hd=>by
  unfold deps at hd
  unfold inD
  rw [We,We,yj F hs rs (by omega),AX F r q (by omega)]
  rfl
theorem sH {A:R4}{s:Q_}{K:Q7}{H:Hp}(F:HF K H s){d:D}{x:V}{u:Q8}(h:Rep K H d x) (rx:RelV x u) (Pu:dep d<=60) (hA:A.units + 60 < S6){ds:List D}{vs:List V}{us:List Q8}(hs:aJ K H ds vs) (rs:Vals vs us) (hd:deps ds<=60):
  ∃e:Q8->Bool,(∀y∈us,TF A s y u (e y))/\us.any e=inD d ds:=by
 refine ⟨BZ K H d,λy hy=>?_,yj F hs rs (by omega)⟩
 obtain ⟨d',v',r',q',hd'⟩:=we hs rs hd hy
 rw [AX F r' q' (by omega)]
 exact ng F A r' h q' rx (by omega) (by omega) (by omega)
theorem Ew (hu:X.A.units + 64 < S6):dZ X (S7 .In) (GV X.K false):=by
 intro QV s σ H x y v u Q I rx ry h
 obtain ⟨d,p,vs,ds,h1,Pu,rfl,h2,h3,h4,q⟩:=h
 cases ry
 have F:=h_ I
 rcases h2 with h2 | h2
 ·obtain ⟨QX,r,pl⟩:=F.l _ _ h2
  obtain ⟨e,he,hany⟩:=sH (A:=X.A.in1) F h1 rx Pu (by rw [in1_units];omega) h3 r h4
  exact SeqAt.in_listAt e pl (λz hz=>he z (by simpa using hz)) ⟨.bl _,H,I,rfl,by rw [show QX.toArray.any e=QX.any e by simp,hany];exact q⟩
 ·obtain ⟨QX,r,pl⟩:=F.t _ _ h2
  obtain ⟨e,he,hany⟩:=sH (A:=X.A.in1) F h1 rx Pu (by rw [in1_units];omega) h3 r h4
  exact SeqAt.in_tupleAt e pl (λz hz=>he z (by simpa using hz)) ⟨.bl _,H,I,rfl,by rw [show QX.toArray.any e=QX.any e by simp,hany];exact q⟩
theorem EA (hu:X.A.units + 64 < S6):dZ X (S7 .NotIn) (GV X.K true):=by
 intro QV s σ H x y v u Q I rx ry h
 obtain ⟨d,p,vs,ds,h1,Pu,rfl,h2,h3,h4,q⟩:=h
 cases ry
 have F:=h_ I
 rcases h2 with h2 | h2
 ·obtain ⟨QX,r,pl⟩:=F.l _ _ h2
  obtain ⟨e,he,hany⟩:=sH (A:=X.A.in1) F h1 rx Pu (by rw [in1_units];omega) h3 r h4
  exact SeqAt.notIn_listAt e pl (λz hz=>he z (by simpa using hz)) ⟨.bl _,H,I,rfl,by rw [show QX.toArray.any e=QX.any e by simp,hany];exact q⟩
 ·obtain ⟨QX,r,pl⟩:=F.t _ _ h2
  obtain ⟨e,he,hany⟩:=sH (A:=X.A.in1) F h1 rx Pu (by rw [in1_units];omega) h3 r h4
  exact SeqAt.notIn_tupleAt e pl (λz hz=>he z (by simpa using hz)) ⟨.bl _,H,I,rfl,by rw [show QX.toArray.any e=QX.any e by simp,hany];exact q⟩
noncomputable def gg (neg:Bool) (x y:R):M R:=jg y >>= λys=>if deps ys<=60/\dep x.dat<=60 then .ok (.d (.bl (if neg then !inD x.dat ys else inD x.dat ys))) else .bad
theorem B3 (neg:Bool) (hK:X.K=c.K):BD c (GV X.K neg) (gg neg):=by
 intro He He' J H x y u v Q hp rx ry w
 obtain ⟨ys,q,w⟩:=kO w
 obtain ⟨p,vs,rfl,h1,h2⟩:=mZ hp ry q
 split at w
 ·rename_i hd
  exact ⟨x.dat,p,vs,ys,by rw [hK];exact rx.dat hp,hd.2,rfl,by rw [hK];exact h1,by rw [hK];exact h2.mono hp.sub,hd.1,w _ J H (Ext.refl hp.sub) (.bl _)⟩
 ·exact w.elim
abbrev GO:=G (Option Int)
def tO (c:C) (g:GO):TO:=λσ H Q=>∃J env,SR c J H σ env/\dJ (g env) (λo=>∀J' H',Ext J H J' H'->Q o H') c.T
def KU (X:Cx) (c:C) (e:Option RX) (g:GO):Prop:=PO X e (tO c g)
theorem Ie {X:Cx}{e:Option RX}{t t':TO}(h:PO X e t) (k:∀σ H Q,t' σ H Q->t σ H Q):PO X e t':=λQV s σ H Q I q=>h QV s σ H Q I (k σ H Q q)
def D0:GO:=λ_=>.ok none
noncomputable def vK (g:G R):GO:=λenv=>g env >>= λr=>match r with
 | .d (.int i)=>.ok (some i)
 | _=>.bad
def cutD (xs:List D) (lo hi:Option Int):List D:=(xs.drop (HT.bO xs.length 0 lo)).take (HT.bO xs.length xs.length hi - HT.bO xs.length 0 lo)
theorem aJ.cut {K:Q7}{J:Hp}{xs:List D}{vs:List V}(h:aJ K J xs vs) (lo hi:Option Int):aJ K J (cutD xs lo hi) (mz vs lo hi):=by
 unfold cutD mz
 rw [h.length]
 exact (h.drop _).take _
def vL (f:R->Option Int->Option Int->M R) (g:G R) (lo hi:GO):G R:=λenv=>g env >>= λx=>lo env >>= λl=>hi env >>= λu=>f x l u
theorem Nu {r:V->Option Int->Option Int->Hp->VK->Prop}{f:R->Option Int->Option Int->M R}{lo hi:Option RX}{gl gh:GO}{p2:Pos}(hr:sE X r) (hf:∀(He J H:Hp) (x:R) (v:V) (l u:Option Int) (Q:VK),HI c J H->RR c He J H x v->
   dJ (f x l u) (λz=>∀w J' H',Ext J H J' H'->RR c H J' H' z w->Q w H') c.T->r v l u H Q) (h:PD X c e g) (hl:KU X c lo gl) (hh:KU X c hi gh):PD X c (.Subscript e (.Slice lo hi none p2) pos) (vL f g gl gh):=
 gH (GH hr h hl hh) λσ H Q ⟨J,env,sr,w⟩=>by
  refine ⟨J,env,sr,aG (aM w) λx wx v J1 H1 e1 r1=>?_⟩
  refine ⟨J1,env,sr.ext e1,aG (aM wx) λl wl J2 H2 e2=>?_⟩
  refine ⟨J2,env,(sr.ext e1).ext e2,aG (aM wl) λu wu J3 H3 e3=>?_⟩
  have ee:=(e1.trans e2).trans e3
  exact hf H J3 H3 x v l u Q (sr.hp.ext ee) ((r1.ext e2).ext e3) (aG wu λz q w J' H' e4 r4=>q w J' H' (ee.trans e4) (RR.from ee.h r4))
def Oj (x:R) (l u:Option Int):M R:=jP x >>= λxs=>.ok (.l .fresh (cutD xs l u))
theorem CT {ss:List Str}:∀{us:List Q8},Vals (ss.map V.str) us->StrsAre us ss:=by
 induction ss with
 | nil=>intro us h;cases h;exact .nil
 | cons x r ih=>
  intro us h
  cases h with
  | cons q rs=>
   obtain ⟨t,rfl⟩:=q
   exact .cons x t (ih rs)
theorem wJ:∀{us:List Q8}{ss:List Str},StrsAre us ss->Vals (ss.map V.str) us
 | _,_,.nil=>.nil
 | _,_,.cons y t h=>.cons ⟨t,rfl⟩ (wJ h)
def jA (x y:Str):Bool:=decide (x.cps.toList<=y.cps.toList)
def ia (ss:List Str):List Str:=ss.mergeSort jA
theorem vV (x y z:Str) (h1:jA x y=true) (h2:jA y z=true):jA x z=true:=by
 unfold jA at *
 exact decide_eq_true (List.le_trans (of_decide_eq_true h1) (of_decide_eq_true h2))
theorem Ej (x y:Str):(jA x y || jA y x)=true:=by
 unfold jA
 rw [TX]
 rcases List.le_total x.cps.toList y.cps.toList with h | h
 ·exact .inl (decide_eq_true h)
 ·exact .inr (decide_eq_true h)
theorem Gk {x y:Str}(h1:jA x y=true) (h2:jA y x=true):x=y:=by
 unfold jA at *
 have:=Zy (of_decide_eq_true h1) (of_decide_eq_true h2)
 obtain ⟨⟨cx⟩⟩:=x
 obtain ⟨⟨cy⟩⟩:=y
 simp only at this
 rw [this]
theorem qe (ss:List Str):(ia ss).Pairwise λx y=>jA x y=true:=List.pairwise_mergeSort vV Ej ss
theorem kE (ss:List Str):(ia ss).Perm ss:=List.mergeSort_perm ss jA
theorem uc:∀(x:Str) (r:List Str),risingS x r=true->(x::r).Pairwise λx y=>jA x y=true
 | x,[],_=>by simp
 | x,y::r,h=>by
  unfold risingS at h
  rw [Ri] at h
  have hy:=uc y r h.2
  have hxy:jA x y=true:=by
   have h1:=h.1
   rw [ltCps_eq] at h1
   unfold jA
   refine decide_eq_true ?_
   have:¬y.cps.toList < x.cps.toList:=by simpa using h1
   exact this
  refine UN.mpr ⟨λz hz=>?_,hy⟩
  rcases Rt.mp hz with rfl | hz
  ·exact hxy
  ·exact vV x y z hxy ((UN.mp hy).1 z hz)
theorem CQ {ss ss':List Str}(hp:ss'.Perm ss) (hs:sortedS ss'=true):ss'=ia ss:=by
 have pw:ss'.Pairwise λx y=>jA x y=true:=by
  cases ss' with
  | nil=>exact UW
  | cons x r=>exact uc x r hs
 exact (hp.trans (kE ss).symm).eq_of_pairwise (λx y _ _ h1 h2=>Gk h1 h2) pw (qe ss)
theorem yC:b8 X (.builtin "sorted") (λxs H Q=>∃p ss,xs=[.ref p]/\dw X.K H p (ss.map V.str)/\ss.length < 64/\∀ss',ss'.Perm ss->sortedS ss'=true->∀l,H l=none->Q (.ref l) (upd H l (.lst (ss'.map V.str)))):=by
 intro QV s σ H xs us Q I r h
 obtain ⟨p,ss,rfl,hq,hl,q⟩:=h
 obtain ⟨u,rfl,rx⟩:=vals1 r
 cases rx
 obtain ⟨QX,r',pl,hz⟩:=I.list hq
 have hlen:=r'.length
 refine sorted_strs pl.isList (CT r') (by rw [<-hlen,Rh];exact hl) λout ss' a1 a2 a3=>?_
 obtain ⟨n,hn⟩:=Zm s.heap QX out
 have kp:∀b o,s.heap.get? b=some o->(YO s.heap QX out).get? b=some o:=λb o e=>YQ e
 have fr:H (s.heap.objs.size + 1)=none:=I.hok.fresh (To _)
 have ll:(ss'.map V.str).length=(ss.map V.str).length:=by rw [Rh,Rh,a2.length_eq]
 refine ⟨.ref (s.heap.objs.size + 1),_,I.laid (t':=s.toks) kp (To _) (show cM X.prog X.w _ _ _ (.lst (ss'.map V.str)) from ⟨by rw [ll];exact hz,out.toList,n,wJ a1,by simpa [TL] using hn⟩),rfl,q ss' a2 a3 _ fr⟩
noncomputable def strsOf:List D->Option (List Str)
 | []=>some []
 | .str x::r=>(strsOf r).map (x::·)
 | _::_=>none
theorem uh {K:Q7}{J:Hp}:∀{ds:List D}{vs:List V}{ss:List Str},strsOf ds=some ss->aJ K J ds vs->vs=ss.map V.str
 | [],_,_,h,.nil=>by cases h;rfl
 | .str x::r,_,ss,h,.cons q rs=>by
  unfold strsOf at h
  cases z:strsOf r with
  | none=>rw [z] at h;cases h
  | some ss'=>
   rw [z] at h
   cases h
   cases q
   rw [uh z rs]
   rfl
theorem wm {K:Q7}{J:Hp}:∀(ss:List Str),aJ K J (ss.map D.str) (ss.map V.str)
 | []=>.nil
 | x::r=>.cons (.str x) (wm r)
noncomputable def kH:List R->M R
 | [r]=>jP r >>= λxs=>match strsOf xs with
  | some ss=>if ss.length < 64 then .ok (.l .fresh ((ia ss).map .str)) else .bad
  | none=>.bad
 | _=>.bad
theorem kR:Sd "sorted"=some (.builtin "sorted"):=by decide +kernel
theorem foldl_size (c:Array Nat):∀(k:Nat) (acc:Array Nat),((R5 k c).foldl (·++·) acc).size=acc.size + k * c.size
 | 0,acc=>by simp
 | k + 1,acc=>by
  rw [SV,Wm,foldl_size c k,Y_,Nat.succ_mul]
  omega
def f_ (x:Str) (n:Nat):Str:=⟨(R5 n x.cps).foldl (·++·) #[]⟩
theorem Ay (x:Str) (n:Nat):(f_ x n).length=n * x.length:=by
 unfold f_ Y5
 simp only
 rw [foldl_size]
 simp
theorem Jz:dZ X (UA .Mult) (λx y H Q=>∃z n,x=.str z/\y=.int n/\0<=n/\n<=1000/\z.length<=1000/\Q (.str (f_ z n.toNat)) H):=by
 intro QV s σ H x y v u Q I rx ry h
 obtain ⟨z,n,rfl,rfl,h0,h1,h2,q⟩:=h
 obtain ⟨t,rfl⟩:=rx
 obtain ⟨t',rfl⟩:=ry
 have hz:Ys (z.length * n.toNat)=false:=by
  have:z.length * n.toNat<=1000 * 1000:=Ym h2 (by omega)
  unfold Ys
  exact decide_eq_false (by have:=Sh;omega)
 refine PySem.P.mul_str (by
  rw [decide_eq_false (by omega:¬n < -(2 ^ 63:Int)),decide_eq_false (by omega:¬n ≥ 2 ^ 63)];rfl) (λhn _=>?_) (λ_ _=>hz) ?_
 ·have:(2 ^ 63 - 1:Int) / 1000<=(2 ^ 63 - 1) / n:=by
   refine (Int.le_ediv_iff_mul_le (by omega)).mpr ?_
   have:(2 ^ 63 - 1:Int) / 1000 * n<=(2 ^ 63 - 1:Int) / 1000 * 1000:=Int.mul_le_mul_of_nonneg_left h1 (by decide)
   exact Int.le_trans this (by decide)
  have e:(2 ^ 63 - 1:Int) / 1000=9223372036854775:=by decide
  omega
 ·split
  ·rename_i hn
   have e:n=0:=by omega
   subst e
   exact ⟨by decide,.str _,H,I.tok _,⟨_,rfl⟩,q⟩
  ·split
   ·rename_i hn hc
    have e:f_ z n.toNat=z:=by
     unfold f_
     rw [TX] at hc
     rcases hc with hc | hc
     ·have e:n=1:=by simpa using hc
      subst e
      simp
     ·have e:z.length=0:=by simpa using hc
      have e2:z.cps=#[]:=by
       unfold Y5 at e
       exact Array.eq_empty_of_size_eq_zero e
      obtain ⟨cz⟩:=z
      simp only at e2
      subst e2
      congr 1
      generalize n.toNat=k
      induction k with
      | zero=>rfl
      | succ k ih=>rw [SV,Wm];exact ih
    rw [e] at q
    exact ⟨.str z,H,I,⟨_,rfl⟩,q⟩
   ·exact ⟨by
     have:=Ay z n.toNat
     unfold f_ at this
     rw [this,Nat.mul_comm]
     have:z.length * n.toNat<=1000 * 1000:=Ym h2 (by omega)
     rw [Sh]
     omega,.str _,H,I.tok _,⟨_,rfl⟩,q⟩
noncomputable def Cd:R->R->M R
 | .d (.str z),.d (.int n)=>if 0<=n/\n<=1000/\z.length<=1000 then .ok (.d (.str (f_ z n.toNat))) else .bad
 | _,_=>.bad
noncomputable def cJ:D->String
 | .non=>"NoneType"
 | .bl _=>"bool"
 | .int _=>"int"
 | .str _=>"str"
 | .tup _=>"tuple"
 | .lst _=>"list"
 | .emp=>"dict"
 | .exn _ _ _=>"exc"
 | .dct _ _=>"dict"
def bT (t T:String):Bool:=t == T || (t == "bool" && T == "int")
noncomputable def Ea:R->Bool
 | .d (.int _)=>true
 | _=>false
noncomputable def Lq:R->Bool
 | .d (.str _)=>true
 | _=>false
def cA (x y:R):M R:=if Ea x then yP x y else if Lq x then sO x y else sP x y
def dI (x y:R):M R:=if Ea x then Lg x y else Cd x y
noncomputable def bE (x y:R):M R:=match x,y with
 | .d (.str z),.d (.int i)=>if z.length<=sizeLine then (match lP z.cps.toList i with
  | some k=>.ok (.d (.str ⟨#[k]⟩))
  | none=>.bad) else .bad
 | x,.d (.int i)=>jg x >>= λxs=>(match lP xs i with
  | some d=>.ok (.d d)
  | none=>.bad)
 | _,_=>.bad
noncomputable def bA (P:Rz) (w:RZ) (K:Q7) (mg:Str->Option Q8) (base:SM) (k n:Nat) (x:Str) (Fm:List S->M R):Prop:=
 ∃f fd ps,jB P w K mg base oW k f fd ps (qh K n Fm)/\mg x=some (.ref f)/\UK K (.ref f)=true/\Binds K fd ps []
theorem K8 {P:Rz}{w:RZ}{K:Q7}{mg:Str->Option Q8}{base:SM}{x Q2:Str}{st:Uy}{f:Rq}{fd:RO}{N ps:List Str}{k:Nat}{Fm:List S->M R}(F:dh K x Q2 st f fd) (hm:mg x=some (.ref f)) (Sc:br N ps (az st))
  (hbi:∀(kV doc pm:Q8) (an:Option Rq) (cdv ct:Q8) (us:List Q8),us.length=ps.length->ZE (Rw x Q2 (a_ st) (aW st) (az st) .none kV doc pm an cdv ct) ⟨us,[]⟩=pure (ps.zip us)){gB:G O}
  (hb:∀(cdv:Q8) (A:R4) (outer:List Env) (s:Q_) (H:Hp) (E:XK) (J:Hp) (T:Exc->Prop),fk k (A.deeper (Xo Q2 (az st) s.heap.objs.size f cdv))->
   KS (HH P w K mg base N Q2 (az st) f cdv A outer s H E) ⟨K,H,J,T⟩ (aW st) gB)
  (hF:∀as r,as.length=ps.length->Fm as=.ok r->fin (gB (aI N as))=.ok r):bA P w K mg base (k + 1) ps.length x Fm:=
 ⟨f,fd,ps,DV F Sc hb hF,hm,F.kp,F.binds hbi⟩
noncomputable def Gx:List Str->Bool
 | []=>true
 | x::r=>!(r.contains x) && Gx r
theorem bY:∀{l:List Str},Gx l=true->l.Nodup
 | [],_=>TR
 | x::r,h=>by
  unfold Gx at h
  rw [Ri] at h
  refine S9.mpr ⟨λz=>?_,bY h.2⟩
  have:=h.1
  simp [z] at this
theorem FT {X:Cx}{QV:List (Rq×Obj)}{σ:L2.St}{H:Hp}{s:Q_}{a C:Rq}{dx:Option Rq}{ns:List Str}{vs:List V}(I:L2.Inv X QV σ H s) (h:H a=some (DX.XO a C dx)) (xf:XF H dx ns vs):∃ox od,U9 s.heap a ox C od/\od.isSome=dx.isSome/\(∀d,dx=some d->∃o,od=some o/\s.heap.get? d=some o):=by
 obtain ⟨⟨oe,fs,h1,h2,h3,h4⟩,_⟩:=I.hok a _ h
 have hn:aad oe=true:=by unfold aad;rw [h4]
 rcases xf with ⟨rfl,_⟩ | ⟨d,rfl,_,hd⟩
 ·exact ⟨oe,none,⟨h1,h2,hn,by rw [h3];exact X_⟩,rfl,λd z=>by cases z⟩
 ·obtain ⟨m,⟨o,es,ep,k1,_⟩,_⟩:=I.hok d _ hd
  exact ⟨oe,some o,⟨h1,h2,hn,by rw [h3];exact k1⟩,rfl,λd' z=>by cases z;exact ⟨o,rfl,k1⟩⟩
noncomputable def xX (T:String):Prop:=(∀(K:Q7) (t:String),t∈["NoneType","bool","int","str","tuple","list","dict"]->Yl K (.type t) (.type T)=some (bT t T))/\ZO T=true/\DX.Aa.contains (.type T)=false/\bT "exc" T=false
theorem uX:xX "int":=⟨λK t h=>by
 simp only [Rt,Sl,or_false] at h
 rcases h with rfl | rfl | rfl | rfl | rfl | rfl | rfl <;> rfl,by decide +kernel,by decide,by decide⟩
theorem n9:xX "bool":=⟨λK t h=>by
 simp only [Rt,Sl,or_false] at h
 rcases h with rfl | rfl | rfl | rfl | rfl | rfl | rfl <;> rfl,by decide +kernel,by decide,by decide⟩
theorem Jm:xX "str":=⟨λK t h=>by
 simp only [Rt,Sl,or_false] at h
 rcases h with rfl | rfl | rfl | rfl | rfl | rfl | rfl <;> rfl,by decide +kernel,by decide,by decide⟩
theorem kit_tuple:xX "tuple":=⟨λK t h=>by
 simp only [Rt,Sl,or_false] at h
 rcases h with rfl | rfl | rfl | rfl | rfl | rfl | rfl <;> rfl,by decide +kernel,by decide,by decide⟩
theorem Gg:xX "list":=⟨λK t h=>by
 simp only [Rt,Sl,or_false] at h
 rcases h with rfl | rfl | rfl | rfl | rfl | rfl | rfl <;> rfl,by decide +kernel,by decide,by decide⟩
theorem Aq {T:String}(kit:xX T):
  b8 X (.builtin "isinstance") (λxs H Q=>∃d x,xs=[x,.ty T]/\Rep X.K H d x/\Q (.bl (bT (cJ d) T)) H):=by
 intro QV s σ H xs us Q I r h
 obtain ⟨d,x,rfl,hd,q⟩:=h
 obtain ⟨u,w',rfl,rx,ry⟩:=vals2 r
 cases ry
 have fin:∀tk,EP X QV σ Q (.bool (bT (cJ d) T)) {s with toks:=tk}:=λtk=>⟨.bl _,H,I.tok tk,rfl,q⟩
 have F:=h_ I
 cases hd with
 | non=>cases rx;exact Tz W.kitx_none I.kIn X_ (kit.1 X.K _ (by simp [cJ])) (λz=>nomatch z) fin
 | bl y=>cases rx;exact Tz W.kitx_bool I.kIn X_ (kit.1 X.K _ (by simp [cJ])) (λz=>nomatch z) fin
 | int i=>obtain ⟨t,rfl⟩:=rx;exact Tz W.kitx_int I.kIn X_ (kit.1 X.K _ (by simp [cJ])) (λz=>nomatch z) fin
 | str y=>obtain ⟨t,rfl⟩:=rx;exact Tz W.kitx_str I.kIn X_ (kit.1 X.K _ (by simp [cJ])) (λz=>nomatch z) fin
 | tup h hs=>
  cases rx
  obtain ⟨QX,r,o,h1,h2,_⟩:=F.t _ _ h
  exact Tz W.kitx_tuple I.kIn ⟨o,h1,h2⟩ (kit.1 X.K _ (by simp [cJ])) (λz=>nomatch z) fin
 | lst h hs=>
  cases rx
  obtain ⟨QX,r,o,h1,h2,_⟩:=F.l _ _ h
  exact Tz W.kitx_list I.kIn ⟨o,h1,h2⟩ (kit.1 X.K _ (by simp [cJ])) (λz=>nomatch z) fin
 | emp h=>
  cases rx
  obtain ⟨o,h1,h2⟩:=F.e _ h
  exact Tz Za I.kIn ⟨o,h1,h2⟩ (kit.1 X.K _ (by simp [cJ])) (λz=>nomatch z) fin
 | dct h _ _ _ _=>
  cases rx
  obtain ⟨o,es,h1,h2,_⟩:=F.d _ _ _ h
  exact Tz Za I.kIn ⟨o,h1,h2.1⟩ (kit.1 X.K _ (by simp [cJ])) (λz=>nomatch z) fin
 | exn h1 h2 h3 hs hx=>
  cases rx
  obtain ⟨P,G,E⟩:=hx
  obtain ⟨ox,od,J,_⟩:=FT I h1 h3
  simp only [cJ,kit.2.2.2] at fin
  exact Tz (DX.Gh G E) I.kIn ⟨ox,od,J⟩ (DX.LF E kit.2.1 kit.2.2.1) (λz=>nomatch z) fin
def cG (T:String) (g:G R):G R:=λenv=>g env >>= λr=>.ok (.d (.bl (bT (cJ r.dat) T)))
noncomputable def jN:List D->Option (List Bool)
 | []=>some []
 | .bl k::r=>(jN r).map (k::·)
 | _::_=>none
theorem pC {K:Q7}{J:Hp}:∀{ds:List D}{vs:List V}{ks:List Bool},jN ds=some ks->aJ K J ds vs->vs=ks.map V.bl
 | [],_,_,h,.nil=>by cases h;rfl
 | .bl x::r,_,ks,h,.cons q rs=>by
  unfold jN at h
  cases z:jN r with
  | none=>rw [z] at h;cases h
  | some ks'=>
   rw [z] at h
   cases h
   cases q
   rw [pC z rs]
   rfl
theorem sd:∀{ks:List Bool}{us:List Q8},Vals (ks.map V.bl) us->us=ks.map Uk
 | [],_,.nil=>rfl
 | k::ks,_,.cons r rs=>by
  cases r
  rw [sd rs]
  rfl
theorem all_range (ks:List Bool):(Ra ks.length).all (λi=>ks.getD i true)=ks.all id:=by
 induction ks with
 | nil=>rfl
 | cons k r ih=>
  rw [SG,UM,UC,XU,UC]
  simp only [Yt]
  rw [<-ih]
  rfl
theorem Dy (hc:X.calm=true):b8 X (.builtin "all") (λxs H Q=>∃(p:Rq) (ks:List Bool),xs=[.ref p]/\dw X.K H p (ks.map V.bl)/\Q (.bl (ks.all id)) H):=by
 intro QV s σ H xs us Q I r h
 obtain ⟨p,ks,rfl,hq,q⟩:=h
 obtain ⟨u,rfl,rx⟩:=vals1 r
 cases rx
 obtain ⟨QX,r',pl,hz⟩:=I.list hq
 have hi:=sd r'
 subst hi
 have Qp:p≠s.heap.objs.size:=by
  obtain ⟨o,h1,_⟩:=pl.isList
  exact RE (Ru h1)
 refine call_all_walk (VJ pl.isList ⟨s.heap.objs.size,_,_,_,_,_,(λi=>ks.getD i true),rfl,aaA (A:=X.A.in1) (show X.A.in1.handled=none from I.ok.hd hc) s.heap.objs.size p Qp (ks.map Uk).toArray,⟨⟨_,Rn _ rfl,rfl,rfl⟩,Zz pl.isList _⟩,?_,λh' tk k=>?_⟩)
 ·intro i v s' Q' E' hP hQ
  have e:∃k,ks[i]?=some k/\v=.bool k:=by
   have hP':(ks.map Uk)[i]?=some v:=by simpa using hP
   rw [RD] at hP'
   cases z:ks[i]? with
   | none=>rw [z] at hP';cases hP'
   | some k=>rw [z] at hP';cases hP';exact ⟨k,rfl,rfl⟩
  obtain ⟨k,e1,rfl⟩:=e
  simp only at hQ
  rw [RH,e1] at hQ
  exact Sw hQ
 ·have sz:(ks.map Uk).toArray.size=ks.length:=by simp
  rw [sz,all_range]
  refine ⟨.bl (ks.all id),H,?_,rfl,q⟩
  refine I.kept λb o e=>k b o (λz=>?_) (Rc _ e)
  have:b=s.heap.objs.size:=by simpa using z
  exact absurd (this▸Ru e) (Tr _)
noncomputable def nU:List R->M R
 | [r]=>jP r >>= λxs=>match jN xs with
  | some ks=>.ok (.d (.bl (ks.all id)))
  | none=>.bad
 | _=>.bad
theorem Ds:Sd "all"=some (.builtin "all"):=by decide +kernel
theorem JF {d:D}{v:V}{x:Str}{u:Q8}(hm:X.mg x=some u) (r:RelV v u) (hr:∀J,Rep c.K J d v) (hg:Gl X x:=by rfl) (hd:(x == ("__debug__":Str))=false:=by decide):PD X c (.Name x pos) (gC d):=tW hr (Bk hg hm r hd)
theorem K6 {QV:List (Rq×Obj)}{σ:L2.St}{H:Hp}{s:Q_}(I:Inv X QV σ H s):UJ < s.heap.objs.size:=by
 have h:RP < s.heap.objs.size:=(I.mod.glob.keeps I.bk).lt
 exact Vl (by decide) h
theorem Et:dZ X (UA .Add) (λx y H Q=>∃a b xs ys,x=.ref a/\y=.ref b/\dY X.K H a xs/\dY X.K H b ys/\xs.length + ys.length<=sizeLine/\
  (xs=[]->Q (.ref b) H)/\(ys=[]->Q (.ref a) H)/\∀p,H p=none->Q (.ref p) (upd H p (.tup (xs++ys)))):=by
 intro QV s σ H x y v u Q I rx ry h
 obtain ⟨a,b,xs,ys,rfl,rfl,ha,hb,hz,q0,q1,q2⟩:=h
 by_cases hx:xs=[]
 ·cases rx
  cases ry
  obtain ⟨QX,r1,p1,_⟩:=I.tuple ha
  obtain ⟨its2,r2,p2,_⟩:=I.tuple hb
  have he:QX=[]:=r1.nil_iff.mpr hx
  subst he
  obtain ⟨⟨cls,dd,data,sl⟩,ho,hc,n,hd⟩:=id p1
  obtain ⟨⟨cls2,dd2,data2,sl2⟩,ho2,hc2,n2,hd2⟩:=id p2
  simp only at hc hd hc2 hd2
  subst hc hd hc2 hd2
  exact Zl ⟨_,ho,rfl⟩ ⟨_,ho2,rfl⟩ Xp YF VE Vu (Vk _ _) (tuple_addW0 a b _ _ n n2 dd dd2 sl sl2 rfl) ⟨ho,ho2,⟨.ref b,H,I,rfl,q0 hx⟩⟩
 ·exact Jx QV s σ H (.ref a) (.ref b) v u Q I rx ry ⟨a,b,xs,ys,rfl,rfl,ha,hb,hx,hz,q1,λ_=>q2⟩
noncomputable def Cc:R->R->M R
 | .d (.tup xs),.d (.tup ys)=>if xs.length + ys.length<=sizeLine then .ok (.d (.tup (xs++ys))) else .bad
 | _,_=>.bad
theorem IJ (hK:X.K=c.K):BD c (λx y H Q=>∃a b xs ys,x=.ref a/\y=.ref b/\dY X.K H a xs/\dY X.K H b ys/\xs.length + ys.length<=sizeLine/\
  (xs=[]->Q (.ref b) H)/\(ys=[]->Q (.ref a) H)/\∀p,H p=none->Q (.ref p) (upd H p (.tup (xs++ys)))) Cc:=by
 intro He He' J H x y u v Q hp rx ry w
 unfold Cc at w
 split at w
 ·rename_i ds es
  cases rx with
  | tup h1 s1=>
   cases ry with
   | tup h2 s2=>
    split at w
    ·rename_i hz
     rw [s1.length,s2.length] at hz
     refine ⟨_,_,_,_,rfl,rfl,by rw [hK];exact gc hp.sub h1,by rw [hK];exact gc hp.sub h2,hz,λe=>?_,λe=>?_,λp hp'=>w _ _ _ (Ext.newJ hp.sub hp' _) (p_ hp hp' (s1.append s2))⟩
     ·have e':ds=[]:=V5 (by rw [s1.length,e];rfl)
      subst e'
      exact w _ J H (Ext.refl hp.sub) (.tup h2 s2)
     ·have e':es=[]:=V5 (by rw [s2.length,e];rfl)
      subst e'
      rw [Ur] at w
      exact w _ J H (Ext.refl hp.sub) (.tup h1 s1)
    ·exact w.elim
 ·exact w.elim
noncomputable def Lr:R->Bool
 | .d (.tup _)=>true
 | _=>false
def sN (x y:R):M R:=if Lr x then Cc x y else cA x y
noncomputable def intsOf:List D->Option (List Int)
 | []=>some []
 | .int i::r=>(intsOf r).map (i::·)
 | _::_=>none
theorem n8 {K:Q7}{J:Hp}:∀{ds:List D}{vs:List V}{ns:List Int},intsOf ds=some ns->aJ K J ds vs->vs=ns.map V.int
 | [],_,_,h,.nil=>by cases h;rfl
 | .int x::r,_,ks,h,.cons q rs=>by
  unfold intsOf at h
  cases z:intsOf r with
  | none=>rw [z] at h;cases h
  | some ks'=>
   rw [z] at h
   cases h
   cases q
   rw [n8 z rs]
   rfl
def signs (x:Str):List D:=x.cps.toList.map λk=>.str ⟨#[k]⟩
noncomputable def O_ (g:G R):G (List D):=λenv=>g env >>= λr=>match r with
 | .d (.str x)=>.ok (signs x)
 | _=>.bad
theorem AK {prog:Rz}{w:RZ}{A:R4}{E:Q8->Q_->Prop}{s:Q_}{t sl:Rq}{QW:Array Q8}{vl vu:Q8}{lo hi:Option Int}{Q:Q8->Q_->Prop}(ht:abo s.heap t QW) (hs:s.heap.IsSliceOf sl vl vu .none) (pl:YG vl lo) (pu:YG vu hi)
  (hw:HT.bO QW.size 0 lo=0/\HT.bO QW.size QW.size hi=QW.size) (h:Q (.ref t) s):RA (RG prog w) A (Y0 (.ref t) (.ref sl)) Q E s:=by
 obtain ⟨os,hos,hcs,hds⟩:=id hs
 have Qi:s.TypeIs (.ref sl) "slice":=⟨os,hos,hcs⟩
 unfold Y0
 try with_reducible refine RU ?_
 first | refine Q6 (Q9 ?_) | skip
 refine Q6 (Y3 ht.typeIs (by decide) ?_)
 refine Q6 (S_ (name:=VX "__getitem__") ht.typeIs Sm
  (Sb Sm ht.typeIs Yq ?_ (YI _ _)))
 show RA _ _ (U0 (.ref t) >>= _) _ _ s
 refine Q6 (aaL ht ?_)
 refine Q6 (VY Qi ?_)
 rw [if_pos (by decide)]
 refine Q6 (HT.lG hs pl pu ?_)
 have hyes:(((HT.bO QW.size 0 lo:Nat):Int) == 0 && (1:Int) == 1 && (HT.bO QW.size QW.size hi - HT.bO QW.size 0 lo) == QW.size)=true:=by
  rw [hw.1,hw.2]
  simp
 show RA _ _ (if (((HT.bO QW.size 0 lo:Nat):Int) == 0 && (1:Int) == 1 && (HT.bO QW.size QW.size hi - HT.bO QW.size 0 lo) == QW.size)=true then _ else _) _ _ s
 rw [if_pos hyes]
 unfold Z9
 refine Q6 (Q6 (VY ht.typeIs (Q9 ?_)))
 rw [if_pos (by decide)]
 exact Q6 (WX (Q9 ⟨_,rfl,Q9 h⟩))
theorem E2:sE X (λx lo hi H Q=>∃a xs,x=.ref a/\dY X.K H a xs/\((HT.bO xs.length 0 lo=0/\HT.bO xs.length xs.length hi=xs.length)->Q (.ref a) H)/\∀p,H p=none->Q (.ref p) (upd H p (.tup (mz xs lo hi)))):=by
 intro QV s σ H x v vl vu lo hi sl Q I rx hs pl pu h
 obtain ⟨a,xs,rfl,hx,q0,q1⟩:=h
 by_cases hw:HT.bO xs.length 0 lo=0/\HT.bO xs.length xs.length hi=xs.length
 ·cases rx
  obtain ⟨QX,r,ht,hz⟩:=I.tuple hx
  have hlen:QX.toArray.size=xs.length:=by rw [Ro];exact r.length.symm
  exact ⟨"tuple",_,Sm.lookup,ht.typeIs,AK ht hs pl pu (by rw [hlen];exact hw) ⟨.ref a,H,I,rfl,q0 hw⟩⟩
 ·exact ML QV s σ H (.ref a) v vl vu lo hi sl Q I rx hs pl pu ⟨a,xs,rfl,hx,hw,q1⟩
theorem Ca {xs:List D}{lo hi:Option Int}(h:HT.bO xs.length 0 lo=0/\HT.bO xs.length xs.length hi=xs.length):cutD xs lo hi=xs:=by
 unfold cutD
 rw [h.1,h.2]
 simp
noncomputable def FU:R->Option Int->Option Int->M R
 | .d (.tup xs),l,u=>.ok (.d (.tup (cutD xs l u)))
 | _,_,_=>.bad
theorem OF (hK:X.K=c.K) (He J H:Hp) (x:R) (v:V) (l u:Option Int) (Q:VK) (hp:HI c J H) (rx:RR c He J H x v) (w:dJ (FU x l u) (λz=>∀w J' H',Ext J H J' H'->RR c H J' H' z w->Q w H') c.T):
  ∃a xs,v=.ref a/\dY X.K H a xs/\((HT.bO xs.length 0 l=0/\HT.bO xs.length xs.length u=xs.length)->Q (.ref a) H)/\∀p,H p=none->Q (.ref p) (upd H p (.tup (mz xs l u))):=by
 unfold FU at w
 split at w
 ·rename_i ds
  cases rx with
  | tup h1 s1=>
   refine ⟨_,_,rfl,by rw [hK];exact gc hp.sub h1,λhw=>?_,λp hp'=>w _ _ _ (Ext.newJ hp.sub hp' _) (p_ hp hp' (s1.cut _ _))⟩
   rw [<-s1.length] at hw
   rw [Ca hw] at w
   exact w _ J H (Ext.refl hp.sub) (.tup h1 s1)
 ·exact w.elim
def rN (x:R) (l u:Option Int):M R:=if Lr x then FU x l u else Oj x l u
def BF (K:Q7) (mg:Str->Option Q8) (x:Str) (d:D):Prop:=∃u v,mg x=some u/\RelV v u/\∀J,Rep K J d v
theorem pD:Sd "int"=some (.type "int"):=by decide +kernel
theorem kh:Sd "bool"=some (.type "bool"):=by decide +kernel
theorem Dw:Sd "str"=some (.type "str"):=by decide +kernel
theorem mq:Sd "tuple"=some (.type "tuple"):=by decide +kernel
theorem B6:Sd "list"=some (.type "list"):=by decide +kernel
end
section
variable {X:Cx}{c:C}{e a b tg:RX}{es:List RX}{ga gb g:G R}{pos:Pos}{st:Uy}{t u:G O}{tb:G Bool}
def xH:G O:=λ_=>.bad
noncomputable def FY (g:G R):G R:=λenv=>g env >>= λr=>match r with
 | .d (.int i)=>.ok (.d (.int (-i)))
 | _=>.bad
noncomputable def Hl:R->M Bool
 | .d .non=>.ok false
 | .d (.bl b)=>.ok b
 | .d (.int i)=>.ok (i != 0)
 | .d (.str y)=>if y.length<=sizeLine then .ok ((y.length:Int) != 0) else .bad
 | .d (.tup xs)=>.ok (!xs.isEmpty)
 | .d (.lst xs)=>.ok (!xs.isEmpty)
 | .d .emp=>.ok false
 | .d (.exn _ _ _)=>.bad
 | .d (.dct _ _)=>.bad
 | .l _ xs=>.ok (!xs.isEmpty)
 | _=>.bad
theorem Lp {K:Q7}{J:Hp}{ds:List D}{vs:List V}(h:aJ K J ds vs):ds.isEmpty=vs.isEmpty:=by
 cases h <;> rfl
theorem Kq {He J H:Hp}(hp:HI c J H){Q:Bool->Prop}{T:Exc->Prop}:∀{r:R}{v:V},RR c He J H r v->dJ (Hl r) Q T->∃k,Fw c.K v H k/\Q k
 | .d .non,_,h,w=>by cases h;exact ⟨_,rfl,w⟩
 | .d (.bl b),_,h,w=>by cases h;exact ⟨_,rfl,w⟩
 | .d (.int i),_,h,w=>by cases h;exact ⟨_,rfl,w⟩
 | .d (.str y),_,h,w=>by
  cases h
  unfold Hl at w
  simp only at w
  split at w
  ·rename_i hz;exact ⟨_,⟨hz,rfl⟩,w⟩
  ·exact w.elim
 | .d (.tup xs),_,h,w=>by
  cases h with
  | tup h1 h2=>exact ⟨_,.inr (.inl ⟨_,gc hp.sub h1,rfl⟩),by rw [<-Lp h2];exact w⟩
 | .d (.lst xs),_,h,w=>by
  cases h with
  | lst h1 h2=>exact ⟨_,.inl ⟨_,hp.sub.seq h1,rfl⟩,by rw [<-Lp h2];exact w⟩
 | .d .emp,_,h,w=>by
  cases h with
  | emp h1=>exact ⟨_,.inr (.inr ⟨_,hp.sub _ _ h1,rfl⟩),w⟩
 | .d (.exn _ _ _),_,_,w=>w.elim
 | .d (.dct _ _),_,_,w=>w.elim
 | .mo _ _,_,_,w=>w.elim
 | .mb _ _,_,_,w=>w.elim
 | .mf _ _,_,_,w=>w.elim
 | .l m xs,_,h,w=>by
  obtain ⟨a,vs,rfl,h1,h2⟩:=RR.list hp h rfl
  exact ⟨_,.inl ⟨_,h1,rfl⟩,by rw [<-Lp h2];exact w⟩
def Cg (g:G R):G Bool:=λenv=>g env >>= Hl
noncomputable def lI (tb:G Bool) (u:G O):Nat->Ev->M O
 | 0,_=>.bad
 | n + 1,env=>tb env >>= λk=>if k=true then u env >>= λo=>(match o with
  | .nx e=>lI tb u n e
  | .ct e=>lI tb u n e
  | .bk e=>.ok (.nx e)
  | .rt r=>.ok (.rt r)) else .ok (.nx env)
def yV (n:Nat) (tb:G Bool) (u:G O):G O:=λenv=>lI tb u n env
end
open PySem.AutoSeq1 in
theorem DU (T:String) (hT:T="tuple"\/T="list") (l b:Rq) (xs ys:Array Q8) (n m:Nat) (dd:Option Rq) (sl:Array (Option Q8)) (z0:¬(!xs.isEmpty && TH (xs.size + ys.size))=true) (z1:xs.size<=sizeLine) (z2:xs.size + ys.size<=sizeLine + 1):
  Meets (U3.«list.extend» ⟨[.ref l,.ref b],[]⟩) λ_ R s=>s.heap.get? l=some {cls:=.type "list",dict:=none,data:=.seq xs n,slots:=#[]}/\
   s.heap.get? b=some {cls:=.type T,dict:=dd,data:=.seq ys m,slots:=sl}/\R (.ok (.ret R7)) {s with heap:=s.heap.update l (SX λx=>x++ys),toks:=s.toks}:=
 .of_wp λprog w A R s h=>by
  obtain ⟨hp,gs,dr,tk,os⟩:=s
  obtain ⟨h1,h2,h3⟩:=h
  have t1:=AutoSeq1.idx_int
  have t2:=Vm
  have t3:=AutoSeq1.sub_list_list
  have t4:=AutoSeq1.sub_tuple_list
  have t5:=AutoSeq1.sub_list_tuple
  have z3:(xs++ys).size<=sizeLine + 1:=by
   rw [Y_]
   exact z2
  rcases hT with rfl | rfl
  ·wp_walk using (Wn h1 rfl (hz:=z1) (_hz':=z3)),TZ h1,TZ h2
   exact ⟨_,rfl,h3⟩
  ·wp_walk using (Wn h1 rfl (hz:=z1) (_hz':=z3)),TZ h1,TZ h2
   exact ⟨_,rfl,h3⟩
section
variable {X:Cx}{c:C}{e a b tg:RX}{es:List RX}{ga gb g:G R}{pos:Pos}
noncomputable def Ow (K:Q7):V->List V->Hp->VK->Prop:=λx vs H Q=>∃l b xs zs,x=.ref l/\vs=[.ref b]/\H l=some (.lst xs)/\(dw K H b zs\/dY K H b zs)/\xs.length + zs.length<=sizeLine/\Q .non (upd H l (.lst (xs++zs)))
theorem LM:KN X "list.extend" (Ow X.K):=by
 intro QV s σ H x vs v us Q I rx rv h
 obtain ⟨l,b,xs,zs,rfl,rfl,hH,hB,hz,q⟩:=h
 cases rx
 obtain ⟨u,rfl,ru⟩:=rv.one
 cases ru
 obtain ⟨z,QX,n,r,hl,e⟩:=I.lstM hH
 have obj:∃T its2,(T="tuple"\/T="list")/\Vals zs its2/\∃dd m sl,s.heap.get? b=some {cls:=.type T,dict:=dd,data:=.seq its2.toArray m,slots:=sl}:=by
  rcases hB with hB | hB
  ·obtain ⟨its2,r2,pl,_⟩:=I.list hB
   obtain ⟨⟨cls,dd,data,sl⟩,ho,hc,m,hd⟩:=pl.isList
   simp only at hc hd
   subst hc hd
   exact ⟨"list",its2,.inr rfl,r2,dd,m,sl,ho⟩
  ·obtain ⟨its2,r2,pl,_⟩:=I.tuple hB
   obtain ⟨⟨cls,dd,data,sl⟩,ho,hc,m,hd⟩:=pl
   simp only at hc hd
   subst hc hd
   exact ⟨"tuple",its2,.inl rfl,r2,dd,m,sl,ho⟩
 obtain ⟨T,its2,hT,r2,dd,m,sl,e2⟩:=obj
 have hl2:=r2.length
 have hsz:QX.toArray.size + its2.toArray.size<=sizeLine:=by rw [Ro,Ro];omega
 have Pw:¬(!QX.toArray.isEmpty && TH (QX.toArray.size + its2.toArray.size))=true:=by
  rw [zm hsz,UL]
  exact RV
 refine aau YK ⟨_,e,rfl⟩ Yr (Yd _ _) (DU T hT l b QX.toArray its2.toArray n m dd sl Pw (by rw [Ro];omega) (by omega)) ⟨e,e2,?_⟩
 refine ⟨.non,_,I.lset (its':=QX++its2) hH e (by simp) (r.append r2) ?_,rfl,q⟩
 rw [RI]
 omega
noncomputable def yT (i:Nat) (g:G R):G O:=λenv=>match env[i]? with
 | some (some (.own xs))=>g env >>= λr=>jg r >>= λys=>if xs.length + ys.length<=sizeLine then .ok (.nx (env.set i (some (.own (xs++ys))))) else .bad
 | _=>.bad
noncomputable def zq:V->Option (Option Bool)
 | .non=>some none
 | .bl k=>some (some k)
 | _=>none
theorem G6 {x y:V}{v u:Q8}{o:Option Bool}(rx:RelV x v) (ry:RelV y u) (h:zq y=some o):isSame v u=pure (zq x == some o):=by
 cases y with
 | non=>
  cases h
  cases ry
  cases x with
  | non=>cases rx;rfl
  | bl k=>cases rx;rfl
  | int i=>obtain ⟨t,rfl⟩:=rx;rfl
  | str z=>obtain ⟨t,rfl⟩:=rx;rfl
  | byt z=>obtain ⟨t,rfl⟩:=rx;rfl
  | flt z=>obtain ⟨t,rfl⟩:=rx;rfl
  | ref p=>cases rx;rfl
  | ty n=>cases rx;rfl
 | bl k'=>
  cases h
  cases ry
  cases x with
  | non=>cases rx;rfl
  | bl k=>cases rx;cases k <;> cases k' <;> rfl
  | int i=>obtain ⟨t,rfl⟩:=rx;rfl
  | str z=>obtain ⟨t,rfl⟩:=rx;rfl
  | byt z=>obtain ⟨t,rfl⟩:=rx;rfl
  | flt z=>obtain ⟨t,rfl⟩:=rx;rfl
  | ref p=>cases rx;rfl
  | ty n=>cases rx;rfl
 | _=>cases h
theorem Ey:dZ X (S7 .Is) (λx y H Q=>∃o,zq y=some o/\Q (.bl (zq x == some o)) H):=by
 intro QV s σ H x y v u Q I rx ry h
 obtain ⟨o,ho,q⟩:=h
 show RA _ _ (do return Uk (<-isSame v u)) _ _ s
 rw [G6 rx ry ho]
 exact Q6 (Q9 (Q9 ⟨.bl _,H,I,rfl,q⟩))
noncomputable def Cu:R->Option (Option Bool)
 | .d .non=>some none
 | .d (.bl k)=>some (some k)
 | _=>none
noncomputable def sQ (neg:Bool) (x y:R):M R:=match Cu y with
 | some o=>.ok (.d (.bl (if neg then !(Cu x == some o) else Cu x == some o)))
 | none=>.bad
theorem qH {He J H:Hp}:∀{r:R}{v:V},RR c He J H r v->zq v=Cu r
 | .d .non,_,h=>by cases h;rfl
 | .d (.bl _),_,h=>by cases h;rfl
 | .d (.int _),_,h=>by cases h;rfl
 | .d (.str _),_,h=>by cases h;rfl
 | .d (.tup _),_,h=>by cases h;rfl
 | .d (.lst _),_,h=>by cases h;rfl
 | .d .emp,_,h=>by cases h;rfl
 | .d (.exn _ _ _),_,h=>by cases h;rfl
 | .d (.dct _ _),_,h=>by cases h;rfl
 | .l .fresh _,_,h=>by obtain ⟨_,_,rfl,_⟩:=h;rfl
 | .l .own _,_,h=>by obtain ⟨_,_,rfl,_⟩:=h;rfl
 | .l .bor _,_,h=>by obtain ⟨_,_,rfl,_⟩:=h;rfl
 | .mo _ _,_,h=>by obtain ⟨_,rfl,_⟩:=h;rfl
 | .mb _ _,_,h=>by obtain ⟨_,rfl,_⟩:=h;rfl
 | .mf _ _,_,h=>by obtain ⟨_,rfl,_⟩:=h;rfl
end
theorem IL {P:Rz}{w:RZ}{K:Q7}{mg:Str->Option Q8}{base:SM}{x Q2:Str}{st:Uy}{f:Rq}{fd:RO}{ps:List Str}{k:Nat}{Fm:List S->M R}(F:dh K x Q2 st f fd) (hm:mg x=some (.ref f))
  (hbi:∀(kV doc pm:Q8) (an:Option Rq) (cdv ct:Q8) (us:List Q8),us.length=ps.length->ZE (Rw x Q2 (a_ st) (aW st) (az st) .none kV doc pm an cdv ct) ⟨us,[]⟩=pure (ps.zip us))
  (hF:∀as,Fm as=.bad):bA P w K mg base k ps.length x Fm:=
 ⟨f,fd,ps,⟨λvs H Q E ⟨J,as,_,_,_,h⟩=>(by rw [hF as] at h;exact h.elim),λA outer s H args us vs Q E _ _ _ _ ⟨J,as,_,_,_,h⟩=>(by rw [hF as] at h;exact h.elim)⟩,hm,F.kp,F.binds hbi⟩
section
variable {X:Cx}{c:C}{e a b d tg:RX}{es:List RX}{ga gb g:G R}{pos:Pos}
def Oo (K:Q7) (tl:TE):TI:=λσ H R=>tl σ H λx H1=>∃a,x=.ref a/\(((∃xs,dw K H1 a xs)/\R (Hu K a) H1)\/((∃xs,dY K H1 a xs)/\R (Hw K a) H1))
theorem EF {tl:TE}(hl:PE X e tl):PI X tg e (Oo X.K tl):=λQV s σ H R I h=>b9 (hl QV s σ H _ I h) λv s1 ⟨x,H1,I1,r1,a,ex,q1⟩=>by
 subst ex
 cases r1
 have fp:∀b∈[s1.heap.objs.size],jX X QV H1 b:=λb hb=>by
  rw [Rp] at hb
  subst hb
  exact I1.fpOk (Rj _) (I1.hok.fresh (Rj _))
 rcases q1 with ⟨⟨xs,hq⟩,q⟩ | ⟨⟨xs,hq⟩,q⟩
 ·obtain ⟨QX,rv,p,hz⟩:=I1.list hq
  exact VJ p.isList ⟨s1.heap.objs.size,[s1.heap.objs.size],_,_,H1,rfl,I1.kept (t':=s1.toks) (λb o e=>Rc _ e),E_ a _,⟨_,Rn _ rfl,rfl,rfl⟩,fp,q⟩
 ·obtain ⟨QX,rv,p,hz⟩:=I1.tuple hq
  exact WD (show s1.heap.IsTuple a QX.toArray from p) ⟨s1.heap.objs.size,[s1.heap.objs.size],_,_,H1,rfl,I1.kept (t':=s1.toks) (λb o e=>Rc _ e),C_ a _,⟨_,Rn _ rfl,rfl,rfl⟩,fp,q⟩
theorem wK {J1:Hp}{a:Rq}{vs:List V}{ds:List D}{U:Hp->Hp->Prop}(hU:∀J H,U J H->aX J1 J) (h:dY c.K J1 a vs) (hs:aJ c.K J1 ds vs):Walk c (Hw c.K a) ds J1 U:=by
 intro i J H hp u
 have h':=gc hp.sub (gc (hU J H u) h)
 refine ⟨λhl=>⟨vs,h',by rw [<-hs.length];exact hl⟩,λd hd=>?_⟩
 obtain ⟨v,k1,k2⟩:=hs.get hd
 refine ⟨⟨vs,v,h',k1⟩,λx H2 ⟨e,hy⟩=>?_⟩
 subst e
 have:=hy vs h'
 rw [k1] at this
 cases this
 exact ⟨J,Ext.refl hp.sub,k2.mono (hU J _ u)⟩
noncomputable def kW (g:G R):G (List D):=λenv=>g env >>= λr=>match r with
 | .d (.tup xs)=>.ok xs
 | .d (.lst xs)=>.ok xs
 | .l .fresh xs=>.ok xs
 | .l .bor xs=>.ok xs
 | _=>.bad
def gj (g:G R):G (List D):=λenv=>g env >>= jg
end
section
variable {X:Cx}{c:C}{st:Uy}{g:G O}
theorem SR.frz {J H:Hp}{σ:L2.St}{env:Ev}(sr:SR c J H σ env){i:Nat}{x:Mn}{a:Rq}{o:HO}{d:D}(hi:env[i]?=some (some (mS x))) (h1:σ[i]?=some (some (.ref a))) (h2:H a=some o) (h3:J a=none) (h4:c.H0 a=none) (h5:Rep c.K (L2.upd J a o) d (.ref a)):∃J',aX J J'/\SR c J' H σ (env.set i (some (.d d))):=by
 have s1:aX J (L2.upd J a o):=dM h3 _
 refine ⟨L2.upd J a o,s1,⟨⟨λb o q=>?_,sr.hp.ent,sr.hp.entJ.trans s1,λb k1 k2=>?_⟩,by simpa using sr.len,λj y q=>?_,λj k ys zs w hjk q1 q2 q3 q4=>?_⟩⟩
 ·by_cases hb:b=a
  ·subst hb;rw [cK] at q;cases q;exact h2
  ·rw [bG hb] at q;exact sr.hp.sub b o q
 ·have:b≠a:=λz=>k1 (z▸h4)
  rw [bG this];exact sr.hp.frz b k1 k2
 ·rcases gM q with ⟨rfl,hl,rfl⟩ | ⟨hj,q⟩
  ·exact ⟨.ref a,h1,h5⟩
  ·obtain ⟨w,k1,k2⟩:=sr.at_ j y q
   refine ⟨w,k1,?_⟩
   have hne:∀(z:Mn) p',y=mS z->w=.ref p'->p'≠a:=λz p' e ew ep=>sr.sep i j x z (.ref a) (Um hj) hi (e▸q) h1 (ep▸ew▸k1)
   cases y with
   | d x=>exact Rep.mono s1 k2
   | bor zs=>obtain ⟨p,us,m1,m2,m3⟩:=k2;exact ⟨p,us,m1,m2,m3.mono s1⟩
   | db _ _=>obtain ⟨p,m1,m2⟩:=k2;exact ⟨p,m1,m2.mono s1 (aX.refl _)⟩
   | fn _=>exact k2
   | dk ks zs=>
    obtain ⟨p,rfl,m1,m2,m3⟩:=k2
    exact ⟨p,rfl,m1.mono s1 (aX.refl _),by rw [bG (hne (.inr (ks,zs)) p rfl rfl)];exact m2,m3⟩
   | own zs=>
    obtain ⟨p,us,rfl,m1,m2,m3,m4⟩:=k2
    exact ⟨p,us,rfl,m1,by rw [bG (hne (.inl zs) p rfl rfl)];exact m2,m3,m4.mono s1⟩
 ·have f:∀(k:Nat) (ys:Mn),(env.set i (some (.d d)))[k]?=some (some (mS ys))->env[k]?=some (some (mS ys)):=λk ys q=>by
   rcases gM q with ⟨rfl,_,z⟩ | ⟨_,q⟩
   ·cases ys <;> cases z
   ·exact q
  exact sr.sep j k ys zs w hjk (f j ys q1) (f k zs q2) q3 q4
noncomputable def j4 (i:Nat) (g:G O):G O:=λenv=>match env[i]? with
 | some (some (.own xs))=>g (env.set i (some (.d (.lst xs))))
 | some (some (.dk ks vs))=>g (env.set i (some (.d (.dct ks vs))))
 | _=>g env
end
structure QD (X:Cx) (c:C) (x0:RX) (x1:G R):Prop where
 h:PD X c x0 x1
structure QB (X:Cx) (c:C) (x0:RX) (x1:G Bool):Prop where
 h:PB X c x0 x1
structure kc (X:Cx) (c:C) (x0:List RX) (x1:G (List R)):Prop where
 h:HB X c x0 x1
structure Dl (X:Cx) (c:C) (x0:List RX) (x1:G (List D)):Prop where
 h:OT X c x0 x1
structure jc (X:Cx) (c:C) (x0:Uy) (x1:G O):Prop where
 h:AO X c x0 x1
structure qR (X:Cx) (c:C) (x0:List Uy) (x1:G O):Prop where
 h:KS X c x0 x1
structure yh (X:Cx) (c:C) (x0:RX) (x1:G Bool):Prop where
 h:OU X c x0 x1
structure kP (X:Cx) (c:C) (x0:RX) (x1:GT):Prop where
 h:jb X c x0 x1
structure BR (X:Cx) (c:C) (x0:List RX) (x1:se):Prop where
 h:Oe X c x0 x1
structure yi (X:Cx) (c:C) (x0:RX) (x1:RX) (x2:G (List D)):Prop where
 h:yg X c x0 x1 x2
structure qS (X:Cx) (c:C) (x0:RX) (x1:RX) (x2:G (List D)):Prop where
 h:pA X c x0 x1 x2
structure jZ (X:Cx) (c:C) (x0:List RX) (x1:G Bool):Prop where
 h:gU X c x0 x1
structure HE (X:Cx) (c:C) (x0:Option RX) (x1:GO):Prop where
 h:KU X c x0 x1
section
variable {X:Cx}{c:C}{e a b:RX}{ga gb:G R}{pos:Pos}
theorem aa (i:Nat){x:Str}(hN:X.N[i]?=some x:=by rfl) (hv:vA X.env.scope x:=by first | exact WE rfl | exact Vy (WE rfl) | exact Vy (Vy rfl)) (hd:(x == ("__debug__":Str))=false:=by decide)
  (hcd:(x == ("__classdict__":Str))=false:=by decide):QD X c (.Name x pos) (af i):=⟨JG (pX hN hv hd hcd)⟩
theorem aA {i:Int}{j:Nat}:QD X c (.Constant (.int i) j pos) (gC (.int i)):=⟨tW (λ_=>.int i) L8⟩
theorem gr {i:Bool}{j:Nat}:QD X c (.Constant (.bool i) j pos) (gC (.bl i)):=⟨tW (λ_=>.bl i) Nv⟩
theorem kK {j:Nat}:QD X c (.Constant .none j pos) (gC .non):=⟨tW (λ_=>.non) Ma⟩
theorem gu {x:Str}{j:Nat}:QD X c (.Constant (.str x) j pos) (gC (.str x)):=⟨tW (λ_=>.str x) Me⟩
theorem nC (ha:QD X c a ga) (hb:QD X c b gb):QD X c (.BinOp a .Sub b pos) (g2 mD ga gb):=have ha:=ha.h;have hb:=hb.h;⟨kC L3 (gV λ_ _ _=>.int _) ha hb⟩
theorem fh (ha:QD X c a ga) (hb:QD X c b gb):QD X c (.BinOp a .FloorDiv b pos) (g2 fO ga gb):=have ha:=ha.h;have hb:=hb.h;⟨kC Jy (ym (λi j h=>Ji h) λ_ _ _=>.int _) ha hb⟩
theorem bZ (ha:QD X c a ga) (hb:QD X c b gb):QD X c (.BinOp a .Mod b pos) (g2 cQ ga gb):=have ha:=ha.h;have hb:=hb.h;⟨kC LV (ym (λi j h=>by unfold Lz at h;exact of_decide_eq_true h) λ_ _ _=>.int _) ha hb⟩
theorem ve (ha:QD X c a ga) (hb:QD X c b gb):QD X c (.BinOp a .Pow b pos) (g2 mC ga gb):=have ha:=ha.h;have hb:=hb.h;⟨kC LX (ym (λi j h=>Jk h) λ_ _ _=>.int _) ha hb⟩
theorem Mu (ha:QD X c a ga) (hb:QD X c b gb):QD X c (.Compare a [.Gt] [b] pos) (g2 (cj λi j=>.bl (decide (j < i))) ga gb):=have ha:=ha.h;have hb:=hb.h;⟨nB tV (gV λ_ _ _=>.bl _) ha hb⟩
theorem aq:kc X c [] av:=⟨xO jn λσ H Q ⟨J,env,sr,w⟩=>w [] J H (Ext.refl sr.hp.sub) rfl⟩
theorem ak {es:List RX}{g:G R}{gs:G (List R)}(h:QD X c e g) (hs:kc X c es gs) (hst:Rr (e::es) X.env=(false,eval e X.env)::Rr es X.env:=by rfl):kc X c (e::es) (ao g gs):=have h:=h.h;have hs:=hs.h;⟨
 xO (gq h hs hst) λσ H Q ⟨J,env,sr,w⟩=>by
  refine ⟨J,env,sr,aG (aM w) λx wx u J1 H1 e1 r1=>?_⟩
  refine ⟨J1,env,sr.ext e1,aG (aM wx) λxs wy us J2 H2 e2 r2=>?_⟩
  exact wy (u::us) J2 H2 (e1.trans e2) ⟨u,us,rfl,r1.ext e2,lO.from e1.h r2⟩⟩
end
section
variable {X:Cx}{c:C}{e a b:RX}{es:List RX}{ga gb g:G R}{pos:Pos}
theorem aU:Dl X c [] aK:=⟨xO jn λσ H Q ⟨J,env,sr,w⟩=>w [] J H (Ext.refl sr.hp.sub) .nil⟩
theorem aH {gs:G (List D)}(h:QD X c e g) (hs:Dl X c es gs) (hst:Rr (e::es) X.env=(false,eval e X.env)::Rr es X.env:=by rfl):Dl X c (e::es) (ay g gs):=have h:=h.h;have hs:=hs.h;⟨
 xO (gq h hs hst) λσ H Q ⟨J,env,sr,w⟩=>by
  refine ⟨J,env,sr,aG (aM w) λx wx u J1 H1 e1 r1=>?_⟩
  obtain ⟨d,q,wx⟩:=iY wx
  obtain ⟨J1',e1',s1,rd⟩:=freeze e1 r1 q
  refine ⟨J1',env,sr.ext e1',aG (aM wx) λxs wy us J2 H2 e2 r2=>?_⟩
  exact wy (u::us) J2 H2 (e1'.trans e2) (.cons (rd.mono e2.j) r2)⟩
theorem bD {k}{gs:G (List D)}(h:Dl X c es gs):QD X c (.Tuple es k pos) (bP gs):=have h:=h.h;⟨gH (Mf h) λσ H Q ⟨J,env,sr,w⟩=>by
 refine ⟨J,env,sr,aG (aM w) λds wd vs J1 H1 e1 r1=>?_⟩
 split at wd
 ·rename_i hz
  rw [r1.length] at hz
  exact ⟨hz,λp hp=>wd _ _ _ (e1.trans (Ext.newJ e1.sub hp _)) (p_ (sr.hp.ext e1) hp r1)⟩
 ·exact wd.elim⟩
theorem fR {gs:G (List D)}(h:Dl X c es gs):QD X c (.List es pos) (gm gs):=have h:=h.h;⟨gH (L_ h) λσ H Q ⟨J,env,sr,w⟩=>by
 refine ⟨J,env,sr,aG (aM w) λds wd vs J1 H1 e1 r1=>?_⟩
 split at wd
 ·rename_i hz
  rw [r1.length] at hz
  exact ⟨hz,λp hp=>wd _ _ _ (e1.trans (Ext.new e1.sub hp _)) (RR.from e1.h (iC (sr.hp.ext e1) hp r1))⟩
 ·exact wd.elim⟩
theorem iV {p:Pos}{gs:G (List R)}(ha:kc X c (e::es) gs) (hm:X.mg "len"=none) (hK:X.K=c.K:=by rfl) (hg:Gl X "len":=by rfl)
  (he:Rr (e::es) X.env=(false,eval e X.env)::Rr es X.env:=by rfl) (hpl:(TU pos (Rr es X.env)).any (·.1)=false:=by rfl):QD X c (.Call (.Name "len" p) (e::es) [] pos) (gN j3 gs):=have ha:=ha.h;⟨
 lg (yx.or yw) (by
  intro He J H xs vs Q hp rs w
  unfold j3 at w
  split at w
  ·obtain ⟨v,rfl,r⟩:=rs.one
   cases r
   split at w
   ·rename_i hz;exact .inl ⟨_,rfl,hz,w _ J H (Ext.refl hp.sub) (.int _)⟩
   ·exact w.elim
  ·obtain ⟨v,rfl,r⟩:=rs.one
   obtain ⟨xs,q,w⟩:=kO w
   obtain ⟨p,vs,rfl,hq,hs⟩:=mZ hp r q
   have w':=w (.int vs.length) J H (Ext.refl hp.sub) (by rw [hs.length];exact .int _)
   exact .inr ⟨p,vs,rfl,by rw [hK];exact hq,w'⟩
  ·exact w.elim) aae hm ha hg (by decide) (by decide) he hpl⟩
theorem cS {p:Pos}{gs:G (List R)}(ha:kc X c (e::es) gs) (hm:X.mg "tuple"=none) (hK:X.K=c.K:=by rfl) (hg:Gl X "tuple":=by rfl)
  (he:Rr (e::es) X.env=(false,eval e X.env)::Rr es X.env:=by rfl) (hpl:(TU pos (Rr es X.env)).any (·.1)=false:=by rfl):QD X c (.Call (.Name "tuple" p) (e::es) [] pos) (gN dW gs):=have ha:=ha.h;⟨
 vY wU (by
  intro He J H xs vs Q hp rs w
  unfold dW at w
  split at w
  ·obtain ⟨v,rfl,r⟩:=rs.one
   rename_i r0
   obtain ⟨xs,q,w⟩:=kO w
   cases r0 with
   | d y=>
    cases y with
    | tup ys=>
     cases q
     cases r with
     | tup h hs=>exact ⟨_,_,rfl,.inr ⟨by rw [hK];exact gc hp.sub h,w _ J H (Ext.refl hp.sub) (.tup h hs)⟩⟩
    | lst ys=>
     cases q
     obtain ⟨p,vs,rfl,hq,hs⟩:=RR.list hp r rfl
     exact ⟨p,vs,rfl,.inl ⟨by rw [hK];exact hq,λl hl=>w _ _ _ (Ext.newJ hp.sub hl _) (p_ hp hl hs)⟩⟩
    | _=>cases q
   | mo _ _=>cases q
   | mb _ _=>cases q
   | mf _ _=>cases q
   | l m ys=>
    cases q
    obtain ⟨p,vs,rfl,hq,hs⟩:=RR.list hp r rfl
    exact ⟨p,vs,rfl,.inl ⟨by rw [hK];exact hq,λl hl=>w _ _ _ (Ext.newJ hp.sub hl _) (p_ hp hl hs)⟩⟩
  ·exact w.elim) Am hm ha hg (by decide) (by decide) he hpl⟩
theorem zB {p:Pos}{gs:G (List R)}(ha:kc X c (e::es) gs) (hm:X.mg "list"=none) (hK:X.K=c.K:=by rfl) (hg:Gl X "list":=by rfl)
  (he:Rr (e::es) X.env=(false,eval e X.env)::Rr es X.env:=by rfl) (hpl:(TU pos (Rr es X.env)).any (·.1)=false:=by rfl):QD X c (.Call (.Name "list" p) (e::es) [] pos) (gN xG gs):=have ha:=ha.h;⟨
 vY yy (by
  intro He J H xs vs Q hp rs w
  unfold xG at w
  split at w
  ·obtain ⟨v,rfl,r⟩:=rs.one
   obtain ⟨xs,q,w⟩:=kO w
   obtain ⟨p,vs,rfl,hq,hs⟩:=mZ hp r q
   exact ⟨p,vs,rfl,by rw [hK];exact hq,λl hl=>w _ _ _ (Ext.new hp.sub hl _) (iC hp hl hs)⟩
  ·exact w.elim) sJ hm ha hg (by decide) (by decide) he hpl⟩
theorem dR (h:QD X c e g) (he:∀whole,Yk e X.env whole=(do let v <-whole;Uz e.pos;holding [v] (truthy v)):=by intro _;rfl):QB X c e (aT g):=have h:=h.h;⟨xP (Mr h he) λσ H Q ⟨J,env,sr,w⟩=>by
 refine ⟨J,env,sr,aG (aM w) λr wr v J1 H1 e1 r1=>?_⟩
 split at wr
 ·cases r1;exact ⟨_,rfl,wr J1 H1 e1⟩
 ·exact wr.elim⟩
theorem iT {op:aa9}{r:R2}{f:R->R->M R}(ho:dZ X (S7 op) r) (hf:BD c r f) (ha:QD X c a ga) (hb:QD X c b gb) (hm:SA op b=false:=by first | exact zl _ | rfl):QB X c (.Compare a [op] [b] pos) (aT (g2 f ga gb)):=⟨jT ho hf ha.h hb.h hm⟩
variable {t u:G Bool}{rest:List RX}
theorem fQ (h:yh X c e t):QB X c e t:=have h:=h.h;⟨PW.pt h⟩
theorem oB (h:QB X c a t):yh X c (.BoolOp .And [a] pos) t:=have h:=h.h;⟨JQ h⟩
theorem iU (h:QB X c a t):yh X c (.BoolOp .Or [a] pos) t:=have h:=h.h;⟨Mt h⟩
theorem qI (h:QB X c a t) (h':yh X c (.BoolOp .And (b::rest) pos) u):yh X c (.BoolOp .And (a::b::rest) pos) (bK t u):=have h:=h.h;have h':=h'.h;⟨Ig (Ms h h') λσ H Q ⟨J,env,sr,w⟩=>by
 refine ⟨J,env,sr,aG (aM w) λk wk J1 H1 e1=>?_⟩
 cases k with
 | true=>
  rw [if_pos rfl] at wk ⊢
  exact ⟨J1,env,sr.ext e1,aG wk λk q J2 H2 e2=>q J2 H2 (e1.trans e2)⟩
 | false=>
  rw [if_neg (by decide)] at wk ⊢
  exact wk J1 H1 e1⟩
theorem jr (h:QB X c a t) (h':yh X c (.BoolOp .Or (b::rest) pos) u):yh X c (.BoolOp .Or (a::b::rest) pos) (bU t u):=have h:=h.h;have h':=h'.h;⟨Ig (ND h h') λσ H Q ⟨J,env,sr,w⟩=>by
 refine ⟨J,env,sr,aG (aM w) λk wk J1 H1 e1=>?_⟩
 cases k with
 | true=>
  rw [if_pos rfl] at wk ⊢
  exact wk J1 H1 e1
 | false=>
  rw [if_neg (by decide)] at wk ⊢
  exact ⟨J1,env,sr.ext e1,aG wk λk q J2 H2 e2=>q J2 H2 (e1.trans e2)⟩⟩
theorem gS (h:QB X c a t):QB X c (.UnaryOp .Not a pos) (bB t):=have h:=h.h;⟨xP (Mq h) λσ H Q ⟨J,env,sr,w⟩=>⟨J,env,sr,aG (aM w) λk wk J1 H1 e1=>wk J1 H1 e1⟩⟩
theorem jK {op}(h:QD X c a ga):QD X c (.BoolOp op [a] pos) ga:=have h:=h.h;⟨Mc h⟩
theorem kJ (h:QD X c a ga) (h':QD X c (.BoolOp .And (b::rest) pos) gb):QD X c (.BoolOp .And (a::b::rest) pos) (bx ga gb):=have h:=h.h;have h':=h'.h;⟨gH (L7 h h') λσ H Q ⟨J,env,sr,w⟩=>by
 refine ⟨J,env,sr,aG (aM w) λr wr v J1 H1 e1 r1=>?_⟩
 split at wr
 ·cases r1
  exact ⟨true,rfl,Lu ⟨J1,env,sr.ext e1,aG wr λz q v J2 H2 e2 r2=>q v J2 H2 (e1.trans e2) (RR.from e1.h r2)⟩⟩
 ·cases r1
  exact ⟨false,rfl,Ls (wr _ J1 H1 e1 (.bl _))⟩
 ·exact wr.elim⟩
theorem Mw (h:QD X c a ga) (h':QD X c (.BoolOp .Or (b::rest) pos) gb):QD X c (.BoolOp .Or (a::b::rest) pos) (rP ga gb):=have h:=h.h;have h':=h'.h;⟨gH (Nz h h') λσ H Q ⟨J,env,sr,w⟩=>by
 refine ⟨J,env,sr,aG (aM w) λr wr v J1 H1 e1 r1=>?_⟩
 split at wr
 ·cases r1
  exact ⟨false,rfl,Ls ⟨J1,env,sr.ext e1,aG wr λz q v J2 H2 e2 r2=>q v J2 H2 (e1.trans e2) (RR.from e1.h r2)⟩⟩
 ·cases r1
  exact ⟨true,rfl,Lu (wr _ J1 H1 e1 (.bl _))⟩
 ·exact wr.elim⟩
theorem JX (h:QD X c a ga):QD X c (.UnaryOp .Not a pos) (bI ga):=have h:=h.h;⟨gH (Mb h) λσ H Q ⟨J,env,sr,w⟩=>by
 refine ⟨J,env,sr,aG (aM w) λr wr v J1 H1 e1 r1=>?_⟩
 split at wr
 ·cases r1
  exact ⟨_,rfl,wr _ J1 H1 e1 (.bl _)⟩
 ·exact wr.elim⟩
end
section
variable {X:Cx}{c:C}{e a b tg:RX}{es:List RX}{ga gb g:G R}{pos:Pos}{st:Uy}{rest:List Uy}{t u:G O}{tb:G Bool}
theorem bM:qR X c [] bF:=⟨EL JN λE σ H ⟨J,env,sr,w⟩=>w σ J H (aX.refl J) sr⟩
theorem au (h:jc X c st t) (h':qR X c rest u):qR X c (st::rest) (aC t u):=have h:=h.h;have h':=h'.h;⟨EL (GL h h') λE σ H ⟨J,env,sr,w⟩=>by
 refine ⟨J,env,sr,aG (aM w) λo wo=>?_⟩
 cases o with
 | nx e=>exact λσ' J' H' s' sr'=>⟨J',e,sr',aG wo λo q=>q.mono s'⟩
 | rt r=>exact wo
 | bk e=>exact wo
 | ct e=>exact wo⟩
theorem aD (h:jc X c st t):qR X c [st] t:=have h:=h.h;⟨JO h⟩
theorem gz (h:QD X c e g) (hs:US e none pos.line X.env=pure false:=by rfl):jc X c (.Expr e pos) (jk g):=have h:=h.h;⟨jo (vc h hs) λE σ H ⟨J,env,sr,w⟩=>
 ⟨J,env,sr,aG (aM w) λr wr v J1 H1 e1 r1=>wr σ J1 H1 e1.j (sr.ext e1)⟩⟩
theorem aQ (h:QD X c e g):jc X c (.Return (some e) pos) (aO g):=have h:=h.h;⟨jo (Mm h) λE σ H ⟨J,env,sr,w⟩=>by
 refine ⟨J,env,sr,aG (aM w) λr wr v J1 H1 e1 r1=>?_⟩
 cases q:rF r with
 | bad=>rw [q] at wr;exact wr.elim
 | exc x=>cases r with
  | d _=>cases q
  | l m _=>cases m <;> cases q
  | mo _ _=>cases q
  | mb _ _=>cases q
  | mf _ _=>cases q
 | ok r'=>rw [q] at wr;exact wr v J1 H1 e1.j (sr.hp.ext e1) (RR.rf sr.hp r1 q)⟩
theorem bV {x:RX}{as bs:List Uy}(hx:QB X c x tb) (h:qR X c as t) (h':qR X c bs u):jc X c (.If x as bs pos) (aY tb t u):=have hx:=hx.h;have h:=h.h;have h':=h'.h;⟨jo (NC hx h h') λE σ H ⟨J,env,sr,w⟩=>by
 refine ⟨J,env,sr,aG (aM w) λk wk J1 H1 e1=>?_⟩
 cases k with
 | true=>
  rw [if_pos rfl] at wk ⊢
  exact ⟨J1,env,sr.ext e1,aG wk λo q=>q.mono e1.j⟩
 | false=>
  rw [if_neg (by decide)] at wk ⊢
  exact ⟨J1,env,sr.ext e1,aG wk λo q=>q.mono e1.j⟩⟩
theorem aP (i:Nat){x:Str}{pos':Pos}(hN:X.N.Nodup) (h:QD X c e g) (hi:X.N[i]?=some x:=by rfl) (hx:Loc X.env.scope x:=by first | exact WE rfl | exact Vy rfl) (hs:US e (some (.Name x pos')) pos.line X.env=pure false:=by rfl)
  (hf:X.fn x=true\/X.env.scope.names.lookup x=some .local:=by first | exact .inl rfl | exact .inr rfl):jc X c (.Assign [.Name x pos'] e pos) (aN i g):=have h:=h.h;⟨jo (Mp hN hi hx h hs hf) λE σ H ⟨J,env,sr,w⟩=>by
 refine ⟨J,env,sr,aG (aM w) λr wr v J1 H1 e1 r1=>?_⟩
 obtain ⟨x,q,wr⟩:=nL wr
 exact wr (σ.set i (some v)) J1 H1 e1.j (sr.set e1 r1 q)⟩
theorem aF (i:Nat){x:Str}(hN:X.N.Nodup) (hi:X.N[i]?=some x:=by rfl) (hx:Loc X.env.scope x:=by first | exact WE rfl | exact Vy rfl) (hf:X.fn x=true\/X.env.scope.names.lookup x=some .local:=by first | exact .inl rfl | exact .inr rfl):kP X c (.Name x pos) (aB i):=⟨
 Ic (JJ hN hi hx hf) λv σ H Q ⟨J,env,d,sr,rd,w⟩=>w _ (sr.setD (x:=.d d) rd λx z=>by cases x <;> cases z) λj xs q=>by
  rcases gM q with ⟨_,_,e⟩ | ⟨hj,q⟩
  ·cases xs <;> cases e
  ·exact ⟨q,Se (Um hj)⟩⟩
theorem gA:BR X c [] jw:=⟨EE JK λvs σ H Q ⟨J,env,ds,sr,rd,w⟩=>by
 cases rd with
 | nil=>exact ⟨rfl,w σ sr KO.refl⟩
 | cons _ _=>exact w.elim⟩
theorem b_ {t:GT}{u:se}(h:kP X c e t) (h':BR X c es u) (hs:(Uo (e::es) X.env).map (·.2)=assign e X.env::(Uo es X.env).map (·.2):=by rfl):BR X c (e::es) (dB t u):=have h:=h.h;have h':=h'.h;⟨
 EE (GI h h' hs) λvs σ H Q ⟨J,env,ds,sr,rd,w⟩=>by
  cases rd with
  | nil=>exact w.elim
  | cons r rs=>
   refine ⟨_,_,rfl,J,env,_,sr,r,aG (aM w) λe1 w1 σ' sr' ko=>?_⟩
   exact ⟨J,e1,_,sr',rs,aG w1 λe2 q σ2 sr2 ko2=>q σ2 sr2 (ko.trans ko2)⟩⟩
theorem g8 {k:Nat}{u:se}{n:Nat}(h:BR X c es u) (hc:X.calm=true:=by rfl) (hK:X.K=c.K:=by rfl) (hn:(Uo es X.env).length=n:=by rfl) (hst:(Uo es X.env).findIdx? (·.1)=none:=by rfl):kP X c (.Tuple es k pos) (iG n u):=have h:=h.h;⟨
 Ic (Mh hc h hn hst) λv σ H Q ⟨J,env,d,sr,rd,w⟩=>by
  cases rd with
  | tup h1 h2=>
   unfold iG at w
   simp only at w
   split at w
   ·rename_i hl
    exact ⟨_,_,rfl,by rw [hK];exact gc sr.hp.sub h1,by rw [<-h2.length];exact hl,J,env,_,sr,h2,w⟩
   ·exact w.elim
  | _=>exact w.elim⟩
theorem cT {QZ:RX}{body:List Uy}{gi:G (List D)}{t:GT}(hi:yi X c tg QZ gi) (ht:kP X c tg t) (hb:qR X c body u) (hp:ZH (RG X.prog X.w) X.A X.env X.xe:=by first | exact ZQ | exact Zb) (hc:X.calm=true:=by rfl)
  (hs:∀x,Rx QZ X.env x=pure x:=by intro _;rfl):jc X c (.For tg QZ body [] pos) (eV gi t u):=have hi:=hi.h;have ht:=ht.h;have hb:=hb.h;⟨jo (Ml hp hc hi ht hb hs) λE σ H ⟨J,env,sr,w⟩=>by
 refine ⟨J,env,sr,aG (aM w) λds wd It J1 H1 e1 wk=>?_⟩
 refine ⟨λi m σ H=>m=ds.length - i/\∃J' env,aX J1 J'/\SR c J' H σ env/\dJ (e_ t u (ds.drop i) env) (oP c J' E) c.T,
  ⟨ds.length,by simp,J1,env,aX.refl J1,sr.ext e1,by rw [aaf];exact aG wd λo q=>q.mono e1.j⟩,?_⟩
 rintro i m σ H ⟨rfl,J',env,s',sr',w'⟩
 obtain ⟨w1,w2⟩:=wk i J' H sr'.hp s'
 by_cases hlt:i < ds.length
 ·obtain ⟨g1,y1⟩:=w2 ds[i] (by simp [hlt])
  rw [U_ hlt] at w'
  refine .inr ⟨g1,λσ2 H2=>∃J2 env2,aX J' J2/\SR c J2 H2 σ2 env2/\dJ (e_ t u (ds.drop (i + 1)) env2) (oP c J2 E) c.T,?_,?_⟩
  ·rintro σ2 H2 ⟨J2,env2,s2,sr2,w2⟩
   exact ⟨ds.length - (i + 1),by omega,rfl,J2,env2,s'.trans s2,sr2,w2⟩
  ·intro x H2 hy
   obtain ⟨J2,e2,rx⟩:=y1 x H2 hy
   refine ⟨J2,env,ds[i],sr'.ext e2,rx,aG (aM w') λenv3 w3 σ3 sr3 _=>?_⟩
   refine ⟨J2,env3,sr3,aG (aM w3) λo wo=>?_⟩
   cases o with
   | nx env4=>exact λσ4 J4 H4 s4 sr4=>⟨J4,env4,e2.j.trans s4,sr4,aG wo λo q=>q.mono (e2.j.trans s4)⟩
   | ct env4=>exact λσ4 J4 H4 s4 sr4=>⟨J4,env4,e2.j.trans s4,sr4,aG wo λo q=>q.mono (e2.j.trans s4)⟩
   | bk env4=>exact λσ4 J4 H4 s4 sr4=>wo σ4 J4 H4 (e2.j.trans s4) sr4
   | rt r=>exact λv J4 H4 s4 h4 r4=>wo v J4 H4 (e2.j.trans s4) h4 r4
 ·rw [Xz (by omega)] at w'
  exact .inl ⟨w1 (by omega),w' σ J' H (aX.refl J') sr'⟩⟩
theorem bq {p:Pos}{gs:G (List R)}(ha:kc X c [a] gs) (hm:X.mg "range"=none) (hg:Gl X "range":=by rfl) (hs:Rr [a] X.env=[(false,eval a X.env)]:=by rfl):yi X c tg (.Call (.Name "range" p) [a] [] pos) (bS gs):=have ha:=ha.h;⟨
 tX (EG hg hm ha hs) λσ H Q ⟨J,env,sr,w⟩=>by
  refine ⟨J,env,sr,aG (aM w) λrs wr vs J1 H1 e1 r1=>?_⟩
  split at wr
  ·split at wr
   ·rename_i h
    obtain ⟨v,rfl,r⟩:=r1.one
    cases r
    have h:=eB.mp h
    exact ⟨_,rfl,Int.le_of_lt h.1,h.2,wr _ J1 H1 e1 Df⟩
   ·exact wr.elim
  ·exact wr.elim⟩
theorem eG {gi:G (List D)}(h:yi X c tg e gi):qS X c tg e gi:=have h:=h.h;⟨tX h λσ H Q ⟨J,env,sr,w⟩=>
 ⟨J,env,sr,aG w λds q It J1 H1 e1 wk=>q It J1 H1 e1 λi J' H' hp u=>wk i J' H' hp u.1⟩⟩
end
section
variable {X:Cx}{c:C}{e a b tg:RX}{es:List RX}{ga gb g:G R}{pos:Pos}
theorem eT (i:Nat){x:Str}{p1 p2 pos':Pos}(h:QD X c e g) (hN:X.N[i]?=some x:=by rfl) (hv:vA X.env.scope x:=by first | exact WE rfl | exact Vy (WE rfl) | exact Vy (Vy rfl)) (hd:(x == ("__debug__":Str))=false:=by decide)
  (hcd:(x == ("__classdict__":Str))=false:=by decide)
  (hbase:YJ (.Name x p1) "append" X.env (eval (.Name x p1) X.env)=eval (.Name x p1) X.env:=by rfl)
  (hfew:((TU pos' (Rr [e] X.env)).all (λx=>!x.1) && (abO pos' (ZL [] X.env)).all (λx=>x.1.isSome)
   && decide (([e]:List RX).length + ([]:List ZM).length + (if ([]:List ZM).isEmpty then 0 else 1) < 30))=true:=by rfl)
  (hline:(p2.endLine == pos'.line)=true:=by rfl) (hst:Rr [e] X.env=(false,eval e X.env)::Rr [] X.env:=by rfl) (hplain:(TU pos' (Rr [] X.env)).any (·.1)=false:=by rfl)
  (hs:US (.Call (.Attribute (.Name x p1) "append" p2) [e] [] pos') none pos.line X.env=pure false:=by rfl):jc X c (.Expr (.Call (.Attribute (.Name x p1) "append" p2) [e] [] pos') pos) (eE i g):=have h:=h.h;⟨
 jo (vc (Ib Xf PySem.F.slot_list_append PySem.F.type_list_append vW (pX hN hv hd hcd) (gq h jn hst) hbase hfew hline hst hplain) hs) λE σ H ⟨J,env,sr,w⟩=>by
  unfold eE at w
  split at w
  ·rename_i xs hi
   obtain ⟨v,h1,a,vs,rfl,h2,h3,h4,h5⟩:=sr.at_ i _ hi
   refine ⟨.ref a,h1,.inl ⟨rfl,vs,dw.of h2⟩,?_⟩
   refine ⟨J,env,sr,aG (aM w) λr wr y J1 H1 e1 r1=>?_⟩
   obtain ⟨d,q,wr⟩:=iY wr
   obtain ⟨J2,e2,s2,rd⟩:=freeze e1 r1 q
   split at wr
   ·rename_i hz
    refine ⟨a,vs,y,rfl,rfl,e2.h _ _ h2,by rw [<-h5.length];exact hz,?_⟩
    refine wr σ J2 _ e2.j ?_
    exact (sr.ext e2).upd hi h1 (e2.h _ _ h2) (e2.frz a (by rw [h2];intro z;cases z) h3) h4 ((h5.mono e2.j).append (.cons rd .nil))
   ·exact wr.elim
  ·exact w.elim⟩
end
section
variable {X:Cx}{c:C}
theorem bw:jZ X c [] cR:=⟨λQV s σ H Q I ⟨J,env,sr,w⟩=>wpAny_tests_nil ⟨H,I,w J H (Ext.refl sr.hp.sub)⟩⟩
theorem eW {x:RX}{g:G Bool}(h:QB X c x g):jZ X c [x] g:=have h:=h.h;⟨λQV s σ H Q I q=>wpAny_tests_one (h QV s σ H Q I q)⟩
end
section
variable {K:Q7}{J:Hp}{s:Q_}
variable {X:Cx}{c:C}{e a b tg:RX}{es:List RX}{ga gb g:G R}{pos:Pos}
theorem lz (hu:X.A.units + 64 < S6) (ha:QD X c a ga) (hb:QD X c b gb) (hK:X.K=c.K:=by rfl):QD X c (.Compare a [.Eq] [b] pos) (g2 (cY false) ga gb):=have ha:=ha.h;have hb:=hb.h;⟨nB (Eu hu) (xB false hK) ha hb⟩
theorem Mv (hu:X.A.units + 64 < S6) (ha:QD X c a ga) (hb:QD X c b gb) (hK:X.K=c.K:=by rfl):QD X c (.Compare a [.NotEq] [b] pos) (g2 (cY true) ga gb):=have ha:=ha.h;have hb:=hb.h;⟨nB (Ez hu) (xB true hK) ha hb⟩
theorem jq (hu:X.A.units + 64 < S6) (ha:QD X c a ga) (hb:QD X c b gb) (hK:X.K=c.K:=by rfl):QB X c (.Compare a [.Eq] [b] pos) (aT (g2 (cY false) ga gb)):=have ha:=ha.h;have hb:=hb.h;⟨jT (Eu hu) (xB false hK) ha hb⟩
theorem ly (hu:X.A.units + 64 < S6) (ha:QD X c a ga) (hb:QD X c b gb) (hK:X.K=c.K:=by rfl):QB X c (.Compare a [.NotEq] [b] pos) (aT (g2 (cY true) ga gb)):=have ha:=ha.h;have hb:=hb.h;⟨jT (Ez hu) (xB true hK) ha hb⟩
theorem t8 (hu:X.A.units + 64 < S6) (ha:QD X c a ga) (hb:QD X c b gb) (hK:X.K=c.K:=by rfl) (hm:SA .In b=false:=by rfl):QD X c (.Compare a [.In] [b] pos) (g2 (gg false) ga gb):=have ha:=ha.h;have hb:=hb.h;⟨nB (Ew hu) (B3 false hK) ha hb hm⟩
theorem tZ (hu:X.A.units + 64 < S6) (ha:QD X c a ga) (hb:QD X c b gb) (hK:X.K=c.K:=by rfl) (hm:SA .In b=false:=by rfl):QB X c (.Compare a [.In] [b] pos) (aT (g2 (gg false) ga gb)):=have ha:=ha.h;have hb:=hb.h;⟨jT (Ew hu) (B3 false hK) ha hb hm⟩
theorem EN (hu:X.A.units + 64 < S6) (ha:QD X c a ga) (hb:QD X c b gb) (hK:X.K=c.K:=by rfl) (hm:SA .NotIn b=false:=by rfl):QB X c (.Compare a [.NotIn] [b] pos) (aT (g2 (gg true) ga gb)):=have ha:=ha.h;have hb:=hb.h;⟨jT (EA hu) (B3 true hK) ha hb hm⟩
end
section
variable {X:Cx}{c:C}{e a b tg:RX}{es:List RX}{ga gb g:G R}{pos:Pos}
theorem v7:HE X c none D0:=⟨Ie JL λσ H Q ⟨J,env,sr,w⟩=>w J H (Ext.refl sr.hp.sub)⟩
theorem lV (h:QD X c e g):HE X c (some e) (vK g):=have h:=h.h;⟨Ie (JM h) λσ H Q ⟨J,env,sr,w⟩=>by
 refine ⟨J,env,sr,aG (aM w) λr wr v J1 H1 e1 r1=>?_⟩
 split at wr
 ·cases r1;exact ⟨_,rfl,wr J1 H1 e1⟩
 ·exact wr.elim⟩
theorem t_ {p:Pos}{gs:G (List R)}(ha:kc X c (e::es) gs) (hm:X.mg "sorted"=none) (hK:X.K=c.K:=by rfl) (hg:Gl X "sorted":=by rfl)
  (he:Rr (e::es) X.env=(false,eval e X.env)::Rr es X.env:=by rfl) (hpl:(TU pos (Rr es X.env)).any (·.1)=false:=by rfl):QD X c (.Call (.Name "sorted" p) (e::es) [] pos) (gN kH gs):=have ha:=ha.h;⟨
 lg yC (by
  intro He J H xs vs Q hp rs w
  unfold kH at w
  split at w
  ·obtain ⟨v,rfl,r⟩:=rs.one
   obtain ⟨xs,q,w⟩:=kN w
   obtain ⟨p,vs,rfl,h1,h2⟩:=RR.list hp r q
   split at w
   ·rename_i ss z
    split at w
    ·rename_i hl
     have:=uh z h2
     subst this
     refine ⟨p,ss,rfl,by rw [hK];exact h1,hl,λss' hp' hs' l hl'=>?_⟩
     rw [CQ hp' hs']
     exact w _ _ _ (Ext.new hp.sub hl' _) (iC hp hl' (wm _))
    ·exact w.elim
   ·exact w.elim
  ·exact w.elim) kR hm ha hg (by decide) (by decide) he hpl⟩
theorem cZ (ha:QD X c a ga) (hb:QD X c b gb):QD X c (.BinOp a .Add b pos) (g2 cA ga gb):=by
 have ha:=ha.h
 have hb:=hb.h
 refine ⟨?_⟩
 have h1:BD c (pZ λi j=>.int (i + j)) yP:=gV λ_ _ _=>.int _
 have q:=kC (pos:=pos) (Er.or (tU.or Es)) (BD.or (c:=c) (λx _=>Ea x) h1 (BD.or (c:=c) (λx _=>Lq x) (f:=sO) (f':=sP) (by
  intro He He' J H x y u v Q hp rx ry w
  unfold sO at w
  split at w
  ·cases rx;cases ry
   split at w
   ·rename_i h;exact ⟨_,_,rfl,rfl,h,w _ J H (Ext.refl hp.sub) (.str _)⟩
   ·exact w.elim
  ·exact w.elim) (by
  intro He He' J H x y u v Q hp rx ry w
  unfold sP at w
  split at w
  ·rename_i hm
   rw [Ri] at hm
   obtain ⟨p,vs,xs,e1,rfl,h1,s1⟩:=rx.made hm.1
   obtain ⟨p2,vs2,ys,e2,rfl,h2,s2⟩:=ry.made hm.2
   rw [e1,e2] at w
   simp only [aL] at w
   split at w
   ·rename_i hz
    rw [s1.length,s2.length] at hz
    exact ⟨p,p2,vs,vs2,rfl,rfl,h1,h2,hz,λq hq=>w _ J _ (Ext.new hp.sub hq _) (iC hp hq (s1.append s2))⟩
   ·exact w.elim
  ·exact w.elim))) ha hb
 exact q
theorem fC (ha:QD X c a ga) (hb:QD X c b gb):QD X c (.BinOp a .Mult b pos) (g2 dI ga gb):=by
 have ha:=ha.h
 have hb:=hb.h
 refine ⟨?_⟩
 have h1:BD c (rI BB λi j=>.int (i * j)) Lg:=ym (λi j h=>Jj h) λ_ _ _=>.int _
 exact kC (pos:=pos) (LW.or Jz) (BD.or (c:=c) (λx _=>Ea x) h1 (f':=Cd) (by
  intro He He' J H x y u v Q hp rx ry w
  unfold Cd at w
  split at w
  ·cases rx;cases ry
   split at w
   ·rename_i h;exact ⟨_,_,rfl,rfl,h.1,h.2.1,h.2.2,w _ J H (Ext.refl hp.sub) (.str _)⟩
   ·exact w.elim
  ·exact w.elim)) ha hb
theorem aV (ha:QD X c a ga) (hb:QD X c b gb) (hK:X.K=c.K:=by rfl) (hs:qw b:=by exact λ_ _=>rfl):QD X c (.Subscript a b pos) (g2 bE ga gb):=have ha:=ha.h;have hb:=hb.h;⟨Ia Lw (by
 intro He He' J H x y u v Q hp rx ry w
 rw [hK]
 unfold bE at w
 split at w
 ·cases rx;cases ry
  split at w
  ·rename_i h
   split at w
   ·rename_i k hk;exact .inr (.inr ⟨_,_,k,rfl,rfl,h,hk,w _ J H (Ext.refl hp.sub) (.str _)⟩)
   ·exact w.elim
  ·exact w.elim
 ·cases ry
  obtain ⟨xs,q,w⟩:=kO w
  obtain ⟨p,vs,rfl,hl,hs⟩:=mZ hp rx q
  split at w
  ·rename_i d hd
   obtain ⟨z,h1,h2⟩:=Ka hs hd
   have fin:=w z J H (Ext.refl hp.sub) h2
   rcases hl with hl | hl
   ·exact .inl ⟨p,vs,_,z,rfl,rfl,hl,h1,fin⟩
   ·exact .inr (.inl ⟨p,vs,_,z,rfl,rfl,hl,h1,fin⟩)
  ·exact w.elim
 ·exact w.elim) ha hb hs⟩
theorem aS {k k' n:Nat}{F:List S->M R}{x:Str}{p:Pos}{gs:G (List R)}(G:bA X.prog X.w X.K X.mg X.base k n x F) (hr:fk k' X.A) (ha:kc X c (e::es) gs) (hk:k<=k':=by decide) (hT:c.K=X.K:=by rfl) (hg:Gl X x:=by rfl) (hdb:(x == ("__debug__":Str))=false:=by decide)
  (he:Rr (e::es) X.env=(false,eval e X.env)::Rr es X.env:=by rfl) (hpl:(TU pos (Rr es X.env)).any (·.1)=false:=by rfl):QD X c (.Call (.Name x p) (e::es) [] pos) (gN (aE n F) gs):=by
 have ha:=ha.h
 refine ⟨?_⟩
 obtain ⟨f,fd,ps,h1,h2,h3,h4⟩:=G
 exact JE h1 (hr.mono hk) h2 h3 h4 ha hT hg hdb he hpl
theorem zx {t:GT}(h:QD X c e g) (ht:kP X c tg t) (hs:Vq [tg] e pos.line X.env=pure false:=by rfl) (hw:YC [tg] e X.env=pure none:=by rfl)
  (h1:(Uo [tg] X.env).map (·.2)=[assign tg X.env]:=by rfl):jc X c (.Assign [tg] e pos) (uQ t g):=have h:=h.h;have ht:=ht.h;⟨JC h ht (EK h ht hs hw h1)⟩
theorem dS {T:String}{Ts:Str}{p p2:Pos}(kit:xX T) (hT:Sd Ts=some (.type T)) (mT:X.mg Ts=none)
  (h:QD X c a g) (hm:X.mg "isinstance"=none) (hK:X.K=c.K:=by rfl) (hg:Gl X "isinstance":=by rfl) (QI:Gl X Ts:=by rfl) (hn:Ts≠"__name__":=by decide) (QF:(Ts == ("__debug__":Str))=false:=by decide)
  (he:Rr [a,.Name Ts p2] X.env=(false,eval a X.env)::Rr [.Name Ts p2] X.env:=by rfl) (PY:Rr [.Name Ts p2] X.env=(false,eval (.Name Ts p2) X.env)::Rr [] X.env:=by rfl)
  (hpl:(TU pos (Rr [.Name Ts p2] X.env)).any (·.1)=false:=by rfl):QD X c (.Call (.Name "isinstance" p) [a,.Name Ts p2] [] pos) (cG T g):=have h:=h.h;⟨
 gH (oA (Aq kit) hg hm (by decide +kernel) (gq h (gq (JH QI mT hT (v:=.ty T) rfl hn QF) jn PY) he) (by decide) (by decide) he hpl) λσ H Q ⟨J,env,sr,w⟩=>by
  refine ⟨J,env,sr,aG (aM w) λr wr v J1 H1 e1 r1=>?_⟩
  exact ⟨r.dat,v,rfl,by rw [hK];exact r1.dat (sr.hp.ext e1),wr _ J1 H1 e1 (.bl _)⟩⟩
theorem qJ {p:Pos}{gs:G (List R)}(ha:kc X c (e::es) gs) (hm:X.mg "all"=none) (hK:X.K=c.K:=by rfl) (hc:X.calm=true:=by rfl) (hg:Gl X "all":=by rfl)
  (he:Rr (e::es) X.env=(false,eval e X.env)::Rr es X.env:=by rfl) (hpl:(TU pos (Rr es X.env)).any (·.1)=false:=by rfl):QD X c (.Call (.Name "all" p) (e::es) [] pos) (gN nU gs):=have ha:=ha.h;⟨
 lg (Dy hc) (by
  intro He J H xs vs Q hp rs w
  unfold nU at w
  split at w
  ·obtain ⟨v,rfl,r⟩:=rs.one
   obtain ⟨xs,q,w⟩:=kN w
   obtain ⟨p,vs,rfl,h1,h2⟩:=RR.list hp r q
   split at w
   ·rename_i ks z
    have:=pC z h2
    subst this
    exact ⟨p,ks,rfl,by rw [hK];exact h1,w _ J H (Ext.refl hp.sub) (.bl _)⟩
   ·exact w.elim
  ·exact w.elim) Ds hm ha hg (by decide) (by decide) he hpl⟩
theorem zy (ha:QD X c a ga) (hb:QD X c b gb) (hK:X.K=c.K:=by rfl):QD X c (.BinOp a .Add b pos) (g2 sN ga gb):=by
 have ha:=ha.h
 have hb:=hb.h
 refine ⟨?_⟩
 have h1:BD c (pZ λi j=>.int (i + j)) yP:=gV λ_ _ _=>.int _
 exact kC (pos:=pos) (Et.or (Er.or (tU.or Es))) (BD.or (c:=c) (λx _=>Lr x) (IJ hK) (BD.or (c:=c) (λx _=>Ea x) h1 (BD.or (c:=c) (λx _=>Lq x) (f:=sO) (f':=sP) (by
  intro He He' J H x y u v Q hp rx ry w
  unfold sO at w
  split at w
  ·cases rx;cases ry
   split at w
   ·rename_i h;exact ⟨_,_,rfl,rfl,h,w _ J H (Ext.refl hp.sub) (.str _)⟩
   ·exact w.elim
  ·exact w.elim) (by
  intro He He' J H x y u v Q hp rx ry w
  unfold sP at w
  split at w
  ·rename_i hm
   rw [Ri] at hm
   obtain ⟨p,vs,xs,e1,rfl,h1,s1⟩:=rx.made hm.1
   obtain ⟨p2,vs2,ys,e2,rfl,h2,s2⟩:=ry.made hm.2
   rw [e1,e2] at w
   simp only [aL] at w
   split at w
   ·rename_i hz
    rw [s1.length,s2.length] at hz
    exact ⟨p,p2,vs,vs2,rfl,rfl,h1,h2,hz,λq hq=>w _ J _ (Ext.new hp.sub hq _) (iC hp hq (s1.append s2))⟩
   ·exact w.elim
  ·exact w.elim)))) ha hb
theorem vf {lo hi:Option RX}{gl gh:GO}{p2:Pos}(h:QD X c e g) (hl:HE X c lo gl) (hh:HE X c hi gh) (hK:X.K=c.K:=by rfl):QD X c (.Subscript e (.Slice lo hi none p2) pos) (vL rN g gl gh):=have h:=h.h;have hl:=hl.h;have hh:=hh.h;⟨Nu (E2.or Kh) (by
 intro He J H x v l u Q hp rx w
 unfold rN at w
 split at w
 ·exact .inl (OF hK He J H x v l u Q hp rx w)
 ·obtain ⟨xs,q,w⟩:=kN w
  obtain ⟨p,vs,rfl,h1,h2⟩:=rx.list hp q
  exact .inr ⟨p,vs,rfl,by rw [hK];exact h1,λp' hp'=>w _ _ _ (Ext.new hp.sub hp' _) (iC hp hp' (h2.cut l u))⟩) h hl hh⟩
theorem jW {d:D}{x:Str}(h:BF X.K X.mg x d) (hK:X.K=c.K:=by rfl) (hg:Gl X x:=by rfl) (hd:(x == ("__debug__":Str))=false:=by decide):QD X c (.Name x pos) (gC d):=by
 refine ⟨?_⟩
 obtain ⟨u,v,h1,h2,h3⟩:=h
 exact JF h1 h2 (λJ=>hK▸h3 J) hg hd
end
section
variable {X:Cx}{c:C}{e a b tg:RX}{es:List RX}{ga gb g:G R}{pos:Pos}{st:Uy}{t u:G O}{tb:G Bool}
theorem oF:jc X c st xH:=⟨λQV s σ H D I ⟨J,env,sr,w⟩=>w.elim⟩
theorem JW (h:QD X c a g):QD X c (.UnaryOp .USub a pos) (FY g):=have h:=h.h;⟨gH (NB MY h) λσ H Q ⟨J,env,sr,w⟩=>by
 refine ⟨J,env,sr,aG (aM w) λr wr v J1 H1 e1 r1=>?_⟩
 split at wr
 ·cases r1
  exact ⟨_,rfl,wr _ J1 H1 e1 (.int _)⟩
 ·exact wr.elim⟩
theorem Bp (h:QD X c e g) (hK:X.K=c.K:=by rfl) (he:∀whole,Yk e X.env whole=(do let v <-whole;Uz e.pos;holding [v] (truthy v)):=by intro _;rfl):QB X c e (Cg g):=have h:=h.h;⟨xP (GN h he) λσ H Q ⟨J,env,sr,w⟩=>by
 refine ⟨J,env,sr,aG (aM w) λr wr v J1 H1 e1 r1=>?_⟩
 rw [hK]
 obtain ⟨k,k1,k2⟩:=Kq (sr.hp.ext e1) r1 wr
 exact ⟨k,k1,k2 J1 H1 e1⟩⟩
theorem CG (n:Nat){body:List Uy}(ht:QB X c e tb) (hb:qR X c body u) (hp:ZH (RG X.prog X.w) X.A X.env X.xe:=by first | exact ZQ | exact Zb):jc X c (.While e body [] pos) (yV n tb u):=have ht:=ht.h;have hb:=hb.h;⟨jo (GK hp ht hb) λE σ H ⟨J,env,sr,w⟩=>by
 refine ⟨λm σ H=>∃J' env,aX J J'/\SR c J' H σ env/\dJ (lI tb u m env) (oP c J' E) c.T,⟨n,J,env,aX.refl J,sr,w⟩,?_⟩
 rintro m σ H ⟨J',env,s',sr',w'⟩
 cases m with
 | zero=>exact w'.elim
 | succ m=>
  refine ⟨J',env,sr',aG (aM w') λk wk J1 H1 e1=>?_⟩
  cases k with
  | false=>
   rw [if_neg (by decide)] at wk ⊢
   exact wk σ J1 H1 e1.j (sr'.ext e1)
  | true=>
   rw [if_pos rfl] at wk ⊢
   refine ⟨λσ2 H2=>∃J2 env2,aX J1 J2/\SR c J2 H2 σ2 env2/\dJ (lI tb u m env2) (oP c J2 E) c.T,?_,?_⟩
   ·rintro σ2 H2 ⟨J2,env2,s2,sr2,w2⟩
    exact ⟨m,Ti m,J2,env2,(s'.trans e1.j).trans s2,sr2,w2⟩
   ·refine ⟨J1,env,sr'.ext e1,aG (aM wk) λo wo=>?_⟩
    cases o with
    | nx env4=>exact λσ4 J4 H4 s4 sr4=>⟨J4,env4,s4,sr4,aG wo λo q=>q.mono (e1.j.trans s4)⟩
    | ct env4=>exact λσ4 J4 H4 s4 sr4=>⟨J4,env4,s4,sr4,aG wo λo q=>q.mono (e1.j.trans s4)⟩
    | bk env4=>exact λσ4 J4 H4 s4 sr4=>wo σ4 J4 H4 (e1.j.trans s4) sr4
    | rt r=>exact λv J4 H4 s4 h4 r4=>wo v J4 H4 (e1.j.trans s4) h4 r4⟩
end
section
variable {X:Cx}{c:C}{e a b tg:RX}{es:List RX}{ga gb g:G R}{pos:Pos}
theorem Ax (i:Nat){x:Str}{p1 p2 pos':Pos}(h:QD X c e g) (hN:X.N[i]?=some x:=by rfl) (hv:vA X.env.scope x:=by first | exact WE rfl | exact Vy (WE rfl) | exact Vy (Vy rfl)) (hd:(x == ("__debug__":Str))=false:=by decide)
  (hcd:(x == ("__classdict__":Str))=false:=by decide)
  (hbase:YJ (.Name x p1) "extend" X.env (eval (.Name x p1) X.env)=eval (.Name x p1) X.env:=by rfl)
  (hfew:((TU pos' (Rr [e] X.env)).all (λx=>!x.1) && (abO pos' (ZL [] X.env)).all (λx=>x.1.isSome)
   && decide (([e]:List RX).length + ([]:List ZM).length + (if ([]:List ZM).isEmpty then 0 else 1) < 30))=true:=by rfl)
  (hline:(p2.endLine == pos'.line)=true:=by rfl) (hst:Rr [e] X.env=(false,eval e X.env)::Rr [] X.env:=by rfl) (hplain:(TU pos' (Rr [] X.env)).any (·.1)=false:=by rfl)
  (hs:US (.Call (.Attribute (.Name x p1) "extend" p2) [e] [] pos') none pos.line X.env=pure false:=by rfl) (hK:X.K=c.K:=by rfl):jc X c (.Expr (.Call (.Attribute (.Name x p1) "extend" p2) [e] [] pos') pos) (yT i g):=have h:=h.h;⟨
 jo (vc (Ib Xf PySem.F.slot_list_extend PySem.F.type_list_extend LM (pX hN hv hd hcd) (gq h jn hst) hbase hfew hline hst hplain) hs) λE σ H ⟨J,env,sr,w⟩=>by
  unfold yT at w
  split at w
  ·rename_i xs hi
   obtain ⟨v,h1,a,vs,rfl,h2,h3,h4,h5⟩:=sr.at_ i _ hi
   refine ⟨.ref a,h1,.inl ⟨rfl,vs,dw.of h2⟩,?_⟩
   refine ⟨J,env,sr,aG (aM w) λr wr y J1 H1 e1 r1=>?_⟩
   obtain ⟨ys,q,wr⟩:=kO wr
   split at wr
   ·rename_i hz
    obtain ⟨p,ws,rfl,hq,hs⟩:=mZ (sr.hp.ext e1) r1 q
    refine ⟨a,p,vs,ws,rfl,rfl,e1.h _ _ h2,by rw [hK];exact hq,by rw [<-h5.length,<-hs.length];exact hz,?_⟩
    refine wr σ J1 _ e1.j ?_
    exact (sr.ext e1).upd hi h1 (e1.h _ _ h2) (e1.frz a (by rw [h2];intro z;cases z) h3) h4 ((h5.mono e1.j).append hs)
   ·exact wr.elim
  ·exact w.elim⟩
theorem ER (ha:QD X c a ga) (hb:QD X c b gb):QD X c (.Compare a [.Is] [b] pos) (g2 (sQ false) ga gb):=have ha:=ha.h;have hb:=hb.h;⟨nB Ey (by
 intro He He' J H x y u v Q hp rx ry w
 unfold sQ at w
 split at w
 ·rename_i o ho
  refine ⟨o,by rw [qH ry];exact ho,?_⟩
  rw [qH rx]
  exact w _ J H (Ext.refl hp.sub) (.bl _)
 ·exact w.elim) ha hb⟩
theorem EM (ha:QD X c a ga) (hb:QD X c b gb):QB X c (.Compare a [.Is] [b] pos) (aT (g2 (sQ false) ga gb)):=have ha:=ha.h;have hb:=hb.h;⟨jT Ey (by
 intro He He' J H x y u v Q hp rx ry w
 unfold sQ at w
 split at w
 ·rename_i o ho
  refine ⟨o,by rw [qH ry];exact ho,?_⟩
  rw [qH rx]
  exact w _ J H (Ext.refl hp.sub) (.bl _)
 ·exact w.elim) ha hb⟩
end
section
variable {X:Cx}{c:C}{e a b d tg:RX}{es:List RX}{ga gb g:G R}{pos:Pos}
theorem g7 (h:QD X c e g) (hK:X.K=c.K:=by rfl):yi X c tg e (kW g):=have h:=h.h;⟨tX (EF h) λσ H Q ⟨J,env,sr,w⟩=>by
 refine ⟨J,env,sr,aG (aM w) λr wr v J1 H1 e1 r1=>?_⟩
 rw [hK]
 split at wr
 ·cases r1 with
  | tup h1 h2=>exact ⟨_,rfl,.inr ⟨⟨_,gc e1.sub h1⟩,wr _ J1 H1 e1 (wK (λJ H u=>u) h1 h2)⟩⟩
 ·cases r1 with
  | lst h1 h2=>exact ⟨_,rfl,.inl ⟨⟨_,e1.sub.seq h1⟩,wr _ J1 H1 e1 (qq (.inl h1) h2)⟩⟩
 ·obtain ⟨J2,e2,s2,rd⟩:=freeze e1 r1 rfl
  cases rd with
  | lst h1 h2=>exact ⟨_,rfl,.inl ⟨⟨_,e2.sub.seq h1⟩,wr _ J2 H1 e2 (qq (.inl h1) h2)⟩⟩
 ·obtain ⟨a,vs,rfl,h1,h2⟩:=r1
  exact ⟨_,rfl,.inl ⟨⟨_,(sr.hp.ext e1).ent.seq h1⟩,wr _ J1 H1 e1 (qq (.inr h1) h2)⟩⟩
 ·exact wr.elim⟩
theorem cU (h:QD X c e g) (hK:X.K=c.K:=by rfl):qS X c tg e (gj g):=have h:=h.h;⟨tX (EF h) λσ H Q ⟨J,env,sr,w⟩=>by
 refine ⟨J,env,sr,aG (aM w) λr wr v J1 H1 e1 r1=>?_⟩
 rw [hK]
 have lst:∀{xs:List D},jP r=.ok xs->(∀It J1' H1',Ext J H J1' H1'->Walk c It xs J1' (λJ' H'=>aX J1' J'/\aX H1' H')->Q It H1')->∃a,v=.ref a/\(((∃xs,dw c.K H1 a xs)/\Q (Hu c.K a) H1)\/((∃xs,dY c.K H1 a xs)/\Q (Hw c.K a) H1)):=fun {xs} q wr=>by
  obtain ⟨a,vs,rfl,h1,h2⟩:=RR.list (sr.hp.ext e1) r1 q
  refine ⟨a,rfl,.inl ⟨⟨_,h1⟩,wr _ J1 H1 e1 λi J' H' hp u=>?_⟩⟩
  have h':=u.2.seq h1
  refine ⟨λhl=>⟨vs,h',by rw [<-h2.length];exact hl⟩,λd hd=>?_⟩
  obtain ⟨v,k1,k2⟩:=h2.get hd
  refine ⟨⟨vs,v,h',k1⟩,λx H2 ⟨e,hy⟩=>?_⟩
  subst e
  have:=hy vs h'
  rw [k1] at this
  cases this
  exact ⟨J',Ext.refl hp.sub,k2.mono u.1⟩
 cases r with
 | d y=>
  cases y with
  | tup xs=>
   cases r1 with
   | tup h1 h2=>exact ⟨_,rfl,.inr ⟨⟨_,gc e1.sub h1⟩,wr _ J1 H1 e1 (wK (λJ H u=>u.1) h1 h2)⟩⟩
  | lst xs=>exact lst rfl wr
  | _=>exact wr.elim
 | l m xs=>exact lst rfl wr
 | mo _ _=>exact wr.elim
 | mb _ _=>exact wr.elim
 | mf _ _=>exact wr.elim⟩
end
section
variable {X:Cx}{c:C}{st:Uy}{g:G O}
theorem oE (i:Nat) (h:jc X c st g):jc X c st (j4 i g):=have h:=h.h;⟨λQV s σ H D I ⟨J,env,sr,w⟩=>by
 unfold j4 at w
 split at w
 ·rename_i xs hi
  obtain ⟨v,h1,a,vs,rfl,h2,h3,h4,h5⟩:=sr.at_ i _ hi
  obtain ⟨J',s1,sr'⟩:=sr.frz (x:=.inl xs) hi h1 h2 h3 h4 (.lst (.inl (.inl cK)) (h5.mono (dM h3 _)))
  exact h QV s σ H D I ⟨J',_,sr',aG w λo q=>q.mono s1⟩
 ·rename_i ks vs hi
  obtain ⟨v,h1,a,rfl,⟨us,ws,ep,h2,m1,m2,m3,m4⟩,h3,h4⟩:=sr.at_ i _ hi
  obtain ⟨J',s1,sr'⟩:=sr.frz (x:=.inr (ks,vs)) hi h1 h2 h3 h4 (.dct cK (m1.mono (dM h3 _)) (m2.mono (dM h3 _)) m3 m4)
  exact h QV s σ H D I ⟨J',_,sr',aG w λo q=>q.mono s1⟩
 ·exact h QV s σ H D I ⟨J,env,sr,w⟩⟩
end
section
variable {X:Cx}{c:C}
theorem bC {P:Rz}{w:RZ}{K:Q7}{mg:Str->Option Q8}{base:SM}{x Q2:Str}{st:Uy}{f:Rq}{fd:RO}{N ps:List Str}{k:Nat}{Fm:List S->M R}(F:dh K x Q2 st f fd) (hm:mg x=some (.ref f)) (Sc:br N ps (az st))
  (hbi:∀(kV doc pm:Q8) (an:Option Rq) (cdv ct:Q8) (us:List Q8),us.length=ps.length->ZE (Rw x Q2 (a_ st) (aW st) (az st) .none kV doc pm an cdv ct) ⟨us,[]⟩=pure (ps.zip us)){gB:G O}
  (hb:∀(cdv:Q8) (A:R4) (outer:List Env) (s:Q_) (H:Hp) (E:XK) (J:Hp) (T:Exc->Prop),fk k (A.deeper (Xo Q2 (az st) s.heap.objs.size f cdv))->
   qR (HH P w K mg base N Q2 (az st) f cdv A outer s H E) ⟨K,H,J,T⟩ (aW st) gB)
  (hF:∀as r,as.length=ps.length->Fm as=.ok r->fin (gB (aI N as))=.ok r):bA P w K mg base (k + 1) ps.length x Fm:=
 K8 F hm Sc hbi (λcdv A outer s H E J T hr=>(hb cdv A outer s H E J T hr).h) hF
theorem JR {P:Rz}{w:RZ}{K:Q7}{mg:Str->Option Q8}{base:SM}{x Q2:Str}{st:Uy}{f:Rq}{fd:RO}{N ps:List Str}{k:Nat}{Fm:List S->M R}(F:dh K x Q2 st f fd) (Sc:br N ps (az st)){gB:G O}
  (hb:∀(cdv:Q8) (A:R4) (outer:List Env) (s:Q_) (H:Hp) (E:XK) (J:Hp) (T:Exc->Prop),fk k (A.deeper (Xo Q2 (az st) s.heap.objs.size f cdv))->
   qR (HH P w K mg base N Q2 (az st) f cdv A outer s H E) ⟨K,H,J,T⟩ (aW st) gB)
  (hF:∀as r,as.length=ps.length->Fm as=.ok r->fin (gB (aI N as))=.ok r):jB P w K mg base oW (k + 1) f fd ps (qh K ps.length Fm):=
 DV F Sc (λcdv A outer s H E J T hr=>(hb cdv A outer s H E J T hr).h) hF
end
end DL
namespace K01
open PySem DL
def Dh:List Str:=["thing"]
def vN:G O:=(aO (bx (cG "int" (af 0)) (bI (cG "bool" (af 0)))))
def o_ (as:List S):M R:=fin (vN (aI Dh as))
def nN:List Str:=["_law_script","_law_k"]
noncomputable def nY:G O:=(aC (aY (aT (g2 (cj λi j=>.bl (decide (i < j))) (af 1) (gN j3 (ao (af 0) av)))) (aO (g2 cQ (g2 bE (af 0) (af 1)) (g2 mC (gC (.int 2)) (gC (.int 64))))) bF)
 (aO (gC (.int 0))))
def dD (as:List S):M R:=fin (nY (aI nN as))
noncomputable def Ae:List Str:=["_law_cell_here","_law_many","_law_number","_law_base","_law_size","_law_words","_law_first","_law_signs","_law_at","_law_found","_law_k","_law_sign"]
noncomputable def mE:G O:=(aC (aN 2 (g2 cQ (g2 dI (af 0) (gC (.int 7129))) (gC (.int 1000033))))
 (aC (aN 3 (g2 bE (gC (.str "bcdfg")) (g2 cQ (af 2) (gC (.int 5)))))
 (aC (aN 4 (g2 cA (gC (.int 2)) (g2 cQ (g2 fO (af 2) (gC (.int 5))) (gC (.int 7)))))
 (aC (aY (aT (g2 (cY false) (g2 cQ (g2 fO (af 2) (gC (.int 35))) (gC (.int 4))) (gC (.int 1)))) (aO (bN 1 [3] (bS (ao (af 1) av)) (aB 0) cR (g2 dI (af 1) (g2 cA (gC (.int 2)) (af 0))))) bF)
 (aC (aY (aT (g2 (cY false) (g2 cQ (g2 fO (af 2) (gC (.int 35))) (gC (.int 4))) (gC (.int 2)))) (aC (aN 5 (gm (ay (gC (.str "and")) (ay (gC (.str "or")) (ay (gC (.str "not")) (ay (gC (.str "some")) (ay (gC (.str "every")) (ay (gC (.str "least")) (ay (gC (.str "true")) (ay (gC (.str "false")) aK))))))))))
 (aC (aN 6 (g2 cQ (g2 fO (af 2) (gC (.int 140))) (gC (.int 8))))
 (aC (aN 7 (gC (.str "abcdefghijklmnopqrstuvwxyz")))
 (aO (gN kH (ao (bN 1 [5,6,7,2] (bS (ao (af 1) av)) (aB 0) cR (g2 cA (g2 bE (g2 cA (af 1) (af 1)) (g2 cA (af 2) (af 0))) (g2 bE (af 3) (g2 cQ (g2 fO (af 4) (gC (.int 1120))) (gC (.int 26)))))) av)))))) bF)
 (aC (aN 8 (g2 cQ (g2 fO (af 2) (gC (.int 105))) (af 4)))
 (aC (aN 9 (gm aK))
 (aC (eV (bS (ao (af 1) av)) (aB 10) (aC (aN 11 (g2 bE (gC (.str "abcdefghijklmnopqrstuvwxyz")) (g2 cQ (g2 cA (g2 fO (af 2) (gC (.int 840))) (g2 dI (gC (.int 5)) (af 10))) (gC (.int 26)))))
 (eE 9 (g2 cA (g2 cA (g2 dI (af 3) (af 8)) (af 11)) (g2 dI (af 3) (g2 mD (g2 mD (af 4) (gC (.int 1))) (af 8)))))))
 (aO (gN kH (ao (af 9) av)))))))))))
def fZ (as:List S):M R:=fin (mE (aI Ae as))
def BJ:List Str:=["_law_bits","_law_many","_law_found","_law_point_here"]
noncomputable def nZ:G O:=(aC (aN 2 (gm aK))
 (aC (eV (bS (ao (af 1) av)) (aB 3) (aC (aY (aT (g2 (cY false) (g2 cQ (af 0) (gC (.int 2))) (gC (.int 1)))) (eE 2 (af 3)) bF)
 (aN 0 (g2 fO (af 0) (gC (.int 2))))))
 (aO (gN dW (ao (af 2) av)))))
def g9 (as:List S):M R:=fin (nZ (aI BJ as))
def Af:List Str:=["_law_bits","_law_many","_law_found","_law_one","_law_other"]
noncomputable def mF:G O:=(aC (aN 2 (gm aK))
 (aC (eV (bS (ao (af 1) av)) (aB 3) (eV (bS (ao (af 1) av)) (aB 4) (aC (aY (aT (g2 (cY false) (g2 cQ (af 0) (gC (.int 2))) (gC (.int 1)))) (eE 2 (bP (ay (af 3) (ay (af 4) aK)))) bF)
 (aN 0 (g2 fO (af 0) (gC (.int 2)))))))
 (aO (gN dW (ao (af 2) av)))))
def gO (as:List S):M R:=fin (mF (aI Af as))
def yb:List Str:=["_law_cell_here","_law_names_here","_law_number","_law_first"]
noncomputable def kX:G O:=(aC (aN 1 (gN (aE 2 fZ) (ao (af 0) (ao (gC (.int 6)) av))))
 (aC (aN 2 (g2 cQ (g2 dI (af 0) (gC (.int 523))) (gC (.int 10007))))
 (aC (aN 3 (g2 cQ (g2 fO (af 2) (gC (.int 16))) (gC (.int 3))))
 (aO (bP (ay (gN dW (ao (vL rN (af 1) D0 (vK (g2 cQ (af 2) (gC (.int 4))))) av)) (ay (gN dW (ao (vL rN (af 1) (vK (af 3)) (vK (g2 cA (af 3) (g2 cQ (g2 fO (af 2) (gC (.int 4))) (gC (.int 4)))))) av)) aK)))))))
def gW (as:List S):M R:=fin (kX (aI yb as))
def Ag:List Str:=["_law_script","_law_at","_law_many","_law_tongue_here","_law_marks","_law_k","_law_arrows","_law_bits"]
noncomputable def mG:G O:=(aC (aN 4 (gm aK))
 (aC (eV (bS (ao (gN j3 (ao (g2 bE (af 3) (gC (.int 0))) av)) av)) (aB 5) (eE 4 (bP (ay (g2 bE (g2 bE (af 3) (gC (.int 0))) (af 5)) (ay (gN (aE 2 g9) (ao (g2 cQ (g2 dI (gN (aE 2 dD) (ao (af 0) (ao (g2 cA (af 1) (af 5)) av))) (gC (.int 167))) (g2 mC (gC (.int 2)) (gC (.int 8)))) (ao (af 2) av))) aK)))))
 (aC (aN 6 (gm aK))
 (aC (eV (bS (ao (gN j3 (ao (g2 bE (af 3) (gC (.int 1))) av)) av)) (aB 5) (aC (aN 7 (g2 cQ (g2 dI (gN (aE 2 dD) (ao (af 0) (ao (g2 cA (g2 cA (af 1) (gC (.int 3))) (af 5)) av))) (gC (.int 11400714819323198485))) (g2 mC (gC (.int 2)) (gC (.int 64)))))
 (eE 6 (bP (ay (g2 bE (g2 bE (af 3) (gC (.int 1))) (af 5)) (ay (gN (aE 2 gO) (ao (af 7) (ao (af 2) av))) aK))))))
 (aO (bP (ay (af 2) (ay (gN dW (ao (af 4) av)) (ay (gN dW (ao (af 6) av)) aK)))))))))
def iA (as:List S):M R:=fin (mG (aI Ag as))
theorem gZ {n:Nat}(h:n<=1000):n<=sizeLine:=RS h (by decide)
def LK (k:Nat):Bool:=!(aaS "abcdefghijklmnopqrstuvwxyz" ⟨#[k]⟩ 0 (Y5 "abcdefghijklmnopqrstuvwxyz") 1).isEmpty
def words:List D:=[.str "and",.str "or",.str "not",.str "some",.str "every",.str "least",.str "true",.str "false"]
def Em (x:Str):Bool:=decide (2<=x.length) && (decide (x.length<=8) && (!inD (.str x) words && x.cps.toList.all LK))
theorem DN {ge:G R}{f:D->D}(tl:Ev):∀(ds:List D) (x:Option S),(∀d∈ds,ge (some (.d d)::tl)=.ok (.d (f d)))->dG (aB 0) cR ge ds (x::tl)=.ok (ds.map f)
 | [],_,_=>rfl
 | d::r,x,h=>by
  have ih:=DN tl r (some (.d d)) λe he=>h e (Rb _ he)
  unfold dG
  simp only [aB,List.set_cons_zero,aL,cR,if_true,h d Rf,toD]
  rw [ih]
  rfl
theorem uH (f:D->Bool):∀(ds:List D),jN (ds.map λd=>.bl (f d))=some (ds.map f)
 | []=>rfl
 | d::r=>by
  simp only [Rv,jN,uH f r]
  rfl
theorem all_map (f:D->Bool) (ds:List D):nU [.l .fresh (ds.map λd=>.bl (f d))]=.ok (.d (.bl (ds.all f))):=by
 unfold nU
 simp only [jP,aL,uH]
 congr 3
 simp [XU]
theorem uF {α:Type}{xs:List α}{k:Nat}{x:α}(h:xs[k]?=some x):L2.lP xs (k:Int)=some x:=by
 have hk:k < xs.length:=(RK.mp h).1
 unfold L2.lP L2.yZ
 rw [if_pos (by omega),if_pos (by omega)]
 simpa using h
theorem jH {xs:List D}{k:Nat}{x:D}(h:xs[k]?=some x):bE (.d (.tup xs)) (.d (.int k))=.ok (.d x):=by
 unfold bE
 simp only [jg,aL,uF h]
theorem xE {m:Md}{xs:List D}{k:Nat}{x:D}(h:xs[k]?=some x):bE (.l m xs) (.d (.int k))=.ok (.d x):=by
 unfold bE
 simp only [jg,aL,uF h]
theorem A4 {z:Str}{k:Nat}{c:Nat}(hz:z.length<=1000) (h:z.cps.toList[k]?=some c):bE (.d (.str z)) (.d (.int k))=.ok (.d (.str ⟨#[c]⟩)):=by
 unfold bE
 simp only [gZ hz,if_true,uF h]
theorem bg (xs:List D):j3 [.d (.tup xs)]=.ok (.d (.int xs.length)):=rfl
theorem eq_int (neg:Bool) (i j:Int):cY neg (.d (.int i)) (.d (.int j))=.ok (.d (.bl (if neg then !(i == j) else i == j))):=rfl
theorem cu (a:D) (r:List D):bE (.d (.tup (a::r))) (.d (.int 0))=.ok (.d a):=jH (k:=0) rfl
theorem cW (a b:D) (r:List D):bE (.d (.tup (a::b::r))) (.d (.int 1))=.ok (.d b):=jH (k:=1) rfl
theorem dc (a b c:D) (r:List D):bE (.d (.tup (a::b::c::r))) (.d (.int 2))=.ok (.d c):=jH (k:=2) rfl
theorem OA (n:Nat) (h:n<=1000):below 4611686018427387904 (n:Int)=true:=eB.mpr ⟨by omega,by omega⟩
def Ih (j:Int):M (List D):=if below 4611686018427387904 j then .ok (d_ 0 j.toNat) else .bad
theorem MH (j:Int) (h:below 4611686018427387904 j=true):Ih j=.ok (d_ 0 j.toNat):=by unfold Ih;exact if_pos h
theorem MG {gs:G (List R)}{env:Ev}{j:Int}(hg:gs env=.ok [.d (.int j)]):bS gs env=Ih j:=by
 unfold bS Ih
 rw [hg]
 rfl
theorem vg {gs:G (List R)}{env:Ev}{n:Nat}(hg:gs env=.ok [.d (.int (n:Int))]) (h:n<=1000):bS gs env=.ok (d_ 0 n):=by
 rw [MG hg,MH _ (OA n h)]
 exact congrArg (λk=>M.ok (d_ 0 k)) (Tn n)
theorem cO {t u:G O}{env e:Ev}(h:t env=.ok (.nx e)):aC t u env=u e:=by
 unfold aC
 rw [h]
 rfl
theorem E1 {t u:G O}{env:Ev}{r:R}(h:t env=.ok (.rt r)):aC t u env=.ok (.rt r):=by
 unfold aC
 rw [h]
 rfl
theorem kU {g:G (List D)}{t:GT}{u:G O}{env:Ev}{ds:List D}(h:g env=.ok ds):eV g t u env=e_ t u ds env:=by
 unfold eV
 rw [h]
 rfl
theorem jv (i j:Int):cA (.d (.int i)) (.d (.int j))=.ok (.d (.int (i + j))):=rfl
theorem NV (i j:Int):mD (.d (.int i)) (.d (.int j))=.ok (.d (.int (i - j))):=rfl
theorem nV {C:Int->Int->Bool}{f:Int->Int->D}{i j:Int}(h:C i j=true):fI C f (.d (.int i)) (.d (.int j))=.ok (.d (f i j)):=by
 show (if C i j=true then M.ok (R.d (f i j)) else M.bad)=_
 rw [if_pos h]
theorem nI (i j:Int) (h1:-(2 ^ 64) < j) (h2:j < 2 ^ 64):dI (.d (.int i)) (.d (.int j))=.ok (.d (.int (i * j))):=nV (C:=rR) (f:=λi j=>.int (i * j)) (by unfold rR;rw [TX];exact Vy (eB.mpr ⟨h1,h2⟩))
theorem zX (i j:Int) (h1:-(2 ^ 64) < i) (h2:i < 2 ^ 64):dI (.d (.int i)) (.d (.int j))=.ok (.d (.int (i * j))):=nV (C:=rR) (f:=λi j=>.int (i * j)) (by unfold rR;rw [TX];exact WE (eB.mpr ⟨h1,h2⟩))
theorem fL (i j:Int) (h1:0 < j) (h2:j < 1073741824):fO (.d (.int i)) (.d (.int j))=.ok (.d (.int (i / j))):=nV (by
 unfold Cm
 rw [Ri]
 exact ⟨decide_eq_true h1,eB.mpr ⟨by omega,h2⟩⟩)
theorem cX (i j:Int) (h1:0 < j):cQ (.d (.int i)) (.d (.int j))=.ok (.d (.int (i % j))):=nV (decide_eq_true h1)
theorem Bt:mC (.d (.int 2)) (.d (.int 64))=.ok (.d (.int 18446744073709551616)):=nV (by decide)
theorem MQ:mC (.d (.int 2)) (.d (.int 8))=.ok (.d (.int 256)):=nV (by decide)
theorem CW (x y:Str) (h:x.length + y.length<=1000):cA (.d (.str x)) (.d (.str y))=.ok (.d (.str (x++y))):=by
 show (if x.length + y.length<=sizeLine then M.ok (R.d (D.str (x++y))) else M.bad)=_
 rw [if_pos (gZ h)]
theorem CV (x:Str) (n:Int) (h0:0<=n) (h:n<=1000) (hx:x.length<=1000):dI (.d (.str x)) (.d (.int n))=.ok (.d (.str (f_ x n.toNat))):=by
 show (if 0<=n/\n<=1000/\x.length<=1000 then M.ok (R.d (D.str (f_ x n.toNat))) else M.bad)=_
 rw [if_pos ⟨h0,h,hx⟩]
def K2:Str:="abcdefghijklmnopqrstuvwxyz"
theorem K3:∀k:Fin 26,K2.cps.toList[k.val]?=some (97 + k.val):=by decide +kernel
theorem IC:K2.length<=1000:=by decide +kernel
theorem Ec (i:Int) (h0:0<=i) (h:i < 26):bE (.d (.str "abcdefghijklmnopqrstuvwxyz")) (.d (.int i))=.ok (.d (.str ⟨#[97 + i.toNat]⟩)):=by
 have e:i=((i.toNat:Nat):Int):=by omega
 have:=A4 (z:=K2) (k:=i.toNat) IC (K3 ⟨i.toNat,by omega⟩)
 rw [e]
 exact this
def bases:List Nat:=[98,99,100,102,103]
theorem II:∀k:Fin 5,("bcdfg":Str).cps.toList[k.val]?=some (bases.getD k.val 0):=by decide +kernel
theorem Fy:("bcdfg":Str).length<=1000:=by decide +kernel
theorem Jf (i:Int) (h0:0<=i) (h:i < 5):∃b∈bases,bE (.d (.str "bcdfg")) (.d (.int i))=.ok (.d (.str ⟨#[b]⟩)):=by
 have e:i=((i.toNat:Nat):Int):=by omega
 have hb:i.toNat < bases.length:=by show _ < 5;omega
 refine ⟨bases.getD i.toNat 0,?_,?_⟩
 ·rw [RH,Rl hb]
  exact SH _
 ·have:=A4 (z:="bcdfg") (k:=i.toNat) Fy (II ⟨i.toNat,by omega⟩)
  rw [e]
  exact this
theorem qA (x y:Str):(x++y).cps.toList=x.cps.toList++y.cps.toList:=by
 show (x.cps++y.cps).toList=_
 simp
theorem sV (c:Array Nat):∀(k:Nat) (acc:Array Nat),((R5 k c).foldl (·++·) acc).toList=acc.toList++(R5 k c.toList).flatten
 | 0,acc=>by simp
 | k + 1,acc=>by
  rw [SV,Wm,sV c k]
  simp [SV]
theorem jE (b n:Nat):(f_ ⟨#[b]⟩ n).cps.toList=R5 n b:=by
 unfold f_
 simp only
 rw [sV]
 induction n with
 | zero=>rfl
 | succ n ih=>simpa [SV] using ih
theorem nq (x:Str):x.length=x.cps.toList.length:=by
 show x.cps.size=_
 simp
theorem vp {x y:Str}(h:x.cps.toList=y.cps.toList):x=y:=by
 cases x with
 | mk a=>
  cases y with
  | mk b=>
   simp only at h
   congr 1
   exact Array.toList_inj.mp h
theorem jI {t:GT}{u:G O}(I:Nat->Ev->Prop) (n:Nat)
  (h:∀k,k < n->∀env,I k env->∃e1 e2,t (.int k) env=.ok e1/\u e1=.ok (.nx e2)/\I (k + 1) e2) (env:Ev) (h0:I 0 env):
  ∃e,e_ t u (d_ 0 n) env=.ok (.nx e)/\I n e:=by
 have key:∀(m i:Nat),i + m=n->∀env,I i env->∃e,e_ t u ((abE i m).map λ(k:Nat)=>D.int (0 + (k:Int))) env=.ok (.nx e)/\I n e:=by
  intro m
  induction m with
  | zero=>exact λi hi env hI=>⟨env,rfl,(by omega:i=n)▸hI⟩
  | succ m ih=>
   intro i hi env hI
   obtain ⟨e1,e2,h1,h2,h3⟩:=h i (by omega) env hI
   obtain ⟨e,h4,h5⟩:=ih (i + 1) (by omega) e2 h3
   refine ⟨e,?_,h5⟩
   rw [ZA,Rv]
   unfold e_
   rw [XW,h1,aL,h2,aL]
   exact h4
 obtain ⟨e,h1,h2⟩:=key n 0 (by omega) env h0
 refine ⟨e,?_,h2⟩
 unfold d_
 rw [Yg]
 exact h1
noncomputable def eF:List (List Nat):=[[97,110,100],[111,114],[110,111,116],[115,111,109,101],[101,118,101,114,121],[108,101,97,115,116],[116,114,117,101],[102,97,108,115,101]]
def eX:List Str:=["and","or","not","some","every","least","true","false"]
theorem wL:eX.map (λw=>w.cps.toList)=eF:=by decide +kernel
theorem wM:words=eX.map .str:=rfl
theorem D9 (x:Str):inD (.str x) words=eX.any λw=>w == x:=by
 rw [wM]
 unfold inD
 rw [Vn]
 congr 1
theorem Gp:∀k:Fin 26,LK (97 + k.val)=true:=by decide +kernel
theorem zj {x:Str}(h2:2<=x.cps.toList.length) (h8:x.cps.toList.length<=8) (hw:x.cps.toList∉eF) (ha:∀k∈x.cps.toList,97<=k/\k < 123):Em x=true:=by
 unfold Em
 rw [nq,decide_eq_true h2,decide_eq_true h8,TM,TM,Ri]
 refine ⟨?_,R0.mpr λk hk=>?_⟩
 ·rw [Bool.not_eq_true',Y8]
  intro h
  rw [D9,SS] at h
  obtain ⟨w,h1,h3⟩:=h
  have e:w=x:=eq_of_beq h3
  subst e
  refine hw ?_
  rw [<-wL]
  exact Rg.mpr ⟨w,h1,rfl⟩
 ·obtain ⟨h1,h3⟩:=ha k hk
  have:=Gp ⟨k - 97,by omega⟩
  rw [show 97 + (k - 97)=k by omega] at this
  exact this
theorem FW:∀b∈bases,∀w∈eF,¬(w.filter (· != b)).length<=1:=by decide
theorem zo {b:Nat}(hb:b∈bases){l:List Nat}(h:(l.filter (· != b)).length<=1):l∉eF:=λz=>FW b hb l z h
theorem Ek:∀w∈eF,∀w'∈eF,w'.dropLast≠w:=by decide
theorem rG:∀b∈bases,97<=b/\b < 123:=by decide
theorem strs_map:∀(ss:List Str),strsOf (ss.map .str)=some ss
 | []=>rfl
 | s::r=>by
  simp only [Rv,strsOf,strs_map r]
  rfl
theorem sorted_strs (m:Md) (ss:List Str) (h:ss.length < 64):kH [.l m (ss.map .str)]=.ok (.l .fresh ((ia ss).map .str)):=by
 unfold kH
 simp only [jP,aL,strs_map,h,if_true]
theorem E6 {ss:List Str}(h:ss.Nodup):(ia ss).Pairwise λa b=>a.cps.toList < b.cps.toList:=by
 have h1:=qe ss
 have h2:(ia ss).Nodup:=(kE ss).symm.nodup h
 have:=h1.and h2
 refine this.imp fun {a b} ⟨x,y⟩=>?_
 unfold jA at x
 have x:=of_decide_eq_true x
 rcases List.le_iff_lt_or_eq.mp x with z | z
 ·exact z
 ·exact absurd (vp z) y
theorem yI {cap:List Nat}{gi:G (List D)}{ge:G R}{env tl:Ev}{m:Nat}(hm:m<=1000) (f:Nat->D) (hi:gi env=.ok (d_ 0 m)) (hc:cE 1 cap env=none::tl) (h:∀k,k < m->ge (some (.d (.int (k:Nat)))::tl)=.ok (.d (f k))):
  bN 1 cap gi (aB 0) cR ge env=.ok (.l .fresh ((Ra m).map f)):=by
 have e:=DN (ge:=ge) (f:=λd=>match d with | .int i=>f i.toNat | _=>.non) tl (d_ 0 m) none λd hd=>by
  unfold d_ at hd
  rw [Rg] at hd
  obtain ⟨k,hk,rfl⟩:=hd
  rw [XW]
  exact h k (Rk.mp hk)
 have hl:(d_ 0 m).length<=sizeLine:=by
  unfold d_
  rw [Rh,Uu]
  exact gZ hm
 unfold bN
 rw [hi,aL,if_pos hl,hc,e,aL]
 unfold d_
 rw [RT]
 congr 3
 funext k
 show f ((0:Int) + (k:Int)).toNat=f k
 rw [XW,Tn]
theorem EW (b:Nat):∀(i j:Nat),i < j->R5 i b < R5 j b
 | 0,j + 1,_=>by
  rw [SV]
  exact List.nil_lt_cons _ _
 | i + 1,j + 1,h=>by
  rw [SV,SV,List.cons_lt_cons_iff]
  exact .inr ⟨rfl,EW b i j (by omega)⟩
def u_ (b k:Nat):Str:=f_ ⟨#[b]⟩ (2 + k)
def oq (f s k:Nat):Str:=(eX++eX).getD (f + k) ""++⟨#[97 + s]⟩
def mH (b a r:Nat) (q:Int) (k:Nat):Str:=f_ ⟨#[b]⟩ a++⟨#[97 + ((q + 5 * (k:Int)) % 26).toNat]⟩++f_ ⟨#[b]⟩ r
def Good (m:Nat) (ss:List Str):Prop:=ss.length=m/\(∀s∈ss,Em s=true)/\ss.Pairwise λa b=>a.cps.toList < b.cps.toList
theorem Ni {b m:Nat}(hb:b∈bases) (hm:m<=6):Good m ((Ra m).map (u_ b)):=by
 refine ⟨by simp,λs hs=>?_,?_⟩
 ·obtain ⟨k,hk,rfl⟩:=Rg.mp hs
  have hk:=Rk.mp hk
  have e:(u_ b k).cps.toList=R5 (2 + k) b:=jE b (2 + k)
  refine zj (by rw [e,Ss];omega) (by rw [e,Ss];omega) (zo hb ?_) λx hx=>?_
  ·rw [e];simp
  ·rw [e] at hx;rw [Vo hx];exact rG b hb
 ·rw [R3]
  refine Sz.imp fun {i j} h=>?_
  show (f_ _ _).cps.toList < (f_ _ _).cps.toList
  rw [jE,jE]
  exact EW b _ _ (by omega)
theorem qY {m:Nat}{ss:List Str}(hl:ss.length=m) (hn:∀s∈ss,Em s=true) (hd:ss.Nodup):Good m (ia ss):=
 ⟨by rw [(kE ss).length_eq,hl],λs hs=>hn s ((kE ss).mem_iff.mp hs),E6 hd⟩
theorem y9 (f s k:Nat) (h:f + k < 16):(oq f s k).cps.toList=(eF++eF).getD (f + k) []++[97 + s]:=by
 show (_++_:Str).cps.toList=_
 rw [qA]
 congr 1
 rw [<-wL,<-RM,RH,RH,RD]
 have hl:f + k < (eX++eX).length:=h
 rw [Rl hl]
 rfl
theorem O8:∀j:Fin 16,(eF++eF).getD j.val []∈eF:=by decide
theorem Ku:∀w∈eF,2<=w.length/\w.length<=5/\∀k∈w,97<=k/\k < 123:=by decide
theorem M0:∀(f:Fin 8) (j k:Fin 6),j.val≠k.val->(eF++eF).getD (f.val + j.val) []≠(eF++eF).getD (f.val + k.val) []:=by decide
theorem good2 {f s m:Nat}(hf:f < 8) (hs:s < 26) (hm:m<=6):Good m (ia ((Ra m).map (oq f s))):=by
 refine qY (by simp) (λx hx=>?_) ?_
 ·obtain ⟨k,hk,rfl⟩:=Rg.mp hx
  have hk:=Rk.mp hk
  have e:=y9 f s k (by omega)
  have hw:=O8 ⟨f + k,by omega⟩
  obtain ⟨h1,h2,h3⟩:=Ku _ hw
  simp only at h1 h2 h3 hw
  generalize (eF++eF).getD (f + k) []=w at e hw h1 h2 h3
  refine zj (by rw [e,RI];simp;omega) (by rw [e,RI];simp;omega) (λz=>?_) λy hy=>?_
  ·rw [e] at z
   exact Ek w hw _ z (by simp)
  ·rw [e,RJ] at hy
   rcases hy with hy | hy
   ·exact h3 y hy
   ·rw [Rp] at hy;omega
 ·rw [Wz,R3]
  refine (Sz (n:=m)).imp_of_mem fun {i j} hi hj h z=>?_
  have hi:=Rk.mp hi
  have hj:=Rk.mp hj
  have z':(oq f s i).cps.toList=(oq f s j).cps.toList:=by rw [z]
  rw [y9 f s i (by omega),y9 f s j (by omega)] at z'
  exact M0 ⟨f,hf⟩ ⟨i,by omega⟩ ⟨j,by omega⟩ (show i≠j by omega) (WY z')
theorem y_ (b a r:Nat) (q:Int) (k:Nat):(mH b a r q k).cps.toList=R5 a b++[97 + ((q + 5 * (k:Int)) % 26).toNat]++R5 r b:=by
 show (_++_++_:Str).cps.toList=_
 rw [qA,qA,jE,jE]
theorem good3 {b a r m:Nat}{q:Int}(hb:b∈bases) (h2:1<=a + r) (h8:a + r<=7) (hm:m<=6):Good m (ia ((Ra m).map (mH b a r q))):=by
 refine qY (by simp) (λx hx=>?_) ?_
 ·obtain ⟨k,hk,rfl⟩:=Rg.mp hx
  have e:=y_ b a r q k
  refine zj (by rw [e];simp;omega) (by rw [e];simp;omega) (zo hb ?_) λy hy=>?_
  ·rw [e,UO,UO]
   have:∀n,(R5 n b).filter (· != b)=[]:=λn=>by simp
   rw [this,this,List.nil_append,Ur]
   exact Sa _ _
  ·rw [e,RJ,RJ,Rp] at hy
   rcases hy with (hy | hy) | hy
   ·rw [Vo hy];exact rG b hb
   ·have:0<=(q + 5 * (k:Int)) % 26:=T3 _ (by decide)
    have:(q + 5 * (k:Int)) % 26 < 26:=Ua _ (by decide)
    omega
   ·rw [Vo hy];exact rG b hb
 ·rw [Wz,R3]
  refine (Sz (n:=m)).imp_of_mem fun {i j} hi hj h z=>?_
  have hi:=Rk.mp hi
  have hj:=Rk.mp hj
  have z':(mH b a r q i).cps.toList=(mH b a r q j).cps.toList:=by rw [z]
  rw [y_,y_] at z'
  have z2:=WY z'
  have z3:=List.append_cancel_left z2
  have z4:97 + ((q + 5 * (i:Int)) % 26).toNat=97 + ((q + 5 * (j:Int)) % 26).toNat:=by simpa using z3
  have g1:0<=(q + 5 * (i:Int)) % 26:=T3 _ (by decide)
  have g2:0<=(q + 5 * (j:Int)) % 26:=T3 _ (by decide)
  have z5:(q + 5 * (i:Int)) % 26=(q + 5 * (j:Int)) % 26:=by omega
  omega
theorem HW (m:Md) (xs:List D):j3 [.l m xs]=.ok (.d (.int xs.length)):=rfl
def fz (ns:List Int) (k:Nat):Int:=(ns.map λx=>x % 18446744073709551616).getD k 0
theorem FH (ns:List Int) (k:Nat):0<=fz ns k:=by
 unfold fz
 rw [RH,RD]
 cases ns[k]? with
 | none=>exact Int.le_refl _
 | some x=>exact T3 _ (by decide)
theorem IS (ns:List Int) (k:Nat):fz ns k < 2 ^ 64:=by
 unfold fz
 rw [RH,RD]
 cases ns[k]? with
 | none=>decide
 | some x=>exact Ua _ (by decide)
theorem o7 (ns:List Int) (k:Nat):dD [.bor (ns.map D.int),.d (.int k)]=.ok (.d (.int (fz ns k))):=by
 unfold dD nY
 by_cases h:k < ns.length
 ·have h':(k:Int) < ns.length:=by omega
  have e:(ns.map D.int)[k]?=some (.int ns[k]):=by rw [RD,Rl h];rfl
  have e2:fz ns k=ns[k] % 18446744073709551616:=by
   unfold fz
   rw [RH,RD,Rl h]
   rfl
  simp [aC,aY,bU,bK,bB,aT,cG,af,aI,S.rd,R.dat,cJ,bT,g2,gN,ao,av,gC,bF,aO,bx,bI,aE,bR,cF,rF,fin,cj,bg,eq_int,ay,aK,toD,toS,aN,cu,cW,dc,nN,HW,h',xE e,Bt,cX,e2]
 ·have h':¬(k:Int) < ns.length:=by omega
  have e2:fz ns k=0:=by
   unfold fz
   rw [RH,RD,XX (by omega)]
   rfl
  simp [aC,aY,bU,bK,bB,aT,cG,af,aI,S.rd,R.dat,cJ,bT,g2,gN,ao,av,gC,bF,aO,bx,bI,aE,bR,cF,rF,fin,cj,bg,eq_int,ay,aK,toD,toS,aN,cu,cW,dc,nN,HW,h',e2]
abbrev eN (c m x2:Int) (x3:S) (x4:Int) (x5 x6 x7 x8 x9 x10 x11:Option S):Ev:=[some (.d (.int c)),some (.d (.int m)),some (.d (.int x2)),some x3,some (.d (.int x4)),x5,x6,x7,x8,x9,x10,x11]
theorem p5 {m:Nat}{env:Ev}{gs:G (List R)}(h:m<=1000) (hg:gs env=.ok [.d (.int (m:Int))]):bS gs env=.ok (d_ 0 m):=vg hg h
theorem Kw:gm (ay (gC (.str "and")) (ay (gC (.str "or")) (ay (gC (.str "not")) (ay (gC (.str "some")) (ay (gC (.str "every")) (ay (gC (.str "least")) (ay (gC (.str "true")) (ay (gC (.str "false")) aK))))))))=λ_=>.ok (.l .fresh words):=by
 funext env
 rfl
theorem IP (xs ys:List D) (h:xs.length + ys.length<=1000):cA (.l .own xs) (.l .own ys)=.ok (.l .fresh (xs++ys)):=by
 show (if xs.length + ys.length<=sizeLine then M.ok (R.l Md.fresh (xs++ys)) else M.bad)=_
 rw [if_pos (gZ h)]
theorem N1 (j:Nat) (h:j < 16):(words++words)[j]?=some (.str ((eX++eX).getD j "")):=by
 rw [wM,<-RM,RD,RH]
 have hl:j < (eX++eX).length:=h
 rw [Rl hl]
 rfl
theorem M3:∀j:Fin 16,((eX++eX).getD j.val "").length<=5:=by decide +kernel
theorem jR {b:G Bool}{t u:G O}{env:Ev}(h:b env=.ok false):aY b t u env=u env:=by
 unfold aY
 rw [h]
 rfl
theorem nk {b:G Bool}{t u:G O}{env:Ev}(h:b env=.ok true):aY b t u env=t env:=by
 unfold aY
 rw [h]
 rfl
theorem Cs {g:G R}{f:List R->M R}{env:Ev}{r r':R}(h:g env=.ok r) (hf:f [r]=.ok r'):gN f (ao g av) env=.ok r':=by
 unfold gN ao
 rw [h]
 exact hf
theorem zF {g:G R}{env:Ev}{r r':R}(h:g env=.ok r) (h2:rF r=.ok r'):aO g env=.ok (.rt r'):=by
 unfold aO
 rw [h,aL,h2]
 rfl
theorem Ir (c:Int) (m:Nat) (hm:m<=6):∃ss:List Str,fZ [.d (.int c),.d (.int m)]=.ok (.l .fresh (ss.map .str))/\Good m ss:=by
 unfold fZ mE
 rw [Kw]
 show ∃ss:List Str,fin (aC _ _ [some (.d (.int c)),some (.d (.int m)),none,none,none,none,none,none,none,none,none,none])=_/\_
 obtain ⟨n,hn⟩:∃n,c * 7129 % 1000033=n:=⟨_,rfl⟩
 have n0:0<=n:=hn▸T3 _ (by decide)
 have n1:n < 1000033:=hn▸Ua _ (by decide)
 obtain ⟨b,hb,eb⟩:=Jf (n % 5) (by omega) (by omega)
 rw [cO (e:=[some (.d (.int c)),some (.d (.int m)),some (.d (.int n)),none,none,none,none,none,none,none,none,none]) (by simp [aC,aY,bU,bK,bB,aT,cG,af,aI,S.rd,R.dat,cJ,bT,g2,gN,ao,av,gC,bF,aO,bx,bI,aE,bR,cF,rF,fin,cj,bg,eq_int,ay,aK,toD,toS,aN,cu,cW,dc,nI,cX,hn])]
 rw [cO (e:=[some (.d (.int c)),some (.d (.int m)),some (.d (.int n)),some (.d (.str ⟨#[b]⟩)),none,none,none,none,none,none,none,none]) (by simp [aC,aY,bU,bK,bB,aT,cG,af,aI,S.rd,R.dat,cJ,bT,g2,gN,ao,av,gC,bF,aO,bx,bI,aE,bR,cF,rF,fin,cj,bg,eq_int,ay,aK,toD,toS,aN,cu,cW,dc,cX,eb])]
 rw [cO (e:=eN c m n (.d (.str ⟨#[b]⟩)) (2 + n / 5 % 7) none none none none none none none) (by simp [aC,aY,bU,bK,bB,aT,cG,af,aI,S.rd,R.dat,cJ,bT,g2,gN,ao,av,gC,bF,aO,bx,bI,aE,bR,cF,rF,fin,cj,bg,eq_int,ay,aK,toD,toS,aN,cu,cW,dc,cX,fL,jv])]
 have lb:(⟨#[b]⟩:Str).length<=1000:=by show 1<=1000;decide
 by_cases c1:n / 35 % 4=1
 ·refine ⟨(Ra m).map (u_ b),?_,Ni hb hm⟩
  have cr:=yI (cap:=[3]) (gi:=bS (ao (af 1) av)) (ge:=g2 dI (af 1) (g2 cA (gC (.int 2)) (af 0))) (env:=eN c m n (.d (.str ⟨#[b]⟩)) (2 + n / 5 % 7) none none none none none none none) (tl:=[some (.d (.str ⟨#[b]⟩))]) (m:=m) (by omega) (λk=>.str (u_ b k)) (p5 (by omega) (by simp [aC,aY,bU,bK,bB,aT,cG,af,aI,S.rd,R.dat,cJ,bT,g2,gN,ao,av,gC,bF,aO,bx,bI,aE,bR,cF,rF,fin,cj,bg,eq_int,ay,aK,toD,toS,aN,cu,cW,dc])) rfl (λk hk=>by
   have:=CV ⟨#[b]⟩ (2 + (k:Int)) (by omega) (by omega) lb
   have e:(2 + (k:Int)).toNat=2 + k:=by omega
   rw [e] at this
   simp [aC,aY,bU,bK,bB,aT,cG,af,aI,S.rd,R.dat,cJ,bT,g2,gN,ao,av,gC,bF,aO,bx,bI,aE,bR,cF,rF,fin,cj,bg,eq_int,ay,aK,toD,toS,aN,cu,cW,dc,jv,this,u_])
  rw [E1 (r:=.l .fresh (((Ra m).map (u_ b)).map .str)) (by
   unfold aY aO
   rw [cr]
   simp [aC,aY,bU,bK,bB,aT,cG,af,aI,S.rd,R.dat,cJ,bT,g2,gN,ao,av,gC,bF,aO,bx,bI,aE,bR,cF,rF,fin,cj,bg,eq_int,ay,aK,toD,toS,aN,cu,cW,dc,fL,cX,c1])]
  rfl
 ·rw [cO (e:=eN c m n (.d (.str ⟨#[b]⟩)) (2 + n / 5 % 7) none none none none none none none) ((jR (by simp [aC,aY,bU,bK,bB,aT,cG,af,aI,S.rd,R.dat,cJ,bT,g2,gN,ao,av,gC,bF,aO,bx,bI,aE,bR,cF,rF,fin,cj,bg,eq_int,ay,aK,toD,toS,aN,cu,cW,dc,fL,cX,c1])).trans rfl)]
  by_cases c2:n / 35 % 4=2
  ·refine ⟨ia ((Ra m).map (oq (n / 140 % 8).toNat (n / 1120 % 26).toNat)),?_,good2 (by omega) (by omega) hm⟩
   have cr:=yI (cap:=[5,6,7,2]) (gi:=bS (ao (af 1) av)) (ge:=(g2 cA (g2 bE (g2 cA (af 1) (af 1)) (g2 cA (af 2) (af 0))) (g2 bE (af 3) (g2 cQ (g2 fO (af 4) (gC (.int 1120))) (gC (.int 26)))))) (env:=eN c m n (.d (.str ⟨#[b]⟩)) (2 + n / 5 % 7) (some (.own words)) (some (.d (.int (n / 140 % 8)))) (some (.d (.str "abcdefghijklmnopqrstuvwxyz"))) none none none none) (tl:=[some (.own words),some (.d (.int (n / 140 % 8))),some (.d (.str "abcdefghijklmnopqrstuvwxyz")),some (.d (.int n))]) (m:=m) (by omega) (λk=>.str (oq (n / 140 % 8).toNat (n / 1120 % 26).toNat k)) (p5 (by omega) (by simp [aC,aY,bU,bK,bB,aT,cG,af,aI,S.rd,R.dat,cJ,bT,g2,gN,ao,av,gC,bF,aO,bx,bI,aE,bR,cF,rF,fin,cj,bg,eq_int,ay,aK,toD,toS,aN,cu,cW,dc])) rfl (λk hk=>by
    have ea:=Ec (n / 1120 % 26) (by omega) (by omega)
    have ew:=xE (m:=.fresh) (N1 ((n / 140 % 8).toNat + k) (by omega))
    have ei:(((n / 140 % 8).toNat + k:Nat):Int)=n / 140 % 8 + k:=by omega
    rw [ei] at ew
    have el:=M3 ⟨(n / 140 % 8).toNat + k,by omega⟩
    simp only at el
    have es:=CW ((eX++eX).getD ((n / 140 % 8).toNat + k) "") ⟨#[97 + (n / 1120 % 26).toNat]⟩ (by show _ + 1<=_;omega)
    have ec:=IP words words (by decide)
    unfold oq
    generalize (eX++eX).getD ((n / 140 % 8).toNat + k) ""=w at ew es ⊢
    simp only [g2,af,gC,List.getElem?_cons_zero,List.getElem?_cons_succ,aL,S.rd,ec,jv]
    rw [ew,aL,fL _ _ (by decide) (by decide),aL,cX _ _ (by decide),aL,ea,aL,es])
   rw [E1 (r:=.l .fresh ((ia ((Ra m).map (oq (n / 140 % 8).toNat (n / 1120 % 26).toNat))).map .str)) (by
    unfold aY
    rw [show aT (g2 (cY false) (g2 cQ (g2 fO (af 2) (gC (.int 35))) (gC (.int 4))) (gC (.int 2))) (eN c m n (.d (.str ⟨#[b]⟩)) (2 + n / 5 % 7) none none none none none none none)=.ok true by simp [aC,aY,bU,bK,bB,aT,cG,af,aI,S.rd,R.dat,cJ,bT,g2,gN,ao,av,gC,bF,aO,bx,bI,aE,bR,cF,rF,fin,cj,bg,eq_int,ay,aK,toD,toS,aN,cu,cW,dc,fL,cX,c2],aL,if_pos rfl]
    rw [cO (e:=eN c m n (.d (.str ⟨#[b]⟩)) (2 + n / 5 % 7) (some (.own words)) none none none none none none) (by simp [aC,aY,bU,bK,bB,aT,cG,af,aI,S.rd,R.dat,cJ,bT,g2,gN,ao,av,gC,bF,aO,bx,bI,aE,bR,cF,rF,fin,cj,bg,eq_int,ay,aK,toD,toS,aN,cu,cW,dc])]
    rw [cO (e:=eN c m n (.d (.str ⟨#[b]⟩)) (2 + n / 5 % 7) (some (.own words)) (some (.d (.int (n / 140 % 8)))) none none none none none) (by simp [aC,aY,bU,bK,bB,aT,cG,af,aI,S.rd,R.dat,cJ,bT,g2,gN,ao,av,gC,bF,aO,bx,bI,aE,bR,cF,rF,fin,cj,bg,eq_int,ay,aK,toD,toS,aN,cu,cW,dc,fL,cX])]
    rw [cO (e:=eN c m n (.d (.str ⟨#[b]⟩)) (2 + n / 5 % 7) (some (.own words)) (some (.d (.int (n / 140 % 8)))) (some (.d (.str "abcdefghijklmnopqrstuvwxyz"))) none none none none) (by simp [aC,aY,bU,bK,bB,aT,cG,af,aI,S.rd,R.dat,cJ,bT,g2,gN,ao,av,gC,bF,aO,bx,bI,aE,bR,cF,rF,fin,cj,bg,eq_int,ay,aK,toD,toS,aN,cu,cW,dc])]
    have hs:=sorted_strs .fresh ((Ra m).map (oq (n / 140 % 8).toNat (n / 1120 % 26).toNat)) (by simp;omega)
    rw [RT] at hs
    exact zF (Cs cr hs) rfl)]
   rfl
  ·rw [cO (e:=eN c m n (.d (.str ⟨#[b]⟩)) (2 + n / 5 % 7) none none none none none none none) ((jR (by simp [aC,aY,bU,bK,bB,aT,cG,af,aI,S.rd,R.dat,cJ,bT,g2,gN,ao,av,gC,bF,aO,bx,bI,aE,bR,cF,rF,fin,cj,bg,eq_int,ay,aK,toD,toS,aN,cu,cW,dc,fL,cX,c2])).trans rfl)]
   have hz:0 < 2 + n / 5 % 7:=by omega
   rw [cO (e:=eN c m n (.d (.str ⟨#[b]⟩)) (2 + n / 5 % 7) none none none (some (.d (.int (n / 105 % (2 + n / 5 % 7))))) none none none) (by simp [aC,aY,bU,bK,bB,aT,cG,af,aI,S.rd,R.dat,cJ,bT,g2,gN,ao,av,gC,bF,aO,bx,bI,aE,bR,cF,rF,fin,cj,bg,eq_int,ay,aK,toD,toS,aN,cu,cW,dc,fL,cX,hz])]
   rw [cO (e:=eN c m n (.d (.str ⟨#[b]⟩)) (2 + n / 5 % 7) none none none (some (.d (.int (n / 105 % (2 + n / 5 % 7))))) (some (.own [])) none none) (by simp [aC,aY,bU,bK,bB,aT,cG,af,aI,S.rd,R.dat,cJ,bT,g2,gN,ao,av,gC,bF,aO,bx,bI,aE,bR,cF,rF,fin,cj,bg,eq_int,ay,aK,toD,toS,aN,cu,cW,dc,gm])]
   obtain ⟨a,ha⟩:∃a,n / 105 % (2 + n / 5 % 7)=a:=⟨_,rfl⟩
   have a0:0<=a:=ha▸T3 _ (by omega)
   have a1:a < 2 + n / 5 % 7:=ha▸Ua _ hz
   obtain ⟨z,hz2⟩:∃z,2 + n / 5 % 7=z:=⟨_,rfl⟩
   have z1:2<=z/\z<=8:=by omega
   rw [ha,hz2]
   rw [hz2] at a1
   refine ⟨ia ((Ra m).map (mH b a.toNat (z - 1 - a).toNat (n / 840))),?_,good3 hb (by omega) (by omega) hm⟩
   have ra:=CV ⟨#[b]⟩ a (by omega) (by omega) lb
   have rr:=CV ⟨#[b]⟩ (z - 1 - a) (by omega) (by omega) lb
   have la:(f_ ⟨#[b]⟩ a.toNat).length<=8:=by
    rw [nq,jE,Ss];omega
   have lr:(f_ ⟨#[b]⟩ (z - 1 - a).toNat).length<=8:=by
    rw [nq,jE,Ss];omega
   obtain ⟨e,h1,x,y,rfl⟩:=jI (t:=aB 10) (u:=(aC (aN 11 (g2 bE (gC (.str "abcdefghijklmnopqrstuvwxyz")) (g2 cQ (g2 cA (g2 fO (af 2) (gC (.int 840))) (g2 dI (gC (.int 5)) (af 10))) (gC (.int 26)))))
 (eE 9 (g2 cA (g2 cA (g2 dI (af 3) (af 8)) (af 11)) (g2 dI (af 3) (g2 mD (g2 mD (af 4) (gC (.int 1))) (af 8))))))) (λk env=>∃x y,env=eN c m n (.d (.str ⟨#[b]⟩)) z none none none (some (.d (.int a))) (some (.own (((Ra k).map (mH b a.toNat (z - 1 - a).toNat (n / 840))).map .str))) x y) m (λk hk env ⟨x,y,he⟩=>by
    subst he
    refine ⟨_,_,rfl,?_,some (.d (.int k)),some (.d (.str ⟨#[97 + ((n / 840 + 5 * (k:Int)) % 26).toNat]⟩)),rfl⟩
    ·have ea:=Ec ((n / 840 + 5 * (k:Int)) % 26) (by omega) (by omega)
     rw [cO (e:=eN c m n (.d (.str ⟨#[b]⟩)) z none none none (some (.d (.int a))) (some (.own (((Ra k).map (mH b a.toNat (z - 1 - a).toNat (n / 840))).map .str))) (some (.d (.int k))) (some (.d (.str ⟨#[97 + ((n / 840 + 5 * (k:Int)) % 26).toNat]⟩)))) (by simp [aC,aY,bU,bK,bB,aT,cG,af,aI,S.rd,R.dat,cJ,bT,g2,gN,ao,av,gC,bF,aO,bx,bI,aE,bR,cF,rF,fin,cj,bg,eq_int,ay,aK,toD,toS,aN,cu,cW,dc,aB,jv,zX,fL,cX,ea])]
     have e1:=CW (f_ ⟨#[b]⟩ a.toNat) ⟨#[97 + ((n / 840 + 5 * (k:Int)) % 26).toNat]⟩ (by show _ + 1<=_;omega)
     have e2:=CW (f_ ⟨#[b]⟩ a.toNat++⟨#[97 + ((n / 840 + 5 * (k:Int)) % 26).toNat]⟩) (f_ ⟨#[b]⟩ (z - 1 - a).toNat) (by
      rw [nq,qA,RI,<-nq]
      simp
      omega)
     have hk':k < sizeLine:=RC (by omega:k < 1000) (by decide)
     simp [aC,aY,bU,bK,bB,aT,cG,af,aI,S.rd,R.dat,cJ,bT,g2,gN,ao,av,gC,bF,aO,bx,bI,aE,bR,cF,rF,fin,cj,bg,eq_int,ay,aK,toD,toS,aN,cu,cW,dc,eE,ra,rr,e1,e2,NV,hk',T5,mH]) (eN c m n (.d (.str ⟨#[b]⟩)) z none none none (some (.d (.int a))) (some (.own [])) none none) ⟨none,none,rfl⟩
   rw [cO ((kU (p5 (m:=m) (by omega) (by simp [aC,aY,bU,bK,bB,aT,cG,af,aI,S.rd,R.dat,cJ,bT,g2,gN,ao,av,gC,bF,aO,bx,bI,aE,bR,cF,rF,fin,cj,bg,eq_int,ay,aK,toD,toS,aN,cu,cW,dc]))).trans h1)]
   have hs:=sorted_strs .own ((Ra m).map (mH b a.toNat (z - 1 - a).toNat (n / 840))) (by simp;omega)
   rw [zF (Cs (r:=.l .own (((Ra m).map (mH b a.toNat (z - 1 - a).toNat (n / 840))).map .str)) rfl hs) rfl]
   rfl
abbrev dN (k:Nat):D:=.int k
abbrev dP (p:Nat×Nat):D:=.tup [.int p.1,.int p.2]
def pW (p q:Nat×Nat):Prop:=p.1 < q.1\/(p.1=q.1/\p.2 < q.2)
def BQ (m:Nat) (xs:List Nat):Prop:=xs.length<=8/\xs.Pairwise (· < ·)/\∀x∈xs,x < m
def BP (m:Nat) (ps:List (Nat×Nat)):Prop:=ps.length<=64/\ps.Pairwise pW/\∀p∈ps,p.1 < m/\p.2 < m
def K0 (ss:List Str):Prop:=ss.length<=3/\(∀s∈ss,Em s=true)/\ss.Pairwise λa b=>a.cps.toList < b.cps.toList
structure Wd where
 m:Nat
 ms:List (Str×List Nat)
 ar:List (Str×List (Nat×Nat))
abbrev oG (r:Str×List Nat):D:=.tup [.str r.1,.tup (r.2.map dN)]
abbrev p6 (r:Str×List (Nat×Nat)):D:=.tup [.str r.1,.tup (r.2.map dP)]
def Wd.d (w:Wd):D:=.tup [.int w.m,.tup (w.ms.map oG),.tup (w.ar.map p6)]
theorem KI (b:Int) (m:Nat) (hm:m<=8):∃xs:List Nat,g9 [.d (.int b),.d (.int m)]=.ok (.d (.tup (xs.map dN)))/\BQ m xs:=by
 unfold g9 nZ
 show ∃xs:List Nat,fin (aC _ _ [some (.d (.int b)),some (.d (.int m)),none,none])=_/\_
 rw [cO (e:=[some (.d (.int b)),some (.d (.int m)),some (.own []),none]) (by simp [aC,aY,bU,bK,bB,aT,cG,af,aI,S.rd,R.dat,cJ,bT,g2,gN,ao,av,gC,bF,aO,bx,bI,aE,bR,cF,rF,fin,cj,bg,eq_int,ay,aK,toD,toS,aN,cu,cW,dc,gm])]
 obtain ⟨e,h1,b',xs,y,rfl,hl,hp,hx⟩:=jI (t:=aB 3) (u:=(aC (aY (aT (g2 (cY false) (g2 cQ (af 0) (gC (.int 2))) (gC (.int 1)))) (eE 2 (af 3)) bF)
 (aN 0 (g2 fO (af 0) (gC (.int 2)))))) (λk env=>∃(b':Int) (xs:List Nat) (y:Option S),env=[some (.d (.int b')),some (.d (.int m)),some (.own (xs.map dN)),y]/\xs.length<=k/\xs.Pairwise (· < ·)/\∀x∈xs,x < k) m (λk hk env ⟨b',xs,y,he,hl,hp,hx⟩=>by
  subst he
  have hz:xs.length < sizeLine:=RC (by omega:xs.length < 1000) (by decide)
  by_cases hb:b' % 2=1
  ·refine ⟨_,_,rfl,?_,b' / 2,xs++[k],some (.d (.int k)),rfl,by simp;omega,?_,λx hx'=>?_⟩
   ·rw [cO (e:=[some (.d (.int b')),some (.d (.int m)),some (.own ((xs++[k]).map dN)),some (.d (.int k))]) ((nk (by simp [aC,aY,bU,bK,bB,aT,cG,af,aI,S.rd,R.dat,cJ,bT,g2,gN,ao,av,gC,bF,aO,bx,bI,aE,bR,cF,rF,fin,cj,bg,eq_int,ay,aK,toD,toS,aN,cu,cW,dc,cX,hb])).trans (by simp [aC,aY,bU,bK,bB,aT,cG,af,aI,S.rd,R.dat,cJ,bT,g2,gN,ao,av,gC,bF,aO,bx,bI,aE,bR,cF,rF,fin,cj,bg,eq_int,ay,aK,toD,toS,aN,cu,cW,dc,eE,hz]))]
    simp [aC,aY,bU,bK,bB,aT,cG,af,aI,S.rd,R.dat,cJ,bT,g2,gN,ao,av,gC,bF,aO,bx,bI,aE,bR,cF,rF,fin,cj,bg,eq_int,ay,aK,toD,toS,aN,cu,cW,dc,fL]
   ·rw [Te]
    exact ⟨hp,Sf _ _,λa ha c hc=>by rw [Rp] at hc;rw [hc];exact hx a ha⟩
   ·rw [RJ,Rp] at hx'
    rcases hx' with h | h
    ·exact Sn (hx x h)
    ·omega
  ·refine ⟨_,_,rfl,?_,b' / 2,xs,some (.d (.int k)),rfl,by omega,hp,λx h=>Sn (hx x h)⟩
   rw [cO (e:=[some (.d (.int b')),some (.d (.int m)),some (.own (xs.map dN)),some (.d (.int k))]) ((jR (by simp [aC,aY,bU,bK,bB,aT,cG,af,aI,S.rd,R.dat,cJ,bT,g2,gN,ao,av,gC,bF,aO,bx,bI,aE,bR,cF,rF,fin,cj,bg,eq_int,ay,aK,toD,toS,aN,cu,cW,dc,cX,hb])).trans rfl)]
   simp [aC,aY,bU,bK,bB,aT,cG,af,aI,S.rd,R.dat,cJ,bT,g2,gN,ao,av,gC,bF,aO,bx,bI,aE,bR,cF,rF,fin,cj,bg,eq_int,ay,aK,toD,toS,aN,cu,cW,dc,fL]) [some (.d (.int b)),some (.d (.int m)),some (.own []),none] ⟨b,[],none,rfl,RL _,.nil,λx h=>by cases h⟩
 rw [cO ((kU (p5 (m:=m) (by omega) (by simp [aC,aY,bU,bK,bB,aT,cG,af,aI,S.rd,R.dat,cJ,bT,g2,gN,ao,av,gC,bF,aO,bx,bI,aE,bR,cF,rF,fin,cj,bg,eq_int,ay,aK,toD,toS,aN,cu,cW,dc]))).trans h1)]
 exact ⟨xs,rfl,by omega,hp,hx⟩
def HR (k j:Nat) (p:Nat×Nat):Prop:=p.1 < k\/(p.1=k/\p.2 < j)
theorem Fj (b:Int) (m:Nat) (hm:m<=8):∃ps:List (Nat×Nat),gO [.d (.int b),.d (.int m)]=.ok (.d (.tup (ps.map dP)))/\BP m ps:=by
 unfold gO mF
 show ∃ps:List (Nat×Nat),fin (aC _ _ [some (.d (.int b)),some (.d (.int m)),none,none,none])=_/\_
 rw [cO (e:=[some (.d (.int b)),some (.d (.int m)),some (.own []),none,none]) (by simp [aC,aY,bU,bK,bB,aT,cG,af,aI,S.rd,R.dat,cJ,bT,g2,gN,ao,av,gC,bF,aO,bx,bI,aE,bR,cF,rF,fin,cj,bg,eq_int,ay,aK,toD,toS,aN,cu,cW,dc,gm])]
 obtain ⟨e,h1,b',ps,y,z,rfl,hl,hp,hx⟩:=jI (t:=aB 3) (u:=(eV (bS (ao (af 1) av)) (aB 4) (aC (aY (aT (g2 (cY false) (g2 cQ (af 0) (gC (.int 2))) (gC (.int 1)))) (eE 2 (bP (ay (af 3) (ay (af 4) aK)))) bF)
 (aN 0 (g2 fO (af 0) (gC (.int 2))))))) (λk env=>∃(b':Int) (ps:List (Nat×Nat)) (y z:Option S),env=[some (.d (.int b')),some (.d (.int m)),some (.own (ps.map dP)),y,z]/\ps.length<=8 * k/\ps.Pairwise pW/\∀p∈ps,p.1 < k/\p.2 < m) m (λk hk env ⟨b',ps,y,z,he,hl,hp,hx⟩=>by
  subst he
  obtain ⟨e,h1,b2,qs,z,rfl,hl2,hp2,PK⟩:=jI (t:=aB 4) (u:=(aC (aY (aT (g2 (cY false) (g2 cQ (af 0) (gC (.int 2))) (gC (.int 1)))) (eE 2 (bP (ay (af 3) (ay (af 4) aK)))) bF)
 (aN 0 (g2 fO (af 0) (gC (.int 2)))))) (λj env=>∃(b2:Int) (qs:List (Nat×Nat)) (z:Option S),env=[some (.d (.int b2)),some (.d (.int m)),some (.own (qs.map dP)),some (.d (.int k)),z]/\qs.length<=8 * k + j/\qs.Pairwise pW/\∀p∈qs,HR k j p/\p.2 < m) m (λj hj env ⟨b2,qs,z,he,hl2,hp2,PK⟩=>by
   subst he
   have hz:qs.length < sizeLine:=RC (by omega:qs.length < 1000) (by decide)
   have PF:2<=sizeLine:=by decide
   by_cases hb:b2 % 2=1
   ·refine ⟨_,_,rfl,?_,b2 / 2,qs++[(k,j)],some (.d (.int j)),rfl,by simp;omega,?_,λp hp'=>?_⟩
    ·rw [cO (e:=[some (.d (.int b2)),some (.d (.int m)),some (.own ((qs++[(k,j)]).map dP)),some (.d (.int k)),some (.d (.int j))]) ((nk (by simp [aC,aY,bU,bK,bB,aT,cG,af,aI,S.rd,R.dat,cJ,bT,g2,gN,ao,av,gC,bF,aO,bx,bI,aE,bR,cF,rF,fin,cj,bg,eq_int,ay,aK,toD,toS,aN,cu,cW,dc,cX,hb])).trans (by simp [aC,aY,bU,bK,bB,aT,cG,af,aI,S.rd,R.dat,cJ,bT,g2,gN,ao,av,gC,bF,aO,bx,bI,aE,bR,cF,rF,fin,cj,bg,eq_int,ay,aK,toD,toS,aN,cu,cW,dc,eE,bP,hz,PF]))]
     simp [aC,aY,bU,bK,bB,aT,cG,af,aI,S.rd,R.dat,cJ,bT,g2,gN,ao,av,gC,bF,aO,bx,bI,aE,bR,cF,rF,fin,cj,bg,eq_int,ay,aK,toD,toS,aN,cu,cW,dc,fL]
    ·rw [Te]
     refine ⟨hp2,Sf _ _,λa ha c hc=>?_⟩
     rw [Rp] at hc
     rw [hc]
     exact (PK a ha).1
    ·rw [RJ,Rp] at hp'
     rcases hp' with h | h
     ·refine ⟨?_,(PK p h).2⟩
      rcases (PK p h).1 with q | ⟨q,q'⟩
      ·exact .inl q
      ·exact .inr ⟨q,by omega⟩
     ·rw [h]
      exact ⟨.inr ⟨rfl,Ti _⟩,hj⟩
   ·refine ⟨_,_,rfl,?_,b2 / 2,qs,some (.d (.int j)),rfl,by omega,hp2,λp h=>⟨?_,(PK p h).2⟩⟩
    ·rw [cO (e:=[some (.d (.int b2)),some (.d (.int m)),some (.own (qs.map dP)),some (.d (.int k)),some (.d (.int j))]) ((jR (by simp [aC,aY,bU,bK,bB,aT,cG,af,aI,S.rd,R.dat,cJ,bT,g2,gN,ao,av,gC,bF,aO,bx,bI,aE,bR,cF,rF,fin,cj,bg,eq_int,ay,aK,toD,toS,aN,cu,cW,dc,cX,hb])).trans rfl)]
     simp [aC,aY,bU,bK,bB,aT,cG,af,aI,S.rd,R.dat,cJ,bT,g2,gN,ao,av,gC,bF,aO,bx,bI,aE,bR,cF,rF,fin,cj,bg,eq_int,ay,aK,toD,toS,aN,cu,cW,dc,fL]
    ·rcases (PK p h).1 with q | ⟨q,q'⟩
     ·exact .inl q
     ·exact .inr ⟨q,by omega⟩) [some (.d (.int b')),some (.d (.int m)),some (.own (ps.map dP)),some (.d (.int k)),z] ⟨b',ps,z,rfl,hl,hp,λp h=>⟨.inl (hx p h).1,(hx p h).2⟩⟩
  refine ⟨_,_,rfl,(kU (p5 (m:=m) (by omega) (by simp [aC,aY,bU,bK,bB,aT,cG,af,aI,S.rd,R.dat,cJ,bT,g2,gN,ao,av,gC,bF,aO,bx,bI,aE,bR,cF,rF,fin,cj,bg,eq_int,ay,aK,toD,toS,aN,cu,cW,dc]))).trans h1,b2,qs,some (.d (.int k)),z,rfl,by omega,hp2,λp h=>⟨?_,(PK p h).2⟩⟩
  rcases (PK p h).1 with q | ⟨q,q'⟩
  ·omega
  ·omega) [some (.d (.int b)),some (.d (.int m)),some (.own []),none,none] ⟨b,[],none,none,rfl,RL _,.nil,λx h=>by cases h⟩
 rw [cO ((kU (p5 (m:=m) (by omega) (by simp [aC,aY,bU,bK,bB,aT,cG,af,aI,S.rd,R.dat,cJ,bT,g2,gN,ao,av,gC,bF,aO,bx,bI,aE,bR,cF,rF,fin,cj,bg,eq_int,ay,aK,toD,toS,aN,cu,cW,dc]))).trans h1)]
 exact ⟨ps,rfl,by omega,hp,hx⟩
theorem qB {α:Type}(f:α->D) (xs:List α) (l u:Option Int):∃ys:List α,cutD (xs.map f) l u=ys.map f/\ys=(xs.drop (HT.bO xs.length 0 l)).take (HT.bO xs.length xs.length u - HT.bO xs.length 0 l):=by
 refine ⟨_,?_,rfl⟩
 unfold cutD
 rw [Rh,Xg,Xh]
theorem A1 {α:Type}(xs:List α) (i j:Nat):((xs.drop i).take j).Sublist xs:=(WW _ _).trans (Zc _ _)
theorem Good.sub {m:Nat}{ss ys:List Str}(h:Good m ss) (s:ys.Sublist ss) (hl:ys.length<=3):K0 ys:=⟨hl,λx hx=>h.2.1 x (s.subset hx),h.2.2.sublist s⟩
theorem MK (xs:List D) (l u:Option Int):rN (.l .own xs) l u=.ok (.l .fresh (cutD xs l u)):=rfl
theorem Bx (m:Md) (xs:List D):dW [.l m xs]=.ok (.d (.tup xs)):=rfl
theorem nM (c:Int):∃A B:List Str,gW [.d (.int c)]=.ok (.d (.tup [.tup (A.map .str),.tup (B.map .str)]))/\K0 A/\K0 B:=by
 obtain ⟨ss,hs,hg⟩:=Ir c 6 (Rj _)
 have hs:fZ [.d (.int c),.d (.int 6)]=.ok (.l .fresh (ss.map .str)):=hs
 unfold gW kX
 generalize fZ=F_names at hs ⊢
 show ∃A B:List Str,fin (aC _ _ [some (.d (.int c)),none,none,none])=_/\_
 obtain ⟨n,hn⟩:∃n,c * 523 % 10007=n:=⟨_,rfl⟩
 have n0:0<=n:=hn▸T3 _ (by decide)
 rw [cO (e:=[some (.d (.int c)),some (.own (ss.map .str)),none,none]) (by simp [aC,aY,bU,bK,bB,aT,cG,af,aI,S.rd,R.dat,cJ,bT,g2,gN,ao,av,gC,bF,aO,bx,bI,aE,bR,cF,rF,fin,cj,bg,eq_int,ay,aK,toD,toS,aN,cu,cW,dc,hs])]
 rw [cO (e:=[some (.d (.int c)),some (.own (ss.map .str)),some (.d (.int n)),none]) (by simp [aC,aY,bU,bK,bB,aT,cG,af,aI,S.rd,R.dat,cJ,bT,g2,gN,ao,av,gC,bF,aO,bx,bI,aE,bR,cF,rF,fin,cj,bg,eq_int,ay,aK,toD,toS,aN,cu,cW,dc,nI,cX,hn])]
 rw [cO (e:=[some (.d (.int c)),some (.own (ss.map .str)),some (.d (.int n)),some (.d (.int (n / 16 % 3)))]) (by simp [aC,aY,bU,bK,bB,aT,cG,af,aI,S.rd,R.dat,cJ,bT,g2,gN,ao,av,gC,bF,aO,bx,bI,aE,bR,cF,rF,fin,cj,bg,eq_int,ay,aK,toD,toS,aN,cu,cW,dc,fL,cX])]
 obtain ⟨A,ha,ha'⟩:=qB D.str ss none (some (n % 4))
 obtain ⟨B,hb,hb'⟩:=qB D.str ss (some (n / 16 % 3)) (some (n / 16 % 3 + n / 4 % 4))
 refine ⟨A,B,?_,hg.sub (ha'▸A1 _ _ _) ?_,hg.sub (hb'▸A1 _ _ _) ?_⟩
 ·have PF:2<=sizeLine:=by decide
  simp [aC,aY,bU,bK,bB,aT,cG,af,aI,S.rd,R.dat,cJ,bT,g2,gN,ao,av,gC,bF,aO,bx,bI,aE,bR,cF,rF,fin,cj,bg,eq_int,ay,aK,toD,toS,aN,cu,cW,dc,bP,vL,D0,vK,cX,fL,jv,MK,Bx,ha,hb,PF]
 ·rw [ha',Th,HT.G5]
  have e:n % 4=((n % 4).toNat:Int):=by omega
  rw [e,HT.vh]
  omega
 ·rw [hb',Th]
  have e:n / 16 % 3=((n / 16 % 3).toNat:Int):=by omega
  have e2:n / 16 % 3 + n / 4 % 4=((n / 16 % 3 + n / 4 % 4).toNat:Int):=by omega
  rw [e2,HT.vh,e,HT.vh,hg.1]
  omega
theorem CS (Fs Fc:List S->M R) (ns:List Int) (a k m:Nat) (v:Int) (xs:List Nat) (T T2:D) (s:Str) (ms:List (Str×List Nat)) (hi:bE (.d T) (.d (.int k))=.ok (.d (.str s))) (hc:Fc [.bor (ns.map D.int),.d (.int ((a:Int) + k))]=.ok (.d (.int v))) (hx:Fs [.d (.int (v * 167 % 256)),.d (.int m)]=.ok (.d (.tup (xs.map dN))))
  (PF:2<=sizeLine) (hz:ms.length < sizeLine):(eE 4 (bP (ay (g2 bE (g2 bE (af 3) (gC (.int 0))) (af 5)) (ay (gN (aE 2 Fs) (ao (g2 cQ (g2 dI (gN (aE 2 Fc) (ao (af 0) (ao (g2 cA (af 1) (af 5)) av))) (gC (.int 167))) (g2 mC (gC (.int 2)) (gC (.int 8)))) (ao (af 2) av))) aK)))) [some (.bor (ns.map D.int)),some (.d (.int a)),some (.d (.int m)),some (.d (.tup [T,T2])),some (.own (ms.map oG)),some (.d (.int k)),none,none]=.ok (.nx [some (.bor (ns.map D.int)),some (.d (.int a)),some (.d (.int m)),some (.d (.tup [T,T2])),some (.own ((ms++[(s,xs)]).map oG)),some (.d (.int k)),none,none]):=by
 simp [aC,aY,bU,bK,bB,aT,cG,af,aI,S.rd,R.dat,cJ,bT,g2,gN,ao,av,gC,bF,aO,bx,bI,aE,bR,cF,rF,fin,cj,bg,eq_int,ay,aK,toD,toS,aN,cu,cW,dc,eE,bP,hi,jv,hc,nI,MQ,cX,hx,hz,PF]
theorem AJ (Fs Fc:List S->M R) (ns:List Int) (a k m:Nat) (v:Int) (xs:List (Nat×Nat)) (T T2:D) (s:Str) (ms:List D) (z:Option S) (rs:List (Str×List (Nat×Nat))) (hi:bE (.d T2) (.d (.int k))=.ok (.d (.str s))) (hc:Fc [.bor (ns.map D.int),.d (.int ((a:Int) + 3 + k))]=.ok (.d (.int v))) (hx:Fs [.d (.int (v * 11400714819323198485 % 18446744073709551616)),.d (.int m)]=.ok (.d (.tup (xs.map dP))))
  (PF:2<=sizeLine) (hz:rs.length < sizeLine):(aC (aN 7 (g2 cQ (g2 dI (gN (aE 2 Fc) (ao (af 0) (ao (g2 cA (g2 cA (af 1) (gC (.int 3))) (af 5)) av))) (gC (.int 11400714819323198485))) (g2 mC (gC (.int 2)) (gC (.int 64)))))
 (eE 6 (bP (ay (g2 bE (g2 bE (af 3) (gC (.int 1))) (af 5)) (ay (gN (aE 2 Fs) (ao (af 7) (ao (af 2) av))) aK))))) [some (.bor (ns.map D.int)),some (.d (.int a)),some (.d (.int m)),some (.d (.tup [T,T2])),some (.own ms),some (.d (.int k)),some (.own (rs.map p6)),z]=.ok (.nx [some (.bor (ns.map D.int)),some (.d (.int a)),some (.d (.int m)),some (.d (.tup [T,T2])),some (.own ms),some (.d (.int k)),some (.own ((rs++[(s,xs)]).map p6)),some (.d (.int (v * 11400714819323198485 % 18446744073709551616)))]):=by
 simp [aC,aY,bU,bK,bB,aT,cG,af,aI,S.rd,R.dat,cJ,bT,g2,gN,ao,av,gC,bF,aO,bx,bI,aE,bR,cF,rF,fin,cj,bg,eq_int,ay,aK,toD,toS,aN,cu,cW,dc,eE,bP,hi,jv,hc,nI,Bt,cX,hx,hz,PF]
theorem Iz (ns:List Int) (a m:Nat) (hm:m<=8) (A B:List Str) (hA:A.length<=3) (hB:B.length<=3):∃ms rs,iA [.bor (ns.map D.int),.d (.int a),.d (.int m),.d (.tup [.tup (A.map .str),.tup (B.map .str)])]=.ok (.d (Wd.d ⟨m,ms,rs⟩))/\
  ms.map Ve=A/\rs.map Ve=B/\(∀r∈ms,BQ m r.2)/\∀r∈rs,BP m r.2:=by
 unfold iA mG
 have HS:=λb=>KI b m hm
 have HP:=λb=>Fj b m hm
 have HC:=o7 ns
 generalize g9=F_some at HS ⊢
 generalize gO=F_pairs at HP ⊢
 generalize dD=F_cell at HC ⊢
 show ∃ms rs,fin (aC _ _ [some (.bor (ns.map D.int)),some (.d (.int a)),some (.d (.int m)),some (.d (.tup [.tup (A.map .str),.tup (B.map .str)])),none,none,none,none])=_/\_
 have zA:∀k,k < 3->k < sizeLine:=λk hk=>RC (by omega:k < 1000) (by decide)
 have PF:2<=sizeLine:=by decide
 have Qz:3<=sizeLine:=by decide
 rw [cO (e:=[some (.bor (ns.map D.int)),some (.d (.int a)),some (.d (.int m)),some (.d (.tup [.tup (A.map .str),.tup (B.map .str)])),some (.own []),none,none,none]) (by simp [aC,aY,bU,bK,bB,aT,cG,af,aI,S.rd,R.dat,cJ,bT,g2,gN,ao,av,gC,bF,aO,bx,bI,aE,bR,cF,rF,fin,cj,bg,eq_int,ay,aK,toD,toS,aN,cu,cW,dc,gm])]
 obtain ⟨e,h1,ms,y,rfl,hf,hp⟩:=jI (t:=aB 5) (u:=(eE 4 (bP (ay (g2 bE (g2 bE (af 3) (gC (.int 0))) (af 5)) (ay (gN (aE 2 F_some) (ao (g2 cQ (g2 dI (gN (aE 2 F_cell) (ao (af 0) (ao (g2 cA (af 1) (af 5)) av))) (gC (.int 167))) (g2 mC (gC (.int 2)) (gC (.int 8)))) (ao (af 2) av))) aK)))))
  (λk env=>∃(ms:List (Str×List Nat)) (y:Option S),env=[some (.bor (ns.map D.int)),some (.d (.int a)),some (.d (.int m)),some (.d (.tup [.tup (A.map .str),.tup (B.map .str)])),some (.own (ms.map oG)),y,none,none]/\ms.map Ve=A.take k/\∀r∈ms,BQ m r.2) A.length (λk hk env ⟨ms,y,he,hf,hp⟩=>by
   subst he
   obtain ⟨xs,hx,px⟩:=HS (fz ns (a + k) * 167 % 256)
   have hc:=HC (a + k)
   rw [XY] at hc
   have hi:bE (.d (.tup (A.map D.str))) (.d (.int k))=.ok (.d (.str A[k])):=jH (by rw [RD,Rl hk];rfl)
   have hl:ms.length=k:=by
    have:=congrArg Xd hf
    rw [Rh,Th] at this
    omega
   have hz:=zA ms.length (by have:=hA;omega)
   refine ⟨_,_,rfl,?_,ms++[(A[k],xs)],some (.d (.int k)),rfl,?_,λr hr=>?_⟩
   ·exact CS F_some F_cell ns a k m _ xs _ _ _ ms hi hc hx PF hz
   ·rw [RM,hf,VS,Rl hk]
    rfl
   ·rw [RJ,Rp] at hr
    rcases hr with h | h
    ·exact hp r h
    ·rw [h];exact px) [some (.bor (ns.map D.int)),some (.d (.int a)),some (.d (.int m)),some (.d (.tup [.tup (A.map .str),.tup (B.map .str)])),some (.own []),none,none,none] ⟨[],none,rfl,rfl,λr h=>by cases h⟩
 rw [cO ((kU (p5 (m:=A.length) (by have:=hA;omega) (by simp [aC,aY,bU,bK,bB,aT,cG,af,aI,S.rd,R.dat,cJ,bT,g2,gN,ao,av,gC,bF,aO,bx,bI,aE,bR,cF,rF,fin,cj,bg,eq_int,ay,aK,toD,toS,aN,cu,cW,dc]))).trans h1)]
 rw [cO (e:=[some (.bor (ns.map D.int)),some (.d (.int a)),some (.d (.int m)),some (.d (.tup [.tup (A.map .str),.tup (B.map .str)])),some (.own (ms.map oG)),y,some (.own []),none]) (by simp [aC,aY,bU,bK,bB,aT,cG,af,aI,S.rd,R.dat,cJ,bT,g2,gN,ao,av,gC,bF,aO,bx,bI,aE,bR,cF,rF,fin,cj,bg,eq_int,ay,aK,toD,toS,aN,cu,cW,dc,gm])]
 obtain ⟨e,h2,rs,y2,z2,rfl,hf2,hp2⟩:=jI (t:=aB 5) (u:=(aC (aN 7 (g2 cQ (g2 dI (gN (aE 2 F_cell) (ao (af 0) (ao (g2 cA (g2 cA (af 1) (gC (.int 3))) (af 5)) av))) (gC (.int 11400714819323198485))) (g2 mC (gC (.int 2)) (gC (.int 64)))))
 (eE 6 (bP (ay (g2 bE (g2 bE (af 3) (gC (.int 1))) (af 5)) (ay (gN (aE 2 F_pairs) (ao (af 7) (ao (af 2) av))) aK))))))
  (λk env=>∃(rs:List (Str×List (Nat×Nat))) (y z:Option S),env=[some (.bor (ns.map D.int)),some (.d (.int a)),some (.d (.int m)),some (.d (.tup [.tup (A.map .str),.tup (B.map .str)])),some (.own (ms.map oG)),y,some (.own (rs.map p6)),z]/\rs.map Ve=B.take k/\∀r∈rs,BP m r.2) B.length (λk hk env ⟨rs,y,z,he,hf,hp⟩=>by
   subst he
   obtain ⟨xs,hx,px⟩:=HP (fz ns (a + 3 + k) * 11400714819323198485 % 18446744073709551616)
   have hc:=HC (a + 3 + k)
   rw [XY,XY] at hc
   have hc:F_cell [.bor (ns.map D.int),.d (.int ((a:Int) + 3 + (k:Int)))]=.ok (.d (.int (fz ns (a + 3 + k)))):=hc
   have hi:bE (.d (.tup (B.map D.str))) (.d (.int k))=.ok (.d (.str B[k])):=jH (by rw [RD,Rl hk];rfl)
   have hl:rs.length=k:=by
    have:=congrArg Xd hf
    rw [Rh,Th] at this
    omega
   have hz:=zA rs.length (by have:=hB;omega)
   refine ⟨_,_,rfl,?_,rs++[(B[k],xs)],some (.d (.int k)),some (.d (.int (fz ns (a + 3 + k) * 11400714819323198485 % 18446744073709551616))),rfl,?_,λr hr=>?_⟩
   ·exact AJ F_pairs F_cell ns a k m _ xs _ _ _ _ z rs hi hc hx PF hz
   ·rw [RM,hf,VS,Rl hk]
    rfl
   ·rw [RJ,Rp] at hr
    rcases hr with h | h
    ·exact hp r h
    ·rw [h];exact px) [some (.bor (ns.map D.int)),some (.d (.int a)),some (.d (.int m)),some (.d (.tup [.tup (A.map .str),.tup (B.map .str)])),some (.own (ms.map oG)),y,some (.own []),none] ⟨[],y,none,rfl,rfl,λr h=>by cases h⟩
 rw [cO ((kU (p5 (m:=B.length) (by have:=hB;omega) (by simp [aC,aY,bU,bK,bB,aT,cG,af,aI,S.rd,R.dat,cJ,bT,g2,gN,ao,av,gC,bF,aO,bx,bI,aE,bR,cF,rF,fin,cj,bg,eq_int,ay,aK,toD,toS,aN,cu,cW,dc]))).trans h2)]
 refine ⟨ms,rs,?_,by rw [hf,Vf],by rw [hf2,Vf],hp,hp2⟩
 simp [aC,aY,bU,bK,bB,aT,cG,af,aI,S.rd,R.dat,cJ,bT,g2,gN,ao,av,gC,bF,aO,bx,bI,aE,bR,cF,rF,fin,cj,bg,eq_int,ay,aK,toD,toS,aN,cu,cW,dc,bP,Bx,Qz,Wd.d]
theorem wg {K:Q7}{J:L2.Hp}:∀(ns:List Int),aJ K J (ns.map D.int) (ns.map L2.V.int)
 | []=>.nil
 | n::r=>.cons (.int n) (wg r)
end K01
namespace DX
open PySem PySem.Spec
open Builtin Builtin.ObjectAttr
end DX
namespace DX
open PySem PySem.Spec
end DX
namespace DX
open PySem PySem.Spec PyProof.Rows L2
end DX
namespace DL
open PySem PySem.Spec PyProof.Rows L2 DX
end DL
namespace DX
open PySem PySem.Spec PyProof.Rows L2
end DX
namespace DL
open PySem PySem.Spec PyProof.Rows L2 DX
end DL
namespace DX
open PySem PySem.Spec PyProof.Rows L2
end DX
namespace DL
open PySem PySem.Spec PyProof.Rows L2 DX
end DL
namespace DX
open PySem PySem.Spec PyProof.Rows L2
open Sem (wp)
end DX
namespace DL
open PySem PySem.Spec PyProof.Rows L2 DX
end DL
namespace DL
open PySem PySem.Spec PyProof.Rows L2
noncomputable def uA (A:R4) (s:Q_) (y x:Q8) (b:Bool):Prop:=
 ∀(prog:Rz) (w:RZ) (E:Q8->Q_->Prop) (Q:Q8->Q_->Prop),Q (.bool b) s->RA (RG prog w) A (richCompare .Lt y x) Q E s
inductive gQ (A:R4) (s:Q_) (fin:Bool):List (Q8×Q8)->Bool->Prop
 | nil:gQ A s fin [] fin
 | yes {x y:Q8}{r:List (Q8×Q8)}{b:Bool}:TF A s x y true->gQ A s fin r b->gQ A s fin ((x,y)::r) b
 | no {x y:Q8}{r:List (Q8×Q8)}{b:Bool}:TF A s x y false->uA A s x y b->gQ A s fin ((x,y)::r) b
section
open PySem.SeqAt
open PySem.AutoSeq1 (wpAny_loadPart')
open PySem.MeetsSeq PySem.MeetsSeq2 PySem.MeetsSeq3
theorem E9 (l b:Rq) (QW Q3:Array Q8) (n n2:Nat) (dd dd2:Option Rq) (sl sl2:Array (Option Q8)) (ans:Bool):
  Meets (U3.«tuple.__lt__» ⟨[.ref l,.ref b],[]⟩)
   (λA R s=>s.heap.get? l=some {cls:=.type "tuple",dict:=dd,data:=.seq QW n,slots:=sl}/\s.heap.get? b=some {cls:=.type "tuple",dict:=dd2,data:=.seq Q3 n2,slots:=sl2}/\
    gQ A.in1 s (decide (QW.size < Q3.size)) (QW.toList.zip Q3.toList) ans/\R (.ok (.ret (.bool ans))) s):=
 .of_wp λprog w A R s h=>by
  obtain ⟨hp,g,d,tk,os⟩:=s;obtain ⟨hl,hb,hP,h⟩:=h
  have f2:=Vm
  wp_walk using TZ hl,TZ hb,T9 _ (λrest b s'=>b.1=none/\s'=⟨hp,g,d,tk,os⟩/\gQ A.in1 ⟨hp,g,d,tk,os⟩ (decide (QW.size < Q3.size)) rest ans) _
  case turn=>
   rintro ⟨y,x⟩ rest b s' ⟨hb',rfl,hq⟩
   cases hq with
   | yes he hr=>
    refine Q6 (he prog w _ _ ?_)
    wp_walk
    exact ⟨rfl,rfl,hr⟩
   | no he hlt=>
    refine Q6 (he prog w _ _ ?_)
    have Qq:=hlt prog w
    wp_walk using Qq
    exact ⟨_,rfl,by simpa using h⟩
  case fin=>
   rintro ⟨b1,b2⟩ s' ⟨hb',rfl,hq⟩
   simp only at hb'
   subst hb'
   cases hq
   wp_walk
   exact ⟨_,rfl,by simpa [VL] using h⟩
  case h=>
   exact ⟨rfl,rfl,hP⟩
end
section
variable {K:Q7}{J:Hp}{s:Q_}
theorem Js {A:R4}{l b:Rq}{QW Q3:Array Q8}{ans:Bool}(hl:s.heap.IsTuple l QW) (hb:s.heap.IsTuple b Q3) (hP:gQ A.in1 s (decide (QW.size < Q3.size)) (QW.toList.zip Q3.toList) ans)
  (hu:A.units < S6):uA A s (.ref l) (.ref b) ans:=λprog w E Q h=>by
 obtain ⟨⟨cls,dd,data,sl⟩,ho,hc,n,hd⟩:=id hl
 obtain ⟨⟨cls2,dd2,data2,sl2⟩,ho2,hc2,n2,hd2⟩:=id hb
 simp only at hc hd hc2 hd2
 subst hc hd hc2 hd2
 exact XA (op:=.Lt) ⟨_,ho,rfl⟩ ⟨_,ho2,rfl⟩ PySem.F.slot_tuple_lt PySem.F.entry_tuple_lt (PySem.F.args_tuple_lt_2 _ _) (E9 l b QW Q3 n n2 dd dd2 sl sl2 ans)
  ⟨ho,ho2,hP,show Uk ans≠Yh/\Q (.bool ans) s from ⟨(λx=>nomatch x),h⟩⟩ hu
mutual
noncomputable def fc:D->D->Option Bool
 | .bl p,y=>match y with
  | .bl q=>some (!p && q)
  | _=>none
 | .int i,y=>match y with
  | .int j=>some (decide (i < j))
  | _=>none
 | .str x,y=>match y with
  | .str z=>some (decide (x.cps.toList < z.cps.toList))
  | _=>none
 | .tup xs,y=>match y with
  | .tup ys=>j5 xs ys
  | _=>none
 | _,_=>none
noncomputable def j5:List D->List D->Option Bool
 | [],ys=>some (!ys.isEmpty)
 | x::xs,ys=>match ys with
  | []=>some false
  | y::ys=>if bz x y=true then j5 xs ys else fc x y
end
theorem Jr (A:R4){p:Bool}{e:D}{w:V}{u':Q8}{b:Bool}(h:fc (.bl p) e=some b) (re:Rep K J e w) (rw':RelV w u'):uA A s (.bool p) u' b:=by
 unfold fc at h
 cases e with
 | bl q=>
  cases re
  cases rw'
  simp only [Tp] at h
  subst h
  intro prog w E Q hq
  refine (lt_bool (p:=p) (q:=q) ?_:RA (RG prog w) A (S7 .Lt (.bool p) (.bool q)) Q E s)
  cases p <;> cases q <;> exact hq
 | _=>cases h
theorem Gq (A:R4){p:Int}{t:Tok}{e:D}{w:V}{u':Q8}{b:Bool}(h:fc (.int p) e=some b) (re:Rep K J e w) (rw':RelV w u'):uA A s (.int p t) u' b:=by
 unfold fc at h
 cases e with
 | int q=>
  cases re
  obtain ⟨t',rfl⟩:=rw'
  simp only [Tp] at h
  subst h
  intro prog w E Q hq
  exact (abF hq:RA (RG prog w) A (S7 .Lt (.int p t) (.int q t')) Q E s)
 | _=>cases h
theorem Gr (A:R4){p:Str}{t:Tok}{e:D}{w:V}{u':Q8}{b:Bool}(h:fc (.str p) e=some b) (re:Rep K J e w) (rw':RelV w u'):uA A s (.str p t) u' b:=by
 unfold fc at h
 cases e with
 | str q=>
  cases re
  obtain ⟨t',rfl⟩:=rw'
  simp only [Tp] at h
  subst h
  intro prog w E Q hq
  exact (abG hq:RA (RG prog w) A (S7 .Lt (.str p t) (.str q t')) Q E s)
 | _=>cases h
noncomputable def Ft (K:Q7) (J:Hp) (s:Q_) (d:D):Prop:=∀{e:D}{v w:V}{u u':Q8}{b:Bool}(A:R4),fc d e=some b->Rep K J d v->Rep K J e w->RelV v u->RelV w u'->A.units + dep d < S6->dep d<=1000->dep e<=1000->uA A s u u' b
noncomputable def sy (K:Q7) (J:Hp) (s:Q_) (ds:List D):Prop:=∀{es:List D}{vs ws:List V}{us us':List Q8}{b:Bool}{n1 n2:Nat}(A:R4),j5 ds es=some b->aJ K J ds vs->aJ K J es ws->Vals vs us->Vals ws us'->A.units + deps ds < S6->deps ds<=1000->deps es<=1000->
  us.length + n2=us'.length + n1->gQ A s (decide (n1 < n2)) (us.zip us') b
theorem Gs (F:HF K J s){ds:List D}(ih:sy K J s ds):Ft K J s (.tup ds):=by
 intro e v w u u' b A h rd re rv rw' hu k1 k2
 unfold fc at h
 cases e with
 | tup es=>
  simp only at h
  cases rd with
  | tup h1 hs=>
   cases re with
   | tup h2 hs'=>
    cases rv;cases rw'
    obtain ⟨QX,r,p⟩:=F.t _ _ h1
    obtain ⟨its',r',p'⟩:=F.t _ _ h2
    refine Js p p' ?_ (by unfold dep at hu;omega)
    have:=ih A.in1 (n1:=QX.length) (n2:=its'.length) h hs hs' r r' (by rw [in1_units];unfold dep at hu;omega) (by unfold dep at k1;omega) (by unfold dep at k2;omega) (by omega)
    simpa using this
 | _=>cases h
theorem El:sy K J s []:=by
 intro es vs ws us us' b n1 n2 A h rd re rv rw' hu k1 k2 hl
 cases rd;cases rv
 cases re with
 | nil=>
  cases rw'
  simp only [j5,List.isEmpty_nil,TN,Tp] at h
  subst h
  have:decide (n1 < n2)=false:=decide_eq_false (by simp at hl;omega)
  rw [this]
  exact .nil
 | cons _ _=>
  cases rw'
  simp only [j5,List.isEmpty_cons,VT,Tp] at h
  subst h
  have:decide (n1 < n2)=true:=decide_eq_true (by simp at hl;omega)
  rw [this]
  exact .nil
theorem Cq (F:HF K J s){x:D}{xs:List D}(ix:Ft K J s x) (ih:sy K J s xs):sy K J s (x::xs):=by
 intro es vs ws us us' b n1 n2 A h rd re rv rw' hu k1 k2 hl
 cases rd with
 | cons q1 r1=>
  cases rv with
  | cons t1 u1=>
   cases re with
   | nil=>
    cases rw'
    simp only [j5,Tp] at h
    subst h
    have:decide (n1 < n2)=false:=decide_eq_false (by simp at hl;omega)
    rw [this]
    exact .nil
   | cons q2 r2=>
    cases rw' with
    | cons t2 u2=>
     unfold deps at hu k1 k2
     rename_i y v' ys ws' u0 us0
     have he:=ng F A q1 q2 t1 t2 (by omega) (by omega) (by omega)
     simp only [j5] at h
     cases z:bz x y with
     | true=>
      rw [z,if_pos rfl] at h
      rw [z] at he
      exact .yes he (ih A h r1 r2 u1 u2 (by omega) (by omega) (by omega) (by simp at hl;omega))
     | false=>
      rw [z,if_neg RV] at h
      rw [z] at he
      exact .no he (ix A h q1 q2 t1 t2 (by omega) (by omega) (by omega))
mutual
theorem Ot (F:HF K J s):∀d:D,Ft K J s d
 | .bl p=>λA h rd re rv rw' _ _ _=>by cases rd;cases rv;exact Jr A h re rw'
 | .int p=>λA h rd re rv rw' _ _ _=>by cases rd;obtain ⟨t,rfl⟩:=rv;exact Gq A h re rw'
 | .str p=>λA h rd re rv rw' _ _ _=>by cases rd;obtain ⟨t,rfl⟩:=rv;exact Gr A h re rw'
 | .tup ds=>Gs F (xM F ds)
 | .non=>λA h _ _ _ _ _ _ _=>by unfold fc at h;cases h
 | .lst _=>λA h _ _ _ _ _ _ _=>by unfold fc at h;cases h
 | .emp=>λA h _ _ _ _ _ _ _=>by unfold fc at h;cases h
 | .exn _ _ _=>λA h _ _ _ _ _ _ _=>by unfold fc at h;cases h
 | .dct _ _=>λA h _ _ _ _ _ _ _=>by unfold fc at h;cases h
theorem xM (F:HF K J s):∀ds:List D,sy K J s ds
 | []=>El
 | x::xs=>Cq F (Ot F x) (xM F xs)
end
end
end DL
namespace DL
open PySem PySem.Spec PyProof.Rows L2
open PySem.W (KasT kas_sort kas_asc kas_desc kas_rev kas_tail3 kas_descPart kas_count kas_place kas_bin)
noncomputable def bh {α:Type}(q:Nat->Nat->Bool):KasT α->α
 | .ret a=>a
 | .ask i j k=>bh q (k (q i j))
inductive gf (n:Nat){α:Type}(P:α->Prop):KasT α->Prop
 | ret {a:α}:P a->gf n P (.ret a)
 | ask {i j:Nat}{k:Bool->KasT α}:i < n->j < n->(∀b,gf n P (k b))->gf n P (.ask i j k)
theorem gf.bind {n:Nat}{α β:Type}{P:α->Prop}{R:β->Prop}{f:α->KasT β}{t:KasT α}(h:gf n P t) (hf:∀a,P a->gf n R (f a)):gf n R (t.bind f):=by
 induction h with
 | ret p=>exact hf _ p
 | ask h1 h2 _ ih=>exact .ask h1 h2 ih
theorem gf.run {n:Nat}{α:Type}{P:α->Prop}{t:KasT α}(q:Nat->Nat->Bool) (h:gf n P t):P (bh q t):=by
 induction h with
 | ret p=>exact p
 | ask _ _ _ ih=>exact ih _
theorem gf.wp {n:Nat}{α:Type}{P:α->Prop}{t:KasT α}{q:Nat->Nat->Bool}{cmp:Nat->Nat->(Bool->Q_->Prop)->Q_->Prop}{s:Q_}{G:α->Q_->Prop}(h:gf n P t)
  (hc:∀i j C,i < n->j < n->C (q i j) s->cmp i j C s) (hG:G (bh q t) s):t.kasWp cmp G s:=by
 induction h with
 | ret p=>exact hG
 | ask h1 h2 _ ih=>exact hc _ _ _ h1 h2 (ih _ hG)
def fE (n:Nat) (p:Array Nat):Prop:=p.Perm (Ra n).toArray
theorem fE.lt {n:Nat}{p:Array Nat}(h:fE n p) (hn:0 < n) (k:Nat):p.getD k 0 < n:=by
 by_cases hk:k < p.size
 ·have e:p.getD k 0=p[k]:=by simp [Tq,hk]
  rw [e]
  have hm:p[k]∈p:=Array.getElem_mem hk
  have:=(UP h).mp hm
  simpa using this
 ·have e:p.getD k 0=0:=by simp [Tq,hk]
  rw [e];exact hn
theorem fE.rev {n:Nat}{p:Array Nat}(h:fE n p) (i j:Nat):fE n (V6 p i j):=(mirror_perm _ _ _ _).trans h
theorem fE.bub {n:Nat}{p:Array Nat}(h:fE n p) (i j:Nat):fE n (bubble p i j):=(bubble_perm _ _ _).trans h
variable {n:Nat}
theorem B0 {p:Array Nat}(hn:0 < n) (h:fE n p):∀f m,gf n (λ_:Nat=>True) (V7 p f m)
 | 0,m=>.ret trivial
 | f + 1,m=>.ask (h.lt hn _) (h.lt hn _) λb=>by cases b with
  | true=>exact .ret trivial
  | false=>exact B0 hn h f (m + 1)
theorem sI (hn:0 < n):∀f {p:Array Nat} m q,fE n p->gf n (λr:Array Nat×Nat×Nat=>fE n r.1) (TQ f p m q)
 | 0,p,m,q,h=>.ret h
 | f + 1,p,m,q,h=>.ask (h.lt hn _) (h.lt hn _) λb=>by
  cases b with
  | true=>
   simp only [if_true]
   by_cases hq:q > 0
   ·rw [if_pos hq];exact sI hn f _ _ (h.rev _ _)
   ·rw [if_neg hq];exact sI hn f _ _ h
  | false=>
   simp only [Ry,if_false]
   refine .ask (h.lt hn _) (h.lt hn _) λb=>?_
   cases b with
   | true=>exact .ret h
   | false=>exact sI hn f _ _ h
theorem Dp (hn:0 < n){p:Array Nat}(h:fE n p) (m k:Nat):gf n (λr:Nat×Array Nat=>fE n r.2) (abf m k p):=(B0 hn (h.rev 0 m) _ _).bind λa _=>.ret (h.rev _ _)
theorem AY (hn:0 < n){p:Array Nat}(h:fE n p) (m k:Nat):gf n (λr:Nat×Array Nat=>fE n r.2) (Zn m k p):=(sI hn _ _ _ h).bind λr hr=>by
 split
 ·exact Dp hn (hr.rev _ _) _ _
 ·exact Dp hn hr _ _
theorem IG (hn:0 < n){p:Array Nat}(h:fE n p) (k:Nat):gf n (λr:Nat×Array Nat=>fE n r.2) (ZR k p):=(B0 hn h _ _).bind λm _=>by
 split
 ·exact .ret h
 ·split
  ·refine .ask (h.lt hn _) (h.lt hn _) λb=>?_
   cases b with
   | true=>exact .ret h
   | false=>exact AY hn (h.rev _ _) _ _
  ·exact AY hn h _ _
theorem uG (hn:0 < n){p:Array Nat}(h:fE n p) (k:Nat):∀f l r,gf n (λ_:Nat=>True) (Ub p k f l r)
 | 0,l,r=>.ret trivial
 | f + 1,l,r=>by
  unfold Ub
  split
  ·exact .ret trivial
  ·refine .ask (h.lt hn _) (h.lt hn _) λb=>?_
   cases b with
   | true=>exact uG hn h k f _ _
   | false=>exact uG hn h k f _ _
theorem HG (hn:0 < n):∀f {p:Array Nat} k,fE n p->gf n (fE n) (aaT f p k)
 | 0,p,k,h=>.ret h
 | f + 1,p,k,h=>(uG hn h k _ _ _).bind λl _=>HG hn f _ (h.bub _ _)
theorem fU (hn:0 < n):gf n (fE n) (T6 n):=(IG hn (show fE n _ from ab3 _) n).bind λr hr=>by
 split
 ·exact HG hn _ _ hr
 ·exact .ret hr
end DL
namespace DL
open PySem PySem.Spec PyProof.Rows L2
open PySem.W (KasT kas_sort kas_ask kas_item kat_run kat_snds KatLex kat_cons kat_yes kat_no kat_lt kat_one KatTups kat_kind Looks)
section
variable {prog:Rz}{w:RZ}{A:R4}{E:Q8->Q_->Prop}{s:Q_}
def iL (q:Nat->Nat->Bool) (vs:List Q8):List Q8:=(bh q (T6 vs.length)).toList.map λi=>vs.getD i R7
theorem GB (q:Nat->Nat->Bool){vs:List Q8}(h:0 < vs.length):(iL q vs).length=vs.length:=by
 unfold iL
 rw [Rh,Rm]
 have:=((fU h).run q:fE _ _).size_eq
 simpa using this
theorem tP {a:Rq}{vs:List Q8}{n:Nat}{κ:aaU}{q:Nat->Nat->Bool}{P:ab4->Q_->Prop}(ho:s.heap.get? a=some (TL "list" vs.toArray n)) (h2:2<=vs.length) (h64:vs.length < 64)
  (hk:∀h' C,(∀b o,b≠a->s.heap.get? b=some o->h'.get? b=some o)->C κ {s with heap:=h'}->RA (RG prog w) A (aaV vs.toArray) C (λ_ _=>False) {s with heap:=h'})
  (hc:∀h',(∀b o,b≠a->s.heap.get? b=some o->h'.get? b=some o)->∀i j C,i < vs.length->j < vs.length->C (q i j) {s with heap:=h'}->kas_ask prog w A κ vs i j C {s with heap:=h'})
  (h:P (.done (.ret .none)) {s with heap:=aaB s.heap a vs (iL q vs).toArray}):RA (RG prog w) A (U3.«list.sort» ⟨[.ref a],[]⟩) P E s:=by
 have la:a < s.heap.objs.size:=Ru ho
 have sl:vs.length<=sizeLine:=by rw [Sh];omega
 obtain ⟨e1,g1⟩:∃e1,(s.heap.update a (SX λ_=>(#[]:Array Q8))).get? a=some (TL "list" #[] e1):=⟨_,(ZS ho λ_=>#[])⟩
 have z1:(s.heap.update a (SX λ_=>(#[]:Array Q8))).objs.size=s.heap.objs.size:=(Xs _ _ _)
 have g3:(((s.heap.update a (SX λ_=>(#[]:Array Q8))).push (TL "tuple" vs.toArray 0)).push (TL "list" #[] 0)).get? a=some (TL "list" #[] e1):=(Rc _ ((Rc _ g1)))
 have kp:∀b o,b≠a->s.heap.get? b=some o->(((s.heap.update a (SX λ_=>(#[]:Array Q8))).push (TL "tuple" vs.toArray 0)).push (TL "list" #[] 0)).get? b=some o:=λb o nb q=>
  Rc _ (Rc _ (by rw [Yu _ _ _ _ nb];exact q))
 rw [ZT]
 refine Q6 ((listItems_at ho rfl ?_))
 refine Q6 (Xi ho rfl ?_ (by rw [Ro];exact sl) (RL _))
 refine Q6 ((Yv g1 rfl ?_))
 refine Q6 (aag ?_ (show vs.length<=_ from sl))
 refine Q6 ((Wf ?_ (RL _)))
 refine (RU ?_)
 dsimp only
 have n2:¬vs.toArray.size < 2:=by (rw [Ro]);omega
 rw [if_neg n2,if_neg n2]
 refine Q6 (Si (hk _ (λk s'=>k=κ/\s'=_) kp ⟨rfl,rfl⟩) ?_ λ_ _ x=>x.elim)
 rintro _ _ ⟨rfl,rfl⟩
 refine Q6 (Si (kat_run (E:=E) (Q:=λst' s'=>∃p:Array Nat,p.size=vs.length/\arrOf st'=p.map (kas_item (vs.toArray.zip vs.toArray))/\failedOf st'=none/\p=bh q (T6 vs.length)/\s'=_)
  rfl h2 h64 (λp' st' s' a1 a2 a3 a4=>⟨p',a1,a2,a3,a4⟩) ((fU (by omega)).wp (q:=q) (hc _ kp) ⟨rfl,rfl⟩)) ?_ λ_ _ e=>e)
 rintro ⟨⟨⟩,st'⟩ s' ⟨p,hp,har,hf,rfl,rfl⟩
 dsimp only
 have ou:(arrOf st').map (·.2)=(iL q vs).toArray:=kat_snds rfl har
 rw [ou]
 refine Q6 ((Yv g3 rfl ?_))
 refine Q6 (Xi g3 rfl ?_ (RL _) (RS (abb (Ro.trans (GB q (RC Nat.zero_lt_two h2)))) (Nat.le_succ_of_le sl)))
 rw [hf]
 simp only [bne_self_eq_false,Ry,if_false]
 exact Q9 h
theorem Bs {l:Rq}{vs:List Q8}{κ:aaU}{q:Nat->Nat->Bool}{Q:Q8->Q_->Prop}(hl:s.heap.IsList l vs.toArray) (h2:2<=vs.length) (h64:vs.length < 64)
  (hk:∀h' C,(∀b o,s.heap.get? b=some o->h'.get? b=some o)->C κ {s with heap:=h'}->RA (RG prog w) A.in1.in1 (aaV vs.toArray) C (λ_ _=>False) {s with heap:=h'})
  (hc:∀h',(∀b o,s.heap.get? b=some o->h'.get? b=some o)->∀i j C,i < vs.length->j < vs.length->C (q i j) {s with heap:=h'}->kas_ask prog w A.in1.in1 κ vs i j C {s with heap:=h'})
  (h:Q (.ref (s.heap.objs.size + 1)) {s with heap:=YO s.heap vs (iL q vs).toArray}):RA (RG prog w) A (call (.builtin "sorted") [.ref l]) Q E s:=by
 have sl:vs.length<=sizeLine:=by rw [Sh];omega
 refine (Va ZU Zo Zp (Zq _) ?_)
 unfold U3.«sorted»
 refine Q6 (m:=aaC "sorted" 1 1 _) ((Q9 ?_))
 refine Q6 (collect_list hl ?_ sl)
 refine Q6 (Wf ?_ sl)
 have z:((s.heap.push (TL "list" #[] 0)).update s.heap.objs.size (SX (·++vs.toArray))).objs.size=s.heap.objs.size + 1:=(by rw [Xs,size_push'])
 have gL:(((s.heap.push (TL "list" #[] 0)).update s.heap.objs.size (SX (·++vs.toArray))).push (TL "list" vs.toArray 0)).get? (s.heap.objs.size + 1)=some (TL "list" vs.toArray 0):=(by rw [<-z];exact Rn _ rfl)
 have kp:∀b o,s.heap.get? b=some o->b≠s.heap.objs.size + 1/\(((s.heap.push (TL "list" #[] 0)).update s.heap.objs.size (SX (·++vs.toArray))).push (TL "list" vs.toArray 0)).get? b=some o:=λb o e=>by
  have lb:b < s.heap.objs.size:=Ru e
  refine ⟨RE (Sn lb),?_⟩
  rw [Zd _ _ _ (z▸RE (Sn lb)),Yu _ _ _ _ (RE lb),Zd _ _ _ ((RE lb))]
  exact e
 dsimp only
 rw [z]
 refine Q6 (RU (Sb WM ⟨_,gL,rfl⟩ Wo (tP (κ:=κ) (q:=q) gL h2 h64 (λh' C k c=>?_) (λh' k i j C hi hj c=>?_) ⟨_,rfl,?_⟩) (WN _)))
 ·exact hk h' C (λb o e=>k b o (kp b o e).1 (kp b o e).2) c
 ·exact hc h' (λb o e=>k b o (kp b o e).1 (kp b o e).2) i j C hi hj c
 ·exact Q9 ⟨_,rfl,h⟩
end
end DL
namespace DL
open PySem PySem.Spec PyProof.Rows L2
open PySem.W (KasT kas_sort kas_ask KatLex kat_nil kat_cons kat_yes kat_no kat_lt kat_one KatTups kat_kind Looks)
section
variable {prog:Rz}{w:RZ}{A:R4}{E:Q8->Q_->Prop}{s:Q_}{K:Q7}{J:Hp}
theorem vS {fin ans:Bool}{Q:Bool->Q_->Prop}{zs:List (Q8×Q8)}{b:Bool}(h:gQ A s fin zs ans) (hq:Q ans s):∀{i:Nat},(b && i == 0)=false->KatLex prog w A b fin Q zs i s:=by
 induction h with
 | nil=>intro i _;exact kat_nil hq
 | yes he _ ih=>intro i _;exact aaW (he prog w _ _ (kat_yes (ih hq (by cases b <;> rfl))))
 | no he hl=>
  intro i hb
  refine aaW (he prog w _ _ (kat_no ?_))
  rw [hb]
  exact kat_one _ _ (hl prog w _ _ hq)
theorem Jl {fin ans e:Bool}{Q:Bool->Q_->Prop}{u u':Q8}{zs:List (Q8×Q8)}(he:TF A s u u' e) (h1:e=true->gQ A s fin zs ans)
  (h2:e=false->RA (RG prog w) A (oneLt' true u u') Q (λ_ _=>False) s) (hq:Q ans s):KatLex prog w A true fin Q ((u,u')::zs) 0 s:=by
 cases e with
 | true=>exact aaW (he prog w _ _ (kat_yes (vS (h1 rfl) hq rfl)))
 | false=>exact aaW (he prog w _ _ (kat_no (h2 rfl)))
inductive Hd where
 | t | i | x
noncomputable def iu:D->Option Hd
 | .tup (.tup _::_)=>some .t
 | .tup (.int _::_)=>some .i
 | .tup (.str _::_)=>some .x
 | _=>none
noncomputable def Hd.flag:Hd->Bool
 | .t=>false
 | _=>true
noncomputable def Hd.ty:Hd->Q8
 | .t=>.type "tuple"
 | .i=>.type "int"
 | .x=>.type "str"
theorem GA {x y:D}{v v':V}{u u':Q8}{k:Hd}{b:Bool}{C:Bool->Q_->Prop}{xs ys:List D}(hd:iu (.tup (x::xs))=some k) (he:iu (.tup (y::ys))=some k) (hf:k.flag=true) (h:fc x y=some b) (rd:Rep K J x v) (re:Rep K J y v') (rv:RelV v u) (rv':RelV v' u') (c:C b s):
  RA (RG prog w) A (oneLt' true u u') C E s:=by
 cases x with
 | int x=>
  cases hd
  cases y with
  | int y=>
   cases rd;cases re
   obtain ⟨tk,rfl⟩:=rv
   obtain ⟨tk',rfl⟩:=rv'
   unfold fc at h
   simp only [Tp] at h
   refine abg ?_
   rw [h];exact c
  | _=>cases he
 | str x=>
  cases hd
  cases y with
  | str y=>
   cases rd;cases re
   obtain ⟨tk,rfl⟩:=rv
   obtain ⟨tk',rfl⟩:=rv'
   unfold fc at h
   simp only [Tp] at h
   refine oneLt_str ?_
   rw [h];exact c
  | _=>cases he
 | tup _=>cases hd;cases hf
 | _=>cases hd
theorem Ba (F:HF K J s){d e:D}{v v':V}{u u':Q8}{k:Hd}{b:Bool}{C:Bool->Q_->Prop}(hd:iu d=some k) (he:iu e=some k) (h:fc d e=some b) (rd:Rep K J d v) (re:Rep K J e v') (rv:RelV v u) (rv':RelV v' u')
  (hu:A.units + dep d < S6) (k1:dep d<=1000) (k2:dep e<=1000) (c:C b s):RA (RG prog w) A (keyLt' (abH k.flag) u u') C E s:=by
 cases d with
 | tup ds=>
  cases e with
  | tup es=>
   unfold fc at h
   simp only at h
   cases rd with
   | tup h1 hs=>
    cases re with
    | tup h2 hs'=>
     cases rv;cases rv'
     obtain ⟨QX,r,p⟩:=F.t _ _ h1
     obtain ⟨its',r',p'⟩:=F.t _ _ h2
     obtain ⟨o,ho,hc,m,dm⟩:=id p
     obtain ⟨o',ho',hc',m',dm'⟩:=id p'
     refine kat_lt ho dm ho' dm' ?_
     simp only [Ro]
     cases hf:k.flag with
     | false=>
      exact vS (xM F ds A (n1:=QX.length) (n2:=its'.length) h hs hs' r r' (by unfold dep at hu;omega) (by unfold dep at k1;omega) (by unfold dep at k2;omega) (by omega)) c rfl
     | true=>
      cases hs with
      | nil=>cases hd
      | cons q1 t1=>
       cases hs' with
       | nil=>cases he
       | cons q2 t2=>
        cases r with
        | cons a1 b1=>
         cases r' with
         | cons a2 b2=>
          unfold dep deps at hu k1 k2
          rw [WG]
          unfold j5 at h
          simp only at h
          refine Jl (ans:=b) (ng F A q1 q2 a1 a2 (by omega) (by omega) (by omega)) (λz=>?_) (λz=>?_) c
          ·rw [z,if_pos rfl] at h
           exact xM F _ A h t1 t2 b1 b2 (by omega) (by omega) (by omega) (by simp;omega)
          ·rw [z,if_neg RV] at h
           exact GA hd he hf h q1 q2 a1 a2 c
  | _=>cases he
 | _=>cases hd
noncomputable def iE (k:Hd):List D->Bool
 | []=>true
 | d::r=>(match iu d,k with
  | some .t,.t=>true
  | some .i,.i=>true
  | some .x,.x=>true
  | _,_=>false) && iE k r
theorem jO {k:Hd}:∀{ds:List D},iE k ds=true->∀d∈ds,iu d=some k
 | [],_,_,hm=>nomatch hm
 | x::r,h,d,hm=>by
  unfold iE at h
  rw [Ri] at h
  rcases Rt.mp hm with rfl | hm
  ·cases q:iu d with
   | none=>rw [q] at h;cases h.1
   | some k'=>rw [q] at h;cases k' <;> cases k <;> first | rfl | cases h.1
  ·exact jO h.2 d hm
theorem D7 (F:HF K J s){d:D}{v:V}{u:Q8}{k:Hd}(hd:iu d=some k) (rd:Rep K J d v) (rv:RelV v u):∃a o xs n f,u=.ref a/\s.heap.get? a=some o/\o.cls=.type "tuple"/\o.data=.seq xs n/\xs[0]?=some f/\Looks (RG prog w) s.heap (typeOf f) k.ty:=by
 cases d with
 | tup ds=>
  cases rd with
  | tup h1 hs=>
   cases rv
   obtain ⟨QX,r,p⟩:=F.t _ _ h1
   obtain ⟨o,ho,hc,m,dm⟩:=id p
   cases hs with
   | nil=>cases hd
   | cons q1 t1=>
    cases r with
    | cons a1 b1=>
     refine ⟨_,o,_,m,_,rfl,ho,hc,dm,rfl,?_⟩
     rename_i x v' ds' vs' u us
     cases x with
     | tup _=>
      cases hd
      cases q1 with
      | tup h2 _=>
       cases a1
       obtain ⟨its2,_,p2⟩:=F.t _ _ h2
       obtain ⟨o2,ho2,hc2,_,_⟩:=id p2
       have:=(Looks.ld (M:=RG prog w) (part:=none) ho2).andThen (f:=λo=>pure o.cls) (b:=o2.cls) .now
       rw [hc2] at this
       exact this
     | int _=>
      cases hd
      cases q1
      obtain ⟨tk,rfl⟩:=a1
      exact .now
     | str _=>
      cases hd
      cases q1
      obtain ⟨tk,rfl⟩:=a1
      exact .now
     | _=>cases hd
 | _=>cases hd
theorem tF (F:HF K J s){k:Hd}:∀{ds:List D}{vs:List V}{us:List Q8},iE k ds=true->aJ K J ds vs->Vals vs us->∃fs,KatTups s.heap us fs/\fs.length=us.length/\∀v∈fs,Looks (RG prog w) s.heap (typeOf v) k.ty
 | _,_,_,_,.nil,.nil=>⟨[],trivial,rfl,λ_ h=>nomatch h⟩
 | d::ds,_,_,h,.cons q rs,.cons a b=>by
  have hd:=jO h d (Rf ..)
  unfold iE at h
  rw [Ri] at h
  obtain ⟨fs,h1,h2,h3⟩:=tF F h.2 rs b
  obtain ⟨p,o,xs,n,f,rfl,e1,e2,e3,e4,e5⟩:=D7 (prog:=prog) (w:=w) F hd q a
  refine ⟨f::fs,⟨⟨p,o,xs,n,rfl,e1,e2,e3,e4⟩,h1⟩,by simp [h2],λv hv=>?_⟩
  rcases Rt.mp hv with rfl | hv
  ·exact e5
  ·exact h3 v hv
theorem IZ (k:Hd):(k.ty != Ul "tuple")=k.flag:=by cases k <;> decide
theorem vU (F:HF K J s){k:Hd}{ds:List D}{vs:List V}{us:List Q8}(h:iE k ds=true) (rs:aJ K J ds vs) (rv:Vals vs us) (hl:0 < us.length){C:aaU->Q_->Prop}(c:C (abH k.flag) s):RA (RG prog w) A (aaV us.toArray) C E s:=by
 obtain ⟨fs,h1,h2,h3⟩:=tF (prog:=prog) (w:=w) F h rs rv
 refine kat_kind h1 (by omega) h3 (by cases k <;> decide) ?_
 rw [IZ]
 exact c
end
end DL
namespace DL
open PySem PySem.Spec PyProof.Rows L2
open PySem.W (KasT kas_sort kas_ask)
section
variable {prog:Rz}{w:RZ}{A:R4}{E:Q8->Q_->Prop}{s:Q_}
theorem tM {a:Rq}{vs:List Q8}{n:Nat}{P:ab4->Q_->Prop}(ho:s.heap.get? a=some (TL "list" vs.toArray n)) (h2:vs.length < 2)
  (h:P (.done (.ret .none)) {s with heap:=aaB s.heap a vs vs.toArray}):RA (RG prog w) A (U3.«list.sort» ⟨[.ref a],[]⟩) P E s:=by
 have sl:vs.length<=sizeLine:=by rw [Sh];omega
 obtain ⟨e1,g1⟩:∃e1,(s.heap.update a (SX λ_=>(#[]:Array Q8))).get? a=some (TL "list" #[] e1):=⟨_,(ZS ho λ_=>#[])⟩
 have g3:(((s.heap.update a (SX λ_=>(#[]:Array Q8))).push (TL "tuple" vs.toArray 0)).push (TL "list" #[] 0)).get? a=some (TL "list" #[] e1):=(Rc _ ((Rc _ g1)))
 rw [ZT]
 refine Q6 ((listItems_at ho rfl ?_))
 refine Q6 (Xi ho rfl ?_ (by rw [Ro];exact sl) (RL _))
 refine Q6 ((Yv g1 rfl ?_))
 refine Q6 (aag ?_ (show vs.length<=_ from sl))
 refine Q6 ((Wf ?_ (RL _)))
 refine (RU ?_)
 dsimp only
 have n2:vs.toArray.size < 2:=by (rw [Ro]);omega
 rw [if_pos n2,if_pos n2]
 refine (Q6 (Q9 ?_))
 rw [StateT.run_pure]
 refine (Q6 (Q9 ?_))
 dsimp only
 have ou:(arrOf (SortSt.mk' general' (vs.toArray.zip vs.toArray) #[] 7 none)).map (·.2)=vs.toArray:=by
  show (vs.toArray.zip vs.toArray).map (·.2)=vs.toArray
  match vs,h2 with
  | [],_=>simp
  | [_],_=>simp
 rw [ou]
 refine Q6 ((Yv g3 rfl ?_))
 refine Q6 (Xi g3 rfl ?_ (RL _) (by rw [Ro];omega))
 simp only [bne_self_eq_false,Ry,if_false]
 exact Q9 h
theorem Br {l:Rq}{vs:List Q8}{Q:Q8->Q_->Prop}(hl:s.heap.IsList l vs.toArray) (h2:vs.length < 2)
  (h:Q (.ref (s.heap.objs.size + 1)) {s with heap:=YO s.heap vs vs.toArray}):RA (RG prog w) A (call (.builtin "sorted") [.ref l]) Q E s:=by
 have sl:vs.length<=sizeLine:=by rw [Sh];omega
 refine (Va ZU Zo Zp (Zq _) ?_)
 unfold U3.«sorted»
 refine Q6 (m:=aaC "sorted" 1 1 _) ((Q9 ?_))
 refine Q6 (collect_list hl ?_ sl)
 refine Q6 (Wf ?_ sl)
 have z:((s.heap.push (TL "list" #[] 0)).update s.heap.objs.size (SX (·++vs.toArray))).objs.size=s.heap.objs.size + 1:=(by rw [Xs,size_push'])
 have gL:(((s.heap.push (TL "list" #[] 0)).update s.heap.objs.size (SX (·++vs.toArray))).push (TL "list" vs.toArray 0)).get? (s.heap.objs.size + 1)=some (TL "list" vs.toArray 0):=(by rw [<-z];exact Rn _ rfl)
 dsimp only
 rw [z]
 refine Q6 (RU (Sb WM ⟨_,gL,rfl⟩ Wo (tM gL h2 ⟨_,rfl,?_⟩) (WN _)))
 exact Q9 ⟨_,rfl,h⟩
end
def dO (ds:List D) (i:Nat):D:=ds.getD i .non
def ltB (ds:List D) (i j:Nat):Bool:=(fc (dO ds i) (dO ds j)).getD false
def cg (ds:List D):List D:=if ds.length < 2 then ds else (bh (ltB ds) (T6 ds.length)).toList.map (dO ds)
def DK (ds:List D):Bool:=ds.all λx=>ds.all λy=>(fc x y).isSome
noncomputable def LQ (ds:List D):Bool:=match ds with
 | []=>false
 | d::_=>match iu d with
  | some k=>iE k ds
  | none=>false
def H_ (ds:List D):Bool:=decide (ds.length < 2) || (decide (ds.length < 64) && (decide (deps ds<=60) && (LQ ds && DK ds)))
section
variable {K:Q7}{J:Hp}
theorem fH {ds:List D}{vs:List V}(h:aJ K J ds vs):∀{i:Nat},i < ds.length->Rep K J (dO ds i) (vs.getD i V.non):=by
 induction ds generalizing vs with
 | nil=>intro i hi;exact absurd hi (So _)
 | cons x r ih=>
  intro i hi
  cases h with
  | cons q rs=>
   cases i with
   | zero=>simpa [dO] using q
   | succ i=>simpa [dO] using ih rs (i:=i) (by simpa using hi)
theorem fJ {vs:List V}{us:List Q8}(h:Vals vs us):∀{i:Nat},i < vs.length->RelV (vs.getD i V.non) (us.getD i R7):=by
 induction vs generalizing us with
 | nil=>intro i hi;exact absurd hi (So _)
 | cons x r ih=>
  intro i hi
  cases h with
  | cons q rs=>
   cases i with
   | zero=>simpa using q
   | succ i=>simpa using ih rs (i:=i) (by simpa using hi)
theorem nE {ds:List D}{vs:List V}(h:aJ K J ds vs):∀ix:List Nat,(∀i∈ix,i < ds.length)->aJ K J (ix.map (dO ds)) (ix.map λi=>vs.getD i V.non)
 | [],_=>.nil
 | i::r,hi=>.cons (fH h (hi i (Rf ..))) (nE h r λj hj=>hi j (Rb _ hj))
theorem nK {vs:List V}{us:List Q8}(h:Vals vs us):∀ix:List Nat,(∀i∈ix,i < vs.length)->Vals (ix.map λi=>vs.getD i V.non) (ix.map λi=>us.getD i R7)
 | [],_=>.nil
 | i::r,hi=>.cons (fJ h (hi i (Rf ..))) (nK h r λj hj=>hi j (Rb _ hj))
theorem A2 {ds:List D}:∀{i:Nat},i < ds.length->dep (dO ds i)<=deps ds:=by
 induction ds with
 | nil=>intro i hi;exact absurd hi (So _)
 | cons x r ih=>
  intro i hi
  unfold deps
  cases i with
  | zero=>show dep x<=_;omega
  | succ i=>
   have:=ih (i:=i) (by simpa using hi)
   have e:dO (x::r) (i + 1)=dO r i:=rfl
   rw [e];omega
theorem fP {ds:List D}{i:Nat}(hi:i < ds.length):dO ds i∈ds:=by
 have e:dO ds i=ds[i]:=by simp [dO,hi]
 rw [e];exact SH hi
theorem HF.keeps {s:Q_}{h':SM}(F:HF K J s) (k:∀b o,s.heap.get? b=some o->h'.get? b=some o):HF K J {s with heap:=h'}:=
 ⟨λa xs h=>let ⟨QX,r,o,ho,q⟩:=F.t a xs h;⟨QX,r,o,k _ _ ho,q⟩,λa xs h=>let ⟨QX,r,o,ho,q⟩:=F.l a xs h;⟨QX,r,o,k _ _ ho,q⟩,λa h=>let ⟨o,ho,q⟩:=F.e a h;⟨o,k _ _ ho,q⟩,λa ep Q4 h=>let ⟨o,es,ho,q⟩:=F.d a ep Q4 h;⟨o,es,k _ _ ho,q⟩⟩
end
section
variable {X:Cx}{c:C}{e:RX}{es:List RX}{pos:Pos}
theorem yD (hu:X.A.units + 64 < S6):b8 X (.builtin "sorted") (λxs H Q=>∃p vs ds,xs=[.ref p]/\dw X.K H p vs/\aJ X.K H ds vs/\H_ ds=true/\∀l vs',H l=none->(∀J,aJ X.K J ds vs->aJ X.K J (cg ds) vs')->Q (.ref l) (upd H l (.lst vs'))):=by
 intro QV s σ H xs us Q I r h
 obtain ⟨p,vs,ds,rfl,hq,rs,ok,q⟩:=h
 obtain ⟨u,rfl,rx⟩:=vals1 r
 cases rx
 obtain ⟨QX,r',pl,hz⟩:=I.list hq
 have l1:vs.length=QX.length:=r'.length
 have l2:ds.length=vs.length:=rs.length
 have fr:H (s.heap.objs.size + 1)=none:=I.hok.fresh (To _)
 have fin:∀(out:List Q8) (vs':List V),vs'.length=vs.length->Vals vs' out->(∀J,aJ X.K J ds vs->aJ X.K J (cg ds) vs')->∃v H',Inv X QV σ H' {s with heap:=YO s.heap QX out.toArray}/\RelV v (.ref (s.heap.objs.size + 1))/\Q v H':=λout vs' lv rv rr=>by
  obtain ⟨n,hn⟩:=Zm s.heap QX out.toArray
  exact ⟨.ref (s.heap.objs.size + 1),_,I.laid (t':=s.toks) (λb o e=>YQ e) (To _) (show cM X.prog X.w _ _ _ (.lst vs') from ⟨by rw [lv];exact hz,out,n,rv,by simpa [TL] using hn⟩),rfl,q _ vs' fr rr⟩
 by_cases h2:ds.length < 2
 ·refine Br pl.isList (by omega) (fin QX vs rfl r' ?_)
  intro J rj
  unfold cg
  rw [if_pos h2]
  exact rj
 ·unfold H_ at ok
  rw [decide_eq_false h2,aaX,Ri,Ri,Ri] at ok
  obtain ⟨o1,o2,o3,o4⟩:=ok
  have o1:=of_decide_eq_true o1
  have o2:=of_decide_eq_true o2
  obtain ⟨k,hk⟩:∃k,iE k ds=true:=by
   unfold LQ at o3
   cases ds with
   | nil=>cases o3
   | cons d r=>
    simp only at o3
    cases z:iu d with
    | none=>rw [z] at o3;cases o3
    | some k=>rw [z] at o3;exact ⟨k,o3⟩
  have F:HF X.K H s:=h_ I
  have un:X.A.in1.in1.units=X.A.units + 2:=rfl
  have ib:∀i∈(bh (ltB ds) (T6 ds.length)).toList,i < ds.length:=λi hi=>by
   have:=((fU (n:=ds.length) (by omega)).run (ltB ds):fE _ _)
   have:=(UP this).mp (U5.mp hi)
   simpa using this
  refine Bs (κ:=abH k.flag) (q:=ltB ds) pl.isList (by omega) (by omega) (λh' C kp cc=>?_) (λh' kp i j C hi hj cc=>?_) ?_
  ·exact vU (F.keeps kp) hk rs r' (by omega) cc
  ·have hi':i < ds.length:=by omega
   have hj':j < ds.length:=by omega
   have hb:fc (dO ds i) (dO ds j)=some (ltB ds i j):=by
    unfold DK at o4
    have:=R0.mp (R0.mp o4 _ (fP hi')) _ (fP hj')
    unfold ltB
    cases z:fc (dO ds i) (dO ds j) with
    | none=>rw [z] at this;cases this
    | some b=>rfl
   have d1:=A2 hi'
   have d2:=A2 hj'
   exact Ba (F.keeps kp) (jO hk _ (fP hi')) (jO hk _ (fP hj')) hb (fH rs hi') (fH rs hj') (fJ r' (by omega)) (fJ r' (by omega)) (by rw [un];omega) (by omega) (by omega) cc
  ·have e1:iL (ltB ds) QX=(bh (ltB ds) (T6 ds.length)).toList.map λi=>QX.getD i R7:=by unfold iL;rw [l2,l1]
   rw [e1]
   refine fin _ _ ?_ (nK r' _ λi hi=>l2▸ib i hi) ?_
   ·rw [Rh,<-l2]
    have:=((fU (n:=ds.length) (by omega)).run (ltB ds):fE _ _).size_eq
    simpa using this
   ·intro J rj
    unfold cg
    rw [if_neg h2]
    exact nE rj _ ib
end
end DL
namespace DL
open PySem PySem.Spec PyProof.Rows L2
section
variable {X:Cx}{c:C}{e:RX}{g:G R}{pos:Pos}
noncomputable def uR (i:Nat) (f:R->R->M R) (g:G R):G O:=λenv=>match env[i]? with
 | some (some (.d d))=>g env >>= λy=>f (.d d) y >>= λz=>toS z >>= λx=>.ok (.nx (env.set i (some x)))
 | _=>.bad
theorem JD (i:Nat){x:Str}{pos':Pos}{op:YB}{r:R2}{f:R->R->M R}(hN:X.N.Nodup) (ho:dZ X (XN op) r) (hb:BD c r f) (h:PD X c e g) (hi:X.N[i]?=some x:=by rfl) (hx:Loc X.env.scope x:=by first | exact WE rfl | exact Vy rfl)
  (hf:X.fn x=true\/X.env.scope.names.lookup x=some .local:=by first | exact .inl rfl | exact .inr rfl):AO X c (.AugAssign (.Name x pos') op e pos) (uR i f g):=
 jo (Mj hN hi hx h (λQV s σ H x y v u Q I rx ry q=>Oh ho I rx ry q) hf) λE σ H ⟨J,env,sr,w⟩=>by
 unfold uR at w
 split at w
 ·rename_i d hd
  obtain ⟨v,h1,h2⟩:=sr.at_ i _ hd
  refine ⟨v,h1,J,env,sr,aG (aM w) λy wr v' J1 H1 e1 r1=>?_⟩
  have sr1:=sr.ext e1
  refine hb H H J1 H1 (.d d) y v v' _ sr1.hp (Rep.mono e1.j h2) r1 (aG (aM wr) λz wz w' J2 H2 e2 r2=>?_)
  obtain ⟨x,q,wz⟩:=nL wz
  exact wz (σ.set i (some w')) J2 H2 (e1.j.trans e2.j) (sr1.set e2 r2 q)
 ·exact w.elim
end
end DL
namespace DL
open PySem PySem.Spec PyProof.Rows L2 DX
section
variable {M:abT}{A:R4}{E:Q8->Q_->Prop}{s:Q_}
theorem Ct {QU:T7}{globals:Rq}{closure:List (Str×Rq)}{Q2:Str}{func:Option Rq}{code:Q8}{outer:Env}{builtins:Rq}{Q:Env->Q_->Prop}
  (hQ:Q (newEnv QU s.heap.objs.size globals (Sj (s.heap.objs.size + 1) QU.names closure) Q2 func code (some outer) builtins) {s with heap:=ZV (s.heap.push {cls:=.type "dict",data:=.dict #[]}) QU.names}):
  RA M A (aah QU globals closure [] Q2 func code (some outer) builtins) Q E s:=by
 simp only [aah,Option.isSome_some,if_true]
 refine Q6 (wpAny_alloc ?_)
 refine Q6 (wpAny_layCells _ (λname kind cells=>by cases hkc:kind == Vx <;> simp [hkc]) _ _ _ _ ?_)
 rw [show ({s with heap:=s.heap.push {cls:=.type "dict",data:=.dict #[]}}:Q_).heap.objs.size=s.heap.objs.size + 1 from Uh ..]
 simp only [List.forIn_nil]
 exact Q6 (Q9 (Q9 hQ))
theorem jC:∀(names:List (Str×Tt)) (n:Nat) (acc:List (Str×Rq)) (x:Str),(∀y∈names,y.2=.cell->y.1≠x)->(Sj n names acc).lookup x=acc.lookup x
 | [],_,_,_,_=>by unfold Sj;rfl
 | (y,k)::r,n,acc,x,h=>by
  have hr:∀z∈r,z.2=.cell->z.1≠x:=λz hz=>h z (Rb _ hz)
  unfold Sj
  split
  ·rename_i hk
   rw [jC r _ _ x hr]
   have hy:y≠x:=h (y,k) (Rf ..) (by simpa using hk)
   have:(x == y)=false:=by
    cases q:x == y with
    | false=>rfl
    | true=>exact absurd (eq_of_beq q).symm hy
   rw [SQ,this]
  ·exact jC r _ _ x hr
end
theorem wY:∀(names:List (Str×Tt)) (n:Nat) (acc:List (Str×Rq)),Sj n names acc=Sj n names []++acc:=by
 intro names
 suffices ∀(n:Nat) (a b:List (Str×Rq)),Sj n names (a++b)=Sj n names a++b by
  intro n acc
  exact this n [] acc
 induction names with
 | nil=>intro n a b;unfold Sj;rfl
 | cons p r ih=>
  obtain ⟨y,k⟩:=p
  intro n a b
  unfold Sj
  split
  ·exact ih _ (_::a) b
  ·exact ih _ a b
def dX (names:List (Str×Tt)) (x:Str):Bool:=names.any λy=>y.1 == x && y.2 == .cell
theorem gK:∀(names:List (Str×Tt)) (n:Nat) (acc:List (Str×Rq)) (x:Str),((acc.lookup x).isSome=true\/dX names x=true)->((Sj n names acc).lookup x).isSome=true
 | [],_,_,_,h=>by
  unfold Sj
  rcases h with h | h
  ·exact h
  ·cases h
 | (y,k)::r,n,acc,x,h=>by
  unfold Sj
  have e:dX ((y,k)::r) x=((y == x && k == .cell) || dX r x):=rfl
  rw [e] at h
  split
  ·rename_i hk
   refine gK r _ _ x ?_
   by_cases hx:x=y
   ·left;subst hx;rw [SQ];simp
   ·rcases h with h | h
    ·left
     rw [SQ]
     cases q:x == y with
     | true=>exact absurd (eq_of_beq q) hx
     | false=>exact h
    ·rw [TX,Ri] at h
     rcases h with h | h
     ·exact absurd (eq_of_beq h.1).symm hx
     ·exact .inr h
  ·rename_i hk
   refine gK r _ _ x ?_
   rcases h with h | h
   ·exact .inl h
   ·rw [TX,Ri] at h
    rcases h with h | h
    ·exact absurd h.2 hk
    ·exact .inr h
theorem gy {names:List (Str×Tt)}{n:Nat}{cl:List (Str×Rq)}{x:Str}{d:Rq}(h:(Sj n names cl).lookup x=some d):
  (Sj n names []).lookup x=some d\/(dX names x=false/\cl.lookup x=some d):=by
 rw [wY,List.lookup_append] at h
 cases q:(Sj n names []).lookup x with
 | some e=>rw [q] at h;left;simpa using h
 | none=>
  rw [q] at h
  right
  refine ⟨?_,by simpa using h⟩
  cases z:dX names x with
  | false=>rfl
  | true=>
   have:=gK names n [] x (.inr z)
   rw [q] at this
   cases this
theorem o6 {QU:T7}{env:Env}{x:Str}(h:(relabel QU env).names.lookup x=some .cell\/(relabel QU env).names.lookup x=some .free):(x,SD)∈QU.names\/dX QU.names x=true:=by
 unfold relabel at h
 revert h
 generalize QU.names=names
 induction names with
 | nil=>intro h;simp at h
 | cons p r ih=>
  obtain ⟨n,k⟩:=p
  intro h
  rw [Rv] at h
  simp only at h
  by_cases hx:x=n
  ·subst hx
   cases k with
   | free=>exact .inl (Rf ..)
   | cell=>right;unfold dX;simp
   | _=>simp [SQ] at h
  ·have e:(x == n)=false:=by simpa using hx
   have h':(r.map λ(n,k)=>if (k == SD && env.scope.kind == .function && env.kindOf n == some .cell) then (n,Vx) else (n,k)).lookup x=some .cell\/(r.map λ(n,k)=>if (k == SD && env.scope.kind == .function && env.kindOf n == some .cell) then (n,Vx) else (n,k)).lookup x=some .free:=by
    split at h <;> simpa [SQ,e] using h
   rcases ih h' with z | z
   ·exact .inl (Rb _ z)
   ·right
    unfold dX at z ⊢
    rw [We,z,Bool.or_true]
section
variable {X:Cx}
noncomputable def aZ (X:Cx) (own:List Str) (cap:List Nat) (QU:T7) (cl:List (Str×Rq)) (C:Rq) (s:Q_) (H:Hp) (fp:List Rq):Cx:=
 {Lb X own cap QU (Sj (C + 1) QU.names cl) C s H fp with fn:=dX QU.names}
theorem IU {QV:List (Rq×Obj)}{σ:L2.St}{H:Hp}{s:Q_}{own:List Str}{cap:List Nat}{QU:T7}{cl:List (Str×Rq)}{fp:List Rq}{h1:SM}(I:Inv X QV σ H s) (hk:QU.kind=.function)
  (hcl:bH X.env.cells QU.names []=some cl) (ck:abI h1 (s.heap.objs.size + 1) (Sj (s.heap.objs.size + 1) QU.names [])) (hfp:∀b∈fp,jX X QV H b) (hin:∀b∈fp,b < s.heap.objs.size):(aZ X own cap QU cl s.heap.objs.size s H fp).Ok:=by
 obtain ⟨m1,m2⟩:=gY QU.names [] cl hcl (λx c h=>by simp at h)
 have lo:∀{x:Str}{d:Rq},(Sj (s.heap.objs.size + 1) QU.names []).lookup x=some d->s.heap.objs.size + 1<=d:=fun {x d} h=>(ck.empty _ _ (Vz h)).2
 have old:∀{x:Str}{d:Rq},cl.lookup x=some d->d < s.heap.objs.size:=fun {x d} h=>by
  obtain ⟨v,z⟩:=I.cell x d (m1 x d h)
  exact z.lt
 refine ⟨I.ok.mod,hk,I.ok.glob,I.ok.blt,Rj _,λx y d h1 h2=>?_,λx hx=>?_,λx d hf h=>?_,λhc=>I.ok.hd hc,I.ok.frames,.inl rfl,λb hb=>⟨RE (hin b hb),λx d h=>?_⟩,
  I.bs,RS I.ok.bsz I.sz,λb o h hb=>?_,λb hb hf=>?_,I.stack,I.stkFree⟩
 ·rcases gy h1 with h1 | ⟨_,h1⟩
  ·rcases gy h2 with h2 | ⟨_,h2⟩
   ·exact name_of_addr ck.apart (Vz h1) (Vz h2)
   ·exact absurd (RC (old h2) (Uv (lo h1))) (Tr _)
  ·rcases gy h2 with h2 | ⟨_,h2⟩
   ·exact absurd (RC (old h1) (Uv (lo h2))) (Tr _)
   ·exact I.ok.inj x y d (m1 x d h1) (m1 y d h2)
 ·refine SE.mp (gK _ _ _ x ?_)
  rcases o6 hx with z | z
  ·exact .inl (m2 x (.inr z))
  ·exact .inr z
 ·rcases gy h with h | ⟨z,h⟩
  ·exact Uv (lo h)
  ·have hf':dX QU.names x=true:=hf
   rw [z] at hf'
   cases hf'
 ·rcases gy h with h | ⟨_,h⟩
  ·exact Ux (RC (hin b hb) (Uv (lo h)))
  ·exact (hfp b hb).2.2.2.2.1 x d (m1 x d h)
 ·rcases (hfp b hb).2.2.2.1 with z | z
  ·exact I.ok.noex b o h z
  ·exact absurd (RC (Ru (I.ok.bs b o h).1) z) (Tr _)
 ·rcases Rt.mp (I.stkSub b hf) with e | e
  ·exact (hfp b hb).2.1 e
  ·exact (hfp b hb).2.2.1 e
end
theorem zf {names:List (Str×Tt)}{n:Nat}{cl:List (Str×Rq)}{x:Str}(h:dX names x=false):(Sj n names cl).lookup x=cl.lookup x:=
 jC names n cl x λy hy hk e=>by
  unfold dX at h
  have:=List.any_eq_false.mp h y hy
  simp [hk,e] at this
section
variable {X:Cx}
theorem FN {QV:List (Rq×Obj)}{σ:L2.St}{H:Hp}{s:Q_}{own:List Str}{cap:List Nat}{QU:T7}{cl:List (Str×Rq)}{fp:List Rq}{h1:SM}{m:Str->Option Q8}{tk:Nat}(I:Inv X QV σ H s) (ok:(aZ X own cap QU cl s.heap.objs.size s H fp).Ok)
  (hcl:bH X.env.cells QU.names []=some cl) (ck:abI h1 (s.heap.objs.size + 1) (Sj (s.heap.objs.size + 1) QU.names [])) (hcap:eK X cap=true) (Pj:∀j∈cap,∀x,X.N[j]?=some x->(relabel QU X.env).names.lookup x≠some .local)
  (hno:∀j∈cap,∀x,X.N[j]?=some x->dX QU.names x=false) (hns:h1.Ns s.heap.objs.size m) (old:∀b o,s.heap.get? b=some o->h1.get? b=some o):
  Inv (aZ X own cap QU cl s.heap.objs.size s H fp) [] (R5 own.length none++cap.map λ(j:Nat)=>(σ[j]?).getD none) H {s with heap:=h1,toks:=tk}:=by
 obtain ⟨m1,m2⟩:=gY QU.names [] cl hcl (λx c h=>by simp at h)
 refine ⟨ok,rfl,I.bare,Un.kept old,⟨m,hns,λi x v q1 q2 q3=>?_⟩,λx d h=>?_,I.hok.fresh (Rj _),λx d h=>?_,λp hp=>absurd (show p∈([]:List (Rq×Obj)) from hp) (by simp),I.hok.kept old,?_⟩
 ·obtain ⟨j,h2,h3,h4⟩:=ki q2
  have q1':(own++cap.map λ(j:Nat)=>(X.N[j]?).getD ("":Str))[i]?=some x:=q1
  rw [SI (by exact h2),RD,h3] at q1'
  have hj:j∈cap:=SJ h3
  have hc:(match X.N[j]? with
   | some x=>(match X.env.scope.names.lookup x with
    | some .cell=>true
    | some .free=>true
    | _=>false)
   | none=>false)=true:=by
   unfold eK at hcap
   exact R0.mp hcap j hj
  cases hx:X.N[j]? with
  | none=>rw [hx] at hc;cases hc
  | some y=>
   rw [ZP,hx] at q1'
   rw [hx] at hc
   have e:y=x:=by simpa using q1'
   subst e
   have kd:X.env.kindOf y=some .cell\/X.env.kindOf y=some .free:=by
    unfold abV
    simp only at hc
    split at hc
    ·rename_i z;exact .inl z
    ·rename_i z;exact .inr z
    ·cases hc
   obtain ⟨mX,nX,lX⟩:=I.loc
   obtain ⟨u,ru,lu⟩:=lX j y v hx h4 (kd.elim (λz=>.inr (.inl z)) λz=>.inr (.inr z))
   refine ⟨u,ru,.inr ?_⟩
   have kd':(relabel QU X.env).names.lookup y=some .cell\/(relabel QU X.env).names.lookup y=some .free:=by
    rcases q3 with z | z | z
    ·exact absurd z (Pj j hj y hx)
    ·exact .inl z
    ·exact .inr z
   refine ⟨kd',?_⟩
   have no:=hno j hj y hx
   have fr:(y,SD)∈QU.names:=by
    rcases o6 kd' with z | z
    ·exact z
    ·rw [no] at z;cases z
   obtain ⟨d,hd⟩:=SE.mp (m2 y (.inr fr))
   refine ⟨d,(zf no).trans hd,?_⟩
   rcases lu with ⟨z,_⟩ | ⟨_,d',hd',z⟩
   ·rcases kd with k | k <;> (rw [k] at z;cases z)
   ·have:=m1 y d hd
    rw [hd'] at this
    cases this
    obtain ⟨o,ho,hod⟩:=z
    exact ⟨o,old _ _ ho,hod⟩
 ·rcases gy h with h | ⟨_,h⟩
  ·exact ⟨none,(ck.empty _ _ (Vz h)).1⟩
  ·obtain ⟨v,o,ho,hod⟩:=I.cell x d (m1 x d h)
   exact ⟨v,o,old _ _ ho,hod⟩
 ·rcases gy h with h | ⟨_,h⟩
  ·exact I.hok.fresh (Uv (ck.empty _ _ (Vz h)).2)
  ·exact I.freeC x d (m1 x d h)
 ·show _=(own++cap.map λ(j:Nat)=>(X.N[j]?).getD ("":Str)).length
  simp
end
theorem LO (h:SM) (names:List (Str×Tt)):(ZV (h.push {cls:=.type "dict",data:=.dict #[]}) names).Ns h.objs.size (λ_=>none):=
 (Heap.Ns.new h (.type "dict")).keeps λb o e=>ZW _ _ _ _ e
theorem DG (h:SM) (names:List (Str×Tt)):abI (ZV (h.push {cls:=.type "dict",data:=.dict #[]}) names) (h.objs.size + 1) (Sj (h.objs.size + 1) names []):=by
 have:=cellsFrom_ok names (h.push {cls:=.type "dict",data:=.dict #[]}) (h.objs.size + 1) [] ⟨λ_ _ hm=>(nomatch hm),UW⟩ (by rw [Uh];exact Rj _)
 rw [Uh] at this
 exact this
noncomputable def fV (X:Cx) (cap:List Nat) (QU:T7):Bool:=cap.all λj=>match X.N[j]? with
 | some x=>!dX QU.names x
 | none=>true
section
variable {X:Cx}{c:C}
theorem m9 {cells:List (Str×Rq)}{names names2:List (Str×Tt)}{cl:List (Str×Rq)}{n:Nat}(h:bH cells names []=some cl)
  (hn:(names2.all λy=>!(y.2 == .free) || ((names.any λz=>z.1 == y.1 && z.2 == .free) || dX names y.1))=true):(bH (Sj n names cl) names2 []).isSome=true:=by
 obtain ⟨_,m2⟩:=gY names [] cl h (λx c h=>by simp at h)
 have go:∀(l:List (Str×Tt)) (cs:List (Str×Rq)),(l.all λy=>!(y.2 == .free) || ((names.any λz=>z.1 == y.1 && z.2 == .free) || dX names y.1))=true->(bH (Sj n names cl) l cs).isSome=true:=by
  intro l
  induction l with
  | nil=>intro cs _;rfl
  | cons y r ih=>
   obtain ⟨y,k⟩:=y
   intro cs hl
   rw [UC,Ri] at hl
   unfold bH
   split
   ·rename_i hk
    have h1:=hl.1
    simp only [hk,TN,aaX,TX] at h1
    have:((Sj n names cl).lookup y).isSome=true:=by
     refine gK names n cl y ?_
     rcases h1 with z | z
     ·obtain ⟨q,hq,e⟩:=SS.mp z
      rw [Ri] at e
      have e1:q=(y,SD):=by
       obtain ⟨q1,q2⟩:=q
       have a1:q1=y:=eq_of_beq e.1
       have a2:q2=SD:=by simpa using e.2
       rw [a1,a2]
      exact .inl (m2 y (.inr (e1▸hq)))
     ·exact .inr z
    obtain ⟨a,ha⟩:=SE.mp this
    rw [ha]
    exact ih _ hl.2
   ·exact ih _ hl.2
 exact go names2 [] hn
end
section
variable {X:Cx}{c:C}{e:RX}{es:List RX}{g:G R}{pos:Pos}
theorem EO (i:Nat){x:Str}{pos':Pos}(hN:X.N.Nodup) (h:QD X c e g) (hi:X.N[i]?=some x:=by rfl) (hx:Loc X.env.scope x:=by first | exact WE rfl | exact Vy rfl) (hf:X.fn x=true\/X.env.scope.names.lookup x=some .local:=by first | exact .inl rfl | exact .inr rfl):
  jc X c (.AugAssign (.Name x pos') .Add e pos) (uR i yP g):=have h:=h.h;⟨JD i hN Jc (gV λ_ _ _=>.int _) h hi hx hf⟩
end
end DL
namespace K51
open PySem DL
end K51
namespace WP
open PySem DL K01
def Wp {α:Type}(m:M α) (P:α->Prop):Prop:=∃a,m=.ok a/\P a
section
variable {α β:Type}{m:M α}{P P':α->Prop}{a:α}{env:Ev}{Q:O->Prop}{t u:G O}{g:G R}{r r':R}{i:Nat}{b:G Bool}
theorem Wp.mono (h:Wp m P) (k:∀a,P a->P' a):Wp m P':=let ⟨a,h1,h2⟩:=h;⟨a,h1,k a h2⟩
theorem Wp.eq (h:Wp m (·=a)):m=.ok a:=let ⟨_,h1,h2⟩:=h;h2▸h1
theorem Dd {P:R->Prop}(h:Wp (t env) λo=>∃r,o=.rt r/\P r):Wp (fin (t env)) P:=by
 obtain ⟨_,h1,r,rfl,h2⟩:=h
 exact ⟨r,by rw [h1];rfl,h2⟩
theorem qo (h:Wp (t env) λo=>∃e,o=.nx e):fin (t env)=.ok (.d .non):=by
 obtain ⟨_,h1,r,rfl⟩:=h
 rw [h1];rfl
theorem cV (h:Wp (t env) (·=.rt r)):fin (t env)=.ok r:=by
 rw [h.eq];rfl
theorem fN (h:Wp (t env) λo=>match o with
 | .nx e=>Wp (u e) Q
 | o=>Q o):Wp (aC t u env) Q:=by
 obtain ⟨o,h1,h2⟩:=h
 show Wp (t env >>= _) Q
 rw [h1]
 cases o with
 | nx e=>exact h2
 | rt r=>exact ⟨_,rfl,h2⟩
 | bk e=>exact ⟨_,rfl,h2⟩
 | ct e=>exact ⟨_,rfl,h2⟩
theorem qF {x:S}(h:g env=.ok r) (h2:toS r=.ok x) (k:Q (.nx (env.set i (some x)))):Wp (aN i g env) Q:=⟨_,by show (g env >>= _)=_;rw [h,aL,h2];rfl,k⟩
theorem cH {x:S}(h:g env=.ok r) (h2:toS r=.ok x) (k:Wp (u (env.set i (some x))) Q):Wp (aC (aN i g) u env) Q:=fN (qF h h2 k)
theorem dg (h:g env=.ok r) (h2:rF r=.ok r') (k:Q (.rt r')):Wp (aO g env) Q:=⟨_,zF h h2,k⟩
theorem jl (k:Q (.nx env)):Wp (bF env) Q:=⟨_,rfl,k⟩
theorem OE (k:Wp (u env) Q):Wp (aC bF u env) Q:=fN (jl k)
theorem tK (h:b env=.ok true) (k:Wp (t env) Q):Wp (aY b t u env) Q:=by rw [nk h];exact k
theorem oh (h:b env=.ok false) (k:Wp (u env) Q):Wp (aY b t u env) Q:=by rw [jR h];exact k
theorem zc {c:Bool}(h:b env=.ok c) (k1:c=true->Wp (t env) Q) (k2:c=false->Wp (u env) Q):Wp (aY b t u env) Q:=by
 cases c with
 | true=>exact tK h (k1 rfl)
 | false=>exact oh h (k2 rfl)
theorem OD {v:G O}(h:b env=.ok false) (k:Wp (aC u v env) Q):Wp (aC (aY b t u) v env) Q:=by
 have:aC (aY b t u) v env=aC u v env:=by unfold aC;rw [jR h]
 rw [this];exact k
theorem iD {v:G O}(h:b env=.ok false) (k:Wp (v env) Q):Wp (aC (aY b t bF) v env) Q:=OD h (OE k)
theorem xK {xs:List D}{d:D}(h0:env[i]?=some (some (.own xs))) (h:g env=.ok r) (h2:toD r=.ok d) (hl:xs.length<=1000) (k:Q (.nx (env.set i (some (.own (xs++[d])))))):Wp (eE i g env) Q:=by
 refine ⟨_,?_,k⟩
 unfold eE
 rw [h0]
 show (g env >>= _)=_
 rw [h,aL,h2,aL,if_pos (YR hl (by decide))]
theorem NI {xs:List D}{d:D}(h0:env[i]?=some (some (.own xs))) (h:g env=.ok r) (h2:toD r=.ok d) (hl:xs.length<=1000) (k:Wp (u (env.set i (some (.own (xs++[d]))))) Q):Wp (aC (eE i g) u env) Q:=fN (xK h0 h h2 hl k)
theorem qE {gi:G (List D)}{tg:GT}{ds:List D}(h:gi env=.ok ds) (k:Wp (e_ tg u ds env) Q):Wp (eV gi tg u env) Q:=by rw [kU h];exact k
theorem lW {gi:G (List D)}{tg:GT}{ds:List D}{v:G O}(h:gi env=.ok ds) (k:Wp (e_ tg t ds env) λo=>match o with
 | .nx e=>Wp (v e) Q
 | o=>Q o):Wp (aC (eV gi tg t) v env) Q:=fN (qE h k)
theorem qp {tg:GT}(I:Nat->Ev->Prop) (ds:List D) (h0:I 0 env) (step:∀(k:Nat) (hk:k < ds.length) (env:Ev),I k env->∃e,tg ds[k] env=.ok e/\Wp (u e) λo=>∃e,o=.nx e/\I (k + 1) e)
  (k:∀e,I ds.length e->Q (.nx e)):Wp (e_ tg u ds env) Q:=by
 have key:∀(es:List D) (i:Nat) (env:Ev),ds.drop i=es->i<=ds.length->I i env->Wp (e_ tg u es env) Q:=by
  intro es
  induction es with
  | nil=>
   intro i env hd hi hI
   have:i=ds.length:=by
    have:=congrArg Xd hd
    rw [UH] at this
    simp at this;omega
   subst this
   exact ⟨_,rfl,k _ hI⟩
  | cons d es ih=>
   intro i env hd hi hI
   have hlt:i < ds.length:=by
    have:=congrArg Xd hd
    rw [UH] at this
    simp at this;omega
   have e1:=U_ hlt
   rw [hd] at e1
   obtain ⟨q1,q2⟩:=ab9 e1
   obtain ⟨e,h1,_,h2,e2,rfl,h3⟩:=step i hlt env hI
   unfold e_
   rw [q1,h1,aL,h2,aL]
   exact ih (i + 1) e2 q2.symm (by omega) h3
 exact key ds 0 env rfl (RL _) h0
theorem xS {tg:GT}{n:Nat}(I:Nat->Ev->Prop) (h0:I 0 env) (step:∀(k:Nat),k < n->∀env,I k env->∃e,tg (.int k) env=.ok e/\Wp (u e) λo=>∃e,o=.nx e/\I (k + 1) e)
  (k:∀e,I n e->Q (.nx e)):Wp (e_ tg u (d_ 0 n) env) Q:=by
 have hl:(d_ 0 n).length=n:=by simp [d_]
 refine qp I (d_ 0 n) h0 (λj hj env hI=>?_) (by rw [hl];exact k)
 obtain ⟨e,h1,h2⟩:=step j (by rw [hl] at hj;exact hj) env hI
 refine ⟨e,?_,h2⟩
 rw [<-h1]
 simp [d_]
theorem n1 {f:List R->M R}{x z:R}(hx:g env=.ok x) (hf:f [x]=.ok z):gN f (ao g av) env=.ok z:=Cs hx hf
theorem two {f:R->R->M R}{h:G R}{x y z:R}(hx:g env=.ok x) (hy:h env=.ok y) (hf:f x y=.ok z):g2 f g h env=.ok z:=by
 show (g env >>= _)=_
 rw [hx,aL,hy,aL,hf]
theorem c1 {F:List S->M R}{x z:R}(hx:g env=.ok x) (hF:F [bR x]=.ok z):gN (aE 1 F) (ao g av) env=.ok (cF z):=by
 show (ao g av env >>= _)=_
 unfold ao av
 rw [hx]
 show (match F [bR x] with | .ok r=>M.ok (cF r) | _=>M.bad)=_
 rw [hF]
theorem c2 {F:List S->M R}{h:G R}{x y z:R}(hx:g env=.ok x) (hy:h env=.ok y) (hF:F [bR x,bR y]=.ok z):gN (aE 2 F) (ao g (ao h av)) env=.ok (cF z):=by
 show (ao g (ao h av) env >>= _)=_
 unfold ao av
 rw [hx,hy]
 show (match F [bR x,bR y] with | .ok r=>M.ok (cF r) | _=>M.bad)=_
 rw [hF]
theorem c3 {F:List S->M R}{h k:G R}{x y w z:R}(hx:g env=.ok x) (hy:h env=.ok y) (hw:k env=.ok w) (hF:F [bR x,bR y,bR w]=.ok z):gN (aE 3 F) (ao g (ao h (ao k av))) env=.ok (cF z):=by
 show (ao g (ao h (ao k av)) env >>= _)=_
 unfold ao av
 rw [hx,hy,hw]
 show (match F [bR x,bR y,bR w] with | .ok r=>M.ok (cF r) | _=>M.bad)=_
 rw [hF]
theorem c4 {F:List S->M R}{h k l:G R}{x y w v z:R}(hx:g env=.ok x) (hy:h env=.ok y) (hw:k env=.ok w) (hv:l env=.ok v) (hF:F [bR x,bR y,bR w,bR v]=.ok z):gN (aE 4 F) (ao g (ao h (ao k (ao l av)))) env=.ok (cF z):=by
 show (ao g (ao h (ao k (ao l av))) env >>= _)=_
 unfold ao av
 rw [hx,hy,hw,hv]
 show (match F [bR x,bR y,bR w,bR v] with | .ok r=>M.ok (cF r) | _=>M.bad)=_
 rw [hF]
theorem jG (h:g env=.ok r) (k:Wp (u env) Q):Wp (aC (jk g) u env) Q:=fN ⟨.nx env,by show (g env >>= _)=_;rw [h];rfl,k⟩
theorem qz {cap:List Nat}{gi:G (List D)}{ge:G R}{α:Type}{xs:List α}(a b:α->D) (f:α->D) (hi:gi env=.ok (xs.map λx=>.tup [a x,b x])) (hl:xs.length<=1000)
  (h:∀x∈xs,∃r,ge (some (.d (a x))::some (.d (b x))::cE 0 cap env)=.ok r/\toD r=.ok (f x)):bN 2 cap gi (iG 2 (dB (aB 0) (dB (aB 1) jw))) cR ge env=.ok (.l .fresh (xs.map f)):=by
 have key:∀(es:List α) (x y:Option S),(∀d∈es,d∈xs)->dG (iG 2 (dB (aB 0) (dB (aB 1) jw))) cR ge (es.map λx=>.tup [a x,b x]) (x::y::cE 0 cap env)=.ok (es.map f):=by
  intro es
  induction es with
  | nil=>exact λ_ _ _=>rfl
  | cons d es ih=>
   intro x y hm
   obtain ⟨r,h1,h2⟩:=h d (hm d Rf)
   rw [Rv]
   unfold dG
   show (ge (some (.d (a d))::some (.d (b d))::cE 0 cap env) >>= _)=_
   rw [h1,aL,h2,aL]
   show (dG _ cR ge _ (some (.d (a d))::some (.d (b d))::cE 0 cap env) >>= _)=_
   rw [ih _ _ λe he=>hm e (Rb _ he)]
   rfl
 unfold bN
 rw [hi,aL,if_pos (gZ (by rw [Rh];exact hl))]
 show (dG _ cR ge _ (none::none::cE 0 cap env) >>= _)=_
 rw [key xs none none λ_ h=>h]
 rfl
theorem MF (n:Nat):d_ 0 n=(Ra n).map dN:=by simp [d_]
theorem iz {gs:G (List R)}{n:Nat}(hg:gs env=.ok [.d (.int (n:Int))]) (h:n<=1000):bS gs env=.ok ((Ra n).map dN):=by rw [vg hg h,MF]
theorem jD {cap:List Nat}{gi:G (List D)}{ge:G R}{α:Type}{xs:List α}{h:α->D}(f:α->D) (hi:gi env=.ok (xs.map h)) (hl:xs.length<=1000000)
  (hb:∀x∈xs,∃r,ge (some (.d (h x))::cE 0 cap env)=.ok r/\toD r=.ok (f x)):bN 1 cap gi (aB 0) cR ge env=.ok (.l .fresh (xs.map f)):=by
 have key:∀(es:List α) (x:Option S),(∀d∈es,d∈xs)->dG (aB 0) cR ge (es.map h) (x::cE 0 cap env)=.ok (es.map f):=by
  intro es
  induction es with
  | nil=>exact λ_ _=>rfl
  | cons d es ih=>
   intro x hm
   obtain ⟨r,h1,h2⟩:=hb d (hm d Rf)
   rw [Rv]
   unfold dG
   show (ge (some (.d (h d))::cE 0 cap env) >>= _)=_
   rw [h1,aL,h2,aL]
   show (dG (aB 0) cR ge _ (some (.d (h d))::cE 0 cap env) >>= _)=_
   rw [ih _ λe he=>hm e (Rb _ he)]
   rfl
 unfold bN
 rw [hi,aL,if_pos (by rw [Sh,Rh];omega)]
 show (dG (aB 0) cR ge _ (none::cE 0 cap env) >>= _)=_
 rw [key xs none λ_ h=>h]
 rfl
theorem kj {cap:List Nat}{gi:G (List D)}{ge:G R}{gts:G Bool}{α:Type}{xs:List α}{h:α->D}(p:α->Bool) (f:α->D) (hi:gi env=.ok (xs.map h)) (hl:xs.length<=1000000)
  (hb:∀x∈xs,gts (some (.d (h x))::cE 0 cap env)=.ok (p x)/\(p x=true->∃r,ge (some (.d (h x))::cE 0 cap env)=.ok r/\toD r=.ok (f x))):bN 1 cap gi (aB 0) gts ge env=.ok (.l .fresh ((xs.filter p).map f)):=by
 have key:∀(es:List α) (x:Option S),(∀d∈es,d∈xs)->dG (aB 0) gts ge (es.map h) (x::cE 0 cap env)=.ok ((es.filter p).map f):=by
  intro es
  induction es with
  | nil=>exact λ_ _=>rfl
  | cons d es ih=>
   intro x hm
   obtain ⟨h0,h1⟩:=hb d (hm d Rf)
   rw [Rv]
   unfold dG
   show (gts (some (.d (h d))::cE 0 cap env) >>= _)=_
   rw [h0,aL]
   cases q:p d with
   | true=>
    obtain ⟨r,h1,h2⟩:=h1 q
    rw [if_pos rfl]
    show (ge (some (.d (h d))::cE 0 cap env) >>= _)=_
    rw [h1,aL,h2,aL]
    show (dG (aB 0) gts ge _ (some (.d (h d))::cE 0 cap env) >>= _)=_
    rw [ih _ λe he=>hm e (Rb _ he),VA q]
    rfl
   | false=>
    rw [if_neg (by decide),Xj (by simp [q])]
    exact ih _ λe he=>hm e (Rb _ he)
 unfold bN
 rw [hi,aL,if_pos (by rw [Sh,Rh];omega)]
 show (dG (aB 0) gts ge _ (none::cE 0 cap env) >>= _)=_
 rw [key xs none λ_ h=>h]
 rfl
theorem bW {x:R}(h:g env=.ok x):ao g av env=.ok [x]:=by
 show (g env >>= _)=_
 rw [h]
 rfl
theorem bQ:aK env=.ok []:=rfl
theorem bf {gs:G (List D)}{d:D}{ds:List D}(h:g env=.ok r) (h2:toD r=.ok d) (k:gs env=.ok ds):ay g gs env=.ok (d::ds):=by
 show (g env >>= _)=_
 rw [h,aL,h2,aL,k]
 rfl
theorem cI {gs:G (List D)}{ds:List D}(h:gs env=.ok ds) (hl:ds.length<=1000):bP gs env=.ok (.d (.tup ds)):=by
 show (gs env >>= _)=_
 rw [h,aL,if_pos (gZ hl)]
theorem nu {gs:G (List D)}{ds:List D}(h:gs env=.ok ds) (hl:ds.length<=1000):gm gs env=.ok (.l .fresh ds):=by
 show (gs env >>= _)=_
 rw [h,aL,if_pos (gZ hl)]
theorem De {xs:List D}(h:env[i]?=some (some (.own xs))) (k:Wp (t (env.set i (some (.d (.lst xs))))) Q):Wp (j4 i t env) Q:=by
 have:j4 i t env=t (env.set i (some (.d (.lst xs)))):=by unfold j4;rw [h]
 rw [this];exact k
theorem Nm {tg:GT}{d:D}{e:Ev}(h:g env=.ok r) (h2:toD r=.ok d) (h3:tg d env=.ok e) (k:Q (.nx e)):Wp (uQ tg g env) Q:=⟨_,by show (g env >>= _)=_;rw [h,aL,h2,aL,h3];rfl,k⟩
theorem Ii {tg:GT}{d:D}{e:Ev}(h:g env=.ok r) (h2:toD r=.ok d) (h3:tg d env=.ok e) (k:Wp (u e) Q):Wp (aC (uQ tg g) u env) Q:=fN (Nm h h2 h3 k)
theorem Fx {α:Type}(xs:List α) (z:α):L2.lP (xs++[z]) (-1)=some z:=by
 unfold L2.lP L2.yZ
 rw [if_neg (by decide),if_pos (by simp;omega)]
 rw [show ((-1:Int) + ((xs++[z]).length:Nat)).toNat=xs.length by simp;omega]
 simp
theorem Jh (xs:List D) (z:D):bE (.d (.tup (xs++[z]))) (.d (.int (-1)))=.ok (.d z):=by
 unfold bE
 simp only [jg,aL,Fx]
theorem HU (neg:Bool) (x:D) (ys:List D) (h:deps ys<=60) (hx:dep x<=60):gg neg (.d x) (.d (.tup ys))=.ok (.d (.bl (if neg then !inD x ys else inD x ys))):=by
 show (if deps ys<=60/\dep x<=60 then M.ok (R.d (.bl (if neg then !inD x ys else inD x ys))) else M.bad)=_
 rw [if_pos ⟨h,hx⟩]
theorem qC (neg:Bool) (x y:R) (h:dep x.dat<=60) (hx:dep y.dat<=60):cY neg x y=.ok (.d (.bl (if neg then !bz x.dat y.dat else bz x.dat y.dat))):=by
 unfold cY
 rw [if_pos ⟨h,hx⟩]
theorem dQ {n:Nat}:∀{xs:List D},(∀x∈xs,dep x<=n)->deps xs<=n
 | [],_=>RL _
 | x::xs,h=>by
  have h1:=h x Rf
  have h2:=dQ (xs:=xs) λy hy=>h y (Rb _ hy)
  simp only [deps]
  omega
theorem DS (xs:List Nat):deps (xs.map dN)<=60:=dQ λx hx=>by
 obtain ⟨k,_,rfl⟩:=Rg.mp hx
 exact RL _
theorem Ld (xs:List (Nat×Nat)):deps (xs.map dP)<=60:=dQ λx hx=>by
 obtain ⟨k,_,rfl⟩:=Rg.mp hx
 exact (by decide:(1:Nat)<=60)
theorem BA {tb:G Bool}(I:Nat->Ev->Prop) (step:∀d env,I d env->(tb env=.ok false/\Q (.nx env))\/(tb env=.ok true/\Wp (t env) λo=>match o with
  | .nx e=>∃d',d' < d/\I d' e
  | .rt r=>Q (.rt r)
  | _=>False)):∀(n d:Nat) (env:Ev),I d env->d < n->Wp (lI tb t n env) Q
 | 0,d,env,_,h=>absurd h (So _)
 | n + 1,d,env,hI,h=>by
  unfold lI
  rcases step d env hI with ⟨h1,h2⟩ | ⟨h1,o,h2,h3⟩
  ·rw [h1]
   exact ⟨_,rfl,h2⟩
  ·rw [h1,aL,if_pos rfl,h2,aL]
   cases o with
   | nx e=>
    obtain ⟨d',hd,hI'⟩:=h3
    exact BA I step n d' e hI' (by omega)
   | rt r=>exact ⟨_,rfl,h3⟩
   | bk e=>exact h3.elim
   | ct e=>exact h3.elim
theorem Kc {tb:G Bool}{n:Nat}(I:Nat->Ev->Prop) (d:Nat) (hd:d < n) (h0:I d env) (step:∀d env,I d env->(tb env=.ok false/\Wp (u env) Q)\/(tb env=.ok true/\Wp (t env) λo=>match o with
  | .nx e=>∃d',d' < d/\I d' e
  | .rt r=>Q (.rt r)
  | _=>False)):Wp (aC (yV n tb t) u env) Q:=fN (BA I (λd env h=>by
  rcases step d env h with h | ⟨h1,h2⟩
  ·exact .inl h
  ·refine .inr ⟨h1,h2.mono λo ho=>?_⟩
   cases o <;> exact ho) n d env h0 hd)
theorem Nn {d:D}{f:R->R->M R}{y z:R}{x:S}(h0:env[i]?=some (some (.d d))) (h:g env=.ok y) (hf:f (.d d) y=.ok z) (h2:toS z=.ok x) (k:Q (.nx (env.set i (some x)))):Wp (uR i f g env) Q:=by
 refine ⟨_,?_,k⟩
 unfold uR
 rw [h0]
 show (g env >>= _)=_
 rw [h,aL,hf,aL,h2]
 rfl
end
end WP
namespace K51
open PySem DL K01 WP
structure Dm (w:Wd):Prop where
 lo:1<=w.m
 hi:w.m<=8
 ml:w.ms.length<=3
 al:w.ar.length<=3
theorem Im (xs ys:List D) (h:xs.length + ys.length<=1000):sN (.d (.tup xs)) (.d (.tup ys))=.ok (.d (.tup (xs++ys))):=by
 show (if xs.length + ys.length<=sizeLine then M.ok (R.d (.tup (xs++ys))) else M.bad)=_
 rw [if_pos (gZ h)]
theorem Gb (l:Nat) (xs:List Nat):gg false (.d (dN l)) (.d (.tup (xs.map dN)))=.ok (.d (.bl (inD (dN l) (xs.map dN)))):=HU false _ _ (DS xs) (RL _)
theorem Ln (l:Nat×Nat) (xs:List (Nat×Nat)):gg false (.d (dP l)) (.d (.tup (xs.map dP)))=.ok (.d (.bl (inD (dP l) (xs.map dP)))):=HU false _ _ (Ld xs) (by show (1:Nat)<=60;decide)
theorem t2:(2:Nat)<=1000:=by decide
end K51
namespace K51
open PySem DL K01 WP
open PySem.W (kas_sort)
theorem E3 (ds:List D):(cg ds).length=ds.length:=by
 unfold cg
 by_cases h:ds.length < 2
 ·rw [if_pos h]
 ·rw [if_neg h,Rh]
  have:=(fU (n:=ds.length) (by omega)).run (ltB ds)
  have:=this.size_eq
  simpa using this
end K51
namespace K51
open PySem DL K01 WP
end K51
namespace DL
open PySem PySem.Spec PyProof.Rows L2
open PySem.W (KasT kas_sort kas_asc kas_desc kas_rev kas_tail3 kas_descPart kas_count kas_place kas_bin)
theorem run_bind {α β:Type}(q:Nat->Nat->Bool) (f:α->KasT β):∀t:KasT α,bh q (t.bind f)=bh q (f (bh q t))
 | .ret _=>rfl
 | .ask i j k=>run_bind q f (k (q i j))
theorem G4 {n:Nat}{α:Type}{P:α->Prop}{t:KasT α}{q q':Nat->Nat->Bool}(h:gf n P t) (e:∀i j,i < n->j < n->q i j=q' i j):bh q t=bh q' t:=by
 induction h with
 | ret _=>rfl
 | @ask i j k h1 h2 _ ih=>
  show bh q (k (q i j))=bh q' (k (q' i j))
  rw [e _ _ h1 h2]
  exact ih _
structure Ord (q:Nat->Nat->Bool):Prop where
 asy:∀a b,q a b=true->q b a=false
 tra:∀a b c,q b a=false->q c b=false->q c a=false
section
variable {q:Nat->Nat->Bool}{n:Nat}
abbrev bJ (p:Array Nat) (k:Nat):Nat:=p.getD k 0
def Up (q:Nat->Nat->Bool) (p:Array Nat) (k:Nat):Prop:=∀i j,i<=j->j < k->q (bJ p j) (bJ p i)=false
def Down (q:Nat->Nat->Bool) (p:Array Nat) (k:Nat):Prop:=∀i j,i<=j->j < k->q (bJ p i) (bJ p j)=false
theorem Ord.irr (O:Ord q) (a:Nat):q a a=false:=by
 cases h:q a a with
 | false=>rfl
 | true=>rw [<-h];exact (O.asy a a h)
theorem getD_eq {p p':Array Nat}{i j:Nat}(h:p[i]?=p'[j]?):bJ p i=bJ p' j:=by
 show p.getD i 0=p'.getD j 0
 rw [Wq,Wq,h]
theorem jh {p:Array Nat}{i j:Nat}(hj:j<=p.size) (k:Nat):bJ (V6 p i j) k=if i<=k/\k < j then bJ p (i + j - 1 - k) else bJ p k:=by
 have e:=getElem?_mirror_all (xs:=p) (i:=i) hj k
 by_cases c:i<=k/\k < j
 ·rw [if_pos c] at e ⊢;exact getD_eq e
 ·rw [if_neg c] at e ⊢;exact getD_eq e
theorem Dn {p:Array Nat}{src d:Nat}(hs:src < p.size) (hd:d<=src) (k:Nat):bJ (bubble p src d) k=if k=src - d then bJ p src else if src - d < k/\k<=src then bJ p (k - 1) else bJ p k:=by
 have e:=getElem?_bubble hs d hd k
 by_cases c:k=src - d
 ·rw [if_pos c] at e ⊢;exact getD_eq e
 ·rw [if_neg c] at e ⊢
  by_cases c':src - d < k/\k<=src
  ·rw [if_pos c'] at e ⊢;exact getD_eq e
  ·rw [if_neg c'] at e ⊢;exact getD_eq e
theorem iN (p:Array Nat) (i j:Nat):(V6 p i j).size=p.size:=mirror_size _ _ _ _
theorem Up.one (O:Ord q) (p:Array Nat):Up q p 1:=λi j h1 h2=>by
 have:i=j:=by omega
 rw [this];exact O.irr _
theorem Up.more (O:Ord q){p:Array Nat}{k:Nat}(h:Up q p k) (h1:1<=k) (e:q (bJ p k) (bJ p (k - 1))=false):Up q p (k + 1):=λi j hi hj=>by
 by_cases c:j < k
 ·exact h i j hi c
 ·have:j=k:=by omega
  subst this
  by_cases c':i=j
  ·rw [c'];exact O.irr _
  ·exact O.tra _ _ _ (h i (j - 1) (by omega) (by omega)) e
theorem Down.more (O:Ord q){p:Array Nat}{k:Nat}(h:Down q p k) (h1:1<=k) (e:q (bJ p (k - 1)) (bJ p k)=false):Down q p (k + 1):=λi j hi hj=>by
 by_cases c:j < k
 ·exact h i j hi c
 ·have:j=k:=by omega
  subst this
  by_cases c':i=j
  ·rw [c'];exact O.irr _
  ·exact O.tra _ _ _ e (h i (j - 1) (by omega) (by omega))
theorem yl (O:Ord q) (p:Array Nat):∀(f m:Nat),1<=m->Up q p m->m<=bh q (V7 p f m)/\bh q (V7 p f m)<=m + f/\Up q p (bh q (V7 p f m))/\(bh q (V7 p f m)=m + f\/q (bJ p (bh q (V7 p f m))) (bJ p (bh q (V7 p f m) - 1))=true)
 | 0,m,h1,h=>⟨Rj _,Rj _,h,.inl rfl⟩
 | f + 1,m,h1,h=>by
  have e:bh q (V7 p (f + 1) m)=if q (bJ p m) (bJ p (m - 1))=true then m else bh q (V7 p f (m + 1)):=by
   show bh q (if q (bJ p m) (bJ p (m - 1))=true then KasT.ret m else V7 p f (m + 1))=_
   by_cases c:q (bJ p m) (bJ p (m - 1))=true
   ·rw [if_pos c,if_pos c];rfl
   ·rw [if_neg c,if_neg c]
  rw [e]
  by_cases c:q (bJ p m) (bJ p (m - 1))=true
  ·rw [if_pos c]
   exact ⟨Rj _,by omega,h,.inr c⟩
  ·rw [if_neg c]
   obtain ⟨a1,a2,a3,a4⟩:=yl O p f (m + 1) (by omega) (h.more O h1 (by simpa using c))
   refine ⟨by omega,by omega,a3,?_⟩
   rcases a4 with a4 | a4
   ·exact .inl (by omega)
   ·exact .inr a4
def Alike (q:Nat->Nat->Bool) (p:Array Nat) (i j:Nat):Prop:=∀a b,i<=a->a < j->i<=b->b < j->q (bJ p a) (bJ p b)=false
theorem wA {p:Array Nat}{i j k:Nat}(hj:j<=p.size) (ha:Alike q p i j) (hd:Down q p j) (O:Ord q):Down q (V6 p i j) j:=λa b h1 h2=>by
 rw [jh hj,jh hj]
 by_cases c:i<=a/\a < j
 ·rw [if_pos c]
  by_cases c':i<=b/\b < j
  ·rw [if_pos c'];exact ha _ _ (by omega) (by omega) (by omega) (by omega)
  ·omega
 ·rw [if_neg c]
  by_cases c':i<=b/\b < j
  ·rw [if_pos c']
   exact hd _ _ (by omega) (by omega)
  ·rw [if_neg c'];exact hd _ _ h1 h2
theorem ME {p:Array Nat}{j:Nat}(hj:j<=p.size) (hd:Down q p j):Up q (V6 p 0 j) j:=λa b h1 h2=>by
 rw [jh hj,jh hj,if_pos (by omega),if_pos (by omega)]
 exact hd _ _ (by omega) (by omega)
theorem ua {p:Array Nat}{i j k:Nat}(hj:j<=p.size) (h:j<=k):bJ (V6 p i j) k=bJ p k:=by
 rw [jh hj,if_neg (by omega)]
theorem lQ (O:Ord q):∀(f:Nat) (p:Array Nat) (m e:Nat),1<=m->e + 1<=m->m + f<=p.size->Down q p m->Alike q p (m - (e + 1)) m->
  (bh q (TQ f p m e)).1.size=p.size/\m<=(bh q (TQ f p m e)).2.1/\(bh q (TQ f p m e)).2.1<=m + f/\(bh q (TQ f p m e)).2.2 + 1<=(bh q (TQ f p m e)).2.1/\
  Down q (bh q (TQ f p m e)).1 (bh q (TQ f p m e)).2.1/\Alike q (bh q (TQ f p m e)).1 ((bh q (TQ f p m e)).2.1 - ((bh q (TQ f p m e)).2.2 + 1)) (bh q (TQ f p m e)).2.1
 | 0,p,m,e,h1,h2,h3,h4,h5=>⟨rfl,Rj _,Rj _,h2,h4,h5⟩
 | f + 1,p,m,e,h1,h2,h3,h4,h5=>by
  have solo:∀(p:Array Nat) (m:Nat),Alike q p (m + 1 - (0 + 1)) (m + 1):=λp m a b c1 c2 c3 c4=>by
   have:a=b:=by omega
   rw [this];exact O.irr _
  cases c:q (bJ p m) (bJ p (m - 1)) with
  | true=>
   have c2:=O.asy _ _ c
   by_cases he:e > 0
   ·have er:bh q (TQ (f + 1) p m e)=bh q (TQ f (V6 p (m - (e + 1)) m) (m + 1) 0):=by
     show bh q (if q (bJ p m) (bJ p (m - 1))=true then _ else _)=_
     rw [if_pos c,if_pos he]
    rw [er]
    have hr:=wA (k:=0) (i:=m - (e + 1)) (by omega:m<=p.size) h5 h4 O
    have hl:bJ (V6 p (m - (e + 1)) m) (m - 1)=bJ p (m - (e + 1)):=by
     rw [jh (by omega),if_pos (by omega)]
     congr 1;omega
    obtain ⟨a0,a1,a2,a3,a4,a5⟩:=lQ O f (V6 p (m - (e + 1)) m) (m + 1) 0 (by omega) (by omega) (by rw [iN];omega)
     (hr.more O h1 (by
      rw [hl,ua (by omega) (Rj _)]
      exact O.tra _ _ _ c2 (h5 _ _ (by omega) (by omega) (by omega) (by omega)))) (solo _ _)
    rw [iN] at a0
    exact ⟨a0,by omega,by omega,a3,a4,a5⟩
   ·have er:bh q (TQ (f + 1) p m e)=bh q (TQ f p (m + 1) 0):=by
     show bh q (if q (bJ p m) (bJ p (m - 1))=true then _ else _)=_
     rw [if_pos c,if_neg he]
    rw [er]
    obtain ⟨a0,a1,a2,a3,a4,a5⟩:=lQ O f p (m + 1) 0 (by omega) (by omega) (by omega) (h4.more O h1 c2) (solo _ _)
    exact ⟨a0,by omega,by omega,a3,a4,a5⟩
  | false=>
   cases c2:q (bJ p (m - 1)) (bJ p m) with
   | true=>
    have er:bh q (TQ (f + 1) p m e)=(p,m,e):=by
     show bh q (if q (bJ p m) (bJ p (m - 1))=true then _ else _)=_
     rw [if_neg (by rw [c];decide)]
     show bh q (if q (bJ p (m - 1)) (bJ p m)=true then _ else _)=_
     rw [if_pos c2]
     rfl
    rw [er]
    exact ⟨rfl,Rj _,Vg _ _,h2,h4,h5⟩
   | false=>
    have er:bh q (TQ (f + 1) p m e)=bh q (TQ f p (m + 1) (e + 1)):=by
     show bh q (if q (bJ p m) (bJ p (m - 1))=true then _ else _)=_
     rw [if_neg (by rw [c];decide)]
     show bh q (if q (bJ p (m - 1)) (bJ p m)=true then _ else _)=_
     rw [if_neg (by rw [c2];decide)]
    rw [er]
    have hal:Alike q p (m + 1 - (e + 1 + 1)) (m + 1):=λa b d1 d2 d3 d4=>by
     by_cases ea:a=m
     ·subst ea
      by_cases eb:b=a
      ·rw [eb];exact O.irr _
      ·exact O.tra _ _ _ (h5 (a - 1) b (by omega) (by omega) (by omega) (by omega)) c
     ·by_cases eb:b=m
      ·subst eb
       exact O.tra _ _ _ c2 (h5 a (b - 1) (by omega) (by omega) (by omega) (by omega))
      ·exact h5 a b (by omega) (by omega) (by omega) (by omega)
    obtain ⟨a0,a1,a2,a3,a4,a5⟩:=lQ O f p (m + 1) (e + 1) (by omega) (by omega) (by omega) (h4.more O h1 c2) hal
    exact ⟨a0,by omega,by omega,a3,a4,a5⟩
def Got (q:Nat->Nat->Bool) (N s:Nat) (r:Nat×Array Nat):Prop:=r.2.size=s/\1<=r.1/\r.1<=N/\Up q r.2 r.1
theorem Bu (O:Ord q){p:Array Nat}{m N:Nat}(h1:1<=m) (hm:m<=N) (hN:N<=p.size) (hd:Down q p m):Got q N p.size (bh q (abf m N p)):=by
 unfold abf
 rw [run_bind]
 obtain ⟨a1,a2,a3,_⟩:=yl O (V6 p 0 m) (N - m) m h1 (ME (by omega) hd)
 exact ⟨iN _ _ _,by show 1<=bh q (V7 _ _ _);omega,by show bh q (V7 _ _ _)<=N;omega,a3⟩
theorem Bh (O:Ord q){p:Array Nat}{m N:Nat}(h1:1<=m) (hm:m + 1<=N) (hN:N<=p.size) (hd:Down q p (m + 1)):Got q N p.size (bh q (Zn m N p)):=by
 unfold Zn
 rw [run_bind]
 obtain ⟨a0,a1,a2,a3,a4,a5⟩:=lQ O (N - (m + 1)) p (m + 1) 0 (by omega) (by omega) (by omega) hd (λa b c1 c2 c3 c4=>by
  have:a=b:=by omega
  rw [this];exact O.irr _)
 generalize bh q (TQ (N - (m + 1)) p (m + 1) 0)=r at *
 obtain ⟨p',m',e'⟩:=r
 simp only at *
 by_cases c:e' > 0
 ·rw [if_pos c]
  have:=Bu (N:=N) O (p:=V6 p' (m' - (e' + 1)) m') (m:=m') (by omega) (by omega) (by rw [iN];omega) (wA (k:=0) (by omega) a5 a4 O)
  rw [iN,a0] at this
  exact this
 ·rw [if_neg c]
  have:=Bu (N:=N) O (p:=p') (m:=m') (by omega) (by omega) (by omega) a4
  rw [a0] at this
  exact this
theorem FL (O:Ord q){p:Array Nat}{N:Nat}(h1:1<=N) (hN:N<=p.size):Got q N p.size (bh q (ZR N p)):=by
 unfold ZR
 rw [run_bind]
 obtain ⟨a1,a2,a3,a4⟩:=yl O p (N - 1) 1 (Rj _) (Up.one O p)
 generalize bh q (V7 p (N - 1) 1)=m at *
 by_cases c:(m == N)=true
 ·rw [if_pos c]
  exact ⟨rfl,a1,by show m<=N;omega,a3⟩
 ·rw [if_neg c]
  have hm:m + 1<=N:=by
   have:m≠N:=by simpa using c
   omega
  have a4:q (bJ p m) (bJ p (m - 1))=true:=by
   rcases a4 with h | h
   ·omega
   ·exact h
  have a5:=O.asy _ _ a4
  by_cases c':m > 1
  ·rw [if_pos c']
   show Got q N p.size (bh q (if q (bJ p 0) (bJ p (m - 1))=true then _ else _))
   by_cases d:q (bJ p 0) (bJ p (m - 1))=true
   ·rw [if_pos d]
    exact ⟨rfl,a1,by show m<=N;omega,a3⟩
   ·rw [if_neg d]
    have d:q (bJ p 0) (bJ p (m - 1))=false:=by simpa using d
    have all:∀a b,a < m->b < m->q (bJ p a) (bJ p b)=false:=λa b ha hb=>O.tra _ _ _ (O.tra _ _ _ (a3 b (m - 1) (by omega) (by omega)) d) (a3 0 a (by omega) (by omega))
    have hd:Down q (V6 p 0 m) m:=λa b h1 h2=>by
     rw [jh (by omega),jh (by omega),if_pos (by omega),if_pos (by omega)]
     exact all _ _ (by omega) (by omega)
    have:=Bh O (p:=V6 p 0 m) (m:=m) (N:=N) (by omega) hm (by rw [iN];exact hN) (hd.more O (by omega) (by
     rw [ua (by omega) (Rj _),jh (by omega),if_pos (by omega),show 0 + m - 1 - (m - 1)=0 by omega]
     exact O.tra _ _ _ a5 d))
    rw [iN] at this
    exact this
  ·rw [if_neg c']
   have:m=1:=by omega
   subst this
   refine Bh O (Rj _) hm hN ?_
   exact Down.more O (λi j h1 h2=>by
    have:i=j:=by omega
    rw [this];exact O.irr _) (Rj _) a5
theorem rS (O:Ord q){p:Array Nat}{k:Nat}(hs:Up q p k):∀(f l r:Nat),l<=r->r<=k->r - l<=f->(∀i,i < l->q (bJ p k) (bJ p i)=false)->(∀i,r<=i->i < k->q (bJ p k) (bJ p i)=true)->
  bh q (Ub p k f l r)<=k/\(∀i,i < bh q (Ub p k f l r)->q (bJ p k) (bJ p i)=false)/\∀i,bh q (Ub p k f l r)<=i->i < k->q (bJ p k) (bJ p i)=true
 | 0,l,r,h1,h2,h3,h4,h5=>⟨by show l<=k;omega,h4,λi hi=>h5 i (by show r<=i;have:l<=i:=hi;omega)⟩
 | f + 1,l,r,h1,h2,h3,h4,h5=>by
  by_cases c:l ≥ r
  ·have e:bh q (Ub p k (f + 1) l r)=l:=by
    unfold Ub
    rw [if_pos c]
    rfl
   rw [e]
   exact ⟨by omega,h4,λi hi=>h5 i (by omega)⟩
  ·cases d:q (bJ p k) (bJ p ((l + r) / 2)) with
   | true=>
    have e:bh q (Ub p k (f + 1) l r)=bh q (Ub p k f l ((l + r) / 2)):=by
     rw [Ub,if_neg c]
     show bh q (if q (bJ p k) (bJ p ((l + r) / 2))=true then _ else _)=_
     rw [if_pos d]
    rw [e]
    refine rS O hs f l ((l + r) / 2) (by omega) (by omega) (by omega) h4 λi i1 i2=>?_
    by_cases ci:r<=i
    ·exact h5 i ci i2
    ·cases dd:q (bJ p k) (bJ p i) with
     | true=>rfl
     | false=>
      have:=O.tra _ _ _ (hs ((l + r) / 2) i i1 i2) dd
      rw [d] at this
      cases this
   | false=>
    have e:bh q (Ub p k (f + 1) l r)=bh q (Ub p k f ((l + r) / 2 + 1) r):=by
     rw [Ub,if_neg c]
     show bh q (if q (bJ p k) (bJ p ((l + r) / 2))=true then _ else _)=_
     rw [if_neg (by rw [d];decide)]
    rw [e]
    refine rS O hs f ((l + r) / 2 + 1) r (by omega) (by omega) (by omega) (λi hi=>?_) h5
    exact O.tra _ _ _ (hs i ((l + r) / 2) (by omega) (by omega)) d
theorem K7 (O:Ord q){p:Array Nat}{k l:Nat}(hk:k < p.size) (hl:l<=k) (hs:Up q p k) (h1:∀i,i < l->q (bJ p k) (bJ p i)=false) (h2:∀i,l<=i->i < k->q (bJ p k) (bJ p i)=true):Up q (bubble p k (k - l)) (k + 1):=λi j hi hj=>by
 rw [Dn hk (by omega),Dn hk (by omega),show k - (k - l)=l by omega]
 by_cases a:i=l
 ·rw [if_pos a]
  by_cases b:j=l
  ·rw [if_pos b];exact O.irr _
  ·rw [if_neg b,if_pos (by omega)]
   exact O.asy _ _ (h2 (j - 1) (by omega) (by omega))
 ·rw [if_neg a]
  by_cases b:j=l
  ·rw [if_pos b,if_neg (by omega)]
   exact h1 i (by omega)
  ·rw [if_neg b]
   by_cases a':l < i/\i<=k
   ·rw [if_pos a',if_pos (by omega)]
    exact hs _ _ (by omega) (by omega)
   ·rw [if_neg a']
    by_cases b':l < j/\j<=k
    ·rw [if_pos b']
     exact hs _ _ (by omega) (by omega)
    ·rw [if_neg b']
     exact hs _ _ hi (by omega)
theorem Dr (O:Ord q):∀(f:Nat) (p:Array Nat) (k:Nat),k + f<=p.size->Up q p k->Up q (bh q (aaT f p k)) (k + f)
 | 0,p,k,_,h=>h
 | f + 1,p,k,hs,h=>by
  have e:bh q (aaT (f + 1) p k)=bh q (aaT f (bubble p k (k - bh q (Ub p k k 0 k))) (k + 1)):=by
   rw [aaT,run_bind]
  rw [e]
  obtain ⟨a1,a2,a3⟩:=rS O h k 0 k (RL _) (Rj _) (by omega) (λi hi=>by omega) (λi h1 h2=>by omega)
  have:=Dr O f (bubble p k (k - bh q (Ub p k k 0 k))) (k + 1) (by rw [bubble_size];omega) (K7 O (by omega) a1 h a2 a3)
  rw [show k + (f + 1)=k + 1 + f by omega]
  exact this
theorem Kl (O:Ord q) (n:Nat) (hn:1<=n):Up q (bh q (T6 n)) n:=by
 unfold T6
 rw [run_bind]
 obtain ⟨a0,a1,a2,a3⟩:=FL O (p:=(Ra n).toArray) (N:=n) hn (by simp)
 generalize bh q (ZR n (Ra n).toArray)=r at *
 have a0:r.2.size=n:=by simpa using a0
 by_cases c:r.1 < n
 ·rw [if_pos c]
  have:=Dr O (n - max r.1 1) r.2 (max r.1 1) (by omega) (by rw [show max r.1 1=r.1 by omega];exact a3)
  rwa [show max r.1 1 + (n - max r.1 1)=n by omega] at this
 ·rw [if_neg c]
  have:r.1=n:=by omega
  rw [this] at a3
  exact a3
end
end DL
namespace DL
open PySem PySem.Spec PyProof.Rows L2
open PySem.W (kas_sort)
def fG (x y:D):Bool:=(fc x y).getD false
structure gG (P:D->Prop):Prop where
 eq:∀x y,P x->P y->(bz x y=true↔x=y)
 lt:∀x y,P x->P y->(fc x y).isSome=true
 asy:∀x y,P x->P y->fG x y=true->fG y x=false
 tri:∀x y,P x->P y->fG x y=false->fG y x=false->x=y
 tra:∀x y z,P x->P y->P z->fG x y=true->fG y z=true->fG x z=true
def iy (xs ys:List D):Bool:=fG (.tup xs) (.tup ys)
theorem jJ (x y:D) (xs ys:List D):iy (x::xs) (y::ys)=if bz x y=true then iy xs ys else fG x y:=by
 show (if bz x y=true then j5 xs ys else fc x y).getD false=_
 by_cases h:bz x y=true
 ·rw [if_pos h,if_pos h];rfl
 ·rw [if_neg h,if_neg h];rfl
variable {P R:D->Prop}
theorem kG (xs ys:List D):bz (.tup xs) (.tup ys)=cP xs ys:=by rw [bz]
theorem gR (x y:D) (xs ys:List D):cP (x::xs) (y::ys)=(bz x y && cP xs ys):=by rw [cP]
structure kQ (Q:List D->Prop):Prop where
 eq:∀x y,Q x->Q y->(cP x y=true↔x=y)
 lt:∀x y,Q x->Q y->(j5 x y).isSome=true
 asy:∀x y,Q x->Q y->iy x y=true->iy y x=false
 tri:∀x y,Q x->Q y->iy x y=false->iy y x=false->x=y
 tra:∀x y z,Q x->Q y->Q z->iy x y=true->iy y z=true->iy x z=true
theorem kQ.tot {Q:List D->Prop}(h:kQ Q):gG λd=>∃xs,d=.tup xs/\Q xs where
 eq:=by
  rintro _ _ ⟨x,rfl,hx⟩ ⟨y,rfl,hy⟩
  rw [kG,h.eq x y hx hy]
  exact ⟨λe=>e▸rfl,λe=>by cases e;rfl⟩
 lt:=by
  rintro _ _ ⟨x,rfl,hx⟩ ⟨y,rfl,hy⟩
  exact h.lt x y hx hy
 asy:=by
  rintro _ _ ⟨x,rfl,hx⟩ ⟨y,rfl,hy⟩
  exact h.asy x y hx hy
 tri:=by
  rintro _ _ ⟨x,rfl,hx⟩ ⟨y,rfl,hy⟩ h1 h2
  rw [h.tri x y hx hy h1 h2]
 tra:=by
  rintro _ _ _ ⟨x,rfl,hx⟩ ⟨y,rfl,hy⟩ ⟨z,rfl,hz⟩
  exact h.tra x y z hx hy hz
theorem Bc (p:gG P){x y z:D}{r s t:List D}(px:P x) (py:P y) (pz:P z) (h:iy r s=true->iy s t=true->iy r t=true) (h1:iy (x::r) (y::s)=true) (h2:iy (y::s) (z::t)=true):iy (x::r) (z::t)=true:=by
 rw [jJ] at h1 h2 ⊢
 by_cases e:x=y
 ·subst e
  rw [if_pos ((p.eq x x px px).mpr rfl)] at h1
  by_cases f:x=z
  ·subst f
   rw [if_pos ((p.eq x x px px).mpr rfl)] at h2 ⊢
   exact h h1 h2
  ·rw [if_neg λq=>f ((p.eq x z px pz).mp q)] at h2 ⊢
   exact h2
 ·rw [if_neg λq=>e ((p.eq x y px py).mp q)] at h1
  by_cases f:y=z
  ·subst f
   rw [if_neg λq=>e ((p.eq x y px py).mp q)]
   exact h1
  ·rw [if_neg λq=>f ((p.eq y z py pz).mp q)] at h2
   have h3:=p.tra x y z px py pz h1 h2
   by_cases g:x=z
   ·subst g
    have:=p.asy x x px px h3
    rw [h3] at this
    cases this
   ·rw [if_neg λq=>g ((p.eq x z px pz).mp q)]
    exact h3
theorem kQ.cons {Q:List D->Prop}(p:gG P) (h:kQ Q):kQ λxs=>∃x r,xs=x::r/\P x/\Q r where
 eq:=by
  rintro _ _ ⟨x,r,rfl,px,qr⟩ ⟨y,s,rfl,py,qs⟩
  rw [gR,Ri,p.eq x y px py,h.eq r s qr qs]
  exact ⟨λe=>by rw [e.1,e.2],λe=>by cases e;exact ⟨rfl,rfl⟩⟩
 lt:=by
  rintro _ _ ⟨x,r,rfl,px,qr⟩ ⟨y,s,rfl,py,qs⟩
  show (if bz x y=true then j5 r s else fc x y).isSome=true
  split
  ·exact h.lt r s qr qs
  ·exact p.lt x y px py
 asy:=by
  rintro _ _ ⟨x,r,rfl,px,qr⟩ ⟨y,s,rfl,py,qs⟩ hl
  rw [jJ] at hl ⊢
  by_cases e:x=y
  ·subst e
   rw [if_pos ((p.eq x x px px).mpr rfl)] at hl ⊢
   exact h.asy r s qr qs hl
  ·rw [if_neg λz=>e ((p.eq x y px py).mp z)] at hl
   rw [if_neg λz=>e ((p.eq y x py px).mp z).symm]
   exact p.asy x y px py hl
 tri:=by
  rintro _ _ ⟨x,r,rfl,px,qr⟩ ⟨y,s,rfl,py,qs⟩ h1 h2
  rw [jJ] at h1 h2
  by_cases e:x=y
  ·subst e
   rw [if_pos ((p.eq x x px px).mpr rfl)] at h1 h2
   rw [h.tri r s qr qs h1 h2]
  ·rw [if_neg λz=>e ((p.eq x y px py).mp z)] at h1
   rw [if_neg λz=>e ((p.eq y x py px).mp z).symm] at h2
   exact absurd (p.tri x y px py h1 h2) e
 tra:=by
  rintro _ _ _ ⟨x,r,rfl,px,qr⟩ ⟨y,s,rfl,py,qs⟩ ⟨z,t,rfl,pz,qt⟩ h1 h2
  exact Bc p px py pz (h.tra r s t qr qs qt) h1 h2
theorem kQ.nil:kQ λxs=>xs=[] where
 eq:=by rintro _ _ rfl rfl;simp [cP]
 lt:=by rintro _ _ rfl rfl;rfl
 asy:=by rintro _ _ rfl rfl h;cases h
 tri:=by rintro _ _ rfl rfl _ _;rfl
 tra:=by rintro _ _ _ rfl rfl rfl h;cases h
theorem gG.list (p:gG P):kQ λxs=>∀x∈xs,P x where
 eq:=by
  intro xs
  induction xs with
  | nil=>intro ys _ _;cases ys <;> simp [cP]
  | cons x xs ih=>
   intro ys hx hy
   cases ys with
   | nil=>simp [cP]
   | cons y ys=>
    rw [gR,Ri,p.eq x y (hx x Rf) (hy y Rf),ih ys (λz hz=>hx z (Rb _ hz)) λz hz=>hy z (Rb _ hz)]
    exact ⟨λe=>by rw [e.1,e.2],λe=>by cases e;exact ⟨rfl,rfl⟩⟩
 lt:=by
  intro xs
  induction xs with
  | nil=>intro ys _ _;rfl
  | cons x xs ih=>
   intro ys hx hy
   cases ys with
   | nil=>rfl
   | cons y ys=>
    show (if bz x y=true then j5 xs ys else fc x y).isSome=true
    split
    ·exact ih ys (λz hz=>hx z (Rb _ hz)) λz hz=>hy z (Rb _ hz)
    ·exact p.lt x y (hx x Rf) (hy y Rf)
 asy:=by
  intro xs
  induction xs with
  | nil=>
   intro ys _ _ h
   cases ys with
   | nil=>cases h
   | cons y ys=>rfl
  | cons x xs ih=>
   intro ys hx hy hl
   cases ys with
   | nil=>cases hl
   | cons y ys=>
    have px:=hx x Rf
    have py:=hy y Rf
    rw [jJ] at hl ⊢
    by_cases e:x=y
    ·subst e
     rw [if_pos ((p.eq x x px px).mpr rfl)] at hl ⊢
     exact ih ys (λz hz=>hx z (Rb _ hz)) (λz hz=>hy z (Rb _ hz)) hl
    ·rw [if_neg λz=>e ((p.eq x y px py).mp z)] at hl
     rw [if_neg λz=>e ((p.eq y x py px).mp z).symm]
     exact p.asy x y px py hl
 tri:=by
  intro xs
  induction xs with
  | nil=>
   intro ys _ _ h1 h2
   cases ys with
   | nil=>rfl
   | cons y ys=>cases h1
  | cons x xs ih=>
   intro ys hx hy h1 h2
   cases ys with
   | nil=>cases h2
   | cons y ys=>
    have px:=hx x Rf
    have py:=hy y Rf
    rw [jJ] at h1 h2
    by_cases e:x=y
    ·subst e
     rw [if_pos ((p.eq x x px px).mpr rfl)] at h1 h2
     rw [ih ys (λz hz=>hx z (Rb _ hz)) (λz hz=>hy z (Rb _ hz)) h1 h2]
    ·rw [if_neg λz=>e ((p.eq x y px py).mp z)] at h1
     rw [if_neg λz=>e ((p.eq y x py px).mp z).symm] at h2
     exact absurd (p.tri x y px py h1 h2) e
 tra:=by
  intro xs
  induction xs with
  | nil=>
   intro ys zs _ _ _ h1 h2
   cases ys with
   | nil=>cases h1
   | cons y ys=>
    cases zs with
    | nil=>cases h2
    | cons z zs=>rfl
  | cons x xs ih=>
   intro ys zs hx hy hz h1 h2
   cases ys with
   | nil=>cases h1
   | cons y ys=>
    cases zs with
    | nil=>cases h2
    | cons z zs=>
     have px:=hx x Rf
     have py:=hy y Rf
     have pz:=hz z Rf
     exact Bc p px py pz (ih ys zs (λz hz=>hx z (Rb _ hz)) (λz hz=>hy z (Rb _ hz)) λw hw=>hz w (Rb _ hw)) h1 h2
theorem NW:gG λd=>∃k,d=.bl k where
 eq:=by rintro _ _ ⟨x,rfl⟩ ⟨y,rfl⟩;simp [bz]
 lt:=by rintro _ _ ⟨x,rfl⟩ ⟨y,rfl⟩;rfl
 asy:=by rintro _ _ ⟨x,rfl⟩ ⟨y,rfl⟩;revert x y;decide
 tri:=by
  rintro _ _ ⟨x,rfl⟩ ⟨y,rfl⟩ h1 h2
  revert h1 h2
  cases x <;> cases y <;> intro h1 h2
  ·rfl
  ·exact absurd h1 (by decide)
  ·exact absurd h2 (by decide)
  ·rfl
 tra:=by rintro _ _ _ ⟨x,rfl⟩ ⟨y,rfl⟩ ⟨z,rfl⟩;revert x y z;decide
theorem nv (x y:Int):fG (.int x) (.int y)=decide (x < y):=rfl
theorem NX:gG λd=>∃k,d=.int k where
 eq:=by rintro _ _ ⟨x,rfl⟩ ⟨y,rfl⟩;simp [bz]
 lt:=by rintro _ _ ⟨x,rfl⟩ ⟨y,rfl⟩;rfl
 asy:=by
  rintro _ _ ⟨x,rfl⟩ ⟨y,rfl⟩ h
  rw [nv,decide_eq_true_eq] at h
  rw [nv,decide_eq_false_iff_not]
  omega
 tri:=by
  rintro _ _ ⟨x,rfl⟩ ⟨y,rfl⟩ h1 h2
  rw [nv,decide_eq_false_iff_not] at h1 h2
  rw [show x=y by omega]
 tra:=by
  rintro _ _ _ ⟨x,rfl⟩ ⟨y,rfl⟩ ⟨z,rfl⟩ h1 h2
  rw [nv,decide_eq_true_eq] at h1 h2 ⊢
  omega
theorem qG (x y:Str):fG (.str x) (.str y)=decide (x.cps.toList < y.cps.toList):=rfl
theorem vp {x y:Str}(h:x.cps.toList=y.cps.toList):x=y:=by
 obtain ⟨⟨cx⟩⟩:=x
 obtain ⟨⟨cy⟩⟩:=y
 simp only at h
 rw [h]
theorem NY:gG λd=>∃k,d=.str k where
 eq:=by rintro _ _ ⟨x,rfl⟩ ⟨y,rfl⟩;simp [bz]
 lt:=by rintro _ _ ⟨x,rfl⟩ ⟨y,rfl⟩;rfl
 asy:=by
  rintro _ _ ⟨x,rfl⟩ ⟨y,rfl⟩ h
  rw [qG,decide_eq_true_eq] at h
  rw [qG,decide_eq_false_iff_not]
  exact List.lt_asymm h
 tri:=by
  rintro _ _ ⟨x,rfl⟩ ⟨y,rfl⟩ h1 h2
  rw [qG,decide_eq_false_iff_not] at h1 h2
  rw [vp (Zy h2 h1)]
 tra:=by
  rintro _ _ _ ⟨x,rfl⟩ ⟨y,rfl⟩ ⟨z,rfl⟩ h1 h2
  rw [qG,decide_eq_true_eq] at h1 h2 ⊢
  exact List.lt_trans h1 h2
inductive Fm where
 | b | i | s | hom (t:Fm) | tn | tc (x r:Fm)
noncomputable def jY:Fm->D->Prop
 | .b,d=>∃k,d=.bl k
 | .i,d=>∃k,d=.int k
 | .s,d=>∃k,d=.str k
 | .hom t,d=>∃xs,d=.tup xs/\∀x∈xs,jY t x
 | .tn,d=>∃xs,d=.tup xs/\xs=[]
 | .tc x r,d=>∃xs,d=.tup xs/\∃y ys,xs=y::ys/\jY x y/\jY r (.tup ys)
theorem gG.tail {Q:List D->Prop}(h:gG R) (k:∀xs,Q xs->R (.tup xs)):kQ Q where
 eq:=λx y hx hy=>by
  have:=h.eq _ _ (k x hx) (k y hy)
  rw [kG] at this
  rw [this]
  exact ⟨λe=>by cases e;rfl,λe=>e▸rfl⟩
 lt:=λx y hx hy=>h.lt _ _ (k x hx) (k y hy)
 asy:=λx y hx hy=>h.asy _ _ (k x hx) (k y hy)
 tri:=λx y hx hy h1 h2=>by
  have:=h.tri _ _ (k x hx) (k y hy) h1 h2
  cases this;rfl
 tra:=λx y z hx hy hz=>h.tra _ _ _ (k x hx) (k y hy) (k z hz)
theorem jx:∀t:Fm,gG (jY t)
 | .b=>NW
 | .i=>NX
 | .s=>NY
 | .hom t=>(jx t).list.tot
 | .tn=>kQ.nil.tot
 | .tc x r=>(kQ.cons (jx x) (gG.tail (Q:=λys=>jY r (.tup ys)) (jx r) λ_ h=>h)).tot
theorem NN (ds:List D):(cg ds).length=ds.length:=by
 unfold cg
 by_cases h:ds.length < 2
 ·rw [if_pos h]
 ·rw [if_neg h,Rh]
  have:=((fU (n:=ds.length) (by omega)).run (ltB ds)).size_eq
  simpa using this
theorem Ju (ds:List D):(Ra ds.length).map (dO ds)=ds:=by
 refine UI (by simp) λi h1 h2=>?_
 rw [V8,List.getElem_range]
 unfold dO
 rw [RH,Rl h2]
 rfl
theorem gI (ds:List D):(cg ds).Perm ds:=by
 unfold cg
 by_cases h:ds.length < 2
 ·rw [if_pos h]
 ·rw [if_neg h]
  have hp:=(fU (n:=ds.length) (by omega)).run (ltB ds)
  have hq:(bh (ltB ds) (T6 ds.length)).toList.Perm (Ra ds.length):=by
   have:=Array.perm_iff_toList_perm.mp hp
   simpa using this
  have:=hq.map (dO ds)
  rwa [Ju] at this
theorem Hf (p:gG P) (ds:List D) (h:∀x∈ds,P x):(cg ds).Pairwise λx y=>fG y x=false:=by
 unfold cg
 by_cases h2:ds.length < 2
 ·rw [if_pos h2]
  match ds,h2 with
  | [],_=>exact .nil
  | [x],_=>exact Sf _ _
 ·rw [if_neg h2]
  have hn:0 < ds.length:=by omega
  have hb:=fU (n:=ds.length) hn
  have at_P:∀i,i < ds.length->P (dO ds i):=λi hi=>h _ (fP hi)
  let q':Nat->Nat->Bool:=λi j=>if i < ds.length then (if j < ds.length then ltB ds i j else true) else false
  have hq:bh (ltB ds) (T6 ds.length)=bh q' (T6 ds.length):=G4 hb λi j hi hj=>by simp [q',hi,hj]
  have O:Ord q':=by
   constructor
   ·intro a b hab
    by_cases ha:a < ds.length <;> by_cases hb:b < ds.length <;> simp [q',ha,hb] at hab ⊢
    exact p.asy _ _ (at_P a ha) (at_P b hb) hab
   ·intro a b c hab hbc
    by_cases ha:a < ds.length <;> by_cases hb:b < ds.length <;> by_cases hc:c < ds.length <;> simp [q',ha,hb,hc] at hab hbc ⊢
    have h1:fG (dO ds b) (dO ds a)=false:=hab
    have h2:fG (dO ds c) (dO ds b)=false:=hbc
    show fG (dO ds c) (dO ds a)=false
    cases g:fG (dO ds c) (dO ds a) with
    | false=>rfl
    | true=>
     have pa:=at_P a ha
     have pb:=at_P b hb
     have pc:=at_P c hc
     cases g2:fG (dO ds a) (dO ds b) with
     | true=>
      have:=p.tra _ _ _ pc pa pb g g2
      rw [this] at h2;cases h2
     | false=>
      rw [<-p.tri _ _ pb pa h1 g2] at g
      rw [g] at h2;cases h2
  have up:=Kl O ds.length (by omega)
  have hs:=(hb.run (ltB ds))
  rw [hq] at hs ⊢
  have hsz:(bh q' (T6 ds.length)).size=ds.length:=by simpa using hs.size_eq
  generalize bh q' (T6 ds.length)=A at *
  rw [R3,SN]
  intro i j hi hj hij
  rw [Rm] at hi hj
  have:=up i j (by omega) (by omega)
  have e:∀k (hk:k < A.size),bJ A k=A.toList[k]'(by rw [Rm];exact hk):=λk hk=>by
   show A.getD k 0=_
   simp [Tq,hk]
  rw [e i hi,e j hj] at this
  have l:∀k (hk:k < A.size),A.toList[k]'(by rw [Rm];exact hk) < ds.length:=λk hk=>by
   rw [<-e k hk];exact hs.lt hn k
  have li:=l i hi
  have lj:=l j hj
  simp only [q',li,lj,if_true] at this
  exact this
end DL
namespace K52
open PySem DL
end K52
namespace K52
open PySem DL K01 WP K51
variable {P:D->Prop}
end K52
namespace DL
open PySem PySem.Spec PyProof.Rows L2
section
variable {X:Cx}{c:C}{e a b:RX}{es elts:List RX}{pos tp:Pos}{kk:Nat}
noncomputable def K5:R->M (List D)
 | .d (.tup xs)=>.ok xs
 | .d (.lst xs)=>.ok xs
 | _=>.bad
noncomputable def O9 (gs:G (List R)):G (List D):=λenv=>gs env >>= λrs=>match rs with
 | [x,y]=>K5 x >>= λxs=>K5 y >>= λys=>.ok (List.zipWith (λa b=>.tup [a,b]) xs ys)
 | _=>.bad
theorem FF:b8 X (.type "range") (λxs H Q=>∃j:Int,xs=[.int j]/\∀p,H p=none->Q (.ref p) (upd H p (.rng 0 j))):=by
 intro QV s σ H xs us Q I r h
 obtain ⟨j,rfl,q⟩:=h
 obtain ⟨u,rfl,t,rfl⟩:=vals1 r
 refine call_range_1 ⟨.ref s.heap.objs.size,_,I.laid (λb o e=>Rc _ e) (Rj _) (show cM X.prog X.w _ _ _ (.rng 0 j) from ⟨_,_,_,Rn _ rfl⟩),rfl,q _ (I.hok.fresh (Rj _))⟩
def lT (n:Nat):List V:=(Ra n).map λ(k:Nat)=>V.int k
theorem Hr {n:Nat}{acc:Array Q8}(h:ItemsOf (λi v=>∃t,v=.int (0 + (i:Int) * 1) t) acc n):Vals (lT n) acc.toList:=by
 have key:∀(us:List Q8) (i:Nat),(∀j v,us[j]?=some v->∃t:Tok,v=ZG ((i + j:Nat):Int) t)->Vals ((abE i us.length).map λ(k:Nat)=>V.int k) us:=by
  intro us
  induction us with
  | nil=>exact λi _=>.nil
  | cons u us ih=>
   intro i hj
   obtain ⟨t,e⟩:=hj 0 u rfl
   rw [SG,ZA,Rv]
   refine .cons ⟨t,by rw [e];rfl⟩ (ih (i + 1) λj v hv=>?_)
   obtain ⟨t,e⟩:=hj (j + 1) v (by simpa using hv)
   exact ⟨t,by rw [e];congr 2;omega⟩
 have e:acc.toList.length=n:=by rw [Rm];exact h.1
 unfold lT
 rw [Yg,<-e]
 refine key acc.toList 0 λj v hv=>?_
 obtain ⟨t,q⟩:=h.2 j v (by simpa using hv)
 exact ⟨t,by rw [q];congr 1;omega⟩
theorem wR (hc:X.calm=true):b8 X (.type "list") (λxs H Q=>∃(p:Rq) (j:Int),xs=[.ref p]/\H p=some (.rng 0 j)/\-(2 ^ 24)<=j/\j<=2 ^ 24/\∀l,H l=none->Q (.ref l) (upd H l (.lst (lT j.toNat)))):=by
 intro QV s σ H xs us Q I r h
 obtain ⟨p,j,rfl,hp,h0,h1,q⟩:=h
 obtain ⟨u,rfl,rx⟩:=vals1 r
 cases rx
 obtain ⟨t,u,v,ho⟩:=I.hok p _ hp
 have hn:Xc 0 j 1=(j.toNat:Int):=by rw [aaJ];split <;> omega
 refine call_list_range (I.ok.hd hc) ho (small_one (by decide) (by decide) (by omega) (by omega)) hn (by omega) λh' tk acc' c' kp e hi=>?_
 have hv:=Hr hi
 refine ⟨.ref s.heap.objs.size,_,I.laid kp (Rj _) (show cM X.prog X.w _ h' _ (.lst (lT j.toNat)) from ⟨?_,acc'.toList,c',hv,e⟩),rfl,q _ (I.hok.fresh (Rj _))⟩
 unfold lT
 rw [Rh,Uu]
 show j.toNat<=2 ^ 24
 omega
noncomputable def sW (gs:G (List R)):G R:=λenv=>gs env >>= λrs=>match rs with
 | [.d (.int j)]=>if below 16777216 j then .ok (.l .fresh (d_ 0 j.toNat)) else .bad
 | _=>.bad
theorem G3 {K:Q7}{J:Hp}(n:Nat):aJ K J (d_ 0 n) (lT n):=by
 unfold d_ lT
 generalize Ra n=ks
 induction ks with
 | nil=>exact .nil
 | cons k ks ih=>
  rw [Rv,Rv,XW]
  exact .cons (.int _) ih
end
end DL
namespace DL
open PySem PySem.Spec PyProof.Rows L2 DX
section
variable {X:Cx}{c:C}{e a:RX}{es:List RX}{ga g:G R}{pos:Pos}{L:List Str}{T:Str->Bool}
theorem t9 {p p2 pos2:Pos}{gs:G (List R)}(ha:kc X c [a] gs) (hm:X.mg "range"=none) (hm2:X.mg "list"=none) (hc:X.calm=true:=by rfl) (hK:X.K=c.K:=by rfl) (hg:Gl X "range":=by rfl) (PZ:Gl X "list":=by rfl)
  (hs:Rr [a] X.env=(false,eval a X.env)::Rr [] X.env:=by rfl) (hs0:(TU pos (Rr [] X.env)).any (·.1)=false:=by rfl) (hs2:Rr [ab5 (.Name "range" p) [a] [] pos] X.env=(false,eval (ab5 (.Name "range" p) [a] [] pos) X.env)::Rr [] X.env:=by rfl) (QS:(TU pos2 (Rr [] X.env)).any (·.1)=false:=by rfl):
  QD X c (.Call (.Name "list" p2) [.Call (.Name "range" p) [a] [] pos] [] pos2) (sW gs):=by
 have ha:=ha.h
 refine ⟨?_⟩
 have h1:=jU (p:=p) (pos:=pos) FF hg hm boot_range ha (by decide) (by decide) hs hs0
 have h2:=jU (p:=p2) (pos:=pos2) (wR hc) PZ hm2 sJ (gq h1 jn hs2) (by decide) (by decide) hs2 QS
 refine gH h2 λσ H Q ⟨J,env,sr,w⟩=>?_
 refine ⟨J,env,sr,aG (aM w) λrs wr vs J1 H1 e1 r1=>?_⟩
 split at wr
 ·rename_i j
  obtain ⟨v,rfl,r⟩:=r1.one
  cases r
  split at wr
  ·rename_i hb
   obtain ⟨b1,b2⟩:=eB.mp hb
   refine ⟨j,rfl,λq hq=>?_⟩
   refine ⟨q,j,rfl,cK,by omega,by omega,λl hl=>?_⟩
   have hp1:=sr.hp.ext e1
   have e2:=Ext.new hp1.sub hq (.rng 0 j)
   have hp2:=hp1.ext e2
   have hr:RR c H1 J1 (upd (upd H1 q (.rng 0 j)) l (.lst (lT j.toNat))) (.l .fresh (d_ 0 j.toNat)) (.ref l):=by
    obtain ⟨a,us,x1,x2,x3,x4,x5⟩:=iC (c:=c) hp2 hl (G3 j.toNat)
    exact ⟨a,us,x1,x2,x3,e2.h.free x4,x5⟩
   exact wr _ _ _ ((e1.trans e2).trans (Ext.new hp2.sub hl _)) (by
    obtain ⟨a,us,x1,x2,x3,x4,x5⟩:=hr
    exact ⟨a,us,x1,x2,x3,e1.h.free x4,x5⟩)
  ·exact wr.elim
 ·exact wr.elim
end
end DL
namespace DL
open PySem PySem.Spec PyProof.Rows L2
end DL
namespace DL
open PySem PySem.Spec PyProof.Rows L2 DX
open PySem.W (KasT kas_sort kas_ask)
noncomputable def isInt:D->Bool
 | .int _=>true
 | _=>false
def pT (ds:List D):Bool:=decide (ds.length < 64) && ds.all isInt
theorem A_ {K:Q7}{J:Hp}:∀{ds:List D}{vs:List V}{us:List Q8},ds.all isInt=true->aJ K J ds vs->Vals vs us->∃ns,Vh us ns
 | _,_,_,_,.nil,.nil=>⟨[],.nil⟩
 | d::ds,_,_,h,.cons r rs,.cons v vs=>by
  (rw [UC,Ri] at h)
  obtain ⟨ns,hn⟩:=A_ h.2 rs vs
  cases d with
  | int i=>
   cases r
   obtain ⟨t,rfl⟩:=v
   exact ⟨i::ns,.cons i t hn⟩
  | _=>cases h.1
section
variable {X:Cx}{c:C}{e:RX}{es:List RX}{pos:Pos}
theorem yz:b8 X (.builtin "sorted") (λxs H Q=>∃p vs ds,xs=[.ref p]/\dw X.K H p vs/\aJ X.K H ds vs/\pT ds=true/\∀l vs',H l=none->(∀J,aJ X.K J ds vs->aJ X.K J (cg ds) vs')->Q (.ref l) (upd H l (.lst vs'))):=by
 intro QV s σ H xs us Q I r h
 obtain ⟨p,vs,ds,rfl,hq,rs,ok,q⟩:=h
 obtain ⟨u,rfl,rx⟩:=vals1 r
 cases rx
 obtain ⟨QX,r',pl,hz⟩:=I.list hq
 have l1:vs.length=QX.length:=r'.length
 have l2:ds.length=vs.length:=rs.length
 have fr:H (s.heap.objs.size + 1)=none:=I.hok.fresh (To _)
 have fin:∀(out:List Q8) (vs':List V),vs'.length=vs.length->Vals vs' out->(∀J,aJ X.K J ds vs->aJ X.K J (cg ds) vs')->∃v H',Inv X QV σ H' {s with heap:=YO s.heap QX out.toArray}/\RelV v (.ref (s.heap.objs.size + 1))/\Q v H':=λout vs' lv rv rr=>by
  obtain ⟨n,hn⟩:=Zm s.heap QX out.toArray
  exact ⟨.ref (s.heap.objs.size + 1),_,I.laid (t':=s.toks) (λb o e=>YQ e) (To _) (show cM X.prog X.w _ _ _ (.lst vs') from ⟨by rw [lv];exact hz,out,n,rv,by simpa [TL] using hn⟩),rfl,q _ vs' fr rr⟩
 unfold pT at ok
 rw [Ri] at ok
 obtain ⟨o1,o2⟩:=ok
 have o1:=of_decide_eq_true o1
 by_cases h2:ds.length < 2
 ·refine Br pl.isList (by omega) (fin QX vs rfl r' ?_)
  intro J rj
  unfold cg
  rw [if_pos h2]
  exact rj
 ·have ib:∀i∈(bh (ltB ds) (T6 ds.length)).toList,i < ds.length:=λi hi=>by
   have:=((fU (n:=ds.length) (by omega)).run (ltB ds):fE _ _)
   have:=(UP this).mp (U5.mp hi)
   simpa using this
  obtain ⟨ns,hI⟩:=A_ o2 rs r'
  refine Bs (κ:=aaY) (q:=ltB ds) pl.isList (by omega) (by omega) (λh' C kp cc=>?_) (λh' kp i j C hi hj cc=>?_) ?_
  ·have hl:2<=QX.length:=by omega
   clear fin l1 r' pl
   match QX,hI,hl with
   | v1::v2::r,hI,_=>rw [keyKind_ints hI];exact Q9 cc
  ·have hi':i < ds.length:=by omega
   have hj':j < ds.length:=by omega
   have ai:=R0.mp o2 _ (fP hi')
   have aj:=R0.mp o2 _ (fP hj')
   have r1:=fH rs hi'
   have r2:=fH rs hj'
   have v1:=fJ r' (i:=i) (by omega)
   have v2:=fJ r' (i:=j) (by omega)
   show RA _ _ (keyLt' aaY (QX.getD i R7) (QX.getD j R7)) _ _ _
   rw [aai]
   have e:ltB ds i j=(fc (dO ds i) (dO ds j)).getD false:=rfl
   rw [e] at cc
   generalize dO ds i=di at ai r1 cc
   generalize dO ds j=dj at aj r2 cc
   generalize vs.getD i V.non=wi at r1 v1
   generalize vs.getD j V.non=wj at r2 v2
   cases di with
   | int a=>
    cases dj with
    | int b=>
     cases r1;cases r2
     obtain ⟨t1,q1⟩:=v1
     obtain ⟨t2,q2⟩:=v2
     rw [q1,q2]
     refine abg ?_
     unfold fc at cc
     exact cc
    | _=>cases aj
   | _=>cases ai
  ·have e1:iL (ltB ds) QX=(bh (ltB ds) (T6 ds.length)).toList.map λi=>QX.getD i R7:=by unfold iL;rw [l2,l1]
   rw [e1]
   refine fin _ _ ?_ (nK r' _ λi hi=>l2▸ib i hi) ?_
   ·rw [Rh,<-l2]
    have:=((fU (n:=ds.length) (by omega)).run (ltB ds):fE _ _).size_eq
    simpa using this
   ·intro J rj
    unfold cg
    rw [if_neg h2]
    exact nE rj _ ib
noncomputable def ni:List R->M R
 | [r]=>jP r >>= λxs=>if H_ xs=true then .ok (.l .fresh (cg xs)) else if pT xs=true then .ok (.l .fresh (cg xs)) else .bad
 | _=>.bad
theorem b8.or {f:Q8}{r1 r2:List V->Hp->VK->Prop}(h1:b8 X f r1) (h2:b8 X f r2):b8 X f (λxs H Q=>r1 xs H Q\/r2 xs H Q):=λQV s σ H xs us Q I rv h=>h.elim (h1 QV s σ H xs us Q I rv) (h2 QV s σ H xs us Q I rv)
theorem v5 {p:Pos}{gs:G (List R)}(hu:X.A.units + 64 < S6) (ha:kc X c (e::es) gs) (hm:X.mg "sorted"=none) (hK:X.K=c.K:=by rfl) (hg:Gl X "sorted":=by rfl)
  (he:Rr (e::es) X.env=(false,eval e X.env)::Rr es X.env:=by rfl) (hpl:(TU pos (Rr es X.env)).any (·.1)=false:=by rfl):QD X c (.Call (.Name "sorted" p) (e::es) [] pos) (gN ni gs):=have ha:=ha.h;⟨
 lg (b8.or (yD hu) yz) (by
  intro He J H xs vs Q hp rs w
  unfold ni at w
  split at w
  ·obtain ⟨v,rfl,r⟩:=rs.one
   obtain ⟨xs,q,w⟩:=kN w
   obtain ⟨p,vs,rfl,h1,h2⟩:=RR.list hp r q
   rw [hK]
   split at w
   ·rename_i ok
    exact .inl ⟨p,vs,xs,rfl,h1,h2.mono hp.sub,ok,λl vs' hl rr=>w _ _ _ (Ext.new hp.sub hl _) (iC hp hl (rr _ h2))⟩
   ·split at w
    ·rename_i ok
     exact .inr ⟨p,vs,xs,rfl,h1,h2.mono hp.sub,ok,λl vs' hl rr=>w _ _ _ (Ext.new hp.sub hl _) (iC hp hl (rr _ h2))⟩
    ·exact w.elim
  ·exact w.elim) kR hm ha hg (by decide) (by decide) he hpl⟩
end
end DL
namespace DL
open PySem PySem.Spec PyProof.Rows L2 DX
section
variable {X:Cx}{c:C}{e:RX}{es:List RX}{pos:Pos}
theorem any_range (ks:List Bool):(Ra ks.length).any (λi=>ks.getD i false)=ks.any id:=by
 induction ks with
 | nil=>rfl
 | cons k r ih=>
  rw [SG,UM,We,Vn,We]
  simp only [Yt]
  rw [<-ih]
  rfl
theorem Dz (hc:X.calm=true):b8 X (.builtin "any") (λxs H Q=>∃(p:Rq) (ks:List Bool),xs=[.ref p]/\dw X.K H p (ks.map V.bl)/\Q (.bl (ks.any id)) H):=by
 intro QV s σ H xs us Q I r h
 obtain ⟨p,ks,rfl,hq,q⟩:=h
 obtain ⟨u,rfl,rx⟩:=vals1 r
 cases rx
 obtain ⟨QX,r',pl,hz⟩:=I.list hq
 have hi:=sd r'
 subst hi
 have Qp:p≠s.heap.objs.size:=by
  obtain ⟨o,h1,_⟩:=pl.isList
  exact RE (Ru h1)
 refine call_any_walk (VJ pl.isList ⟨s.heap.objs.size,_,_,_,_,_,(λi=>ks.getD i false),rfl,aaA (A:=X.A.in1) (show X.A.in1.handled=none from I.ok.hd hc) s.heap.objs.size p Qp (ks.map Uk).toArray,⟨⟨_,Rn _ rfl,rfl,rfl⟩,Zz pl.isList _⟩,?_,λh' tk k=>?_⟩)
 ·intro i v s' Q' E' hP hQ
  have e:∃k,ks[i]?=some k/\v=.bool k:=by
   have hP':(ks.map Uk)[i]?=some v:=by simpa using hP
   rw [RD] at hP'
   cases z:ks[i]? with
   | none=>rw [z] at hP';cases hP'
   | some k=>rw [z] at hP';cases hP';exact ⟨k,rfl,rfl⟩
  obtain ⟨k,e1,rfl⟩:=e
  simp only at hQ
  rw [RH,e1] at hQ
  exact Sw hQ
 ·have sz:(ks.map Uk).toArray.size=ks.length:=by simp
  rw [sz,any_range]
  refine ⟨.bl (ks.any id),H,?_,rfl,q⟩
  refine I.kept λb o e=>k b o (λz=>?_) (Rc _ e)
  have:b=s.heap.objs.size:=by simpa using z
  exact absurd (this▸Ru e) (Tr _)
noncomputable def yQ:List R->M R
 | [r]=>jP r >>= λxs=>match jN xs with
  | some ks=>.ok (.d (.bl (ks.any id)))
  | none=>.bad
 | _=>.bad
theorem Dt:Sd "any"=some (.builtin "any"):=by decide +kernel
theorem JU {p:Pos}{gs:G (List R)}(ha:kc X c (e::es) gs) (hm:X.mg "any"=none) (hK:X.K=c.K:=by rfl) (hc:X.calm=true:=by rfl) (hg:Gl X "any":=by rfl)
  (he:Rr (e::es) X.env=(false,eval e X.env)::Rr es X.env:=by rfl) (hpl:(TU pos (Rr es X.env)).any (·.1)=false:=by rfl):QD X c (.Call (.Name "any" p) (e::es) [] pos) (gN yQ gs):=have ha:=ha.h;⟨
 lg (Dz hc) (by
  intro He J H xs vs Q hp rs w
  unfold yQ at w
  split at w
  ·obtain ⟨v,rfl,r⟩:=rs.one
   obtain ⟨xs,q,w⟩:=kN w
   obtain ⟨p,vs,rfl,h1,h2⟩:=RR.list hp r q
   split at w
   ·rename_i ks z
    have:=pC z h2
    subst this
    exact ⟨p,ks,rfl,by rw [hK];exact h1,w _ J H (Ext.refl hp.sub) (.bl _)⟩
   ·exact w.elim
  ·exact w.elim) Dt hm ha hg (by decide) (by decide) he hpl⟩
end
end DL
namespace ST
open PySem PySem.SetTable
theorem uT (xs:Array Nat) (j:Nat) (hs:xs.toList.Pairwise (· < ·)):∀(f lo hi:Nat),hi<=xs.size->lo<=hi->hi - lo<=f->(∀i,i < lo->xs.getD i 0 < j)->(∀i,hi<=i->i < xs.size->j<=xs.getD i 0)->
  below.go xs j f lo hi<=xs.size/\(∀i,i < below.go xs j f lo hi->xs.getD i 0 < j)/\∀i,below.go xs j f lo hi<=i->i < xs.size->j<=xs.getD i 0
 | 0,lo,hi,h1,h2,h3,h4,h5=>by
  have:lo=hi:=by omega
  subst this
  exact ⟨h1,h4,h5⟩
 | f + 1,lo,hi,h1,h2,h3,h4,h5=>by
  have mono:∀a b,a<=b->b < xs.size->xs.getD a 0<=xs.getD b 0:=λa b hab hb=>by
   rcases YS hab with h | h
   ·have:=SN.mp hs a b (by simpa using Vl h hb) (by simpa using hb) h
    simp [Tq,Vl h hb,hb] at this ⊢
    omega
   ·rw [h];exact Rj _
  unfold below.go
  by_cases c:lo < hi
  ·rw [if_pos c]
   have hm:(lo + hi) / 2 < xs.size:=by omega
   have e:xs.getD ((lo + hi) / 2) j=xs.getD ((lo + hi) / 2) 0:=by simp [Tq,hm]
   by_cases d:xs.getD ((lo + hi) / 2) j < j
   ·simp only [d,if_true]
    rw [e] at d
    exact uT xs j hs f _ hi h1 (by omega) (by omega) (λi hi'=>YR (mono i ((lo + hi) / 2) (by omega) hm) d) h5
   ·simp only [d,if_false]
    rw [e] at d
    exact uT xs j hs f lo _ (by omega) (by omega) (by omega) h4 (λi hi' hs'=>RS (by omega) (mono ((lo + hi) / 2) i hi' hs'))
  ·rw [if_neg c]
   have:lo=hi:=by omega
   subst this
   exact ⟨h1,h4,h5⟩
theorem nO (xs:Array Nat) (j:Nat) (hs:xs.toList.Pairwise (· < ·)):below xs j<=xs.size/\(∀i,i < below xs j->xs.getD i 0 < j)/\∀i,below xs j<=i->i < xs.size->j<=xs.getD i 0:=
 uT xs j hs xs.size 0 xs.size (Rj _) (RL _) (by omega) (λi h=>absurd h (So _)) (λi h1 h2=>by omega)
theorem below_at {xs:Array Nat}{i j:Nat}(hs:xs.toList.Pairwise (· < ·)) (h:xs[i]?=some j):below xs j=i:=by
 obtain ⟨hi,e⟩:=Su.mp h
 obtain ⟨b1,b2,b3⟩:=nO xs j hs
 have g:xs.getD i 0=j:=by simp [Tq,hi,e]
 rcases Uw (below xs j) i with c | c | c
 ·have h1:=b3 (below xs j) (Rj _) (by omega)
  have:=SN.mp hs (below xs j) i (by simpa using Vl c hi) (by simpa using hi) c
  simp [Tq,Vl c hi] at h1
  simp at this
  omega
 ·exact c
 ·have:=b2 i c
  omega
theorem qc {t:Sk}{i j:Nat}(hs:t.place.toList.Pairwise (· < ·)) (h:t.place[i]?=some j):t.slot j=.live i:=by
 unfold slot
 rw [below_at hs h]
 show (if (t.place[i]? == some j)=true then Slot.live i else _)=_
 rw [h]
 simp
theorem ug {t:Sk}{j:Nat}(hd:t.dummies=#[]) (h:j∉t.place.toList):t.slot j=.empty:=by
 unfold slot
 have h1:(t.place[below t.place j]? == some j)=false:=by
  rw [beq_eq_false_iff_ne]
  intro z
  exact h (by
   obtain ⟨hi,e⟩:=Su.mp z
   rw [<-e]
   simp)
 have h2:has t.dummies j=false:=by rw [hd];rfl
 simp only [h1,h2,Ry,if_false]
noncomputable def st (mask:Nat) (h:Int):Nat->Probe
 | 0=>({mask:=mask,place:=#[],dummies:=#[],finger:=0,led:=true,moves:=0,plain:=true}:Sk).probeStart h
 | n + 1=>({mask:=mask,place:=#[],dummies:=#[],finger:=0,led:=true,moves:=0,plain:=true}:Sk).advance (st mask h n)
abbrev pos (mask:Nat) (h:Int) (n:Nat):Nat:=(st mask h n).j
theorem oU (mask:Nat) (h:Int):∀n,(st mask h n).dummy=none
 | 0=>rfl
 | n + 1=>by
  unfold st advance
  split
  ·exact oU mask h n
  ·exact oU mask h n
noncomputable def tn (mask:Nat) (h:Int):Nat->Nat×Nat
 | 0=>(bits h % (mask + 1),bits h)
 | k + 1=>leap mask (tn mask h k).1 (tn mask h k).2
theorem wB (mask:Nat) (h:Int):∀(m n:Nat) (i p j:Nat),st mask h n={j:=j,more:=m,i:=i,perturb:=p,dummy:=none}->st mask h (n + m)={j:=j + m,more:=0,i:=i,perturb:=p,dummy:=none}
 | 0,n,i,p,j,e=>e
 | m + 1,n,i,p,j,e=>by
  have e1:st mask h (n + 1)={j:=j + 1,more:=m,i:=i,perturb:=p,dummy:=none}:=by
   show advance _ (st mask h n)=_
   rw [e]
   unfold advance
   simp
  have:=wB mask h m (n + 1) i p (j + 1) e1
  rw [show n + (m + 1)=n + 1 + m by omega,this]
  congr 1;omega
theorem By (mask:Nat) (h:Int):∀k,∃n,n<=10 * k/\st mask h n={j:=(tn mask h k).1,more:=runEnd mask (tn mask h k).1 - (tn mask h k).1,i:=(tn mask h k).1,perturb:=(tn mask h k).2,dummy:=none}
 | 0=>⟨0,Rj _,rfl⟩
 | k + 1=>by
  obtain ⟨n,hn,e⟩:=By mask h k
  have hm:runEnd mask (tn mask h k).1 - (tn mask h k).1<=9:=by unfold runEnd;split <;> omega
  have:=wB mask h _ n _ _ _ e
  refine ⟨n + (runEnd mask (tn mask h k).1 - (tn mask h k).1) + 1,by omega,?_⟩
  show advance _ (st mask h (n + (runEnd mask (tn mask h k).1 - (tn mask h k).1)))=_
  rw [this]
  unfold advance
  simp
  exact ⟨rfl,rfl,rfl,rfl⟩
theorem uq (mask:Nat) (h:Int):∀k,(tn mask h k).2=bits h / 32 ^ k
 | 0=>by simp [tn]
 | k + 1=>by
  show (tn mask h k).2 / 32=_
  rw [uq mask h k,XC,Zr]
theorem IK (h:Int):bits h < 2 ^ 64:=by
 unfold bits
 have:=Ua h (b:=2 ^ 64) (by decide)
 omega
def Ei (mask i:Nat):Nat:=(i * 5 + 1) % (mask + 1)
noncomputable def iw (mask:Nat):Nat->Nat->Nat
 | 0,i=>i
 | r + 1,i=>Ei mask (iw mask r i)
theorem zY (mask:Nat) (h:Int):∀r,(tn mask h (12 + r)).1=iw mask r (tn mask h 12).1
 | 0=>rfl
 | r + 1=>by
  show (leap mask (tn mask h (12 + r)).1 (tn mask h (12 + r)).2).1=Ei mask (iw mask r (tn mask h 12).1)
  rw [<-zY mask h r,uq]
  unfold leap Ei
  have:bits h / 32 ^ (12 + r) / 32=0:=by
   rw [XC,<-Zr]
   refine Nat.div_eq_of_lt (RC (IK h) ?_)
   refine RS (show 2 ^ 64<=32 ^ 13 by decide) (U6 (by decide) (by omega))
  rw [this]
theorem Oi:∀i:Fin 8,∀j:Fin 8,(Ra 8).any (λr=>iw 7 r i.val == j.val)=true:=by decide +kernel
theorem Nc:∀i:Fin 32,∀j:Fin 32,(Ra 32).any (λr=>iw 31 r i.val == j.val)=true:=by decide +kernel
def Lc:List Nat:=(Ra 128).map λr=>iw 127 r 0
theorem A0:∀j:Fin 128,Lc.contains j.val=true:=by decide +kernel
theorem IT:iw 127 128 0=0:=by decide +kernel
theorem oj (mask:Nat):∀a b i,iw mask (a + b) i=iw mask a (iw mask b i)
 | 0,b,i=>by rw [Zs];rfl
 | a + 1,b,i=>by
  rw [show a + 1 + b=(a + b) + 1 by omega]
  show Ei mask (iw mask (a + b) i)=Ei mask (iw mask a (iw mask b i))
  rw [oj mask a b i]
def lN (mask:Nat):Prop:=mask=7\/mask=31\/mask=127
theorem DR {mask:Nat}(hm:lN mask) (i j:Nat) (hi:i<=mask) (hj:j<=mask):∃r,r<=mask/\iw mask r i=j:=by
 rcases hm with rfl | rfl | rfl
 ·have:=Oi ⟨i,by omega⟩ ⟨j,by omega⟩
  rw [SS] at this
  obtain ⟨r,h1,h2⟩:=this
  exact ⟨r,by have:=Rk.mp h1;omega,by simpa using h2⟩
 ·have:=Nc ⟨i,by omega⟩ ⟨j,by omega⟩
  rw [SS] at this
  obtain ⟨r,h1,h2⟩:=this
  exact ⟨r,by have:=Rk.mp h1;omega,by simpa using h2⟩
 ·have hi':=A0 ⟨i,by omega⟩
  have hj':=A0 ⟨j,by omega⟩
  rw [List.contains_iff_mem] at hi' hj'
  obtain ⟨a,ha,ea⟩:=Rg.mp hi'
  obtain ⟨b,hb,eb⟩:=Rg.mp hj'
  have ha:=Rk.mp ha
  have hb:=Rk.mp hb
  have ea:iw 127 a 0=i:=ea
  have eb:iw 127 b 0=j:=eb
  by_cases c:a<=b
  ·refine ⟨b - a,by omega,?_⟩
   rw [<-ea,<-oj,show b - a + a=b by omega]
   exact eb
  ·refine ⟨128 + b - a,by omega,?_⟩
   rw [<-ea,<-oj,show 128 + b - a + a=b + 128 by omega,oj,IT]
   exact eb
theorem CY (mask:Nat) (h:Int) (k:Nat):(tn mask h k).1<=mask:=by
 cases k with
 | zero=>exact VM (Yb _ (by omega))
 | succ k=>exact VM (Yb _ (by omega))
theorem visits {mask:Nat}(hm:lN mask) (h:Int) (j:Nat) (hj:j<=mask):∃n,n<=10 * (mask + 12)/\pos mask h n=j:=by
 obtain ⟨r,hr,e⟩:=DR hm (tn mask h 12).1 j (CY mask h 12) hj
 obtain ⟨n,hn,q⟩:=By mask h (12 + r)
 refine ⟨n,by omega,?_⟩
 show (st mask h n).j=j
 rw [q]
 show (tn mask h (12 + r)).1=j
 rw [zY,e]
theorem sR {mask:Nat}(hm:lN mask) (h:Int) (P:List Nat) (hP:P.length<=mask):∃n,n<=10 * (mask + 12)/\pos mask h n∉P/\∀m,m < n->pos mask h m∈P:=by
 have ex:∃j,j<=mask/\j∉P:=by
  by_cases c:∀j,j<=mask->j∈P
  ·exfalso
   have:(Ra (mask + 1)).length<=P.length:=RN Tj λj hj=>c j (by have:=Rk.mp hj;omega)
   rw [Uu] at this
   omega
  ·exact Tv λz=>c λj hj=>Tv λy=>z ⟨j,hj,y⟩
 obtain ⟨j,hj,hn⟩:=ex
 obtain ⟨n,hn1,hn2⟩:=visits hm h j hj
 have key:∀k,k<=n->(∃m,m<=k/\pos mask h m∉P/\∀m',m' < m->pos mask h m'∈P)\/∀m,m<=k->pos mask h m∈P:=by
  intro k
  induction k with
  | zero=>
   intro _
   by_cases c:pos mask h 0∈P
   ·exact .inr λm hm=>by rw [show m=0 by omega];exact c
   ·exact .inl ⟨0,Rj _,c,λm' h'=>absurd h' (So _)⟩
  | succ k ih=>
   intro hk
   rcases ih (by omega) with ⟨m,h1,h2⟩ | h1
   ·exact .inl ⟨m,by omega,h2⟩
   ·by_cases c:pos mask h (k + 1)∈P
    ·exact .inr λm hm=>by
      by_cases d:m<=k
      ·exact h1 m d
      ·rw [show m=k + 1 by omega];exact c
    ·exact .inl ⟨k + 1,Rj _,c,λm' h'=>h1 m' (by omega)⟩
 rcases key n (Rj _) with ⟨m,h1,h2,h3⟩ | h1
 ·exact ⟨m,by omega,h2,h3⟩
 ·exact absurd (h1 n (Rj _)) (by rw [hn2];exact hn)
def Reach (mask:Nat) (P:List Nat) (h:Int) (j:Nat):Prop:=∃n,pos mask h n=j/\∀m,m < n->pos mask h m∈P
theorem Reach.mono {mask:Nat}{P P':List Nat}{h:Int}{j:Nat}(r:Reach mask P h j) (s:∀x∈P,x∈P'):Reach mask P' h j:=
 let ⟨n,h1,h2⟩:=r;⟨n,h1,λm hm=>s _ (h2 m hm)⟩
structure Tab (t:Sk) (es:Array (Int×Q8)) (L:List (Nat×Int×Q8)):Prop where
 dm:t.dummies=#[]
 pl:t.place.toList=L.map (·.1)
 en:es.toList=L.map (·.2)
 so:(L.map (·.1)).Pairwise (· < ·)
 bd:∀e∈L,e.1<=t.mask
 mo:lN t.mask
 fl:L.length<=t.mask
 pr:∀e∈L,Reach t.mask (L.map (·.1)) e.2.1 e.1
section
variable {t:Sk}{es:Array (Int×Q8)}{L:List (Nat×Int×Q8)}
theorem Tab.at_ (T:Tab t es L){i:Nat}{e:Nat×Int×Q8}(h:L[i]?=some e):t.place[i]?=some e.1/\es[i]?=some e.2:=by
 constructor
 ·rw [<-SY,T.pl,RD,h];rfl
 ·rw [<-SY,T.en,RD,h];rfl
theorem Tab.sop (T:Tab t es L):t.place.toList.Pairwise (· < ·):=by rw [T.pl];exact T.so
theorem zw (T:Tab t es L) (hashAt:Nat->Int) (hA:∀i e,es[i]?=some e->hashAt i=e.1) (h:Int) (n0:Nat) (hf:pos t.mask h n0∉L.map (·.1)) (hb:∀m,m < n0->pos t.mask h m∈L.map (·.1)):
  ∀(d n F:Nat),n0 - n=d->n<=n0->d < F->∃m,n<=m/\m<=n0/\(∀k,n<=k->k < m->∀e∈L,e.1=pos t.mask h k->e.2.1≠h)/\
   ((m=n0/\probe.go t hashAt h F (st t.mask h n)=some (.empty (pos t.mask h n0) none))\/(m < n0/\∃i e,L[i]?=some e/\e.1=pos t.mask h m/\e.2.1=h/\probe.go t hashAt h F (st t.mask h n)=some (.candidate (pos t.mask h m) i (st t.mask h (m + 1)))))
 | d,n,0,_,_,h=>absurd h (So _)
 | d,n,F + 1,hd,hn,hF=>by
  by_cases c:n=n0
  ·subst c
   refine ⟨n,Rj _,Rj _,λk h1 h2=>by omega,.inl ⟨rfl,?_⟩⟩
   unfold probe.go
   rw [ug T.dm (by rw [T.pl];exact hf)]
   show some (Met.empty _ (st t.mask h n).dummy)=_
   rw [oU]
  ·obtain ⟨e,he,ej⟩:=Rg.mp (hb n (by omega))
   obtain ⟨i,hi,rfl⟩:=Tf.mp he
   have hL:L[i]?=some L[i]:=Rl hi
   obtain ⟨p1,p2⟩:=T.at_ hL
   have hs:t.slot (pos t.mask h n)=.live i:=qc T.sop (by rw [p1,ej])
   have hh:=hA i _ p2
   have uniq:∀e∈L,e.1=pos t.mask h n->e=L[i]:=λe he q=>by
    obtain ⟨k,hk,rfl⟩:=Tf.mp he
    have:k=i:=by
     have sw:=SN.mp T.so
     rcases Uw k i with c | c | c
     ·have:=sw k i (by simpa using hk) (by simpa using hi) c
      simp at this
      omega
     ·exact c
     ·have:=sw i k (by simpa using hi) (by simpa using hk) c
      simp at this
      omega
    subst this;rfl
   by_cases q:L[i].2.1=h
   ·refine ⟨n,Rj _,by omega,λk h1 h2=>by omega,.inr ⟨by omega,i,L[i],hL,ej,q,?_⟩⟩
    unfold probe.go
    rw [hs]
    show (if (hashAt i == h)=true then _ else _)=_
    rw [hh,q,if_pos (by simp)]
    rfl
   ·obtain ⟨m,m1,m2,m3,m4⟩:=zw T hashAt hA h n0 hf hb (n0 - (n + 1)) (n + 1) F rfl (by omega) (by omega)
    have eg:probe.go t hashAt h (F + 1) (st t.mask h n)=probe.go t hashAt h F (st t.mask h (n + 1)):=by
     rw [probe.go,hs]
     show (if (hashAt i == h)=true then _ else _)=_
     rw [hh,if_neg (by simpa using q)]
     rfl
    rw [eg]
    refine ⟨m,by omega,m2,λk h1 h2 e he' ek=>?_,m4⟩
    by_cases z:k=n
    ·subst z
     rw [uniq e he' ek];exact q
    ·exact m3 k (by omega) h2 e he' ek
theorem oY {α:Type}(xs:Array α) (p:Nat) (x:α) (hp:p<=xs.size):(insertAt xs p x).toList=xs.toList.take p++x::xs.toList.drop p:=by
 unfold insertAt
 simp
 (exact List.take_of_length_le (by simp))
theorem Tab.put (T:Tab t es L) (h:Int) (x:Q8) (n0:Nat) (hf:pos t.mask h n0∉L.map (·.1)) (hb:∀m,m < n0->pos t.mask h m∈L.map (·.1)) (hj:pos t.mask h n0<=t.mask) (hl:L.length + 1<=t.mask):
  ∃L',Tab (t.put (pos t.mask h n0)).1 (insertAt es (t.put (pos t.mask h n0)).2 (h,x)) L'/\L'.Perm ((pos t.mask h n0,h,x)::L):=by
 obtain ⟨b1,b2,b3⟩:=nO t.place (pos t.mask h n0) T.sop
 generalize hp:below t.place (pos t.mask h n0)=p at b1 b2 b3
 have hsz:t.place.size=L.length:=by rw [<-Rm,T.pl,Rh]
 have hes:es.size=L.length:=by rw [<-Rm,T.en,Rh]
 have perm:(L.take p++(pos t.mask h n0,h,x)::L.drop p).Perm ((pos t.mask h n0,h,x)::L):=by
  have:=ZC (a:=(pos t.mask h n0,h,x)) (l₁:=L.take p) (l₂:=L.drop p)
  rwa [XZ] at this
 have e1:(t.put (pos t.mask h n0))=({t with place:=insertAt t.place p (pos t.mask h n0),dummies:=#[]},p):=by
  unfold SetTable.put
  rw [hp,T.dm]
  rfl
 rw [e1]
 have getP:∀i (hi:i < L.length),t.place.getD i 0=L[i].1:=λi hi=>by
  have:=(T.at_ (Rl hi)).1
  have hi':i < t.place.size:=by omega
  simp [Tq,hi']
  rw [Ui hi'] at this
  exact Sv this
 refine ⟨L.take p++(pos t.mask h n0,h,x)::L.drop p,⟨rfl,?_,?_,?_,λe he=>?_,T.mo,?_,λe he=>?_⟩,perm⟩
 ·show (insertAt t.place p (pos t.mask h n0)).toList=_
  rw [oY _ _ _ b1,T.pl]
  simp [Xg,Xh]
 ·show (insertAt es p (h,x)).toList=_
  rw [oY _ _ _ (by omega),T.en]
  simp [Xg,Xh]
 ·rw [RM,Rv,Te]
  refine ⟨?_,?_,?_⟩
  ·rw [Xg]
   exact T.so.sublist (WW _ _)
  ·rw [UN]
   refine ⟨λa ha=>?_,?_⟩
   ·obtain ⟨e,he,rfl⟩:=Rg.mp ha
    obtain ⟨i,hi,rfl⟩:=Tf.mp he
    rw [Ze]
    rw [UH] at hi
    have:=b3 (p + i) (by omega) (by omega)
    rw [getP _ (by omega)] at this
    rcases YS this with c | c
    ·exact c
    ·exact absurd (Rg.mpr ⟨L[p + i],SH _,c.symm⟩) hf
   ·rw [Xh]
    exact T.so.sublist (Zc _ _)
  ·intro a ha b hb
   obtain ⟨e,he,rfl⟩:=Rg.mp ha
   obtain ⟨i,hi,rfl⟩:=Tf.mp he
   rw [List.getElem_take]
   rw [Th] at hi
   have h1:=b2 i (by omega)
   rw [getP _ (by omega)] at h1
   (rcases Rt.mp hb with rfl | hb)
   ·exact h1
   ·obtain ⟨e,he,rfl⟩:=Rg.mp hb
    obtain ⟨k,hk,rfl⟩:=Tf.mp he
    rw [Ze]
    rw [UH] at hk
    have:=b3 (p + k) (by omega) (by omega)
    rw [getP _ (by omega)] at this
    omega
 ·rcases Rt.mp (perm.mem_iff.mp he) with rfl | he
  ·exact hj
  ·exact T.bd e he
 ·rw [perm.length_eq];exact hl
 ·have sub:∀y∈L.map (·.1),y∈(L.take p++(pos t.mask h n0,h,x)::L.drop p).map (·.1):=λy hy=>by
   obtain ⟨e,he,rfl⟩:=Rg.mp hy
   exact Rg.mpr ⟨e,perm.mem_iff.mpr (Rb _ he),rfl⟩
  rcases Rt.mp (perm.mem_iff.mp he) with rfl | he
  ·exact ⟨n0,rfl,λm hm=>sub _ (hb m hm)⟩
  ·exact (T.pr e he).mono sub
end
theorem nF (mask:Nat) (h:Int) (n i p m:Nat) (e:st mask h n={j:=i,more:=m,i:=i,perturb:=p,dummy:=none}):∀r,r<=m->st mask h (n + r)={j:=i + r,more:=m - r,i:=i,perturb:=p,dummy:=none}
 | 0,_=>e
 | r + 1,hr=>by
  show advance _ (st mask h (n + r))=_
  rw [nF mask h n i p m e r (by omega)]
  unfold advance
  rw [if_pos (by show m - r > 0;omega)]
  show Probe.mk _ _ _ _ _=_
  congr 1
theorem Fb (mask:Nat) (h:Int) (k n:Nat) (e:st mask h n={j:=(tn mask h k).1,more:=runEnd mask (tn mask h k).1 - (tn mask h k).1,i:=(tn mask h k).1,perturb:=(tn mask h k).2,dummy:=none}):
  st mask h (n + (runEnd mask (tn mask h k).1 - (tn mask h k).1) + 1)={j:=(tn mask h (k + 1)).1,more:=runEnd mask (tn mask h (k + 1)).1 - (tn mask h (k + 1)).1,i:=(tn mask h (k + 1)).1,perturb:=(tn mask h (k + 1)).2,dummy:=none}:=by
 show advance _ (st mask h (n + (runEnd mask (tn mask h k).1 - (tn mask h k).1)))=_
 rw [nF mask h n _ _ _ e _ (Rj _)]
 unfold advance
 simp
 exact ⟨rfl,rfl,rfl,rfl⟩
theorem vJ (mask:Nat) (h:Int) (owner:Array (Option Nat)) (G:List Nat) (ho:∀j,j<=mask->((owner.getD j (some 0)).isNone=true↔j∉G)):
  ∀(f k n:Nat),st mask h n={j:=(tn mask h k).1,more:=runEnd mask (tn mask h k).1 - (tn mask h k).1,i:=(tn mask h k).1,perturb:=(tn mask h k).2,dummy:=none}->(∀m,m < n->pos mask h m∈G)->
   (∃n',layClean.free mask owner f (tn mask h k).1 (tn mask h k).2=some (pos mask h n')/\pos mask h n'<=mask/\pos mask h n'∉G/\∀m,m < n'->pos mask h m∈G)\/(layClean.free mask owner f (tn mask h k).1 (tn mask h k).2=none/\∀r,r < f->(tn mask h (k + r)).1∈G)
 | 0,k,n,e,hb=>.inr ⟨rfl,λr hr=>absurd hr (So _)⟩
 | f + 1,k,n,e,hb=>by
  have hi:=CY mask h k
  have re:runEnd mask (tn mask h k).1<=mask/\(tn mask h k).1<=runEnd mask (tn mask h k).1:=by unfold runEnd;split <;> omega
  unfold layClean.free
  cases q:(Ra (runEnd mask (tn mask h k).1 + 1 - (tn mask h k).1)).find? λr=>(owner.getD ((tn mask h k).1 + r) (some 0)).isNone with
  | some r=>
   have h1:=List.find?_some q
   have h2:=Rk.mp (List.mem_of_find?_eq_some q)
   have h3:pos mask h (n + r)=(tn mask h k).1 + r:=by
    show (st mask h (n + r)).j=_
    rw [nF mask h n _ _ _ e r (by omega)]
   refine .inl ⟨n + r,?_,?_,?_,?_⟩
   ·show some _=_
    rw [h3]
   ·rw [h3];omega
   ·rw [h3];exact (ho _ (by omega)).mp h1
   ·intro m hm
    by_cases c:m < n
    ·exact hb m c
    ·obtain ⟨s,rfl⟩:∃s,m=n + s:=⟨m - n,by omega⟩
     have h4:pos mask h (n + s)=(tn mask h k).1 + s:=by
      show (st mask h (n + s)).j=_
      rw [nF mask h n _ _ _ e s (by omega)]
     rw [h4]
     refine Tv λz=>?_
     have z':=(ho ((tn mask h k).1 + s) (by omega)).mpr z
     rw [List.find?_eq_some_iff_append] at q
     obtain ⟨_,as,bs,eq,hall⟩:=q
     have hs:s∈as:=by
      have hlen:as.length=r:=by
       have hl:as.length < (Ra (runEnd mask (tn mask h k).1 + 1 - (tn mask h k).1)).length:=by rw [eq];simp
       have e3:(Ra (runEnd mask (tn mask h k).1 + 1 - (tn mask h k).1))[as.length]?=some r:=by rw [eq];simp
       rw [Uu] at hl
       rw [Vi hl] at e3
       exact Sv e3
      have e4:(Ra (runEnd mask (tn mask h k).1 + 1 - (tn mask h k).1))[s]?=some s:=Vi (by omega)
      rw [eq,Tu (by omega)] at e4
      exact SJ e4
     have:=hall s hs
     rw [z'] at this
     exact absurd this (by decide)
  | none=>
   have hall:=WH.mp q
   have occ:∀s,s<=runEnd mask (tn mask h k).1 - (tn mask h k).1->(tn mask h k).1 + s∈G:=λs hs=>Tv λz=>by
    have z':=(ho ((tn mask h k).1 + s) (by omega)).mpr z
    exact hall s (Rk.mpr (by omega)) z'
   have nb:∀m,m < n + (runEnd mask (tn mask h k).1 - (tn mask h k).1) + 1->pos mask h m∈G:=λm hm=>by
    by_cases c:m < n
    ·exact hb m c
    ·obtain ⟨s,rfl⟩:∃s,m=n + s:=⟨m - n,by omega⟩
     have h4:pos mask h (n + s)=(tn mask h k).1 + s:=by
      show (st mask h (n + s)).j=_
      rw [nF mask h n _ _ _ e s (by omega)]
     rw [h4]
     exact occ s (by omega)
   rcases vJ mask h owner G ho f (k + 1) _ (Fb mask h k n e) nb with ⟨n',g1,g2',g3⟩ | ⟨g1,g2'⟩
   ·exact .inl ⟨n',g1,g2',g3⟩
   ·refine .inr ⟨g1,λr hr=>?_⟩
    cases r with
    | zero=>have:=occ 0 (RL _);exact this
    | succ r=>have:=g2' r (by omega);rwa [show k + (r + 1)=k + 1 + r by omega]
theorem Ja {mask:Nat}(hm:lN mask) (h:Int) (owner:Array (Option Nat)) (G:List Nat) (hG:G.length<=mask) (ho:∀j,j<=mask->((owner.getD j (some 0)).isNone=true↔j∉G)):
  ∃n',layClean.free mask owner (turns mask) (bits h % (mask + 1)) (bits h)=some (pos mask h n')/\pos mask h n'<=mask/\pos mask h n'∉G/\∀m,m < n'->pos mask h m∈G:=by
 rcases vJ mask h owner G ho (turns mask) 0 0 rfl (λm hm=>absurd hm (So _)) with a | ⟨_,b⟩
 ·exact a
 ·exfalso
  have all:∀j,j<=mask->j∈G:=λj hj=>by
   obtain ⟨r,hr,e⟩:=DR hm (tn mask h 12).1 j (CY mask h 12) hj
   have:=b (12 + r) (by unfold turns;omega)
   rw [Zs,zY,e] at this
   exact this
  have:(Ra (mask + 1)).length<=G.length:=RN Tj λj hj=>all j (by have:=Rk.mp hj;omega)
  rw [Uu] at this
  omega
structure Own (mask:Nat) (owner:Array (Option Nat)) (G:List Nat) (hs:List Int):Prop where
 sz:owner.size=mask + 1
 ln:G.length=hs.length
 nd:G.Nodup
 bd:∀j∈G,j<=mask
 at_:∀j,j<=mask->owner.getD j none=if j∈G then some (G.idxOf j) else none
 pr:∀k (h1:k < G.length) (h2:k < hs.length),Reach mask G hs[k] G[k]
theorem Own.occ {mask:Nat}{owner:Array (Option Nat)}{G:List Nat}{hs:List Int}(O:Own mask owner G hs):∀j,j<=mask->((owner.getD j (some 0)).isNone=true↔j∉G):=λj hj=>by
 have e:owner.getD j (some 0)=owner.getD j none:=by
  have:j < owner.size:=by rw [O.sz];omega
  simp [Tq,this]
 rw [e,O.at_ j hj]
 split <;> simp_all
theorem Own.step {mask:Nat}{owner:Array (Option Nat)}{G:List Nat}{hs:List Int}(O:Own mask owner G hs) (hm:lN mask) (hl:hs.length<=mask) (h:Int):
  ∃j,layClean.free mask owner (turns mask) (bits h % (mask + 1)) (bits h)=some j/\Own mask (owner.setIfInBounds j (some hs.length)) (G++[j]) (hs++[h]):=by
 obtain ⟨n',e,b,f,r⟩:=Ja hm h owner G (by rw [O.ln];exact hl) O.occ
 refine ⟨_,e,⟨by rw [Array.size_setIfInBounds,O.sz],by simp [O.ln],?_,λj hj=>?_,λj hj=>?_,λk h1 h2=>?_⟩⟩
 ·rw [VN]
  refine ⟨O.nd,by simp,λa ha b hb=>?_⟩
  rw [Rp] at hb
  subst hb
  intro z;subst z;exact f ha
 ·rcases RJ.mp hj with h1 | h1
  ·exact O.bd j h1
  ·rw [Rp.mp h1];exact b
 ·have hsz:j < owner.size:=by rw [O.sz];omega
  by_cases c:j=pos mask h n'
  ·subst c
   rw [if_pos (by simp)]
   simp [Tq,hsz]
   rw [Zf,if_neg f]
   simp [O.ln]
  ·have e1:(owner.setIfInBounds (pos mask h n') (some hs.length)).getD j none=owner.getD j none:=by
    simp [Tq,hsz]
    rw [Array.getElem_setIfInBounds_ne]
    exact λz=>c z.symm
   rw [e1,O.at_ j hj]
   by_cases d:j∈G
   ·rw [if_pos d,if_pos (Uj _ d),Zf,if_pos d]
   ·rw [if_neg d,if_neg (by simp [d,c])]
 ·have sub:∀x∈G,x∈G++[pos mask h n']:=λx hx=>Uj _ hx
  by_cases c:k < G.length
  ·have:=(O.pr k c (by rw [<-O.ln];exact c)).mono sub
   rw [WZ c,WZ (by rw [<-O.ln];exact c)]
   exact this
  ·have hk:k=G.length:=by simp at h1;omega
   subst hk
   have e1:(G++[pos mask h n'])[G.length]=pos mask h n':=by simp
   have e2:(hs++[h])[G.length]=h:=by simp [O.ln]
   rw [e1,e2]
   exact ⟨n',rfl,λm hm=>sub _ (r m hm)⟩
theorem ze {mask:Nat}(hm:lN mask):∀(rest hs:List Int) (owner:Array (Option Nat)) (G:List Nat),Own mask owner G hs->(hs++rest).length<=mask->∃owner' G',rest.foldl (λacc h=>do
  let (owner,k) <-acc
  let j <-layClean.free mask owner (turns mask) (bits h % (mask + 1)) (bits h)
  pure (owner.setIfInBounds j (some k),k + 1)) (some (owner,hs.length))=some (owner',(hs++rest).length)/\Own mask owner' G' (hs++rest)
 | [],hs,owner,G,O,_=>⟨owner,G,by simp,by simpa using O⟩
 | h::rest,hs,owner,G,O,hl=>by
  obtain ⟨j,e,O'⟩:=O.step hm (by simp at hl;omega) h
  obtain ⟨owner',G',e2,O2⟩:=ze hm rest (hs++[h]) _ _ O' (by simpa using hl)
  refine ⟨owner',G',?_,by simpa using O2⟩
  rw [Wm]
  have e3:(do
   let (owner,k) <-some (owner,hs.length)
   let j <-layClean.free mask owner (turns mask) (bits h % (mask + 1)) (bits h)
   pure (owner.setIfInBounds j (some k),k + 1):Option (Array (Option Nat)×Nat))=some (owner.setIfInBounds j (some hs.length),(hs++[h]).length):=by
   show Option.bind (layClean.free mask owner (turns mask) (bits h % (mask + 1)) (bits h)) _=_
   rw [e]
   simp
  rw [e3]
  simpa using e2
theorem JB (mask:Nat):Own mask (Array.replicate (mask + 1) none) [] []:=
 ⟨by simp,rfl,TR,λj h=>absurd h (by simp),λj hj=>by simp [Tq],λk h1=>absurd h1 (by simp)⟩
theorem Eh {mask:Nat}(hm:lN mask) (hs:Array Int) (hl:hs.size<=mask):∃owner G,layClean mask hs=some owner/\Own mask owner G hs.toList:=by
 obtain ⟨owner,G,e,O⟩:=ze hm hs.toList [] _ [] (JB mask) (by simpa using hl)
 refine ⟨owner,G,?_,by simpa using O⟩
 unfold layClean
 rw [<-Array.foldl_toList]
 have e':=congrArg (Option.map (·.1)) e
 exact e'
theorem Jo {t:Sk}{es:Array (Int×Q8)}{mask:Nat}(hm:lN mask) (finger moves:Nat) (led plain:Bool) (hl:es.size<=mask):
  ∃t' Q5 L',laid mask finger moves led plain (es.map (·.1))=some (t',Q5)/\t'.mask=mask/\t'.led=led/\t'.plain=plain/\Tab t' (Q5.filterMap (es[·]?)) L'/\(Q5.filterMap (es[·]?)).toList.Perm es.toList:=by
 obtain ⟨owner,G,e,O⟩:=Eh hm (es.map (·.1)) (by simpa using hl)
 have hlen:G.length=es.size:=by rw [O.ln];simp
 (let live:=(Ra (mask + 1)).filterMap λj=>(owner.getD j none).map (j,·))
 have lv:∀p,p∈live↔p.1∈G/\p.2=G.idxOf p.1:=λp=>by
  show p∈(Ra (mask + 1)).filterMap _↔_
  rw [Vr]
  constructor
  ·rintro ⟨j,hj,q⟩
   have hj':j<=mask:=by have:=Rk.mp hj;omega
   rw [O.at_ j hj'] at q
   by_cases c:j∈G
   ·rw [if_pos c] at q
    have q:(j,G.idxOf j)=p:=by simpa using q
    subst q
    exact ⟨c,rfl⟩
   ·rw [if_neg c] at q;exact absurd q (by simp)
  ·rintro ⟨h1,h2⟩
   refine ⟨p.1,Rk.mpr (by have:=O.bd _ h1;omega),?_⟩
   rw [O.at_ _ (O.bd _ h1),if_pos h1]
   show some (p.1,G.idxOf p.1)=some p
   rw [<-h2]
 have so1:live.Pairwise λa b=>a.1 < b.1:=by
  show ((Ra (mask + 1)).filterMap _).Pairwise _
  rw [Xk]
  refine Sz.imp ?_
  intro a b hab x hx y hy
  cases q1:owner.getD a none with
  | none=>rw [q1] at hx;exact absurd hx (by simp)
  | some k1=>cases q2:owner.getD b none with
   | none=>rw [q2] at hy;exact absurd hy (by simp)
   | some k2=>
    rw [q1] at hx;rw [q2] at hy
    have hx:(a,k1)=x:=by simpa using hx
    have hy:(b,k2)=y:=by simpa using hy
    subst hx;subst hy;exact hab
 have ord:(live.map (·.2)).Perm (Ra es.size):=by
  rw [WA _ Tj]
  ·intro k
   rw [Rg,Rk]
   constructor
   ·rintro ⟨p,hp,rfl⟩
    obtain ⟨h1,h2⟩:=(lv p).mp hp
    rw [h2,<-hlen]
    exact Sq h1
   ·intro hk
    rw [<-hlen] at hk
    exact ⟨(G[k],k),(lv _).mpr ⟨SH _,(O.nd.idxOf_getElem k hk).symm⟩,rfl⟩
  ·show (live.map (·.2)).Pairwise _
   rw [R3]
   refine (VZ.mp so1).imp ?_
   rintro a b ⟨ha,hb,hab⟩ z
   obtain ⟨a1,a2⟩:=(lv a).mp ha
   obtain ⟨b1,b2⟩:=(lv b).mp hb
   rw [a2,b2] at z
   have ga:=UQ (Sq a1)
   have gb:=UQ (Sq b1)
   have:a.1=b.1:=by
    rw [<-ga,<-gb]
    congr 1
   omega
 have inR:∀p∈live,∃h:p.2 < es.size,True:=λp hp=>by
  have:p.2∈live.map (·.2):=Rg.mpr ⟨p,hp,rfl⟩
  exact ⟨Rk.mp (ord.mem_iff.mp this),trivial⟩
 let L':=live.map λp=>(p.1,es.getD p.2 default)
 have eL:(live.map (·.2)).toArray.filterMap (es[·]?)=(L'.map (·.2)).toArray:=by
  rw [List.filterMap_toArray]
  congr 1
  show aaj _ (live.map _)=(live.map _).map _
  rw [YH,RT]
  have:∀(l:List (Nat×Nat)),(∀p∈l,p∈live)->aaj ((λx=>es[x]?) ∘ λx=>x.snd) l=abQ ((λx=>x.snd) ∘ λp=>(p.fst,es.getD p.snd default)) l:=by
   intro l
   induction l with
   | nil=>intro _;rfl
   | cons p l ih=>
    intro hl
    obtain ⟨hp,_⟩:=inR p (hl p (by simp))
    rw [List.filterMap_cons_some (b:=es.getD p.2 default)]
    ·rw [Rv,ih λq hq=>hl q (by simp [hq])]
     rfl
    ·show es[p.2]?=_
     simp [Tq,hp]
  exact this live λp hp=>hp
 have eP:L'.map (·.1)=live.map (·.1):=by
  show (live.map _).map _=_
  rw [RT];rfl
 have memP:∀j,j∈live.map (·.1)↔j∈G:=λj=>by
  rw [Rg]
  constructor
  ·rintro ⟨p,hp,rfl⟩;exact ((lv p).mp hp).1
  ·intro h;exact ⟨(j,G.idxOf j),(lv _).mpr ⟨h,rfl⟩,rfl⟩
 have lenL:L'.length=es.size:=by
  have:=ord.length_eq
  rw [Rh,Uu] at this
  show (live.map _).length=_
  rw [Rh,this]
 refine ⟨{mask,place:=(live.map (·.1)).toArray,dummies:=#[],finger,led,moves,plain},(live.map (·.2)).toArray,L',?_,rfl,rfl,rfl,⟨rfl,?_,?_,?_,λx hx=>?_,hm,?_,λx hx=>?_⟩,?_⟩
 ·unfold laid
  rw [e]
  rfl
 ·show (live.map (·.1)).toArray.toList=_
  rw [eP]
 ·rw [eL]
 ·rw [eP,R3];exact so1
 ·obtain ⟨p,hp,rfl⟩:=Rg.mp hx
  exact O.bd _ ((lv p).mp hp).1
 ·show L'.length<=mask
  rw [lenL];exact hl
 ·obtain ⟨p,hp,rfl⟩:=Rg.mp hx
  obtain ⟨h1,h2⟩:=(lv p).mp hp
  obtain ⟨hs,_⟩:=inR p hp
  have r:=O.pr p.2 (by omega) (by simpa using hs)
  have e1:G[p.2]'(by omega)=p.1:=by
   have:=UQ (Sq h1)
   rw [<-this]
   congr 1
  have e2:((es.map (·.1)).toList[p.2]'(by simpa using hs))=(es.getD p.2 default).1:=by
   simp [Tq,hs]
  rw [e1,e2] at r
  show Reach mask (L'.map (·.1)) (es.getD p.2 default).1 p.1
  refine r.mono λy hy=>?_
  rw [eP]
  exact (memP y).mpr hy
 ·rw [eL]
  show (L'.map (·.2)).Perm es.toList
  have e1:(live.map (·.2)).map (λk=>es.getD k default)=L'.map (·.2):=by
   show _=(live.map _).map _
   rw [RT,RT];rfl
  rw [<-e1]
  refine (ord.map _).trans ?_
  have:(Ra es.size).map (λk=>es.getD k default)=es.toList:=by
   refine UI (by simp) λi h1 h2=>?_
   simp at h1
   simp [Tq,h1]
  rw [this]
theorem wc {t:Sk}{es:Array (Int×Q8)}{w:Nat}(hm:lN (sizeAbove w - 1)) (hl:es.size<=sizeAbove w - 1):
  ∃t' Q5 L',t.relaid (es.map (·.1)) w=some (t',Q5)/\t'.mask=sizeAbove w - 1/\t'.led=t.led/\t'.plain=t.plain/\Tab t' (Q5.filterMap (es[·]?)) L'/\(Q5.filterMap (es[·]?)).toList.Perm es.toList:=
 Jo (t:=t) hm t.finger (t.movedTo (sizeAbove w - 1)) t.led t.plain hl
end ST
namespace DL
open PySem PySem.Spec PyProof.Rows L2
mutual
noncomputable def kq:D->Nat
 | .int _=>1
 | .tup xs=>fW xs + 1
 | _=>0
noncomputable def fW:List D->Nat
 | []=>0
 | x::xs=>kq x + fW xs
end
theorem qU:∀{ds:List D},areKeys ds=true->∀d∈ds,isKey d=true
 | [],_,_,h=>nomatch h
 | x::xs,h,d,hm=>by
  unfold areKeys at h
  rw [Ri] at h
  (rcases Rt.mp hm with rfl | hm)
  ·exact h.1
  ·exact qU h.2 d hm
mutual
theorem zb:∀{d e:D},isKey d=true->isKey e=true->bz d e=true->d=e
 | .int i,.int j,_,_,h=>by simp [bz] at h;rw [h]
 | .tup xs,.tup ys,hd,he,h=>by
  unfold isKey at hd he
  simp only [bz] at h
  rw [keys_eq hd he h]
 | .int _,.tup _,_,_,h=>by simp [bz] at h
 | .tup _,.int _,_,_,h=>by simp [bz] at h
theorem keys_eq:∀{ds es:List D},areKeys ds=true->areKeys es=true->cP ds es=true->ds=es
 | [],[],_,_,_=>rfl
 | x::xs,y::ys,hd,he,h=>by
  unfold areKeys at hd he
  rw [Ri] at hd he
  simp only [cP,Ri] at h
  rw [zb hd.1 he.1 h.1,keys_eq hd.2 he.2 h.2]
 | [],_::_,_,_,h=>by simp [cP] at h
 | _::_,[],_,_,h=>by simp [cP] at h
end
theorem uW {d e:D}(hd:isKey d=true) (he:isKey e=true):bz d e=true↔d=e:=⟨zb hd he,λh=>by rw [h];exact fF _⟩
theorem HF.keep {K:Q7}{J:Hp}{s s':Q_}(F:HF K J s) (k:∀b o,s.heap.get? b=some o->s'.heap.get? b=some o):HF K J s':=
 ⟨λa xs h=>let ⟨QX,r,o,ho,p⟩:=F.t a xs h;⟨QX,r,o,k _ _ ho,p⟩,λa xs h=>let ⟨QX,r,o,ho,p⟩:=F.l a xs h;⟨QX,r,o,k _ _ ho,p⟩,λa h=>let ⟨o,ho,p⟩:=F.e a h;⟨o,k _ _ ho,p⟩,λa ep Q4 h=>let ⟨o,es,ho,p⟩:=F.d a ep Q4 h;⟨o,es,k _ _ ho,p⟩⟩
section
variable {prog:Rz}{w:RZ}{E:Q8->Q_->Prop}{K:Q7}{J:Hp}
noncomputable def Dg (prog:Rz) (w:RZ) (A:R4) (K:Q7) (J:Hp) (d:D) (u:Q8):Prop:=
 ∀(E:Q8->Q_->Prop) (s:Q_) (Q:Int->Q_->Prop),HF K J s->Q (cC d) {s with toks:=s.toks + kq d}->RA (RG prog w) A (pyHash u) Q E s
inductive kF (prog:Rz) (w:RZ) (A:R4) (K:Q7) (J:Hp):List D->List Q8->Prop
 | nil:kF prog w A K J [] []
 | cons {d:D}{u:Q8}{ds:List D}{us:List Q8}:Dg prog w A K J d u->kF prog w A K J ds us->kF prog w A K J (d::ds) (u::us)
theorem tE:∀(a b:List D),c_ (a++b)=c_ a++c_ b
 | [],b=>rfl
 | x::a,b=>by show cC x::c_ (a++b)=_;rw [tE a b];rfl
theorem sL:∀(a b:List D),fW (a++b)=fW a + fW b
 | [],b=>by show fW b=0 + _;omega
 | x::a,b=>by show kq x + fW (a++b)=kq x + fW a + fW b;rw [sL a b];omega
theorem FZ {A:R4}{s:Q_}{a:Rq}{o:Obj}{QX:List Q8}{n:Nat}{ds:List D}{Q:Int->Q_->Prop}(N:HF K J s) (ho:s.heap.get? a=some o) (hc:o.cls=.type "tuple") (hd:o.data=.seq QX.toArray n) (hu:A.units < S6)
  (hl:kF prog w A.in1 K J ds QX) (h:Q (aay (Sx (c_ ds))) {s with toks:=s.toks + (fW ds + 1)}):RA (RG prog w) A (pyHash (.ref a)) Q E s:=by
 have hT:s.TypeIs (.ref a) "tuple":=⟨o,ho,hc⟩
 unfold pyHash
 (first | unfold pyHashByItsType | skip)
 (first | refine Q6 (wpAny_cRoomFor_or (.inr hu) ?_) | skip)
 (refine Q6 (VB hT UY.lookup ?_))
 (show RA _ _ (if (some (Xe "tuple.__hash__") == some R7)=true then _ else _) Q E s)
 (rw [if_neg (by rw [beq_builtin_none];exact RV)])
 (refine Q6 (VB hT UY.lookup ?_))
 (show RA _ _ (callSpecialIfBoundUnlessNone? (.ref a) "__hash__" _ >>= _) Q E s)
 (refine Q6 (wpAny_callSpecialIfBoundUnlessNone?_slot hT UY (Sb UY hT F.entry_tuple_hash ?_ (F.args_tuple_hash_1 _))))
 (show RA _ _ (U0 (.ref a) >>= _) _ _ s)
 (refine Q6 (wpAny_tupleItemsOf ho hd ?_))
 refine Q6 ?_
 rw [<-VC]
 refine T9 _
  (λrest (b:Array Int) s'=>∃done left,ds=done++left/\kF prog w A.in1 K J left rest/\b.toList=c_ done/\s'={s with toks:=s.toks + fW done})
  _ ?_ ?_ _ _ ⟨[],ds,rfl,hl,rfl,rfl⟩
 ·(rintro x rest b s' ⟨done,left,rfl,hl,hb,rfl⟩)
  cases hl with
  | @cons k _ ks' _ h1 hl'=>
   refine Q6 (h1 _ _ _ ⟨N.t,N.l,N.e,N.d⟩ ?_)
   have e1:(b.push (cC k)).toList=c_ (done++[k]):=by rw [Zg,tE,hb];rfl
   have e2:s.toks + fW done + kq k=s.toks + fW (done++[k]):=by rw [sL];show _=s.toks + (fW done + (kq k + 0));omega
   first
    | exact Q9 ⟨done++[k],ks',by simp,hl',e1,by rw [e2]⟩
    | exact Q6 (Q9 (Q9 ⟨done++[k],ks',by simp,hl',e1,by rw [e2]⟩))
 ·(rintro b s' ⟨done,left,rfl,hl,hb,rfl⟩)
  cases hl
  rw [Ur] at h
  (show RA _ _ (retInt (Sx b.toList)) _ _ _)
  rw [hb]
  refine wpAny_ret_mkInt ?_
  show RA _ _ (if (decide (-(2:Int) ^ 63<=Sx (c_ done)) && decide (Sx (c_ done) < 2 ^ 63))=true then _ else _) Q E _
  unfold aay at h
  by_cases hr:(decide (-(2:Int) ^ 63<=Sx (c_ done)) && decide (Sx (c_ done) < 2 ^ 63))=true
  ·rw [if_pos hr]
   rw [if_pos hr] at h
   (exact Q9 (by simpa [aaZ] using h))
  ·rw [if_neg hr]
   rw [if_neg hr] at h
   (exact Q6 (WX (Q9 (by simpa [aaZ] using h))))
mutual
theorem vt:∀(d:D) (v:V) (u:Q8) (A:R4) (s:Q_),HF K J s->isKey d=true->Rep K J d v->RelV v u->A.units + dep d < S6->Dg prog w A K J d u
 | .int i,v,u,A,s,N,hk,hr,rv,hu=>λE s' Q N' h=>by
  cases hr
  obtain ⟨t,rfl⟩:=rv
  exact Xn h
 | .tup ds,v,u,A,s,N,hk,hr,rv,hu=>λE s' Q N' h=>by
  cases hr with
  | tup h1 hs=>
   cases rv
   obtain ⟨QX,r,o,ho,hc,n,hd⟩:=N'.t _ _ h1
   exact FZ N' ho hc hd (by unfold dep at hu;omega) (Ad ds _ _ A.in1 s N hk hs r (by rw [in1_units];unfold dep at hu;omega)) h
 | .non,v,u,A,s,N,hk,hr,rv,hu=>nomatch hk
 | .bl _,v,u,A,s,N,hk,hr,rv,hu=>nomatch hk
 | .str _,v,u,A,s,N,hk,hr,rv,hu=>nomatch hk
 | .lst _,v,u,A,s,N,hk,hr,rv,hu=>nomatch hk
 | .emp,v,u,A,s,N,hk,hr,rv,hu=>nomatch hk
 | .exn _ _ _,v,u,A,s,N,hk,hr,rv,hu=>nomatch hk
 | .dct _ _,v,u,A,s,N,hk,hr,rv,hu=>nomatch hk
theorem Ad:∀(ds:List D) (vs:List V) (us:List Q8) (A:R4) (s:Q_),HF K J s->areKeys ds=true->aJ K J ds vs->Vals vs us->A.units + deps ds < S6->kF prog w A K J ds us
 | [],vs,us,A,s,N,hk,hr,rv,hu=>by
  cases hr;cases rv;exact .nil
 | d::ds,vs,us,A,s,N,hk,hr,rv,hu=>by
  unfold areKeys at hk
  rw [Ri] at hk
  unfold deps at hu
  cases hr with
  | cons a b=>
   cases rv with
   | cons c e=>exact .cons (vt d _ _ A s N hk.1 a c (by omega)) (Ad ds _ _ A s N hk.2 b e (by omega))
end
end
def iJ (K:Q7) (J:Hp) (n:Nat) (u:Q8):Prop:=∃d v,isKey d=true/\dep d<=n/\Rep K J d v/\RelV v u
section
variable {prog:Rz}{w:RZ}{E:Q8->Q_->Prop}{K:Q7}{J:Hp}{A:R4}{s:Q_}
theorem za {n:Nat}:∀{ds:List D}{vs:List V}{us:List Q8},areKeys ds=true->deps ds<=n->aJ K J ds vs->Vals vs us->∀u∈us,iJ K J n u
 | _,_,_,_,_,.nil,.nil=>λu h=>nomatch h
 | d::ds,_,_,hk,hn,.cons a b,.cons c e=>λu h=>by
  unfold areKeys at hk
  rw [Ri] at hk
  unfold deps at hn
  (rcases Rt.mp h with rfl | h)
  ·exact ⟨d,_,hk.1,by omega,a,c⟩
  ·exact za hk.2 (by omega) b e u h
theorem iJ.cases' {n:Nat}{u:Q8}(N:HF K J s) (h:iJ K J n u):(∃i t,u=.int i t)\/∃a o QX m k,u=.ref a/\s.heap.get? a=some o/\o.cls=.type "tuple"/\o.data=.seq QX m/\n=k + 1/\∀y∈QX.toList,iJ K J k y:=by
 obtain ⟨d,v,hk,hn,hr,rv⟩:=h
 cases d with
 | int i=>
  cases hr
  obtain ⟨t,rfl⟩:=rv
  exact .inl ⟨_,_,rfl⟩
 | tup ds=>
  cases hr with
  | tup h1 hs=>
   cases rv
   obtain ⟨QX,r,o,ho,hc,m,hd⟩:=N.t _ _ h1
   unfold dep at hn
   obtain ⟨k,rfl⟩:∃k,n=k + 1:=⟨n - 1,by omega⟩
   exact .inr ⟨_,o,_,m,k,rfl,ho,hc,hd,rfl,za hk (by omega) hs r⟩
 | _=>cases hk
theorem nD:∀(n:Nat){u:Q8}{Q:Bool->Q_->Prop},HF K J s->iJ K J n u->Q true s->RA (RG prog w) A (eqIsQuiet n u) Q E s
 | n,u,Q,N,hk,h=>by
  rcases hk.cases' N with ⟨i,t,rfl⟩ | ⟨a,o,QX,m,k,rfl,ho,hc,hd,rfl,hi⟩
  ·rw [eqIsQuiet_byValue _ rfl]
   exact Q9 h
  ·have hT:s.TypeIs (.ref a) "tuple":=⟨o,ho,hc⟩
   unfold eqIsQuiet
   (refine Q6 (VB hT F.slot_tuple_eq.lookup ?_))
   (show RA _ _ (aax (.ref a) (.type "tuple") >>= _) _ _ s)
   (refine Q6 (V9 hT isSubtype_tuple_tuple ?_))
   (simp only [TN,Ry,if_false])
   (refine Q6 (Yn ho hd ?_))
   refine Q6 ?_
   show RA _ _ (forIn QX _ _) _ _ s
   rw [<-VC]
   refine T9 _ (λrest r s'=>r.1=none/\s=s'/\∀v∈rest,iJ K J k v) _ ?_ ?_ _ _ ⟨rfl,rfl,hi⟩
   ·(rintro v rest r s' ⟨hr,rfl,hall⟩)
    refine Q6 (nD k N (hall v Rf) ?_)
    (simp only [TN,Ry,if_false])
    (exact Q9 ⟨rfl,rfl,λu hu'=>hall u (Rb _ hu')⟩)
   ·(rintro ⟨r1,r2⟩ s' ⟨hr,rfl,_⟩)
    simp only at hr
    subst hr
    exact Q9 h
theorem EH:∀(n:Nat){u:Q8}{Q:Bool->Q_->Prop},HF K J s->iJ K J n u->Q true s->RA (RG prog w) A (hashByValue n u) Q E s
 | n,u,Q,N,hk,h=>by
  rcases hk.cases' N with ⟨i,t,rfl⟩ | ⟨a,o,QX,m,k,rfl,ho,hc,hd,rfl,hi⟩
  ·cases n <;> exact Q9 h
  ·have hT:s.TypeIs (.ref a) "tuple":=⟨o,ho,hc⟩
   unfold hashByValue
   (refine Q6 (VB hT UY.lookup ?_))
   show RA _ _ (seqItems? (.ref a) >>= _) _ _ s
   (refine Q6 (Yn ho hd ?_))
   refine Q6 ?_
   show RA _ _ (forIn QX _ _) _ _ s
   rw [<-VC]
   refine T9 _ (λrest r s'=>r.1=none/\s=s'/\∀v∈rest,iJ K J k v) _ ?_ ?_ _ _ ⟨rfl,rfl,hi⟩
   ·(rintro v rest r s' ⟨hr,rfl,hall⟩)
    refine Q6 (EH k N (hall v Rf) ?_)
    (simp only [TN,Ry,if_false])
    (exact Q9 ⟨rfl,rfl,λu hu'=>hall u (Rb _ hu')⟩)
   ·(rintro ⟨r1,r2⟩ s' ⟨hr,rfl,_⟩)
    simp only at hr
    subst hr
    exact Q9 h
theorem nA:∀(n:Nat){u:Q8}{Q:Bool->Q_->Prop},HF K J s->iJ K J n u->Q false s->RA (RG prog w) A (Zh n u) Q E s
 | n,u,Q,N,hk,h=>by
  rcases hk.cases' N with ⟨i,t,rfl⟩ | ⟨a,o,QX,m,k,rfl,ho,hc,hd,rfl,hi⟩
  ·cases n <;> exact Q9 h
  ·have hT:s.TypeIs (.ref a) "tuple":=⟨o,ho,hc⟩
   unfold Zh
   (refine Q6 (VY hT ?_))
   dsimp only
   (refine Q6 (Q9 ?_))
   (simp only [TN,Ry,if_false])
   (refine Q6 (Yn ho hd ?_))
   dsimp only
   refine Q6 ?_
   show RA _ _ (forIn QX _ _) _ _ s
   rw [<-VC]
   refine T9 _ (λrest r s'=>r.1=none/\s=s'/\∀v∈rest,iJ K J k v) _ ?_ ?_ _ _ ⟨rfl,rfl,hi⟩
   ·(rintro v rest r s' ⟨hr,rfl,hall⟩)
    refine Q6 (nA k N (hall v Rf) ?_)
    (simp only [Ry,if_false])
    (exact Q9 ⟨rfl,rfl,λu hu'=>hall u (Rb _ hu')⟩)
   ·(rintro ⟨r1,r2⟩ s' ⟨hr,rfl,_⟩)
    simp only at hr
    subst hr
    exact Q9 h
theorem MZ {x:Q8}{ys:List Q8}{Q:Bool->Q_->Prop}(N:HF K J s) (hx:iJ K J 8 x) (hy:∀y∈ys,iJ K J 8 y) (h:Q false s):RA (RG prog w) A (W0 x ys) Q E s:=by
 unfold W0
 refine Q6 ?_
 refine T9 _ (λrest r s'=>r.1=none/\s=s'/\∀v∈rest,iJ K J 8 v) _ ?_ ?_ _ _ ⟨rfl,rfl,hy⟩
 ·(rintro v rest r s' ⟨hr,rfl,hall⟩)
  have nx:∀u∈rest,iJ K J 8 u:=λu hu'=>hall u (Rb _ hu')
  dsimp only
  have hv:=hall v Rf
  split
  ·split
   ·exact Q9 ⟨rfl,rfl,nx⟩
   ·refine Q6 (nD 8 N hx ?_)
    (simp only [TN,Ry,if_false])
    refine Q6 (nD 8 N hv ?_)
    (simp only [TN,Ry,if_false])
    refine Q6 (nA 8 N hx ?_)
    (simp only [Ry,if_false])
    refine Q6 (nA 8 N hv ?_)
    (simp only [Ry,if_false])
    exact Q9 ⟨rfl,rfl,nx⟩
  ·split
   ·exact Q9 ⟨rfl,rfl,nx⟩
   ·refine Q6 (nD 8 N hx ?_)
    (simp only [TN,Ry,if_false])
    refine Q6 (nD 8 N hv ?_)
    (simp only [TN,Ry,if_false])
    refine Q6 (nA 8 N hx ?_)
    (simp only [Ry,if_false])
    refine Q6 (nA 8 N hv ?_)
    (simp only [Ry,if_false])
    exact Q9 ⟨rfl,rfl,nx⟩
 ·(rintro ⟨r1,r2⟩ s' ⟨hr,rfl,_⟩)
  simp only at hr
  subst hr
  exact Q9 h
end
end DL
namespace DL
open PySem PySem.Spec PyProof.Rows L2 ST
def KV (K:Q7) (J:Hp) (u:Q8) (d:D):Prop:=(∃a,u=.ref a)/\isKey d=true/\dep d<=8/\∃v,Rep K J d v/\RelV v u
theorem KV.key {K:Q7}{J:Hp}{u:Q8}{d:D}(h:KV K J u d):iJ K J 8 u:=let ⟨_,a,b,v,c,e⟩:=h;⟨d,v,a,b,c,e⟩
inductive fY (K:Q7) (J:Hp):List (Int×Q8)->List D->Prop
 | nil:fY K J [] []
 | cons {h:Int}{x:Q8}{d:D}{es:List (Int×Q8)}{ks:List D}:h=cC d->KV K J x d->fY K J es ks->fY K J ((h,x)::es) (d::ks)
section
variable {K:Q7}{J:Hp}
theorem fY.length {es:List (Int×Q8)}{ks:List D}(h:fY K J es ks):es.length=ks.length:=by
 induction h with
 | nil=>rfl
 | cons _ _ _ ih=>simp [ih]
theorem fY.at_ {es:List (Int×Q8)}{ks:List D}(h:fY K J es ks):∀{i:Nat}{e:Int×Q8},es[i]?=some e->∃d,ks[i]?=some d/\KV K J e.2 d/\e.1=cC d:=by
 induction h with
 | nil=>intro i e q;simp at q
 | @cons hh x d es ks h1 h2 _ ih=>
  intro i e q
  cases i with
  | zero=>simp at q;subst q;exact ⟨d,rfl,h2,h1⟩
  | succ i=>simp at q;obtain ⟨d',a,b⟩:=ih q;exact ⟨d',by simpa using a,b⟩
theorem fY.mem {es:List (Int×Q8)}{ks:List D}(h:fY K J es ks):∀e∈es,∃d∈ks,KV K J e.2 d/\e.1=cC d:=λe he=>by
 obtain ⟨i,hi⟩:=V0.mp he
 obtain ⟨d,h1,h2⟩:=h.at_ hi
 exact ⟨d,SJ h1,h2⟩
theorem fY.back {es:List (Int×Q8)}{ks:List D}(h:fY K J es ks){i:Nat}{d:D}(q:ks[i]?=some d):∃e,es[i]?=some e/\KV K J e.2 d/\e.1=cC d:=by
 have hi:i < es.length:=by rw [h.length];exact (RK.mp q).1
 obtain ⟨d',h1,h2⟩:=h.at_ (Rl hi)
 rw [q] at h1;cases h1
 exact ⟨_,Rl hi,h2⟩
theorem fY.perm {es es':List (Int×Q8)}(p:es.Perm es'):∀{ks:List D},fY K J es ks->∃ks',ks.Perm ks'/\fY K J es' ks':=by
 induction p with
 | nil=>intro ks h;exact ⟨ks,.refl _,h⟩
 | cons x _ ih=>
  intro ks h
  cases h with
  | cons h1 h2 h3=>obtain ⟨ks',a,b⟩:=ih h3;exact ⟨_,a.cons _,.cons h1 h2 b⟩
 | swap x y l=>
  intro ks h
  cases h with
  | cons h1 h2 h3=>cases h3 with
   | cons h4 h5 h6=>exact ⟨_,.swap _ _ _,.cons h4 h5 (.cons h1 h2 h6)⟩
 | trans _ _ ih1 ih2=>
  intro ks h
  obtain ⟨k1,a,b⟩:=ih1 h
  obtain ⟨k2,c,d⟩:=ih2 b
  exact ⟨k2,a.trans c,d⟩
end
theorem dz {t:Sk}{es:Array (Int×Q8)}{L:List (Nat×Int×Q8)}(T:Tab t es L):t.fits es.size=true:=by
 have h1:t.place.size=L.length:=by rw [<-Rm,T.pl,Rh]
 have h2:es.size=L.length:=by rw [<-Rm,T.en,Rh]
 have h3:t.fill=L.length:=by unfold YT;rw [T.dm,h1];rfl
 unfold SetTable.fits
 rw [h1,h2,h3]
 simp [T.fl]
theorem Kp {t:Sk}{es:Array (Int×Q8)}{L:List (Nat×Int×Q8)}(T:Tab t es L):t.gaveWay=false:=by
 unfold SetTable.gaveWay
 rcases T.mo with h | h | h <;> rw [h] <;> rfl
section
variable {prog:Rz}{w:RZ}{E:Q8->Q_->Prop}{K:Q7}{J:Hp}{A:R4}{s:Q_}
theorem search {a:Rq}{o:Obj}{es:Array (Int×Q8)}{ep:Nat}{t:Sk}{L:List (Nat×Int×Q8)}{ks:List D}{x:Q8}{d:D}{Q:SetFound->Q_->Prop}(N:HF K J s) (ho:s.heap.get? a=some o) (hd:o.data=.set es ep t) (T:Tab t es L) (en:fY K J es.toList ks)
  (hx:KV K J x d) (hu:A.units + 8 < S6) (n0:Nat) (hf:pos t.mask (cC d) n0∉L.map (·.1)) (hb:∀m,m < n0->pos t.mask (cC d) m∈L.map (·.1)) (hn0:n0<=10 * (t.mask + 12))
  (q1:d∈ks->Q (.there none) s) (q2:d∉ks->Q (.free (pos t.mask (cC d) n0) false) s):
  ∀(fuel n:Nat) (stand:Option SetTable.Probe),n<=n0->n0 - n < fuel->stand.getD (t.probeStart (cC d))=st t.mask (cC d) n->(∀k,k < n->∀(i:Nat) (e:Nat×Int×Q8),L[i]?=some e->e.1=pos t.mask (cC d) k->ks[i]?≠some d)->
   RA (RG prog w) A (aa0 a x (cC d) true fuel stand) Q E s
 | 0,n,stand,h1,h2,h3,h4=>absurd h2 (So _)
 | fuel + 1,n,stand,h1,h2,h3,h4=>by
  have esL:∀i,es[i]?=(L[i]?).map (λe:Nat×Int×Q8=>e.2):=λi=>by rw [<-SY,T.en,RD]
  unfold aa0
  refine Q6 (S0 ho hd (dz T) ?_)
  dsimp only
  rw [Kp T]
  (simp only [Ry,if_false])
  rw [h3]
  obtain ⟨m,m1,m2,m3,m4⟩:=zw T (λi=>(es[i]?.map (·.1)).getD 0) (λi e q=>by rw [q];rfl) (cC d) n0 hf hb (n0 - n) n (10 * aak t.mask) rfl h1 (by unfold aak;omega)
  generalize hP:SetTable.probe t _ (cC d) (st t.mask (cC d) n)=r
  rcases m4 with ⟨rfl,m4⟩ | ⟨m5,i,e,m6,m7,m8,m4⟩
  ·have:r=_:=hP.symm.trans m4
   subst this
   dsimp only
   refine Q9 (q2 λhm=>?_)
   obtain ⟨i,hi⟩:=V0.mp hm
   obtain ⟨e,e1,e2,e3⟩:=en.back hi
   rw [SY,esL] at e1
   obtain ⟨e',e4,rfl⟩:=Option.map_eq_some_iff.mp e1
   have hm':=SJ e4
   obtain ⟨k,k1,k2⟩:=T.pr _ hm'
   rw [e3] at k1 k2
   have kl:k < m:=by
    rcases Uw k m with c | c | c
    ·exact c
    ·subst c;rw [k1] at hf;exact absurd (Rg.mpr ⟨_,hm',rfl⟩) hf
    ·exact absurd (k2 m c) hf
   by_cases c:k < n
   ·exact h4 k c i e' e4 k1.symm hi
   ·exact m3 k (by omega) kl e' hm' k1.symm e3
  ·have:r=_:=hP.symm.trans m4
   subst this
   dsimp only
   have hei:es[i]?=some e.2:=by rw [esL,m6];rfl
   obtain ⟨d',f1,f2,f3⟩:=en.at_ (by rw [SY];exact hei)
   obtain ⟨⟨ya,g0⟩,g1,g2',v',g3,g4⟩:=id f2
   obtain ⟨_,x1,x2,v,x3,x4⟩:=id hx
   obtain ⟨j,hh,y⟩:=e
   dsimp only at g0 g4 m7 m8 hei
   subst g0
   have cmp:=ng N A g3 x3 g4 x4 (by omega) (by omega) (by omega)
   have pass:∀(k:Sem SetFound),RA (RG prog w) A k Q E s->RA (RG prog w) A (if (!t.led)=true then do
     let c <-W0 x (abQ (λx=>x.snd) (Array.filter (λx=>x.fst == cC d) es).toList)
     if c=true then do unsupported "set:the-search-would-show-the-table";k else k
     else k) Q E s:=λk hk=>by
    split
    ·refine Q6 (MZ N hx.key (λy hy=>?_) ?_)
     ·obtain ⟨e',he',rfl⟩:=Rg.mp hy
      have:e'∈es.toList:=by
       rw [Array.toList_filter] at he'
       exact (R1.mp he').1
      obtain ⟨d2,_,h2,_⟩:=en.mem e' this
      exact h2.key
     ·(simp only [Ry,if_false])
      exact hk
    ·exact hk
   refine pass _ ?_
   rw [hei]
   dsimp only
   refine Q6 (RU (cmp _ _ _ _ ?_))
   refine Q6 (S0 ho hd (dz T) ?_)
   dsimp only
   by_cases c:bz d' d=true
   ·rw [c]
    (simp only [aaR,if_true])
    refine Q9 (q1 ?_)
    rw [<-zb g1 x1 c]
    exact SJ f1
   ·rw [Bool.not_eq_true] at c
    rw [c]
    have sm:t.sameMemory t.moves t.mask=some true:=by unfold SetTable.sameMemory;simp
    have sl:t.slot (pos t.mask (cC d) m)=.live i:=qc T.sop (by rw [<-m7];exact (T.at_ m6).1)
    rw [sm]
    simp only [UL,Ry,if_false,if_true]
    rw [sl]
    dsimp only
    rw [hei]
    dsimp only
    refine Q6 (wpAny_isSame_ref_self ?_)
    simp only [if_true]
    (refine Q6 (Q9 ?_))
    dsimp only
    refine search N ho hd T en hx hu n0 hf hb hn0 q1 q2 fuel (m + 1) _ (by omega) (by omega) rfl λk hk i2 e2 z1 z2 z3=>?_
    by_cases c1:k < n
    ·exact h4 k c1 i2 e2 z1 z2 z3
    ·by_cases c2:k < m
     ·obtain ⟨dd,w1,_,w3⟩:=en.at_ (i:=i2) (e:=e2.2) (by rw [SY,esL,z1];rfl)
      rw [z3] at w1;cases w1
      exact m3 k (by omega) c2 e2 (SJ z1) z2 w3
     ·obtain rfl:k=m:=by omega
      have hi2:i2=i:=by
       obtain ⟨p1,p2⟩:=RK.mp z1
       obtain ⟨p3,p4⟩:=RK.mp m6
       have sw:=SN.mp T.so
       rcases Uw i2 i with c | c | c
       ·have:=sw i2 i (by simpa using p1) (by simpa using p3) c
        simp [p2,p4] at this
        omega
       ·exact c
       ·have:=sw i i2 (by simpa using p3) (by simpa using p1) c
        simp [p2,p4] at this
        omega
      subst hi2
      rw [f1] at z3
      cases z3
      rw [fF] at c
      exact absurd c (by decide)
end
structure jd (K:Q7) (J:Hp) (h:SM) (a:Rq) (led:Bool) (ks:List D) (es:Array (Int×Q8)) (ep:Nat) (t:Sk):Prop where
 at_:h.get? a=some {cls:=.type "set",dict:=none,data:=.set es ep t}
 tab:∃L,Tab t es L
 pl:t.plain=true
 ld:t.led=led
 rm:ks.length * 5 < t.mask * 3
 en:fY K J es.toList ks
 nd:ks.Nodup
theorem DT (mask i:Nat) (h:i<=mask):i + (ZX mask i - i)<=mask:=by unfold ZX;split <;> omega
theorem Ik (mask:Nat) (h:Int):∀n,(ST.st mask h n).j + (ST.st mask h n).more<=mask
 | 0=>DT mask _ (VM (Yb _ (by omega)))
 | n + 1=>by
  have ih:=Ik mask h n
  show (Xu _ (ST.st mask h n)).j + (Xu _ (ST.st mask h n)).more<=mask
  unfold Xu
  split
  ·dsimp only;omega
  ·exact DT mask _ (VM (Yb _ (by omega)))
theorem zu (mask:Nat) (h:Int) (n:Nat):ST.pos mask h n<=mask:=by have:=Ik mask h n;show (ST.st mask h n).j<=mask;omega
theorem AQ:Tc 20=32:=by decide +kernel
theorem AR:Tc 76=128:=by decide +kernel
theorem nJ {t:Sk}{es:Array (Int×Q8)}{L:List (Nat×Int×Q8)}(T:Tab t es L):L.length=es.size:=by rw [<-Rm,T.en,Rh]
section
variable {prog:Rz}{w:RZ}{E:Q8->Q_->Prop}{K:Q7}{J:Hp}{A:R4}{s:Q_}
theorem NH {a:Rq}{es:Array (Int×Q8)}{ep:Nat}{t:Sk}{led:Bool}{L:List (Nat×Int×Q8)}{ks:List D}{Q:Unit->Q_->Prop}(ho:s.heap.get? a=some {cls:=.type "set",dict:=none,data:=.set es ep t}) (T:Tab t es L) (hp:t.plain=true) (hl:t.led=led)
  (en:fY K J es.toList ks) (nd:ks.Nodup) (W:Nat) (hW:(Tc W=32/\ks.length=5)\/(Tc W=128/\ks.length=19))
  (h:∀(h':SM) ks' es' ep' t',Sy a s.heap h'->ks.Perm ks'->jd K J h' a led ks' es' ep' t'->Q () {s with heap:=h'}):RA (RG prog w) A (setRelay a W) Q E s:=by
 have hsz:es.size=ks.length:=by rw [<-Rm,en.length]
 have hm:lN (Tc W - 1):=by rcases hW with ⟨h,_⟩ | ⟨h,_⟩ <;> rw [h];exact .inr (.inl rfl);exact .inr (.inr rfl)
 obtain ⟨t',Q5,L',e1,e2,e3,e4,e5,e6⟩:=wc (t:=t) (es:=es) hm (by rcases hW with ⟨h,_⟩ | ⟨h,_⟩ <;> rw [h] <;> omega)
 unfold setRelay
 refine Q6 (S0 ho rfl (dz T) ?_)
 dsimp only
 rw [if_neg (by rw [Sh];rcases hW with ⟨h,_⟩ | ⟨h,_⟩ <;> rw [h] <;> omega)]
 have sz':(Q5.filterMap (es[·]?)).size=es.size:=by
  rw [<-Rm,e6.length_eq,Rm]
 rw [e1]
 have cnd:((Q5.filterMap (es[·]?)).size != es.size)=false:=by rw [sz'];simp
 refine Q6 (Vj (a:=(Q5.filterMap (es[·]?),t')) ?_ ?_)
 ·show (if ((Q5.filterMap (es[·]?)).size != es.size)=true then _ else pure (Q5.filterMap (es[·]?),t'))=_
  rw [cnd]
  rfl
 ·dsimp only
  obtain ⟨ks',p1,p2⟩:=en.perm e6.symm
  refine VO ho rfl ?_ (by rw [sz',Sh];rcases hW with ⟨_,h⟩ | ⟨_,h⟩ <;> omega)
  have hg:=S3 (W2 (Q5.filterMap (es[·]?)) t') ho rfl
  refine h _ ks' _ _ _ (SW _ _ _) p1 ⟨hg,⟨L',e5⟩,e4.trans hp,e3.trans hl,?_,p2,p1.nodup_iff.mp nd⟩
  rw [<-p1.length_eq,e2]
  rcases hW with ⟨h,h'⟩ | ⟨h,h'⟩ <;> rw [h,h'] <;> omega
theorem ID {a:Rq}{es:Array (Int×Q8)}{ep:Nat}{t:Sk}{led:Bool}{ks:List D}{x:Q8}{d:D}{Q:Bool->Q_->Prop}(N:HF K J s) (S:jd K J s.heap a led ks es ep t) (hx:KV K J x d) (hu:A.units + 8 < S6) (hl:ks.length < 76)
  (q1:d∈ks->Q false s) (q2:d∉ks->∀(h':SM) ks' es' ep' t',Sy a s.heap h'->(d::ks).Perm ks'->jd K J h' a led ks' es' ep' t'->Q true {s with heap:=h'}):
  RA (RG prog w) A (X0 a x (cC d)) Q E s:=by
 obtain ⟨L,T⟩:=S.tab
 have lenL:L.length=ks.length:=by rw [nJ T,<-Rm,S.en.length]
 obtain ⟨n0,b1,b2,b3⟩:=sR T.mo (cC d) (L.map (·.1)) (by rw [Rh];exact T.fl)
 have hj:pos t.mask (cC d) n0<=t.mask:=zu _ _ _
 (unfold X0 aal)
 refine RU (Q6 (S0 S.at_ rfl (dz T) ?_))
 dsimp only
 have ns:byScan x es=false:=by
  obtain ⟨⟨xa,rfl⟩,_⟩:=hx
  rfl
 rw [ns]
 (simp only [Ry,if_false])
 unfold setSearch
 refine Q6 (search N S.at_ rfl T S.en hx hu n0 b2 b3 b1 (λhm=>?_) (λhm=>?_) 100000 0 none (RL _) (by rcases T.mo with h | h | h <;> rw [h] at b1 <;> omega) rfl (λk hk=>absurd hk (So _)))
 ·exact Q9 (q1 hm)
 ·dsimp only
  refine Q6 (S0 S.at_ rfl (dz T) ?_)
  dsimp only
  obtain ⟨L',T',pm⟩:=T.put (cC d) x n0 b2 b3 hj (by have:=S.rm;rcases T.mo with h | h | h <;> rw [h] at this <;> omega)
  have fl:(t.put (pos t.mask (cC d) n0)).1.mask=t.mask/\(t.put (pos t.mask (cC d) n0)).1.plain=t.plain/\(t.put (pos t.mask (cC d) n0)).1.led=t.led:=⟨rfl,rfl,rfl⟩
  generalize t.put (pos t.mask (cC d) n0)=tp at T' fl ⊢
  obtain ⟨t',p⟩:=tp
  dsimp only at T' fl ⊢
  obtain ⟨f1,f2,f3⟩:=fl
  have en':∃ks',(d::ks).Perm ks'/\fY K J (S4 es p (cC d,x)).toList ks':=by
   refine fY.perm (es:=(cC d,x)::es.toList) ?_ (.cons rfl hx S.en)
   rw [T'.en,T.en]
   have:=pm.map (·.2)
   exact this.symm
  obtain ⟨ks',p1,p2⟩:=en'
  have nd':ks'.Nodup:=p1.nodup_iff.mp (S9.mpr ⟨hm,S.nd⟩)
  have lk:ks'.length=ks.length + 1:=by rw [<-p1.length_eq];rfl
  rw [f2,S.pl]
  simp only [if_true]
  refine Q6 (EH 8 N hx.key ?_)
  simp only [if_true]
  have esz:(S4 es p (cC d,x)).size=ks'.length:=by rw [<-Rm,p2.length]
  refine Q6 (VO S.at_ rfl ?_ (by rw [esz,Sh];omega))
  have hg:=S3 (W2 (S4 es p (cC d,x)) t') S.at_ rfl
  have hfill:t'.fill=ks'.length:=by
   unfold YT
   rw [T'.dm,<-Rm,T'.pl,Rh,nJ T',esz]
   rfl
  have hes:es.size=ks.length:=by rw [<-Rm,S.en.length]
  split
  ·rename_i c
   simp only [VT,TM] at c
   unfold V_ at c
   rw [hfill,f1,decide_eq_true_eq] at c
   have rm:=S.rm
   refine Q6 (NH (s:={s with heap:=s.heap.update a (W2 (S4 es p (cC d,x)) t')}) hg T' (f2.trans S.pl) (f3.trans S.ld) p2 nd' _ ?_ λh' ks2 es2 ep2 t2 g1 g2' g3=>?_)
   ·rw [hes]
    unfold VU
    rw [if_neg (by omega)]
    rcases T.mo with h | h | h
    ·rw [h] at c rm
     have:ks.length + 1=5:=by omega
     rw [this]
     exact .inl ⟨AQ,by omega⟩
    ·rw [h] at c rm
     have:ks.length + 1=19:=by omega
     rw [this]
     exact .inr ⟨AR,by omega⟩
    ·rw [h] at c;omega
   ·exact Q9 (q2 hm h' ks2 es2 ep2 t2 ((SW _ _ _).trans g1) (p1.trans g2') g3)
  ·rename_i c
   simp only [VT,TM] at c
   unfold V_ at c
   rw [hfill,f1,decide_eq_true_eq] at c
   exact Q9 (q2 hm _ ks' _ _ _ (SW _ _ _) p1 ⟨hg,⟨L',T'⟩,f2.trans S.pl,f3.trans S.ld,by rw [f1];omega,p2,nd'⟩)
end
theorem jd.keep {K:Q7}{J:Hp}{h h':SM}{a:Rq}{led:Bool}{ks:List D}{es:Array (Int×Q8)}{ep:Nat}{t:Sk}(S:jd K J h a led ks es ep t) (e:∀o,h.get? a=some o->h'.get? a=some o):jd K J h' a led ks es ep t:=
 ⟨e _ S.at_,S.tab,S.pl,S.ld,S.rm,S.en,S.nd⟩
section
variable {prog:Rz}{w:RZ}{A:R4}{R:ZI->Q_->Prop}{I:Rq}{fp wr:List Rq}{G:Array YA->Array YA->Prop}{n:Nat}{P:Nat->Q8->Prop}{St:Nat->Q_->Prop}{K:Q7}{J:Hp}
theorem Hq (W:WalksS prog w A.in1 I fp wr G n P St) (S:Rq) (hSf:S∉fp) (val:Nat->D) (hval:∀i v,P i v->KV K J v (val i)){s0:Q_}(N0:HF K J s0) (hnew:∀b∈S::wr,s0.heap.get? b=none) (hu:A.in1.units + 8 < S6) (hn:n<=76){led:Bool}:
  ∀(k i:Nat) (s:Q_) (ks:List D) (es:Array (Int×Q8)) (ep:Nat) (t:Sk),n - i=k->i<=n->St i s->(∀b o,s0.heap.get? b=some o->s.heap.get? b=some o)->jd K J s.heap S led ks es ep t->(∀d,d∈ks↔d∈(Ra i).map val)->
   (∀s' ks' es' ep' t',Moved (S::wr) G s s'->jd K J s'.heap S led ks' es' ep' t'->(∀d,d∈ks'↔d∈(Ra n).map val)->R (.ok (.ret .none)) s')->
   (T8 (RG prog w) A (.builtin "set.update.loop" ⟨[.ref S,.ref I],[]⟩) R s):=by
 (have P7:S∉wr:=λh=>hSf (W.sub _ h))
 (have hsub:∀b∈wr,b∈S::wr:=λb hb=>Rb _ hb)
 have old:∀b o,s0.heap.get? b=some o->b∉S::wr:=λb o e hm=>by rw [hnew b hm] at e;cases e
 intro k
 induction k with
 | zero=>
  intro i s ks es ep t hk hi hst hb hS hm hR
  have hin:i=n:=by omega
  subst hin
  refine Td SO ?_
  rw [Tg RQ _]
  (show RA _ A.in1 (VD (.ref I) >>= _) _ _ s)
  refine Q6 (W.done s _ _ hst λs' Pk=>?_)
  (show RA _ A.in1 (ret R7) _ _ s')
  exact Q9 (hR s' ks es ep t (Pk.mono hsub) (hS.keep λo e=>Pk.heap S o P7 e) hm)
 | succ k ih=>
  intro i s ks es ep t hk hi hst hb hS hm hR
  have hlt:i < n:=by omega
  have hlen:ks.length<=i:=by
   have:=RN hS.nd (λd hd=>(hm d).mp hd)
   simpa using this
  refine Td SO ?_
  rw [Tg RQ _]
  (show RA _ A.in1 (VD (.ref I) >>= _) _ _ s)
  refine Q6 (W.item i s _ _ hlt hst λv s' hP Py Pk=>?_)
  have hx:=hval i v hP
  obtain ⟨_,x1,x2,vv,x3,x4⟩:=id hx
  have hS':=hS.keep (h':=s'.heap) λo e=>Pk.heap S o P7 e
  have hb':∀b o,s0.heap.get? b=some o->s'.heap.get? b=some o:=λb o e=>Pk.heap b o (λhm=>old b o e (hsub b hm)) (hb b o e)
  have N':HF K J s':=N0.keep hb'
  have mem':∀(ks':List D),(∀d,d∈ks'↔d=val i\/d∈ks)->∀d,d∈ks'↔d∈(Ra (i + 1)).map val:=λks' h d=>by
   rw [h d,hm d,T5,RM,RJ]
   simp only [Rv,WC,Rp]
   exact Or.comm
  show RA _ A.in1 (holding [v] (setAdd S v) >>= _) _ _ s'
  (refine Q6 (RU ?_))
  unfold setAdd
  refine RU ?_
  refine Q6 (vt (val i) vv v A.in1 s' N' x1 x3 x4 (by omega) _ _ _ N' ?_)
  refine ID (s:={s' with toks:=s'.toks + kq (val i)}) (⟨N'.t,N'.l,N'.e,N'.d⟩:HF K J {s' with toks:=s'.toks + kq (val i)}) hS' hx hu (by omega) (λhin=>?_) (λhin h' ks' es' ep' t' P5 Qo Qh=>?_)
  ·refine Q9 ⟨UZ RQ _,ih (i + 1) _ ks es ep t (by omega) hlt (W.frame _ s' _ _ Py (Vg _ _) λb hb o e=>e) hb' hS' (mem' ks λd=>⟨.inr,λh=>h.elim (λh=>h▸hin) id⟩) λs'' ks'' es'' ep'' t'' hm'' hS'' P0=>?_⟩
   exact hR s'' ks'' es'' ep'' t'' (Yw W.gtrans ((Pk.mono hsub).then_heap (Vg _ _) λb o hb e=>e) hm'') hS'' P0
  ·refine Q9 ⟨UZ RQ _,ih (i + 1) _ ks' es' ep' t' (by omega) hlt (W.frame _ s' _ _ Py (Vg _ _) λb hb o e=>?_) (λb o e=>?_) Qh (mem' ks' λd=>?_) λs'' ks'' es'' ep'' t'' hm'' hS'' P0=>?_⟩
   ·(rw [P5.2 b (λh:b=S=>hSf (by rw [<-h];exact hb))];exact e)
   ·show h'.get? b=some o
    rw [P5.2 b (λh:b=S=>old b o e (by rw [h];exact Rf))]
    exact hb' b o e
   ·rw [<-Qo.mem_iff,Rt]
   ·refine hR s'' ks'' es'' ep'' t'' (Yw W.gtrans ((Pk.mono hsub).then_heap (Vg _ _) λb o hb e=>?_) hm'') hS'' P0
    (rw [P5.2 b (λh:b=S=>hb (by rw [h];exact Rf))];exact e)
end
theorem CP {K:Q7}{J:Hp}{h:SM}{a:Rq}{led:Bool}(e:h.get? a=some {cls:=.type "set",dict:=none,data:=.set #[] 0 (.fresh 0 0 led)}):jd K J h a led [] #[] 0 (.fresh 0 0 led):=
 ⟨e,⟨[],⟨rfl,rfl,rfl,UW,(λ_ h=>nomatch h),.inl rfl,RL _,(λ_ h=>nomatch h)⟩⟩,rfl,rfl,(show 0 * 5 < 7 * 3 by decide),.nil,TR⟩
end DL
namespace ST
open PySem PySem.SetTable
theorem yo {xs:Array Nat}{i j:Nat}(hs:xs.toList.Pairwise (· < ·)) (hi:i<=xs.size) (h1:∀k,k < i->xs.getD k 0 < j) (h2:∀k,i<=k->k < xs.size->j<=xs.getD k 0):below xs j=i:=by
 obtain ⟨b1,b2,b3⟩:=nO xs j hs
 rcases Uw (below xs j) i with c | c | c
 ·have:=h1 _ c
  have:=b3 _ (Rj _) (by omega)
  omega
 ·exact c
 ·have:=b2 _ c
  have:=h2 i (Rj _) (by omega)
  omega
theorem B5 {xs:Array Nat}(hs:xs.toList.Pairwise (· < ·)):below xs 0=0:=yo hs (RL _) (λk h=>absurd h (So _)) λk _ _=>RL _
theorem B4 {xs:Array Nat}{i j:Nat}(hs:xs.toList.Pairwise (· < ·)) (h:xs[i]?=some j):below xs (j + 1)=i + 1:=by
 obtain ⟨hi,e⟩:=Su.mp h
 have sw:=SN.mp hs
 have gd:∀k (hk:k < xs.size),xs.getD k 0=xs[k]:=λk hk=>by simp [Tq,hk]
 refine yo hs (by omega) (λk hk=>?_) (λk h1 h2=>?_)
 ·rw [gd k (by omega)]
  by_cases c:k=i
  ·subst c;omega
  ·have:=sw k i (by simp;omega) (by simpa using hi) (by omega)
   simp at this
   omega
 ·rw [gd k h2]
  have:=sw i k (by simpa using hi) (by simpa using h2) (by omega)
  simp at this
  omega
theorem vZ {α:Type}(next:Nat->Nat):∀(f k:Nat) (left:List α) (out:Array α),f=left.length->(Zt next f k left out).toList.Perm (out.toList++left)
 | 0,k,left,out,h=>by
  have:left=[]:=UD.mp h.symm
  subst this
  unfold Zt
  simp
 | f + 1,k,left,out,h=>by
  have hl:next k % left.length < left.length:=Yb _ (by omega)
  unfold Zt
  rw [Rl hl]
  dsimp only
  refine (vZ next f (k + 1) _ _ (by rw [List.length_eraseIdx];simp [hl];omega)).trans ?_
  rw [Zg,W3]
  (refine abh _ ?_)
  have e1:left.eraseIdx (next k % left.length)=left.take (next k % left.length)++left.drop (next k % left.length + 1):=List.eraseIdx_eq_take_drop_succ _ _
  have e2:left=left.take (next k % left.length)++left[next k % left.length]::left.drop (next k % left.length + 1):=by
   rw [List.getElem_cons_drop,XZ]
  rw [e1,List.singleton_append]
  exact (ZC.symm).trans (ab6 e2.symm)
theorem Cw {α:Type}(next:Nat->Nat) (xs:Array α):(ZY next xs).toList.Perm xs.toList:=by
 have h:=vZ next xs.size 0 xs.toList #[] (by simp)
 rw [show (#[]:Array α).toList++xs.toList=xs.toList from rfl] at h
 exact h
end ST
namespace DL
open PySem PySem.Spec PyProof.Rows L2 ST
structure je (h:SM) (a:Rq) (led:Bool) (es:Array (Int×Q8)) (ep:Nat) (t:Sk):Prop where
 at_:h.get? a=some {cls:=.type "set",dict:=none,data:=.set es ep t}
 tab:∃L,Tab t es L
 pl:t.plain=true
 ld:t.led=led
theorem je.keep {h h':SM}{a:Rq}{led:Bool}{es:Array (Int×Q8)}{ep:Nat}{t:Sk}(S:je h a led es ep t) (e:∀o,h.get? a=some o->h'.get? a=some o):je h' a led es ep t:=⟨e _ S.at_,S.tab,S.pl,S.ld⟩
theorem jd.wk {K:Q7}{J:Hp}{h:SM}{a:Rq}{led:Bool}{ks:List D}{es:Array (Int×Q8)}{ep:Nat}{t:Sk}(S:jd K J h a led ks es ep t):je h a led es ep t:=⟨S.at_,S.tab,S.pl,S.ld⟩
abbrev lU (w:RZ):Bool:=!w.params.followText "set-order"
noncomputable def gx (w:RZ) (a ep:Nat) (es:Array (Int×Q8)):Array (Int×Q8):=if w.params.followText "set-order"=true then ZY (w.params.setOrder a ep) es else es
theorem mU (w:RZ) (a ep:Nat) (es:Array (Int×Q8)):(gx w a ep es).toList.Perm es.toList:=by
 unfold gx
 split
 ·exact Cw _ _
 ·exact .refl _
theorem mV (w:RZ) (a ep:Nat) (es:Array (Int×Q8)):(gx w a ep es).size=es.size:=by
 rw [<-Rm,(mU w a ep es).length_eq,Rm]
abbrev oZ (a:Rq) (slot i n ep:Nat):Obj:={cls:=.type "set_iterator",data:=.fields #[.int slot 0,.int i 0,.ref a,.int n 0,.int ep 0]}
theorem sM:abR table "set.__iter__"=some U3.«frozenset.__iter__»:=
 (aam (id':="frozenset.__iter__") (by kernel_rfl) rfl (by decide +kernel) (by kernel_rfl))
theorem gw:Slot "set_iterator" "__next__" "set_iterator.__next__":=
 (.of (owner:="set_iterator") (n:="__next__") (by rw [X3,V1];kernel_rfl) (by decide +kernel) (by decide +kernel) (by decide +kernel)
  (by first | exact .inl (by decide +kernel) | exact .inr (by decide +kernel)) (by rw [Vb];kernel_rfl))
theorem oX:abR table "set_iterator.__next__"=some U3.«set_iterator.__next__»:=(entryFor_of_tree (by kernel_rfl))
theorem pB (a:Q8):argsOk "set_iterator.__next__" ⟨[a],[]⟩:=by unfold argsOk;kernel_rfl
section
variable {prog:Rz}{w:RZ}{A:R4}{E:Q8->Q_->Prop}{s:Q_}
theorem Ge {a:Rq}{led:Bool}{es:Array (Int×Q8)}{ep:Nat}{t:Sk}{Q:Q8->Q_->Prop}(S:je s.heap a led es ep t)
  (hQ:Q (.ref s.heap.objs.size) {s with heap:=s.heap.push (oZ a 0 0 es.size ep)}):RA (RG prog w) A (WB (.ref a)) Q E s:=by
 obtain ⟨L,T⟩:=S.tab
 have hT:s.TypeIs (.ref a) "set":=⟨_,S.at_,rfl⟩
 refine W4 hT ZZ (Sb ZZ hT sM ?_ (F.args_set_iter_1 _))
 show RA _ _ (W5 a >>= _) _ _ s
 unfold W5
 refine Q6 (Q6 (Wr S.at_ rfl (dz T) (Q9 ?_)))
 unfold setDrawn aaD
 refine Q6 (Q6 (S0 S.at_ rfl (dz T) (Q6 (Q6 (T_ (Q9 (Q9 ?_)))))))
 dsimp only
 split
 ·rename_i c
  have c:(!w.params.followText "set-order" && (!t.plain && decide (es.size > 1)))=true:=c
  rw [S.pl] at c
  simp at c
 ·(refine Q6 (Q9 ?_))
  refine Q6 (wpAny_setEpoch_of S.at_ rfl (dz T) ?_)
  (refine Q6 (R8 ?_))
  exact Q9 ⟨_,rfl,"set_iterator",_,⟨_,Rn _ rfl,rfl⟩,gw.lookup,hQ⟩
theorem zO {a:Rq}{es:Array (Int×Q8)}{ep:Nat}{t:Sk}{slot i:Nat}{Q:Option (Q8×Nat)->Q_->Prop}(S:je s.heap a (lU w) es ep t) (hb:w.params.followText "set-order"=false->Vc t.place slot=i)
  (q1:∀e slot',(gx w a ep es)[i]?=some e->(w.params.followText "set-order"=false->Vc t.place slot'=i + 1)->Q (some (e.2,slot')) s) (q2:(gx w a ep es)[i]?=none->Q none s):
  RA (RG prog w) A (setNext a slot i ep) Q E s:=by
 obtain ⟨L,T⟩:=S.tab
 unfold setNext aaD
 refine Q6 (S0 S.at_ rfl (dz T) ?_)
 dsimp only
 (refine Q6 (Q6 (T_ (Q9 ?_))))
 dsimp only
 cases bt:w.params.followText "set-order" with
 | true=>
  rw [show (RG prog w).w.params.followText "set-order"=true from bt]
  simp only [if_true,bne_self_eq_false,Ry,if_false]
  unfold setWalk aaD
  refine Q6 (Q6 (S0 S.at_ rfl (dz T) ?_))
  dsimp only
  (refine Q6 (Q6 (T_ (Q9 ?_))))
  dsimp only
  rw [show (RG prog w).w.params.followText "set-order"=true from bt]
  simp only [if_true]
  refine Q6 (T_ (Q9 ?_))
  dsimp only
  have ew:gx w a ep es=ZY ((RG prog w).w.params.setOrder a ep) es:=by unfold gx;rw [if_pos bt];rfl
  rw [ew] at q1 q2
  cases q:(ZY ((RG prog w).w.params.setOrder a ep) es)[i]? with
  | none=>exact Q9 (q2 q)
  | some e=>exact Q9 (q1 e slot q λz=>absurd (bt.symm.trans z) (by decide))
 | false=>
  rw [show (RG prog w).w.params.followText "set-order"=false from bt]
  (simp only [Ry,if_false])
  have ew:gx w a ep es=es:=by unfold gx;rw [if_neg (by rw [bt];decide)]
  rw [ew] at q1 q2
  have Qj:t.led=true:=by rw [S.ld];show (!w.params.followText "set-order")=true;rw [bt];rfl
  split
  ·rename_i c
   have c:(!t.plain && decide (es.size > 1))=true:=c
   rw [S.pl] at c
   simp at c
  ·refine Q6 (Vj (a:=()) ?_ ?_)
   ·show (if (!t.led && !es.isEmpty)=true then _ else pure ())=pure ()
    rw [Qj]
    rfl
   ·rw [hb bt]
    cases q:es[i]? with
    | none=>exact Q9 (q2 q)
    | some e=>
     have hlen:i < t.place.size:=by
      have h1:=(Su.mp q).1
      have h2:t.place.size=es.size:=by rw [<-Rm,T.pl,Rh,nJ T]
      omega
     have ep':t.place[i]?=some t.place[i]:=Ui hlen
     rw [ep']
     exact Q9 (q1 e _ q λ_=>B4 T.sop ep')
theorem Gv {I a:Rq}{es:Array (Int×Q8)}{ep:Nat}{t:Sk}{slot i:Nat}{Q:Option Q8->Q_->Prop}(hne:a≠I) (S:je s.heap a (lU w) es ep t) (hI:s.heap.get? I=some (oZ a slot i es.size ep)) (hb:w.params.followText "set-order"=false->Vc t.place slot=i) (hi:i < es.size)
  (hQ:∀h' slot' e,(gx w a ep es)[i]?=some e->h'.get? I=some (oZ a slot' (i + 1) es.size ep)->(w.params.followText "set-order"=false->Vc t.place slot'=i + 1)->Sy I s.heap h'->Q (some e.2) {s with heap:=h'}):
  RA (RG prog w) A (VD (.ref I)) Q E s:=by
 obtain ⟨L,T⟩:=S.tab
 have hT:s.TypeIs (.ref I) "set_iterator":=⟨_,hI,rfl⟩
 unfold VD
 refine Q6 (Vv (S_ (name:=VX "__next__") hT gw (Sb gw hT oX ?_ (pB _))))
 show RA _ _ (fieldsOf (.ref I) >>= _) _ _ s
 refine Q6 (WO hI rfl ?_)
 dsimp only
 refine Q6 (Wr S.at_ rfl (dz T) ?_)
 simp only [bne_self_eq_false,Ry,if_false,Tn]
 refine Q6 (zO S hb (λe slot' q1 q2=>?_) λq=>?_)
 ·dsimp only
  refine Q6 (WI hI (by simp) λh1 g1 b1=>?_)
  refine Q6 (WI (s:={s with heap:=h1}) g1 (by simp) λh2 g2' b2=>?_)
  exact Q9 ⟨_,rfl,Q9 (hQ h2 slot' e q1 (g2'.trans (by simp [aat])) q2 (b1.trans b2))⟩
 ·exfalso
  have:=(Array.getElem?_eq_none_iff.mp q)
  rw [mV] at this
  omega
theorem IY {I a:Rq}{es:Array (Int×Q8)}{ep:Nat}{t:Sk}{slot:Nat}{Q:Option Q8->Q_->Prop}(hh:A.handled=none) (S:je s.heap a (lU w) es ep t) (hI:s.heap.get? I=some (oZ a slot es.size es.size ep)) (hb:w.params.followText "set-order"=false->Vc t.place slot=es.size)
  (hQ:∀h',abJ I s.heap h'->Q none {s with heap:=h'}):RA (RG prog w) A (VD (.ref I)) Q E s:=by
 obtain ⟨L,T⟩:=S.tab
 have hT:s.TypeIs (.ref I) "set_iterator":=⟨_,hI,rfl⟩
 unfold VD
 refine Q6 (Vv (S_ (name:=VX "__next__") hT gw (Sb gw hT oX ?_ (pB _))))
 show RA _ _ (fieldsOf (.ref I) >>= _) _ _ s
 refine Q6 (WO hI rfl ?_)
 dsimp only
 refine Q6 (Wr S.at_ rfl (dz T) ?_)
 simp only [bne_self_eq_false,Ry,if_false,Tn]
 refine Q6 (zO S hb (λe slot' q1 q2=>?_) λq=>?_)
 ·exfalso
  have:=(Su.mp q1).1
  rw [mV] at this
  omega
 ·dsimp only
  refine Q6 (WI hI (by simp) λh1 g1 b1=>?_)
  refine Q6 ?_
  simp only [newExc,newTuple]
  (refine Q6 (R8 ?_ (by size_fits)))
  (refine Q6 (m:=WQ _ _) (Vj (a:=R7) (by first | rfl | (simp only [WQ];rfl)) ?_))
  (refine R8 ?_ (by size_fits))
  simp only [raiseNew]
  (refine Q6 (aa1 ?_))
  (first | rw [show A.in1.handled=none from hh] | rw [hh])
  (refine Q6 (Q9 (wpAny_throw ?_)))
  (refine Q6 (V9 (T:="StopIteration") (b:=true) ⟨_,Rn _ rfl,rfl⟩ aan ?_))
  exact Q9 (hQ _ ((b1.extBut.push _).push _))
end
theorem xr:typeLookup (.type "set") "__len__"=pure (some (.builtin "set.__len__")):=by rw [X3,V1];kernel_rfl
theorem Fg {M:abT}{A:R4}{E:Q8->Q_->Prop}{s:Q_}{α:Type}{c:Prop} [Decidable c] {m1 m2:Sem α}{Q:α->Q_->Prop}(hc:c) (h:RA M A m1 Q E s):RA M A (if c then m1 else m2) Q E s:=by rw [if_pos hc];exact h
theorem Ga {prog:Rz}{w:RZ}{A:R4}{E:Q8->Q_->Prop}{s:Q_}{a:Rq}{Q:Bool->Q_->Prop}(hT:s.TypeIs (.ref a) "set") (hQ:Q false s):RA (RG prog w) A (Ws (.ref a)) Q E s:=by
 have sp:splitId "set.__len__"=some ("set","__len__"):=by decide +kernel
 (unfold Ws)
 refine Q6 (VB hT xr ?_)
 dsimp -zeta only
 rw [sp]
 dsimp -zeta only
 refine Q6 (m:=aax (.ref a) (.type "set")) (V9 hT sub_set_self ?_)
 (show RA _ _ (if (!true)=true then _ else _) _ _ _)
 rw [if_neg (by decide)]
 refine Fg (by decide +kernel) ?_
 (refine Q6 (VY hT ?_))
 exact Q9 hQ
theorem qd:Slot "set_iterator" "__iter__" "set_iterator.__iter__":=
 ((.of (owner:="set_iterator") (n:="__iter__") (by rw [X3,V1];kernel_rfl) (by decide +kernel) (by decide +kernel) (by decide +kernel)
  ((by first | exact .inl (by decide +kernel) | exact .inr (by decide +kernel))) (by rw [Vb];kernel_rfl)))
theorem w5:abR table "set_iterator.__iter__"=some U3.«dict_keyiterator.__iter__»:=
 (aam (id':="dict_keyiterator.__iter__") (by kernel_rfl) rfl (by decide +kernel) (by kernel_rfl))
theorem yk (a:Q8):argsOk "set_iterator.__iter__" ⟨[a],[]⟩:=by unfold argsOk;kernel_rfl
section
variable {prog:Rz}{w:RZ}{A:R4}{E:Q8->Q_->Prop}{s:Q_}
def iH (w:RZ) (a ep:Nat) (es:Array (Int×Q8)):List Q8:=(gx w a ep es).toList.map (·.2)
theorem Fe (hh:A.handled=none) (I a:Rq) (hne:a≠I){es:Array (Int×Q8)}{ep:Nat}{t:Sk}:
  Walks prog w A I [I,a] [I] es.size (λi v=>(iH w a ep es)[i]?=some v) (λi h=>∃slot,h.get? I=some (oZ a slot i es.size ep)/\je h a (lU w) es ep t/\(w.params.followText "set-order"=false->Vc t.place slot=i)) where
 sub:=λ_ hb=>by simp at hb;simp [hb]
 frame:=λ_ _ _ ⟨slot,h1,h2,h3⟩ hk=>⟨slot,hk I (by simp) _ h1,h2.keep λo e=>hk a (by simp) o e,h3⟩
 item:=λi s Q E hi ⟨slot,h1,h2,h3⟩ hQ=>by
  refine Gv hne h2 h1 h3 hi λh' slot' e q1 q2 q3 q4=>?_
  refine hQ e.2 h' s.toks ?_ ⟨slot',q2,h2.keep λo e=>?_,q3⟩ λb o hb e=>?_
  ·unfold iH;rw [RD,SY,q1];rfl
  ·rw [q4.2 a hne];exact e
  ·exact q4.extBut b o (λh=>hb (by simp [h])) e
 done:=λs Q E ⟨slot,h1,h2,h3⟩ hQ=>IY hh h2 h1 h3 λh' he=>hQ h' s.toks λb o hb e=>he b o (λh=>hb (by simp [h])) e
 self:=λi s Q E ⟨slot,h1,h2,h3⟩ hQ=>by
  have hT:s.TypeIs (.ref I) "set_iterator":=⟨_,h1,rfl⟩
  refine W4 hT qd (Sb qd hT w5 ?_ (yk _))
  show RA _ _ (ret (.ref I)) _ _ s
  exact Q9 ⟨_,rfl,"set_iterator",_,hT,gw.lookup,hQ⟩
theorem Aw {a:Rq}{es:Array (Int×Q8)}{ep:Nat}{t:Sk}{Q:List Q8->Q_->Prop}(hh:A.handled=none) (S:je s.heap a (lU w) es ep t) (hn:es.size<=76)
  (hQ:∀(h':SM) (tk:Nat),(∀b o,s.heap.get? b=some o->h'.get? b=some o)->s.heap.objs.size < h'.objs.size->Q (iH w a ep es) {s with heap:=h',toks:=tk}):RA (RG prog w) A (collect (.ref a)) Q E s:=by
 have ha:a < s.heap.objs.size:=Ru S.at_
 have hT:s.TypeIs (.ref a) "set":=⟨_,S.at_,rfl⟩
 unfold collect
 (refine Q6 (WR (Td F.entry_proto_collect ?_)))
 (rw [Tg F.plain_proto_collect _])
 show RA _ A.in1 (newList [] >>= λl=>again (.builtin "list.__iadd__" ⟨[l,.ref a],[]⟩)) _ _ s
 (refine Q6 (R8 ?_))
 (refine Q9 ⟨UZ Zi _,Td F.entry_list_iadd ?_⟩)
 (rw [Tg Zi _])
 generalize QL:({cls:=.type "list",data:=.seq ([]:List Q8).toArray}:Obj)=l0
 have S1:je (s.heap.push l0) a (lU w) es ep t:=S.keep λo e=>Rc _ e
 have hT1:UE {s with heap:=s.heap.push l0} (.ref a) "set":=⟨_,S1.at_,rfl⟩
 show RA _ A.in1 (Wt (.ref s.heap.objs.size) (.ref a) (.ref s.heap.objs.size)) _ _ _
 (unfold Wt)
 refine Q6 (VY hT1 ?_)
 have h1:aaE (.ref s.heap.objs.size) (.ref a)=false:=by
  show (s.heap.objs.size == a)=false
  exact beq_eq_false_iff_ne.mpr (Ux ha)
 have h2:(Ul "set" == Ul "list")=false:=by decide
 have h3:(Ul "set" == Ul "tuple")=false:=by decide
 (simp only [h1,h2,h3,aaO,Ry,if_false])
 refine Q6 (Ge S1 ?_)
 (refine Q6 (RU ?_))
 have z1:(s.heap.push l0).objs.size=s.heap.objs.size + 1:=Uh _ _
 rw [z1]
 have S2:je ((s.heap.push l0).push (oZ a 0 0 es.size ep)) a (lU w) es ep t:=S1.keep λo e=>Rc _ e
 have hT2:UE {s with heap:=(s.heap.push l0).push (oZ a 0 0 es.size ep)} (.ref a) "set":=⟨_,S2.at_,rfl⟩
 refine Ga hT2 ?_
 refine Fg (by decide +kernel) ?_
 (refine Q6 (WX ?_))
 subst QL
 have hI:((s.heap.push {cls:=.type "list",data:=.seq ([]:List Q8).toArray}).push (oZ a 0 0 es.size ep)).get? (s.heap.objs.size + 1)=some (oZ a 0 0 es.size ep):=by rw [<-z1];exact Rn _ rfl
 have hS₁:((s.heap.push {cls:=.type "list",data:=.seq ([]:List Q8).toArray}).push (oZ a 0 0 es.size ep)).get? s.heap.objs.size=some {cls:=.type "list",data:=.seq ([]:List Q8).toArray}:=Rc _ (Rn _ rfl)
 refine Q6 ?_
 (show RA _ A.in1 (updateSeq s.heap.objs.size (·.push .none) >>= λ_=>updateSeq s.heap.objs.size (·.pop)) _ _ _)
 (refine Q6 (Wn hS₁ rfl ?_))
 (have hS₂:=S3 (SX (·.push R7)) hS₁ rfl)
 (refine Wn hS₂ rfl ?_)
 (have hS₃:=S3 (SX (·.pop)) hS₂ rfl)
 have oth:∀b o,b≠s.heap.objs.size->((s.heap.push {cls:=.type "list",data:=.seq ([]:List Q8).toArray}).push (oZ a 0 0 es.size ep)).get? b=some o->
   ((((s.heap.push {cls:=.type "list",data:=.seq ([]:List Q8).toArray}).push (oZ a 0 0 es.size ep)).update s.heap.objs.size (SX (·.push R7))).update s.heap.objs.size (SX (·.pop))).get? b=some o:=
  (λb o hb e=>(VG _ _ (Um hb)).trans ((VG _ _ (Um hb)).trans e))
 have hne:a≠s.heap.objs.size + 1:=RE (Sn ha)
 have hSf:s.heap.objs.size∉[s.heap.objs.size + 1,a]:=by
  simp only [Rt,Sl,or_false,not_or]
  exact ⟨RE (Ti _),Ux ha⟩
 obtain ⟨L,T⟩:=S.tab
 refine Q9 ⟨UZ F.plain_extend_loop _,codeAny_extend_loopS ((Fe (A:=A.in1) (prog:=prog) (w:=w) (es:=es) (ep:=ep) (t:=t) hh (s.heap.objs.size + 1) a hne).toS) (by rw [Sh];omega) _ hSf _ es.size 0 _ _ _ rfl (RL _)
  ⟨0,oth _ _ (Ux (Ti _)) hI,S2.keep λo e=>oth _ _ (RE ha) e,λ_=>B5 T.sop⟩ hS₃ (ItemsOf.nil _) λs' acc' c' hm hS' hacc=>?_⟩
 (show RA _ A (load s.heap.objs.size >>= _) _ _ s')
 (refine Q6 (wpAny_load hS' ?_))
 have eacc:acc'.toList=iH w a ep es:=by
  obtain ⟨z,q⟩:=hacc
  have lw:(iH w a ep es).length=es.size:=by unfold iH;rw [Rh,Rm,mV]
  refine UI (by rw [Rm,z,lw]) λi x1 x2=>?_
  have this:(iH w a ep es)[i]?=some (acc'[i]'(by simpa using x1)):=q i _ (Ui (by simpa using x1))
  rw [Rl x2] at this
  (exact (Sv this).symm)
 refine Q9 ?_
 rw [eacc]
 (obtain ⟨h',g',d',tk',os'⟩:=s')
 (have eg:g'=s.gens:=hm.gens)
 (have ed:d'=s.drawn:=hm.drawn)
 have eo:os'=s.os:=hm.os
 subst eg;subst ed;subst eo
 refine hQ h' tk' (λb o e=>?_) (Ru hS')
 have lb:=Ru e
 refine hm.heap b o ?_ (oth b o (RE lb) (Rc _ (Rc _ e)))
 simp only [Rt,Sl,or_false,not_or]
 exact ⟨RE lb,RE (Sn lb)⟩
end
theorem wG:Z0 (.type "tuple") (.type "set")=pure false:=by rw [Vb];kernel_rfl
theorem wF:Z0 (.type "tuple") (.type "frozenset")=pure false:=by rw [Vb];kernel_rfl
theorem Eg:Z0 (.type "list") (.type "set")=pure false:=by rw [Vb];kernel_rfl
theorem Ef:Z0 (.type "list") (.type "frozenset")=pure false:=by rw [Vb];kernel_rfl
abbrev dH (led:Bool):Obj:={cls:=.type "set",dict:=none,data:=.set #[] 0 (.fresh 0 0 led)}
abbrev bX (w:RZ):Bool:=!w.params.followText "set-order"
section
variable {prog:Rz}{w:RZ}{A:R4}{E:Q8->Q_->Prop}{s:Q_}{K:Q7}{J:Hp}
theorem rX (a:Q8){Q₁:Q8->Q_->Prop}(h:Q₁ (.ref s.heap.objs.size) {s with heap:=s.heap.push (dH (bX w))}):
  (T8 (RG prog w) A (.call (.builtin "set.__new__") ⟨[.type "set",a],[]⟩) (wants Q₁ E) s):=by
 refine (UT ?_)
 (show RA _ A.in1 (do Xq "set.__new__" ⟨[.type "set",a],[]⟩;again (.builtin "set.__new__" ⟨[.type "set",a],[]⟩)) _ _ s)
 refine Q6 (Vj (PySem.F.newCall_set_1 a) (Q9 ⟨UZ Z1 _,Td F.entry_set_new ?_⟩))
 (rw [Tg Z1 _])
 (unfold U3.«set.__new__» Z_)
 have hsub:=sub_set_self
 (obtain ⟨hp,g,d,tk,os⟩:=s)
 dsimp only
 wp_walk
 (refine T_ (Q9 ?_))
 dsimp only
 simp only [newObj]
 (refine Q6 (wpAny_alloc (Q9 ?_)))
 exact Q9 h
theorem zQ {l:Rq}{QW:Array Q8}{ds:List D}{Q:Q8->Q_->Prop}(N:HF K J s) (hh:A.handled=none) (hl:s.heap.IsTuple l QW) (hz:QW.size=ds.length) (hi:∀i v,QW[i]?=some v->KV K J v (ds.getD i .non)) (hn:ds.length<=76) (hu:A.units + 16 < S6)
  (h:∀(h':SM) (tk:Nat) ks es ep t,jd K J h' s.heap.objs.size (bX w) ks es ep t->(∀d,d∈ks↔d∈ds)->(∀b o,b < s.heap.objs.size->s.heap.get? b=some o->h'.get? b=some o)->Q (.ref s.heap.objs.size) {s with heap:=h',toks:=tk}):
  (RA (RG prog w) A (call (.type "set") [.ref l]) Q E s):=by
 (obtain ⟨c,tl,P_⟩:=R6.mro)
 (have hmade:=R6.made)
 have hsub:=R6.sub
 (refine WV (UT ?_))
 (show RA _ _ (callAny (.type "set") _) _ _ _)
 (refine Q9 ⟨WJ _ (by decide +kernel),Td W6 ?_⟩)
 (rw [WK (V2 "set" [.ref l] []) rfl])
 (have h1:=R6.notType)
 (have h2:=R6.canCreate)
 have hct:=VH (.ref l)
 (repeat (any_goals (first | assumption | wp_step)))
 refine Tw (rX (.ref l) (E:=E) (Q₁:=λobj s₁=>obj=.ref s.heap.objs.size/\s₁={s with heap:=s.heap.push (dH (bX w))}) ⟨rfl,rfl⟩) λr s₁ hr=>?_
 cases r with
 | error e=>exact hr
 | ok fl=>
  cases fl with
  | ret obj=>
   obtain ⟨rfl,rfl⟩:=hr
   have hS:(s.heap.push (dH (bX w))).get? s.heap.objs.size=some (dH (bX w)):=Rn _ rfl
   have hT:UE {s with heap:=s.heap.push (dH (bX w))} (.ref s.heap.objs.size) "set":=⟨_,hS,rfl⟩
   (have hli:=R6.init.lookup)
   (have hbi:=R6.init.bind (.ref s.heap.objs.size))
   (repeat (any_goals (first | assumption | wp_step)))
   refine Tw (U4 (R:=wants (λr s₂=>r=.none/\∃h' tk ks es ep t,s₂={s with heap:=h',toks:=tk}/\jd K J h' s.heap.objs.size (bX w) ks es ep t/\(∀d,d∈ks↔d∈ds)/\
     (∀b o,b < s.heap.objs.size->s.heap.get? b=some o->h'.get? b=some o)) E) R6.init.plain Xv ((Xw hT ?_))) λr₂ s₂ hr₂=>?_
   ·obtain ⟨ol,PU,hcl,nl,hdl⟩:=id hl
    have Ph:(s.heap.push (dH (bX w))).get? l=some ol:=Rc _ PU
    have Qc:=wG
    have Qa:=wF
    have hne:(Ul "tuple" == Ul "dict")=false:=by decide
    have hl1:(s.heap.push (dH (bX w))).IsTuple l QW:=⟨_,Ph,hcl,nl,hdl⟩
    have Qx:UE {s with heap:=s.heap.push (dH (bX w))} (.ref l) "tuple":=⟨_,Ph,hcl⟩
    (unfold U3.«set.__init__» aaF UR)
    generalize P6:WB=PI
    wp_walk
    subst P6
    refine (WD hl1 ?_)
    refine (Q6 (WR ?_))
    (have hlS:l < s.heap.objs.size:=Ru PU)
    have z1:(s.heap.push (dH (bX w))).objs.size=s.heap.objs.size + 1:=Uh _ _
    have Px:l≠(s.heap.push (dH (bX w))).objs.size:=by rw [z1];exact RE (Sn hlS)
    have hSf:s.heap.objs.size∉[(s.heap.push (dH (bX w))).objs.size,l]:=by
     rw [z1]
     simp only [Rt,Sl,or_false,not_or]
     (exact ⟨RE (Ti _),Ux hlS⟩)
    have hno:∀b,s.heap.objs.size<=b->s.heap.get? b=none:=λb hb=>by
     cases q:s.heap.get? b with
     | none=>rfl
     | some o=>exact absurd (Ru q) (aaG.mpr hb)
    have hval:∀(i:Nat) (v:Q8),QW[i]?=some v->KV K J v (ds.getD i .non):=hi
    have all:(Ra QW.size).map (λi=>ds.getD i .non)=ds:=by
     refine UI (by simp [hz]) λi a b=>?_
     simp [b]
    refine Hq (A:=A.in1.in1) (K:=K) (J:=J) (s0:=s) (led:=bX w) ((abK (A:=A.in1.in1.in1) (by simp [hh]) (s.heap.push (dH (bX w))).objs.size l Px QW).toS) s.heap.objs.size hSf (λi=>ds.getD i .non) hval N (λb hb=>hno b ?_) (by simp only [in1_units];omega) (by omega) QW.size 0 _ [] #[] 0 (.fresh 0 0 (bX w)) (by omega) (RL _) ⟨⟨_,Rn _ rfl,rfl,rfl⟩,hl1.push _⟩ (λb o e=>Rc _ (Rc _ e)) (CP (Rc _ hS)) (λd=>by simp) λs' ks es ep t hm hS' hmem=>?_
    ·(rcases Rt.mp hb with rfl | hb)
     ·exact Rj _
     ·rw [Rp.mp hb,z1];exact To _
    ·rw [all] at hmem
     (obtain ⟨h',g',d',tk',os'⟩:=s')
     (have eg:g'=s.gens:=hm.gens)
     (have ed:d'=s.drawn:=hm.drawn)
     have eo:os'=s.os:=hm.os
     subst eg;subst ed;subst eo
     show RA _ _ _ _ _ _
     refine Q9 ?_
     (show RA _ _ (ret R7) _ _ _)
     refine Q9 ⟨rfl,h',tk',ks,es,ep,t,rfl,hS',hmem,λb o hb e=>?_⟩
     refine hm.heap b o ?_ (Rc _ (Rc _ e))
     rw [z1]
     simp only [Rt,Sl,or_false,not_or]
     exact ⟨RE hb,RE (Sn hb)⟩
   ·cases r₂ with
    | error e=>exact hr₂
    | ok fl₂=>
     cases fl₂ with
     | ret r=>
      obtain ⟨rfl,h',tk,ks,es,ep,t,rfl,hS',hm',hk'⟩:=hr₂
      (repeat (any_goals (first | assumption | wp_step)))
      exact h _ _ _ _ _ _ hS' hm' hk'
     | _=>exact hr₂.elim
  | _=>exact hr.elim
end
end DL
namespace DL
open PySem PySem.Spec PyProof.Rows L2 ST
open PySem.W (KasT kas_sort kas_ask)
section
variable {prog:Rz}{w:RZ}{A:R4}{E:Q8->Q_->Prop}{s:Q_}
theorem sortedS {a:Rq}{es:Array (Int×Q8)}{ep:Nat}{t:Sk}{κ:aaU}{q:Nat->Nat->Bool}{Q:Q8->Q_->Prop}{vs:List Q8}(hv:iH w a ep es=vs) (hh:A.handled=none) (S:je s.heap a (lU w) es ep t) (hn:es.size<=76)
  (hs:vs.length < 2\/(2<=vs.length/\vs.length < 64/\
   (∀h' tk C,(∀b o,s.heap.get? b=some o->h'.get? b=some o)->C κ {s with heap:=h',toks:=tk}->RA (RG prog w) A.in1.in1 (aaV vs.toArray) C (λ_ _=>False) {s with heap:=h',toks:=tk})/\
   ∀h' tk,(∀b o,s.heap.get? b=some o->h'.get? b=some o)->∀i j C,i < vs.length->j < vs.length->C (q i j) {s with heap:=h',toks:=tk}->kas_ask prog w A.in1.in1 κ vs i j C {s with heap:=h',toks:=tk}))
  (h:∀h' tk l n,(∀b o,s.heap.get? b=some o->h'.get? b=some o)->s.heap.objs.size<=l->h'.get? l=some (TL "list" (if vs.length < 2 then vs else iL q vs).toArray n)->Q (.ref l) {s with heap:=h',toks:=tk}):RA (RG prog w) A (call (.builtin "sorted") [.ref a]) Q E s:=by
 have sl:vs.length<=sizeLine:=by rcases hs with h | ⟨_,h,_⟩ <;> rw [Sh] <;> omega
 refine (Va ZU Zo Zp (Zq _) ?_)
 unfold U3.«sorted»
 refine Q6 (m:=aaC "sorted" 1 1 _) ((Q9 ?_))
 refine Q6 (Aw hh S hn λh1 tk1 k1 le0=>?_)
 rw [hv]
 refine Q6 (Wf ?_ sl)
 have le1:s.heap.objs.size<=h1.objs.size:=XI le0
 have gL:(h1.push (TL "list" vs.toArray 0)).get? h1.objs.size=some (TL "list" vs.toArray 0):=Rn _ rfl
 have kp:∀b o,s.heap.get? b=some o->b≠h1.objs.size/\(h1.push (TL "list" vs.toArray 0)).get? b=some o:=λb o e=>by
  have e1:=k1 b o e
  exact ⟨RE (Ru e1),Rc _ e1⟩
 have kend:∀out b o,s.heap.get? b=some o->(aaB (h1.push (TL "list" vs.toArray 0)) h1.objs.size vs out).get? b=some o:=λout b o e=>by
  obtain ⟨g1,g2'⟩:=kp b o e
  rw [sortedHeap_old g1 (Ru g2')]
  exact g2'
 dsimp only
 rcases hs with h2 | ⟨h2,h64,hk,hc⟩
 ·refine Q6 (RU (Sb WM ⟨_,gL,rfl⟩ Wo (tM gL h2 ⟨_,rfl,?_⟩) (WN _)))
  obtain ⟨n,hn'⟩:=aa2 (out:=vs.toArray) gL
  rw [if_pos h2] at h
  exact Q9 ⟨_,rfl,h _ tk1 _ n (kend _) le1 hn'⟩
 ·refine Q6 (RU (Sb WM ⟨_,gL,rfl⟩ Wo (tP (κ:=κ) (q:=q) gL h2 h64 (λh' C k c=>?_) (λh' k i j C hi hj c=>?_) ⟨_,rfl,?_⟩) (WN _)))
  ·exact hk h' tk1 C (λb o e=>k b o (kp b o e).1 (kp b o e).2) c
  ·exact hc h' tk1 (λb o e=>k b o (kp b o e).1 (kp b o e).2) i j C hi hj c
  ·obtain ⟨n,hn'⟩:=aa2 (out:=(iL q vs).toArray) gL
   rw [if_neg (by omega)] at h
   exact Q9 ⟨_,rfl,h _ tk1 _ n (kend _) le1 hn'⟩
end
mutual
noncomputable def formOf:D->Fm
 | .int _=>.i
 | .tup xs=>A5 xs
 | _=>.b
noncomputable def A5:List D->Fm
 | []=>.tn
 | x::xs=>.tc (formOf x) (A5 xs)
end
noncomputable def qD:Fm->D->Bool
 | .i,.int _=>true
 | .tn,.tup xs=>xs.isEmpty
 | .tc x r,.tup (y::ys)=>qD x y && qD r (.tup ys)
 | _,_=>false
theorem rQ:∀(f:Fm) (d:D),qD f d=true->jY f d
 | .i,.int k,_=>⟨k,rfl⟩
 | .tn,.tup [],_=>⟨[],rfl,rfl⟩
 | .tc x r,.tup (y::ys),h=>by
  unfold qD at h
  rw [Ri] at h
  exact ⟨_,rfl,y,ys,rfl,rQ x y h.1,rQ r (.tup ys) h.2⟩
noncomputable def HY:List D->Bool
 | []=>true
 | d::r=>(match iu d with
  | some k=>iE k (d::r)
  | none=>false) && (d::r).all (qD (formOf d))
def q_ (ds:List D):Bool:=decide (ds.length < 64) && (areKeys ds && (decide (deps ds<=8) && HY ds))
theorem Gz {ds:List D}(h:HY ds=true):∃k f,∀d∈ds,iu d=some k/\jY f d:=by
 cases ds with
 | nil=>exact ⟨.i,.i,λ_ h=>nomatch h⟩
 | cons d r=>
  unfold HY at h
  rw [Ri] at h
  cases q:iu d with
  | none=>rw [q] at h;cases h.1
  | some k=>
   rw [q] at h
   exact ⟨k,formOf d,λx hx=>⟨jO h.1 x hx,rQ _ _ (R0.mp h.2 x hx)⟩⟩
theorem nR {n:Nat}:∀{ds:List D},deps ds<=n->∀d∈ds,dep d<=n
 | [],_,_,h=>nomatch h
 | x::r,hn,d,h=>by
  unfold deps at hn
  (rcases Rt.mp h with rfl | h)
  ·omega
  ·exact nR (ds:=r) (by omega) d h
theorem rE {k:Hd}:∀{ds:List D},(∀d∈ds,iu d=some k)->iE k ds=true
 | [],_=>rfl
 | x::r,h=>by
  unfold iE
  rw [h x (Rf ..),rE λd hd=>h d (Rb _ hd)]
  cases k <;> rfl
structure N4 (ds:List D) (k:Hd) (f:Fm):Prop where
 ln:ds.length < 64
 ky:areKeys ds=true
 dp:deps ds<=8
 al:∀d∈ds,iu d=some k/\jY f d
theorem zp {ds:List D}(h:q_ ds=true):∃k f,N4 ds k f:=by
 unfold q_ at h
 rw [Ri,Ri,Ri] at h
 obtain ⟨h1,h2,h3,h4⟩:=h
 obtain ⟨k,f,h5⟩:=Gz h4
 exact ⟨k,f,of_decide_eq_true h1,h2,of_decide_eq_true h3,h5⟩
abbrev oQ (X:Cx) (H0:Hp) (a:Rq) (ds:List D):HO:=.ext λh=>∃ks es ep t,jd X.K H0 h a (bX X.w) ks es ep t/\∀d,d∈ks↔d∈ds
section
variable {X:Cx}
theorem Nl {K:Q7}{J:Hp}{k:Hd}{f:Fm}{ds:List D}{vs:List V}{us:List Q8}(o:N4 ds k f) (rs:aJ K J ds vs) (rv:Vals vs us):∀i v,us.toArray[i]?=some v->KV K J v (ds.getD i .non):=λi v q=>by
 have l1:vs.length=us.length:=rv.length
 have l2:ds.length=vs.length:=rs.length
 have hi:i < us.length:=by
  have:=(Su.mp q).1
  simpa using this
 have e:us.getD i R7=v:=by
  simp at q
  simp [abi,q]
 have r1:=fH rs (i:=i) (by omega)
 have r2:=fJ rv (i:=i) (by omega)
 rw [e] at r2
 have m:=fP (ds:=ds) (i:=i) (by omega)
 refine ⟨?_,qU o.ky _ m,nR o.dp _ m,_,r1,r2⟩
 have hh:=(o.al _ m).1
 generalize dO ds i=d at r1 hh
 generalize vs.getD i V.non=vv at r1 r2
 cases d with
 | tup xs=>cases r1 with
  | tup _ _=>cases r2;exact ⟨_,rfl⟩
 | _=>cases hh
theorem DB (hu:X.A.units + 64 < S6) (hc:X.calm=true):b8 X (.type "set") (λxs H Q=>∃p vs ds J0,xs=[.ref p]/\dY X.K H p vs/\aX J0 H/\aJ X.K J0 ds vs/\q_ ds=true/\∀l,H l=none->Q (.ref l) (upd H l (oQ X J0 l ds))):=by
 intro QV s σ H xs us Q I r h
 obtain ⟨p,vs,ds,J0,rfl,hq,sm,rs,oks,q⟩:=h
 obtain ⟨u,rfl,rx⟩:=vals1 r
 cases rx
 obtain ⟨k,f,o⟩:=zp oks
 have N:HF X.K J0 s:=HF.of (c:=⟨X.K,H,H,λ_=>True⟩) I sm
 obtain ⟨QX,r',pt,hz⟩:=I.tuple hq
 refine zQ N (I.ok.hd hc) pt (by simp [<-r'.length,rs.length]) (Nl o rs r') (by have:=o.ln;omega) (by omega) λh' tk ks es ep t S hm kp=>?_
 exact ⟨.ref s.heap.objs.size,_,I.laid (t':=tk) (λb o e=>kp b o (Ru e) e) (Rj _) (show cM X.prog X.w _ _ _ (oQ X J0 s.heap.objs.size ds) from ⟨⟨ks,es,ep,t,S,hm⟩,⟨_,S.at_⟩,λh1 h2 ⟨ks,es,ep,t,S,hm⟩ e=>⟨ks,es,ep,t,S.keep e,hm⟩⟩),rfl,q _ (I.hok.fresh (Rj _))⟩
end
noncomputable def dd:List D->List D
 | []=>[]
 | x::xs=>if (dd xs).any (bz x)=true then dd xs else x::dd xs
def fK (ds:List D):List D:=cg (dd ds)
section
variable {P:D->Prop}
theorem xD (p:gG P):∀(ds:List D),(∀x∈ds,P x)->(dd ds).Nodup/\∀y,y∈dd ds↔y∈ds
 | [],_=>⟨TR,λ_=>.rfl⟩
 | x::xs,h=>by
  obtain ⟨h1,h2⟩:=xD p xs λy hy=>h y (Rb _ hy)
  have px:=h x (Rf ..)
  have eqv:(dd xs).any (bz x)=true↔x∈xs:=by
   rw [SS]
   constructor
   ·rintro ⟨z,hz,e⟩
    have hz':=(h2 z).mp hz
    rw [(p.eq x z px (h z (Rb _ hz'))).mp e]
    exact hz'
   ·intro hx
    exact ⟨x,(h2 x).mpr hx,(p.eq x x px px).mpr rfl⟩
  unfold dd
  by_cases c:(dd xs).any (bz x)=true
  ·rw [if_pos c]
   refine ⟨h1,λy=>?_⟩
   rw [h2 y,Rt]
   exact ⟨.inr,λz=>z.elim (λe=>e▸eqv.mp c) id⟩
  ·rw [if_neg c]
   refine ⟨S9.mpr ⟨λz=>c (eqv.mpr ((h2 x).mp z)),h1⟩,λy=>?_⟩
   rw [Rt,Rt,h2 y]
theorem ur (p:gG P):∀{A B:List D},(∀x∈A,P x)->A.Pairwise (λa b=>fG a b=true)->B.Pairwise (λa b=>fG a b=true)->(∀y,y∈A↔y∈B)->A=B
 | [],[],_,_,_,_=>rfl
 | [],b::B,_,_,_,h=>by cases (h b).mpr Rf
 | a::A,[],_,_,_,h=>by cases (h a).mp Rf
 | a::A,b::B,hp,hA,hB,h=>by
  obtain ⟨a1,a2⟩:=UN.mp hA
  obtain ⟨b1,b2⟩:=UN.mp hB
  have pa:=hp a Rf
  have pb:=hp b ((h b).mpr Rf)
  have no:∀z,P z->fG z z=true->False:=λz pz q=>by
   have:=p.asy z z pz pz q
   rw [q] at this;cases this
  have e:a=b:=by
   rcases Rt.mp ((h a).mp Rf) with e | e
   ·exact e
   ·rcases Rt.mp ((h b).mpr Rf) with f | f
    ·exact f.symm
    ·exact (no a pa (p.tra _ _ _ pa pb pa (a1 b f) (b1 a e))).elim
  subst e
  have:A=B:=by
   refine ur p (λx hx=>hp x (Rb _ hx)) a2 b2 λy=>⟨λhy=>?_,λhy=>?_⟩
   ·rcases Rt.mp ((h y).mp (Rb _ hy)) with e | e
    ·subst e;exact (no y pa (a1 y hy)).elim
    ·exact e
   ·rcases Rt.mp ((h y).mpr (Rb _ hy)) with e | e
    ·subst e;exact (no y pa (b1 y hy)).elim
    ·exact e
  rw [this]
theorem qK (p:gG P){ds:List D}(h:∀x∈ds,P x) (nd:ds.Nodup):(cg ds).Pairwise λa b=>fG a b=true:=by
 have up:=Hf p ds h
 have pm:=gI ds
 have nd':(cg ds).Nodup:=pm.nodup_iff.mpr nd
 have both:=abW up nd'
 refine (VZ.mp both).imp ?_
 rintro a b ⟨ha,hb,h1,h2⟩
 cases q:fG a b with
 | true=>rfl
 | false=>exact absurd (p.tri a b (h a (pm.mem_iff.mp ha)) (h b (pm.mem_iff.mp hb)) q h1) h2
theorem zT (p:gG P){ds ks:List D}(h:∀x∈ds,P x) (nd:ks.Nodup) (hm:∀d,d∈ks↔d∈ds):cg ks=fK ds:=by
 obtain ⟨h1,h2⟩:=xD p ds h
 have hk:∀x∈ks,P x:=λx hx=>h x ((hm x).mp hx)
 have hd:∀x∈dd ds,P x:=λx hx=>h x ((h2 x).mp hx)
 exact ur p (λx hx=>hk x ((gI ks).mem_iff.mp hx)) (qK p hk nd) (qK p hd h1) λy=>by
  rw [(gI ks).mem_iff,hm y]
  show _↔y∈cg (dd ds)
  rw [(gI (dd ds)).mem_iff,h2 y]
theorem rZ (p:gG P){ds:List D}(h:∀x∈ds,P x):(fK ds).Pairwise (λa b=>fG a b=true)/\∀d,d∈fK ds↔d∈ds:=by
 obtain ⟨h1,h2⟩:=xD p ds h
 exact ⟨qK p (λx hx=>h x ((h2 x).mp hx)) h1,λd=>by show d∈cg (dd ds)↔_;rw [(gI (dd ds)).mem_iff,h2 d]⟩
end
theorem fY.reps {K:Q7}{J:Hp}{es:List (Int×Q8)}{ks:List D}(h:fY K J es ks):∃vs,aJ K J ks vs/\Vals vs (es.map (·.2)):=by
 induction h with
 | nil=>exact ⟨_,.nil,.nil⟩
 | cons _ hk _ ih=>
  obtain ⟨vs,h1,h2⟩:=ih
  obtain ⟨_,_,_,v,r,rv⟩:=hk
  exact ⟨v::vs,.cons r h1,.cons rv h2⟩
section
variable {X:Cx}
theorem B_ (hu:X.A.units + 64 < S6) (hc:X.calm=true):b8 X (.builtin "sorted") (λxs H Q=>∃p ds J0,xs=[.ref p]/\H p=some (oQ X J0 p ds)/\aX J0 H/\q_ ds=true/\∀l vs',H l=none->aJ X.K J0 (fK ds) vs'->Q (.ref l) (upd H l (.lst vs'))):=by
 intro QV s σ H xs us Q I r h
 obtain ⟨p,ds,J0,rfl,hp,sm,oks,q⟩:=h
 obtain ⟨u,rfl,rx⟩:=vals1 r
 cases rx
 obtain ⟨k,f,o⟩:=zp oks
 have hh:X.A.handled=none:=I.ok.hd hc
 have N:HF X.K J0 s:=HF.of (c:=⟨X.K,H,H,λ_=>True⟩) I sm
 obtain ⟨⟨ks,es,ep,t,S,hm⟩,_⟩:=(show cM X.prog X.w H s.heap p (oQ X J0 p ds) from I.hok p _ hp)
 obtain ⟨ks',pm,en'⟩:=S.en.perm (mU X.w p ep es).symm
 have nd':ks'.Nodup:=pm.nodup_iff.mp S.nd
 have hm':∀d,d∈ks'↔d∈ds:=λd=>by rw [<-pm.mem_iff,hm d]
 obtain ⟨vs,rs,rv⟩:=en'.reps
 have hv:iH X.w p ep es=(gx X.w p ep es).toList.map (·.2):=rfl
 rw [<-hv] at rv
 generalize hits:iH X.w p ep es=QX at rv
 have l1:vs.length=QX.length:=rv.length
 have l2:ks'.length=vs.length:=rs.length
 have len:ks'.length<=ds.length:=RN nd' λd hd=>(hm' d).mp hd
 have l64:=o.ln
 have les:es.size=ks'.length:=by rw [<-Rm,S.en.length,pm.length_eq]
 have tot:=jx f
 have out:=zT tot (λx hx=>(o.al x hx).2) nd' hm'
 have fin:∀(h':SM) (tk:Nat) (l:Rq) (n:Nat) (ot:List Q8) (vs':List V),vs'.length=vs.length->Vals vs' ot->aJ X.K J0 (cg ks') vs'->(∀b o,s.heap.get? b=some o->h'.get? b=some o)->s.heap.objs.size<=l->h'.get? l=some (TL "list" ot.toArray n)->EP X QV σ Q (.ref l) {s with heap:=h',toks:=tk}:=λh' tk l n ot vs' lv rv' rr kp hl hg=>by
  refine ⟨.ref l,_,I.laid (t':=tk) kp hl (show cM X.prog X.w _ _ _ (.lst vs') from ⟨by rw [lv,Sh];omega,ot,n,rv',by simpa [TL] using hg⟩),rfl,q l vs' (I.hok.fresh hl) (by rw [<-out];exact rr)⟩
 have un:X.A.in1.in1.units=X.A.units + 2:=rfl
 refine sortedS (κ:=abH k.flag) (q:=ltB ks') (vs:=QX) hits hh S.wk (by omega) ?_ λh' tk l n kp hl hg=>?_
 ·by_cases h2:QX.length < 2
  ·exact .inl h2
  ·refine .inr ⟨by omega,by omega,λh' tk C kp cc=>?_,λh' tk kp i j C hi hj cc=>?_⟩
   ·exact vU (N.keep kp) (rE λd hd=>(o.al d ((hm' d).mp hd)).1) rs rv (by omega) cc
   ·have hi':i < ks'.length:=by omega
    have hj':j < ks'.length:=by omega
    have mi:=(hm' _).mp (fP hi')
    have mj:=(hm' _).mp (fP hj')
    have hb:fc (dO ks' i) (dO ks' j)=some (ltB ks' i j):=by
     have:=tot.lt _ _ (o.al _ mi).2 (o.al _ mj).2
     unfold ltB
     cases z:fc (dO ks' i) (dO ks' j) with
     | none=>rw [z] at this;cases this
     | some b=>rfl
    have d1:=nR o.dp _ mi
    have d2:=nR o.dp _ mj
    exact Ba (N.keep kp) (o.al _ mi).1 (o.al _ mj).1 hb (fH rs hi') (fH rs hj') (fJ rv (by omega)) (fJ rv (by omega)) (by rw [un];omega) (by omega) (by omega) cc
 ·by_cases h2:QX.length < 2
  ·rw [if_pos h2] at hg
   refine fin h' tk l n QX vs rfl rv ?_ kp hl hg
   unfold cg
   rw [if_pos (by omega)]
   exact rs
  ·rw [if_neg h2] at hg
   have ib:∀i∈(bh (ltB ks') (T6 ks'.length)).toList,i < ks'.length:=λi hi=>by
    have:=((fU (n:=ks'.length) (by omega)).run (ltB ks'):fE _ _)
    have:=(UP this).mp (U5.mp hi)
    simpa using this
   have e1:iL (ltB ks') QX=(bh (ltB ks') (T6 ks'.length)).toList.map λi=>QX.getD i R7:=by unfold iL;rw [l2,l1]
   rw [e1] at hg
   refine fin h' tk l n _ _ ?_ (nK rv _ λi hi=>l2▸ib i hi) ?_ kp hl hg
   ·rw [Rh,<-l2]
    have:=((fU (n:=ks'.length) (by omega)).run (ltB ks'):fE _ _).size_eq
    simpa using this
   ·unfold cg
    rw [if_neg (by omega)]
    exact nE rs _ ib
end
end DL
namespace DL
open PySem PySem.Spec PyProof.Rows L2 ST
end DL
namespace DL
open PySem PySem.Spec PyProof.Rows L2 DX
end DL
namespace DL
open PySem PySem.Spec PyProof.Rows L2 ST PySem.SetTable
section
variable {t:Sk}{es:Array (Int×Q8)}{L:List (Nat×Int×Q8)}
theorem tY (T:Tab t es L) (h:Int) (n0:Nat) (hf:pos t.mask h n0∉L.map (·.1)) (hb:∀m,m < n0->pos t.mask h m∈L.map (·.1)):
  ∀(d n F:Nat),n0 - n=d->n<=n0->d < F->probe.go t (λ_=>h + 1) h F (st t.mask h n)=some (.empty (pos t.mask h n0) none)
 | d,n,0,_,_,h=>absurd h (So _)
 | d,n,F + 1,hd,hn,hF=>by
  by_cases c:n=n0
  ·subst c
   unfold probe.go
   rw [ug T.dm (by rw [T.pl];exact hf)]
   show some (Met.empty _ (st t.mask h n).dummy)=_
   rw [oU]
  ·obtain ⟨e,he,ej⟩:=Rg.mp (hb n (by omega))
   obtain ⟨i,hi,rfl⟩:=Tf.mp he
   have hs:t.slot (pos t.mask h n)=.live i:=qc T.sop (by rw [(T.at_ (Rl hi)).1,ej])
   have eg:probe.go t (λ_=>h + 1) h (F + 1) (st t.mask h n)=probe.go t (λ_=>h + 1) h F (st t.mask h (n + 1)):=by
    rw [probe.go,hs]
    show (if (h + 1 == h)=true then _ else _)=_
    rw [if_neg (by rw [beq_iff_eq];omega)]
    rfl
   rw [eg]
   exact tY T h n0 hf hb (n0 - (n + 1)) (n + 1) F rfl (by omega) (by omega)
theorem DW (T:Tab t es L) (h:Int) (n0:Nat) (hf:pos t.mask h n0∉L.map (·.1)) (hb:∀m,m < n0->pos t.mask h m∈L.map (·.1)) (hn0:n0<=10 * (t.mask + 12)):t.freeSlot h=some (pos t.mask h n0,false):=by
 have e:t.probe (λ_=>h + 1) h (t.probeStart h)=some (.empty (pos t.mask h n0) none):=tY T h n0 hf hb n0 0 (10 * turns t.mask) rfl (RL _) (by unfold turns;omega)
 unfold SetTable.freeSlot
 rw [e]
 rfl
theorem Jp (T:Tab t es L) (h:Int) (x:Q8) (n0:Nat) (hf:pos t.mask h n0∉L.map (·.1)) (hb:∀m,m < n0->pos t.mask h m∈L.map (·.1)) (hn0:n0<=10 * (t.mask + 12)) (hl:L.length + 1<=t.mask):
  layNew t es h x=(insertAt es (t.put (pos t.mask h n0)).2 (h,x),(t.put (pos t.mask h n0)).1,false,false):=by
 obtain ⟨L',T',_⟩:=T.put h x n0 hf hb (zu _ _ _) hl
 have fit:=dz T'
 unfold layNew
 rw [DW T h n0 hf hb hn0]
 dsimp only
 unfold SetTable.orStandIn
 rw [fit]
 rfl
theorem Gi {mask finger moves:Nat}{led plain:Bool}{t':Sk}{Q5:Array Nat}(hm:lN mask) (hl:es.size<=mask) (e:laid mask finger moves led plain (es.map (·.1))=some (t',Q5)):Q5.toList.Perm (Ra es.size):=by
 obtain ⟨owner,G,e0,O⟩:=Eh hm (es.map (·.1)) (by simpa using hl)
 have hlen:G.length=es.size:=by rw [O.ln];simp
 (let live:=(Ra (mask + 1)).filterMap λj=>(owner.getD j none).map (j,·))
 have lv:∀p,p∈live↔p.1∈G/\p.2=G.idxOf p.1:=λp=>by
  show p∈(Ra (mask + 1)).filterMap _↔_
  rw [Vr]
  constructor
  ·rintro ⟨j,hj,q⟩
   have hj':j<=mask:=by have:=Rk.mp hj;omega
   rw [O.at_ j hj'] at q
   by_cases c:j∈G
   ·rw [if_pos c] at q
    have q:(j,G.idxOf j)=p:=by simpa using q
    subst q
    exact ⟨c,rfl⟩
   ·rw [if_neg c] at q;exact absurd q (by simp)
  ·rintro ⟨h1,h2⟩
   refine ⟨p.1,Rk.mpr (by have:=O.bd _ h1;omega),?_⟩
   rw [O.at_ _ (O.bd _ h1),if_pos h1]
   show some (p.1,G.idxOf p.1)=some p
   rw [<-h2]
 have so1:live.Pairwise λa b=>a.1 < b.1:=by
  show ((Ra (mask + 1)).filterMap _).Pairwise _
  rw [Xk]
  refine Sz.imp ?_
  intro a b hab x hx y hy
  cases q1:owner.getD a none with
  | none=>rw [q1] at hx;exact absurd hx (by simp)
  | some k1=>cases q2:owner.getD b none with
   | none=>rw [q2] at hy;exact absurd hy (by simp)
   | some k2=>
    rw [q1] at hx;rw [q2] at hy
    have hx:(a,k1)=x:=by simpa using hx
    have hy:(b,k2)=y:=by simpa using hy
    subst hx;subst hy;exact hab
 have ord:(live.map (·.2)).Perm (Ra es.size):=by
  rw [WA _ Tj]
  ·intro k
   rw [Rg,Rk]
   constructor
   ·rintro ⟨p,hp,rfl⟩
    obtain ⟨h1,h2⟩:=(lv p).mp hp
    rw [h2,<-hlen]
    exact Sq h1
   ·intro hk
    rw [<-hlen] at hk
    exact ⟨(G[k],k),(lv _).mpr ⟨SH _,(O.nd.idxOf_getElem k hk).symm⟩,rfl⟩
  ·show (live.map (·.2)).Pairwise _
   rw [R3]
   refine (VZ.mp so1).imp ?_
   rintro a b ⟨ha,hb,hab⟩ z
   obtain ⟨a1,a2⟩:=(lv a).mp ha
   obtain ⟨b1,b2⟩:=(lv b).mp hb
   rw [a2,b2] at z
   have ga:=UQ (Sq a1)
   have gb:=UQ (Sq b1)
   have:a.1=b.1:=by
    rw [<-ga,<-gb]
    congr 1
   omega
 unfold laid at e
 rw [e0] at e
 have e1:(live.map (·.2)).toArray=Q5:=by
  have:=Sv e
  exact congrArg Prod.snd this
 rw [<-e1]
 exact ord
theorem EV {w:Nat}(hm:lN (sizeAbove w - 1)) (hl:es.size<=sizeAbove w - 1):∃t' es' L',relayAll t es w=(es',t',false)/\t'.mask=sizeAbove w - 1/\t'.led=t.led/\t'.plain=t.plain/\Tab t' es' L'/\es'.toList.Perm es.toList:=by
 obtain ⟨t',Q5,L',e1,e2,e3,e4,e5,e6⟩:=wc (t:=t) (es:=es) hm hl
 have od:Q5.toList.Perm (Ra es.size):=Gi hm hl e1
 refine ⟨t',Q5.filterMap (es[·]?),L',?_,e2,e3,e4,e5,e6⟩
 unfold relayAll
 rw [e1]
 dsimp only
 have c1:coversAll Q5 es.size=true:=by unfold coversAll;exact List.isPerm_iff.mpr od
 rw [c1,dz e5]
 rfl
end
end DL
namespace DL
open PySem PySem.Spec PyProof.Rows L2 ST
inductive fS:List (Int×Q8)->List Int->Prop
 | nil:fS [] []
 | cons {i:Int}{k:Tok}{es:List (Int×Q8)}{ns:List Int}:fS es ns->fS ((U1 i,.int i k)::es) (i::ns)
theorem fS.perm {es es':List (Int×Q8)}(p:es.Perm es'):∀{ns:List Int},fS es ns->∃ns',ns.Perm ns'/\fS es' ns':=by
 induction p with
 | nil=>intro ns h;exact ⟨ns,.refl _,h⟩
 | cons x _ ih=>
  intro ns h
  cases h with
  | cons h3=>obtain ⟨ns',a,b⟩:=ih h3;exact ⟨_,a.cons _,.cons b⟩
 | swap x y l=>
  intro ns h
  cases h with
  | cons h3=>cases h3 with
   | cons h6=>exact ⟨_,.swap _ _ _,.cons (.cons h6)⟩
 | trans _ _ ih1 ih2=>
  intro ns h
  obtain ⟨k1,a,b⟩:=ih1 h
  obtain ⟨k2,c,d⟩:=ih2 b
  exact ⟨k2,a.trans c,d⟩
theorem fS.length {es:List (Int×Q8)}{ns:List Int}(h:fS es ns):es.length=ns.length:=by
 induction h with
 | nil=>rfl
 | cons _ ih=>simp [ih]
structure iK (h:SM) (a:Rq) (led:Bool) (ns:List Int) (es:Array (Int×Q8)) (ep:Nat) (t:Sk):Prop where
 at_:h.get? a=some {cls:=.type "set",dict:=none,data:=.set es ep t}
 tab:∃L,Tab t es L
 pl:t.plain=true
 ld:t.led=led
 rm:ns.length * 5 < t.mask * 3
 en:fS es.toList ns
 nd:ns.Nodup
section
variable {w:RZ}{prog:Rz}{E:Q8->Q_->Prop}{A:R4}{s:Q_}
theorem fS.elems {es:List (Int×Q8)}{ns:List Int}(h:fS es ns):ElemsOf (YZ prog w) es:=by
 induction h with
 | nil=>exact λe he=>nomatch he
 | @cons i k es ns _ ih=>
  intro e he
  (rcases Rt.mp he with rfl | he)
  ·exact ⟨⟨i,aaH _ _ _ _,rfl⟩,rfl⟩
  ·exact ih e he
theorem fS.find {es:List (Int×Q8)}{ns:List Int}(h:fS es ns) (i:Int):(es.findIdx? λe=>(YZ prog w).is i e.2)=none↔i∉ns:=by
 rw [List.findIdx?_eq_none_iff]
 induction h with
 | nil=>simp
 | @cons j k es ns _ ih=>
  rw [Rt,not_or,<-ih]
  have e:(YZ prog w).is i (.int j k)=decide (i=j):=KeyKind.is_eq_decide (aaH prog w j k) i
  constructor
  ·intro h
   refine ⟨λz=>?_,λx hx=>h x (Rb _ hx)⟩
   have:=h _ Rf
   rw [e,z] at this
   simp at this
  ·rintro ⟨h1,h2⟩ x hx
   (rcases Rt.mp hx with rfl | hx)
   ·rw [e];simpa using h1
   ·exact h2 x hx
theorem add_int {a:Rq}{es:Array (Int×Q8)}{ep:Nat}{t:Sk}{led:Bool}{ns:List Int}{i:Int}{k:Tok}{Q:Bool->Q_->Prop}(S:iK s.heap a led ns es ep t) (hl:ns.length < 76)
  (q1:i∈ns->Q false s) (q2:i∉ns->∀(h':SM) ns' es' ep' t',Sy a s.heap h'->(i::ns).Perm ns'->iK h' a led ns' es' ep' t'->Q true {s with heap:=h'}):
  RA (RG prog w) A (X0 a (.int i k) (U1 i)) Q E s:=by
 obtain ⟨L,T⟩:=S.tab
 have lenL:L.length=ns.length:=by rw [nJ T,<-Rm,S.en.length]
 have hes:es.size=ns.length:=by rw [<-Rm,S.en.length]
 obtain ⟨n0,b1,b2,b3⟩:=sR T.mo (U1 i) (L.map (·.1)) (by rw [Rh];exact T.fl)
 (unfold X0 aal)
 refine RU (Q6 (S0 S.at_ rfl (dz T) ?_))
 dsimp only
 have sc:byScan (.int i k) es=true:=byScan_of (prog:=prog) (w:=w) (knd:=YZ prog w) rfl (by unfold scanBound;omega) S.en.elems
 rw [sc]
 simp only [if_true]
 unfold setAddByScan
 refine Q6 ?_
 (refine Q6 (WX ?_))
 refine Q6 (wpAny_setScan_of (knd:=YZ prog w) (k:=i) (aaH _ _ _ _) S.at_ rfl (dz T) S.en.elems ?_)
 cases hr:List.findIdx? (λe=>(YZ prog w).is i e.2) es.toList with
 | some j=>
  dsimp only
  have hin:i∈ns:=Tv λz=>by
   have:=(S.en.find (prog:=prog) (w:=w) i).mpr z
   rw [hr] at this;cases this
  exact Q9 (Q9 (q1 hin))
 | none=>
  dsimp only
  have hm:i∉ns:=(S.en.find i).mp hr
  have rm:=S.rm
  have ln:=Jp T (U1 i) (.int i k) n0 b2 b3 b1 (by rcases T.mo with h | h | h <;> rw [h] at rm ⊢ <;> omega)
  rw [ln]
  dsimp only
  (refine Q6 (Vj (a:=()) rfl ?_))
  obtain ⟨L',T',pm⟩:=T.put (U1 i) (.int i k) n0 b2 b3 (zu _ _ _) (by rcases T.mo with h | h | h <;> rw [h] at rm ⊢ <;> omega)
  have fl:(t.put (pos t.mask (U1 i) n0)).1.mask=t.mask/\(t.put (pos t.mask (U1 i) n0)).1.plain=t.plain/\(t.put (pos t.mask (U1 i) n0)).1.led=t.led:=⟨rfl,rfl,rfl⟩
  generalize t.put (pos t.mask (U1 i) n0)=tp at T' fl ⊢
  obtain ⟨t',p⟩:=tp
  dsimp only at T' fl ⊢
  obtain ⟨f1,f2,f3⟩:=fl
  obtain ⟨ns',p1,p2⟩:∃ns',(i::ns).Perm ns'/\fS (S4 es p (U1 i,.int i k)).toList ns':=by
   refine fS.perm (es:=(U1 i,.int i k)::es.toList) ?_ (.cons S.en)
   rw [T'.en,T.en]
   exact (pm.map (·.2)).symm
  have nd':ns'.Nodup:=p1.nodup_iff.mp (S9.mpr ⟨hm,S.nd⟩)
  have lk:ns'.length=ns.length + 1:=by rw [<-p1.length_eq];rfl
  rw [f2,S.pl]
  simp only [if_true]
  (refine Q6 (Vj (a:=true) rfl ?_))
  simp only [if_true]
  have esz:(S4 es p (U1 i,ZG i k)).size=ns'.length:=by rw [<-Rm,p2.length]
  refine Q6 (VO S.at_ rfl ?_ (by rw [esz,Sh];omega))
  have hg:=S3 (W2 (S4 es p (U1 i,.int i k)) t') S.at_ rfl
  have hfill:t'.fill=ns'.length:=by
   unfold YT
   rw [T'.dm,<-Rm,T'.pl,Rh,nJ T',esz]
   rfl
  split
  ·rename_i c
   simp only [VT,TM] at c
   unfold V_ at c
   rw [hfill,f1,decide_eq_true_eq] at c
   have hW:(Tc (VU ns'.length)=32/\ns'.length=5)\/(Tc (VU ns'.length)=128/\ns'.length=19):=by
    unfold VU
    rw [if_neg (by omega)]
    rcases T.mo with h | h | h
    ·rw [h] at c rm
     have:ns'.length=5:=by omega
     rw [this]
     exact .inl ⟨AQ,rfl⟩
    ·rw [h] at c rm
     have:ns'.length=19:=by omega
     rw [this]
     exact .inr ⟨AR,rfl⟩
    ·rw [h] at c;omega
   have hmo:lN (Tc (VU ns'.length) - 1):=by rcases hW with ⟨h,_⟩ | ⟨h,_⟩ <;> rw [h];exact .inr (.inl rfl);exact .inr (.inr rfl)
   rw [esz]
   obtain ⟨t2,es2,L2,g1,g2',g3,g4,g5,g6⟩:=EV (t:=t') (es:=S4 es p (U1 i,.int i k)) hmo (by rw [esz];rcases hW with ⟨h,h'⟩ | ⟨h,h'⟩ <;> rw [h] <;> omega)
   rw [g1]
   dsimp only
   (refine Q6 (Vj (a:=()) rfl ?_))
   obtain ⟨ns2,r1,r2⟩:=p2.perm g6.symm
   have es2z:es2.size=ns'.length:=by rw [<-Rm,r2.length,r1.length_eq]
   refine Q6 (VO (s:={s with heap:=s.heap.update a (W2 (S4 es p (U1 i,.int i k)) t')}) hg rfl ?_ (by rw [es2z,Sh];omega))
   have PZ:=S3 (W2 es2 t2) hg rfl
   refine Q9 (Q9 (q2 hm _ ns2 _ _ _ ((SW _ _ _).trans (SW _ _ _)) (p1.trans r1) ⟨PZ,⟨L2,g5⟩,g4.trans (f2.trans S.pl),g3.trans (f3.trans S.ld),?_,r2,r1.nodup_iff.mp nd'⟩))
   rw [<-r1.length_eq,g2']
   rcases hW with ⟨h,h'⟩ | ⟨h,h'⟩ <;> rw [h,h'] <;> omega
  ·rename_i c
   simp only [VT,TM] at c
   unfold V_ at c
   rw [hfill,f1,decide_eq_true_eq] at c
   exact Q9 (Q9 (q2 hm _ ns' _ _ _ (SW _ _ _) p1 ⟨hg,⟨L',T'⟩,f2.trans S.pl,f3.trans S.ld,by rw [f1];omega,p2,nd'⟩))
end
theorem iK.keep {h h':SM}{a:Rq}{led:Bool}{ns:List Int}{es:Array (Int×Q8)}{ep:Nat}{t:Sk}(S:iK h a led ns es ep t) (e:∀o,h.get? a=some o->h'.get? a=some o):iK h' a led ns es ep t:=
 ⟨e _ S.at_,S.tab,S.pl,S.ld,S.rm,S.en,S.nd⟩
section
variable {w:RZ}{prog:Rz}{R:ZI->Q_->Prop}{A:R4}{I:Rq}{fp wr:List Rq}{G:Array YA->Array YA->Prop}{n:Nat}{P:Nat->Q8->Prop}{St:Nat->Q_->Prop}
theorem wH (W:WalksS prog w A.in1 I fp wr G n P St) (S:Rq) (hSf:S∉fp) (val:Nat->Int) (hval:∀i v,P i v->∃t,v=.int (val i) t) (hn:n<=76){led:Bool}:
  ∀(k i:Nat) (s:Q_) (ns:List Int) (es:Array (Int×Q8)) (ep:Nat) (t:Sk),n - i=k->i<=n->St i s->iK s.heap S led ns es ep t->(∀d,d∈ns↔d∈(Ra i).map val)->
   (∀s' ns' es' ep' t',Moved (S::wr) G s s'->iK s'.heap S led ns' es' ep' t'->(∀d,d∈ns'↔d∈(Ra n).map val)->R (.ok (.ret .none)) s')->
   (T8 (RG prog w) A (.builtin "set.update.loop" ⟨[.ref S,.ref I],[]⟩) R s):=by
 (have P7:S∉wr:=λh=>hSf (W.sub _ h))
 (have hsub:∀b∈wr,b∈S::wr:=λb hb=>Rb _ hb)
 intro k
 induction k with
 | zero=>
  intro i s ns es ep t hk hi hst hS hm hR
  have hin:i=n:=by omega
  subst hin
  refine Td SO ?_
  rw [Tg RQ _]
  (show RA _ A.in1 (VD (.ref I) >>= _) _ _ s)
  refine Q6 (W.done s _ _ hst λs' Pk=>?_)
  (show RA _ A.in1 (ret R7) _ _ s')
  exact Q9 (hR s' ns es ep t (Pk.mono hsub) (hS.keep λo e=>Pk.heap S o P7 e) hm)
 | succ k ih=>
  intro i s ns es ep t hk hi hst hS hm hR
  have hlt:i < n:=by omega
  have hlen:ns.length<=i:=by
   have:=RN hS.nd (λd hd=>(hm d).mp hd)
   simpa using this
  refine Td SO ?_
  rw [Tg RQ _]
  (show RA _ A.in1 (VD (.ref I) >>= _) _ _ s)
  refine Q6 (W.item i s _ _ hlt hst λv s' hP Py Pk=>?_)
  obtain ⟨tk,rfl⟩:=hval i v hP
  have hS':=hS.keep (h':=s'.heap) λo e=>Pk.heap S o P7 e
  have mem':∀(ns':List Int),(∀d,d∈ns'↔d=val i\/d∈ns)->∀d,d∈ns'↔d∈(Ra (i + 1)).map val:=λns' h d=>by
   rw [h d,hm d,T5,RM,RJ]
   simp only [Rv,WC,Rp]
   exact Or.comm
  show RA _ A.in1 (holding [.int (val i) tk] (setAdd S (.int (val i) tk)) >>= _) _ _ s'
  (refine Q6 (RU ?_))
  unfold setAdd
  refine RU ?_
  (refine Q6 (Xn ?_))
  refine add_int (s:={s' with toks:=s'.toks + 1}) hS' (by omega) (λhin=>?_) (λhin h' ns' es' ep' t' P5 Qo Qh=>?_)
  ·refine Q9 ⟨UZ RQ _,ih (i + 1) _ ns es ep t (by omega) hlt (W.frame _ s' _ _ Py (To _) λb hb o e=>e) hS' (mem' ns λd=>⟨.inr,λh=>h.elim (λh=>h▸hin) id⟩) λs'' ns'' es'' ep'' t'' hm'' hS'' P0=>?_⟩
   exact hR s'' ns'' es'' ep'' t'' (Yw W.gtrans ((Pk.mono hsub).then_heap (To _) λb o hb e=>e) hm'') hS'' P0
  ·refine Q9 ⟨UZ RQ _,ih (i + 1) _ ns' es' ep' t' (by omega) hlt (W.frame _ s' _ _ Py (To _) λb hb o e=>?_) Qh (mem' ns' λd=>?_) λs'' ns'' es'' ep'' t'' hm'' hS'' P0=>?_⟩
   ·(rw [P5.2 b (λh:b=S=>hSf (by rw [<-h];exact hb))];exact e)
   ·rw [<-Qo.mem_iff,Rt]
   ·refine hR s'' ns'' es'' ep'' t'' (Yw W.gtrans ((Pk.mono hsub).then_heap (To _) λb o hb e=>?_) hm'') hS'' P0
    (rw [P5.2 b (λh:b=S=>hb (by rw [h];exact Rf))];exact e)
end
theorem ue {h:SM}{a:Rq}{led:Bool}(e:h.get? a=some {cls:=.type "set",dict:=none,data:=.set #[] 0 (.fresh 0 0 led)}):iK h a led [] #[] 0 (.fresh 0 0 led):=
 ⟨e,⟨[],⟨rfl,rfl,rfl,UW,(λ_ h=>nomatch h),.inl rfl,RL _,(λ_ h=>nomatch h)⟩⟩,rfl,rfl,(show 0 * 5 < 7 * 3 by decide),.nil,TR⟩
section
variable {w:RZ}{prog:Rz}{A:R4}{s:Q_}{E:Q8->Q_->Prop}
theorem xo {l:Rq}{QW:Array Q8}{ds:List Int}{Q:Q8->Q_->Prop}(hh:A.handled=none) (hl:s.heap.IsTuple l QW) (hz:QW.size=ds.length) (hi:∀(i:Nat) (v:Q8),QW[i]?=some v->∃t,v=.int (ds.getD i 0) t) (hn:ds.length<=76)
  (h:∀(h':SM) (tk:Nat) ks es ep t,iK h' s.heap.objs.size (bX w) ks es ep t->(∀d,d∈ks↔d∈ds)->(∀b o,b < s.heap.objs.size->s.heap.get? b=some o->h'.get? b=some o)->Q (.ref s.heap.objs.size) {s with heap:=h',toks:=tk}):
  (RA (RG prog w) A (call (.type "set") [.ref l]) Q E s):=by
 (obtain ⟨c,tl,P_⟩:=R6.mro)
 (have hmade:=R6.made)
 have hsub:=R6.sub
 (refine WV (UT ?_))
 (show RA _ _ (callAny (.type "set") _) _ _ _)
 (refine Q9 ⟨WJ _ (by decide +kernel),Td W6 ?_⟩)
 (rw [WK (V2 "set" [.ref l] []) rfl])
 (have h1:=R6.notType)
 (have h2:=R6.canCreate)
 have hct:=VH (.ref l)
 (repeat (any_goals (first | assumption | wp_step)))
 refine Tw (rX (.ref l) (E:=E) (Q₁:=λobj s₁=>obj=.ref s.heap.objs.size/\s₁={s with heap:=s.heap.push (dH (bX w))}) ⟨rfl,rfl⟩) λr s₁ hr=>?_
 cases r with
 | error e=>exact hr
 | ok fl=>
  cases fl with
  | ret obj=>
   obtain ⟨rfl,rfl⟩:=hr
   have hS:(s.heap.push (dH (bX w))).get? s.heap.objs.size=some (dH (bX w)):=Rn _ rfl
   have hT:UE {s with heap:=s.heap.push (dH (bX w))} (.ref s.heap.objs.size) "set":=⟨_,hS,rfl⟩
   (have hli:=R6.init.lookup)
   (have hbi:=R6.init.bind (.ref s.heap.objs.size))
   (repeat (any_goals (first | assumption | wp_step)))
   refine Tw (U4 (R:=wants (λr s₂=>r=.none/\∃h' tk ks es ep t,s₂={s with heap:=h',toks:=tk}/\iK h' s.heap.objs.size (bX w) ks es ep t/\(∀d,d∈ks↔d∈ds)/\
     (∀b o,b < s.heap.objs.size->s.heap.get? b=some o->h'.get? b=some o)) E) R6.init.plain Xv ((Xw hT ?_))) λr₂ s₂ hr₂=>?_
   ·obtain ⟨ol,PU,hcl,nl,hdl⟩:=id hl
    have Ph:(s.heap.push (dH (bX w))).get? l=some ol:=Rc _ PU
    have Qc:=wG
    have Qa:=wF
    have hne:(Ul "tuple" == Ul "dict")=false:=by decide
    have hl1:(s.heap.push (dH (bX w))).IsTuple l QW:=⟨_,Ph,hcl,nl,hdl⟩
    have Qx:UE {s with heap:=s.heap.push (dH (bX w))} (.ref l) "tuple":=⟨_,Ph,hcl⟩
    (unfold U3.«set.__init__» aaF UR)
    generalize P6:WB=PI
    wp_walk
    subst P6
    refine (WD hl1 ?_)
    refine (Q6 (WR ?_))
    (have hlS:l < s.heap.objs.size:=Ru PU)
    have z1:(s.heap.push (dH (bX w))).objs.size=s.heap.objs.size + 1:=Uh _ _
    have Px:l≠(s.heap.push (dH (bX w))).objs.size:=by rw [z1];exact RE (Sn hlS)
    have hSf:s.heap.objs.size∉[(s.heap.push (dH (bX w))).objs.size,l]:=by
     rw [z1]
     simp only [Rt,Sl,or_false,not_or]
     (exact ⟨RE (Ti _),Ux hlS⟩)
    have hno:∀b,s.heap.objs.size<=b->s.heap.get? b=none:=λb hb=>by
     cases q:s.heap.get? b with
     | none=>rfl
     | some o=>exact absurd (Ru q) (aaG.mpr hb)
    have hval:∀(i:Nat) (v:Q8),QW[i]?=some v->∃t,v=.int (ds.getD i 0) t:=hi
    have all:(Ra QW.size).map (λi=>ds.getD i 0)=ds:=by
     refine UI (by simp [hz]) λi a b=>?_
     simp [b]
    refine wH (A:=A.in1.in1) (led:=bX w) ((abK (A:=A.in1.in1.in1) (by simp [hh]) (s.heap.push (dH (bX w))).objs.size l Px QW).toS) s.heap.objs.size hSf (λi=>ds.getD i 0) hval (by omega) QW.size 0 _ [] #[] 0 (.fresh 0 0 (bX w)) (by omega) (RL _) ⟨⟨_,Rn _ rfl,rfl,rfl⟩,hl1.push _⟩ (ue (Rc _ hS)) (λd=>by simp) λs' ks es ep t hm hS' hmem=>?_
    ·rw [all] at hmem
     (obtain ⟨h',g',d',tk',os'⟩:=s')
     (have eg:g'=s.gens:=hm.gens)
     (have ed:d'=s.drawn:=hm.drawn)
     have eo:os'=s.os:=hm.os
     subst eg;subst ed;subst eo
     show RA _ _ _ _ _ _
     refine Q9 ?_
     (show RA _ _ (ret R7) _ _ _)
     refine Q9 ⟨rfl,h',tk',ks,es,ep,t,rfl,hS',hmem,λb o hb e=>?_⟩
     refine hm.heap b o ?_ (Rc _ (Rc _ e))
     rw [z1]
     simp only [Rt,Sl,or_false,not_or]
     exact ⟨RE hb,RE (Sn hb)⟩
   ·cases r₂ with
    | error e=>exact hr₂
    | ok fl₂=>
     cases fl₂ with
     | ret r=>
      obtain ⟨rfl,h',tk,ks,es,ep,t,rfl,hS',hm',hk'⟩:=hr₂
      (repeat (any_goals (first | assumption | wp_step)))
      exact h _ _ _ _ _ _ hS' hm' hk'
     | _=>exact hr₂.elim
  | _=>exact hr.elim
end
end DL
namespace DL
open PySem PySem.Spec PyProof.Rows L2 ST DX
open PySem.W (KasT kas_sort kas_ask)
theorem iK.wk {h:SM}{a:Rq}{led:Bool}{ns:List Int}{es:Array (Int×Q8)}{ep:Nat}{t:Sk}(S:iK h a led ns es ep t):je h a led es ep t:=⟨S.at_,S.tab,S.pl,S.ld⟩
noncomputable def l_:D->Int
 | .int i=>i
 | _=>0
theorem Fd {ds:List D}(h:ds.all isInt=true):ds=(ds.map l_).map .int:=by
 induction ds with
 | nil=>rfl
 | cons d r ih=>
  rw [UC,Ri] at h
  cases d with
  | int i=>rw [Rv,Rv,<-ih h.2];rfl
  | _=>cases h.1
abbrev iF (X:Cx) (a:Rq) (ms:List Int):HO:=.ext λh=>∃ns es ep t,iK h a (bX X.w) ns es ep t/\∀d,d∈ns↔d∈ms
theorem int_at {K:Q7}{J:Hp}{ms:List Int}{vs:List V}{us:List Q8}(rs:aJ K J (ms.map .int) vs) (rv:Vals vs us):∀(i:Nat) (v:Q8),us.toArray[i]?=some v->∃t,v=.int (ms.getD i 0) t:=λi v q=>by
 have l1:vs.length=us.length:=rv.length
 have l2:(ms.map D.int).length=vs.length:=rs.length
 have hi:i < us.length:=by
  have:=(Su.mp q).1
  simpa using this
 have e:us.getD i R7=v:=by
  simp at q
  simp [abi,q]
 have r1:=fH rs (i:=i) (by omega)
 have r2:=fJ rv (i:=i) (by omega)
 rw [e] at r2
 have lm:i < ms.length:=by rw [Rh] at l2;omega
 have e2:dO (ms.map D.int) i=.int (ms.getD i 0):=by
  unfold dO
  simp [abi,lm]
 rw [e2] at r1
 generalize vs.getD i V.non=vv at r1 r2
 cases r1
 exact r2
section
variable {X:Cx}
theorem DA (hc:X.calm=true):b8 X (.type "set") (λxs H Q=>∃p vs ms J0,xs=[.ref p]/\dY X.K H p vs/\aJ X.K J0 (ms.map .int) vs/\ms.length < 64/\∀l,H l=none->Q (.ref l) (upd H l (iF X l ms))):=by
 intro QV s σ H xs us Q I r h
 obtain ⟨p,vs,ms,J0,rfl,hq,rs,l64,q⟩:=h
 obtain ⟨u,rfl,rx⟩:=vals1 r
 cases rx
 have hh:X.A.handled=none:=I.ok.hd hc
 have fr:H s.heap.objs.size=none:=I.hok.fresh (Rj _)
 obtain ⟨QX,r',pt,hz⟩:=I.tuple hq
 have lm:(ms.map D.int).length=vs.length:=rs.length
 rw [Rh] at lm
 refine xo hh pt (by simp [<-r'.length,lm]) (int_at rs r') (by omega) λh' tk ks es ep t S hm kp=>?_
 exact ⟨.ref s.heap.objs.size,_,I.laid (t':=tk) (λb o e=>kp b o (Ru e) e) (Rj _) (show cM X.prog X.w _ _ _ (iF X s.heap.objs.size ms) from ⟨⟨ks,es,ep,t,S,hm⟩,⟨_,S.at_⟩,λh1 h2 ⟨ks,es,ep,t,S,hm⟩ e=>⟨ks,es,ep,t,S.keep e,hm⟩⟩),rfl,q _ fr⟩
theorem fS.reps {es:List (Int×Q8)}{ns:List Int}(h:fS es ns):∃vs,(∀(K:Q7) (J:Hp),aJ K J (ns.map .int) vs)/\Vals vs (es.map (·.2))/\Vh (es.map (·.2)) ns:=by
 induction h with
 | nil=>exact ⟨[],λK J=>.nil,.nil,.nil⟩
 | @cons i k es ns _ ih=>
  obtain ⟨vs,h1,h2,h3⟩:=ih
  exact ⟨.int i::vs,λK J=>.cons (.int _) (h1 K J),.cons ⟨k,rfl⟩ h2,.cons i k h3⟩
theorem Ar (hc:X.calm=true):b8 X (.builtin "sorted") (λxs H Q=>∃p ms,xs=[.ref p]/\H p=some (iF X p ms)/\ms.length < 64/\∀l vs',H l=none->(∀J0,aJ X.K J0 (fK (ms.map .int)) vs')->Q (.ref l) (upd H l (.lst vs'))):=by
 intro QV s σ H xs us Q I r h
 obtain ⟨p,ms,rfl,hp,l64,q⟩:=h
 obtain ⟨u,rfl,rx⟩:=vals1 r
 cases rx
 have hh:X.A.handled=none:=I.ok.hd hc
 obtain ⟨⟨ns,es,ep,t,S,hm⟩,_⟩:=(show cM X.prog X.w H s.heap p (iF X p ms) from I.hok p _ hp)
 obtain ⟨ns',pm,en'⟩:=S.en.perm (mU X.w p ep es).symm
 have nd':ns'.Nodup:=pm.nodup_iff.mp S.nd
 have hm':∀d,d∈ns'↔d∈ms:=λd=>by rw [<-pm.mem_iff,hm d]
 obtain ⟨vs,rs,rv,hI⟩:=en'.reps
 have hv:iH X.w p ep es=(gx X.w p ep es).toList.map (·.2):=rfl
 rw [<-hv] at rv hI
 generalize hits:iH X.w p ep es=QX at rv hI
 have l1:vs.length=QX.length:=rv.length
 have l2:(ns'.map D.int).length=vs.length:=(rs X.K H).length
 have len:ns'.length<=ms.length:=RN nd' λd hd=>(hm' d).mp hd
 have les:es.size=ns'.length:=by rw [<-Rm,S.en.length,pm.length_eq]
 have ndD:(ns'.map D.int).Nodup:=R3.mpr (W7 (λh e=>h (by cases e;rfl)) nd')
 have Qk:∀d,d∈ns'.map D.int↔d∈ms.map D.int:=λd=>by simp only [Rg,hm']
 have allI:∀d∈ms.map D.int,jY .i d:=λd hd=>by obtain ⟨i,_,rfl⟩:=Rg.mp hd;exact ⟨i,rfl⟩
 have out:=zT (jx .i) allI ndD Qk
 have lm:(ns'.map D.int).length=ns'.length:=Rh _
 generalize hk:ns'.map D.int=ks' at *
 have fin:∀(h':SM) (tk:Nat) (l:Rq) (n:Nat) (ot:List Q8) (vs':List V),vs'.length=vs.length->Vals vs' ot->(∀J0,aJ X.K J0 (cg ks') vs')->(∀b o,s.heap.get? b=some o->h'.get? b=some o)->s.heap.objs.size<=l->h'.get? l=some (TL "list" ot.toArray n)->EP X QV σ Q (.ref l) {s with heap:=h',toks:=tk}:=λh' tk l n ot vs' lv rv' rr kp hl hg=>by
  refine ⟨.ref l,_,I.laid (t':=tk) kp hl (show cM X.prog X.w _ _ _ (.lst vs') from ⟨by rw [lv,Sh];omega,ot,n,rv',by simpa [TL] using hg⟩),rfl,q l vs' (I.hok.fresh hl) (by rw [<-out];exact rr)⟩
 refine sortedS (κ:=aaY) (q:=ltB ks') (vs:=QX) hits hh S.wk (by omega) ?_ λh' tk l n kp hl hg=>?_
 ·by_cases h2:QX.length < 2
  ·exact .inl h2
  ·refine .inr ⟨by omega,by omega,λh' tk C kp cc=>?_,λh' tk kp i j C hi hj cc=>?_⟩
   ·have hl:2<=QX.length:=by omega
    clear fin l1 rv hits
    match QX,hI,hl with
    | v1::v2::r,hI,_=>rw [keyKind_ints hI];exact Q9 cc
   ·have hi':i < ks'.length:=by omega
    have hj':j < ks'.length:=by omega
    have ai:=allI _ ((Qk _).mp (fP hi'))
    have aj:=allI _ ((Qk _).mp (fP hj'))
    have r1:=fH (rs X.K H) hi'
    have r2:=fH (rs X.K H) hj'
    have v1:=fJ rv (i:=i) (by omega)
    have v2:=fJ rv (i:=j) (by omega)
    show RA _ _ (keyLt' aaY (QX.getD i R7) (QX.getD j R7)) _ _ _
    rw [aai]
    have e:ltB ks' i j=(fc (dO ks' i) (dO ks' j)).getD false:=rfl
    rw [e] at cc
    obtain ⟨a,ea⟩:=ai
    obtain ⟨b,eb⟩:=aj
    rw [ea] at r1 cc
    rw [eb] at r2 cc
    generalize vs.getD i V.non=wi at r1 v1
    generalize vs.getD j V.non=wj at r2 v2
    cases r1;cases r2
    obtain ⟨t1,q1⟩:=v1
    obtain ⟨t2,q2⟩:=v2
    rw [q1,q2]
    refine abg ?_
    unfold fc at cc
    exact cc
 ·by_cases h2:QX.length < 2
  ·rw [if_pos h2] at hg
   refine fin h' tk l n QX vs rfl rv ?_ kp hl hg
   unfold cg
   rw [if_pos (by omega)]
   exact λJ0=>rs _ J0
  ·rw [if_neg h2] at hg
   have ib:∀i∈(bh (ltB ks') (T6 ks'.length)).toList,i < ks'.length:=λi hi=>by
    have:=((fU (n:=ks'.length) (by omega)).run (ltB ks'):fE _ _)
    have:=(UP this).mp (U5.mp hi)
    simpa using this
   have e1:iL (ltB ks') QX=(bh (ltB ks') (T6 ks'.length)).toList.map λi=>QX.getD i R7:=by unfold iL;rw [l2,l1]
   rw [e1] at hg
   refine fin h' tk l n _ _ ?_ (nK rv _ λi hi=>l2▸ib i hi) ?_ kp hl hg
   ·rw [Rh,<-l2]
    have:=((fU (n:=ks'.length) (by omega)).run (ltB ks'):fE _ _).size_eq
    simpa using this
   ·unfold cg
    rw [if_neg (by omega)]
    exact λJ0=>nE (rs _ J0) _ ib
end
end DL
namespace DL
open PySem PySem.Spec PyProof.Rows L2 ST DX
theorem Du:Sd "set"=some (.type "set"):=by decide +kernel
section
variable {X:Cx}{c:C}{e:RX}{pos pos2:Pos}
noncomputable def pJ:List R->M R
 | [.d (.tup ys)]=>if q_ ys=true then .ok (.l .fresh (fK ys)) else if pT ys=true then .ok (.l .fresh (fK ys)) else .bad
 | _=>.bad
noncomputable def MB (X:Cx):List V->Hp->VK->Prop:=λxs H Q=>∃p vs ms J0,xs=[.ref p]/\dY X.K H p vs/\aJ X.K J0 (ms.map .int) vs/\ms.length < 64/\∀l,H l=none->Q (.ref l) (upd H l (iF X l ms))
noncomputable def MD (X:Cx):List V->Hp->VK->Prop:=λxs H Q=>∃p vs ds J0,xs=[.ref p]/\dY X.K H p vs/\aX J0 H/\aJ X.K J0 ds vs/\q_ ds=true/\∀l,H l=none->Q (.ref l) (upd H l (oQ X J0 l ds))
noncomputable def GY (X:Cx):List V->Hp->VK->Prop:=λxs H Q=>∃p ms,xs=[.ref p]/\H p=some (iF X p ms)/\ms.length < 64/\∀l vs',H l=none->(∀J0,aJ X.K J0 (fK (ms.map .int)) vs')->Q (.ref l) (upd H l (.lst vs'))
noncomputable def GZ (X:Cx):List V->Hp->VK->Prop:=λxs H Q=>∃p ds J0,xs=[.ref p]/\H p=some (oQ X J0 p ds)/\aX J0 H/\q_ ds=true/\∀l vs',H l=none->aJ X.K J0 (fK ds) vs'->Q (.ref l) (upd H l (.lst vs'))
theorem ES {p p2:Pos}{gs:G (List R)}(hu:X.A.units + 64 < S6) (ha:kc X c [e] gs) (hm:X.mg "sorted"=none) (hm2:X.mg "set"=none) (hK:X.K=c.K:=by rfl) (hc:X.calm=true:=by rfl) (hg:Gl X "sorted":=by rfl) (PZ:Gl X "set":=by rfl)
  (he:Rr [.Call (.Name "set" p2) [e] [] pos2] X.env=(false,eval (.Call (.Name "set" p2) [e] [] pos2) X.env)::Rr [] X.env:=by rfl) (hpl:(TU pos (Rr [] X.env)).any (·.1)=false:=by rfl)
  (PY:Rr [e] X.env=(false,eval e X.env)::Rr [] X.env:=by rfl) (P1:(TU pos2 (Rr [] X.env)).any (·.1)=false:=by rfl):
  QD X c (.Call (.Name "sorted" p) [.Call (.Name "set" p2) [e] [] pos2] [] pos) (gN pJ gs):=by
 have ha:=ha.h
 refine ⟨?_⟩
 have h1:=jU (p:=p2) (pos:=pos2) (b8.or (show b8 X (.type "set") (MD X) from DB hu hc) (show b8 X (.type "set") (MB X) from DA hc)) PZ hm2 Du ha (by decide) (by decide) PY P1
 have h2:=oA (p:=p) (pos:=pos) (b8.or (show b8 X (.builtin "sorted") (GZ X) from B_ hu hc) (show b8 X (.builtin "sorted") (GY X) from Ar hc)) hg hm kR (gq h1 jn he) (by decide) (by decide) he hpl
 refine Cz (ta:=zW) (f:=pJ) (r:=λvs H1 Q=>(MD X vs H1 λv H2=>GZ X [v] H2 Q\/GY X [v] H2 Q)\/(MB X vs H1 λv H2=>GZ X [v] H2 Q\/GY X [v] H2 Q)) h2 rfl ?_
 intro He J H xs vs Q hp rs w
 unfold pJ at w
 split at w
 ·rename_i ys
  obtain ⟨v,rfl,r⟩:=rs.one
  cases r with
  | tup h hs=>
   have hT:∀{p:Rq}{us:List V},dY c.K J p us->dY X.K H p us:=λh=>by rw [hK];exact gc hp.sub h
   have fin:∀(o:Rq->HO) (w:∀w J' H',Ext J H J' H'->RR c H J' H' (.l .fresh (fK ys)) w->Q w H') (l l2:Rq) (vs':List V),H l=none->upd H l (o l) l2=none->aJ X.K J (fK ys) vs'->Q (.ref l2) (upd (upd H l (o l)) l2 (.lst vs')):=λo w l l2 vs' hl h2 rr=>by
    rw [hK] at rr
    have e1:=Ext.new hp.sub hl (o l)
    have e2:=Ext.new e1.sub h2 (.lst vs')
    exact w _ _ _ (e1.trans e2) (RR.from e1.h (iC (hp.ext e1) h2 rr))
   split at w
   ·rename_i ok
    exact .inl ⟨_,_,ys,J,rfl,hT h,hp.sub,by rw [hK];exact hs,ok,λl hl=>.inl ⟨l,ys,J,rfl,cK,(Ext.new hp.sub hl _).sub,ok,λl2 vs' h2 rr=>fin (λl=>oQ X J l ys) w l l2 vs' hl h2 rr⟩⟩
   ·split at w
    ·rename_i ok
     unfold pT at ok
     rw [Ri] at ok
     have o1:=of_decide_eq_true ok.1
     have ey:=Fd ok.2
     refine .inr ⟨_,_,ys.map l_,J,rfl,hT h,by rw [hK,<-ey];exact hs,by rw [Rh];exact o1,λl hl=>.inr ⟨l,ys.map l_,rfl,cK,by rw [Rh];exact o1,λl2 vs' h2 rr=>?_⟩⟩
     rw [<-ey] at rr
     exact fin (λl=>iF X l (ys.map l_)) w l l2 vs' hl h2 (rr _)
    ·exact w.elim
 ·exact w.elim
end
end DL
namespace DL
open PySem PySem.Spec PyProof.Rows L2 DX
end DL
namespace K55
open PySem DL
def Ah:List Str:=["told","least","most"]
noncomputable def qW:G O:=(aY (bU (bB (aT (gN (aE 1 K01.o_) (ao (af 0) av)))) (bU (aT (g2 (cj λi j=>.bl (decide (i < j))) (af 0) (af 1))) (aT (g2 (cj λi j=>.bl (decide (j < i))) (af 0) (af 2))))) xH bF)
def eH (as:List S):M R:=fin (qW (aI Ah as))
end K55
namespace K55
open PySem DL K01 WP K51 K52
theorem vH (a b:Nat):bz (dN a) (dN b)=(a == b):=by
 show ((a:Int) == (b:Int))=_
 by_cases h:a=b
 ·subst h;simp
 ·rw [beq_eq_false_iff_ne.mpr h,beq_eq_false_iff_ne.mpr (by omega)]
theorem inN (l:Nat) (xs:List Nat):inD (dN l) (xs.map dN)=decide (l∈xs):=by
 unfold inD
 rw [Vn,RY,SS,decide_eq_true_eq]
 constructor
 ·rintro ⟨x,hx,e⟩
  have e:bz (dN x) (dN l)=true:=e
  rw [vH] at e
  rw [<-eq_of_beq e];exact hx
 ·intro h
  exact ⟨l,h,by show bz (dN l) (dN l)=true;rw [vH];simp⟩
theorem vI (a b:Nat×Nat):bz (dP a) (dP b)=decide (a=b):=by
 have:bz (dP a) (dP b)=(bz (dN a.1) (dN b.1) && (bz (dN a.2) (dN b.2) && true)):=by
  show bz (.tup [dN a.1,dN a.2]) (.tup [dN b.1,dN b.2])=_
  rw [kG,gR,gR,cP]
 rw [this,vH,vH,RY]
 obtain ⟨a1,a2⟩:=a
 obtain ⟨b1,b2⟩:=b
 simp
theorem HR (l:Nat×Nat) (xs:List (Nat×Nat)):inD (dP l) (xs.map dP)=decide (l∈xs):=by
 unfold inD
 rw [Vn,RY,SS,decide_eq_true_eq]
 constructor
 ·rintro ⟨x,hx,e⟩
  have e:bz (dP x) (dP l)=true:=e
  rw [vI,decide_eq_true_eq] at e
  rw [<-e];exact hx
 ·intro h
  exact ⟨l,h,by show bz (dP l) (dP l)=true;rw [vI];simp⟩
noncomputable def MX:D->Nat
 | .int i=>i.toNat
 | _=>0
noncomputable def Ip:D->Nat×Nat
 | .tup [x,y]=>(MX x,MX y)
 | _=>(0,0)
theorem xR (n:Nat×Nat):Ip (dP n)=n:=rfl
theorem back {α:Type}(h:α->D) (u:D->α) (hu:∀x,u (h x)=x){l:List D}(hl:∀d∈l,∃x,d=h x):(l.map u).map h=l:=by
 rw [RT]
 refine (UG (g:=id) λd hd=>?_).trans (List.map_id _)
 obtain ⟨x,rfl⟩:=hl d hd
 show h (u (h x))=h x
 rw [hu]
def pF:Fm:=.tc .i (.tc .i .tn)
theorem Lk (p:Nat×Nat):jY pF (dP p):=⟨_,rfl,_,_,rfl,⟨_,rfl⟩,_,rfl,_,_,rfl,⟨_,rfl⟩,[],rfl,rfl⟩
theorem HZ (xs:List Nat) (hl:xs.length < 64):pT (xs.map dN)=true:=by
 unfold pT
 rw [Rh,decide_eq_true hl,TM,R0]
 intro d hd
 obtain ⟨x,_,rfl⟩:=Rg.mp hd
 rfl
theorem Om (xs:List (Nat×Nat)):∀d∈xs.map dP,iu d=some .i:=λd hd=>by
 obtain ⟨x,_,rfl⟩:=Rg.mp hd
 rfl
theorem OB (xs:List Nat) (hl:xs.length < 64):ni [.l .fresh (xs.map dN)]=.ok (.l .fresh (cg (xs.map dN))):=by
 show (if H_ (xs.map dN)=true then M.ok (R.l .fresh (cg (xs.map dN))) else if pT (xs.map dN)=true then M.ok (R.l .fresh (cg (xs.map dN))) else .bad)=_
 rw [if_pos (HZ xs hl)]
 split <;> rfl
theorem Nr (xs:List (Nat×Nat)) (hl:xs.length < 64):q_ (xs.map dP)=true:=by
 have h1:areKeys (xs.map dP)=true:=by
  induction xs with
  | nil=>rfl
  | cons x xs ih=>
   rw [Rv]
   show (isKey (dP x) && areKeys (xs.map dP))=true
   rw [ih (by simp at hl;omega)]
   rfl
 have h2:deps (xs.map dP)<=8:=dQ λd hd=>by
  obtain ⟨x,_,rfl⟩:=Rg.mp hd
  exact (by decide:(1:Nat)<=8)
 have h3:HY (xs.map dP)=true:=by
  cases xs with
  | nil=>rfl
  | cons x xs=>
   show (iE .i ((x::xs).map dP) && ((x::xs).map dP).all (qD pF))=true
   rw [rE (Om (x::xs)),TM,R0]
   intro d hd
   obtain ⟨y,_,rfl⟩:=Rg.mp hd
   rfl
 unfold q_
 rw [h1,h3,decide_eq_true h2,Rh,decide_eq_true hl]
 rfl
theorem OC (xs:List (Nat×Nat)) (hl:xs.length < 64):pJ [.d (.tup (xs.map dP))]=.ok (.l .fresh (fK (xs.map dP))):=by
 show (if q_ (xs.map dP)=true then M.ok (R.l .fresh (fK (xs.map dP))) else _)=_
 rw [if_pos (Nr xs hl)]
theorem E4 {P:D->Prop}(p:gG P){ds:List D}(h:∀x∈ds,P x):(fK ds).length<=ds.length/\∀d∈fK ds,d∈ds:=by
 obtain ⟨h1,h2⟩:=xD p ds h
 refine ⟨?_,λd hd=>((rZ p h).2 d).mp hd⟩
 show (cg (dd ds)).length<=_
 rw [E3]
 exact RN h1 λd hd=>(h2 d).mp hd
theorem LN {i:Int}(h:0<=i):∃k:Nat,i=k:=⟨i.toNat,by omega⟩
end K55
namespace DL
open PySem PySem.Spec PyProof.Rows L2 DX
noncomputable def cD (gt:GT) (gts:G Bool) (act:Ev->M (List D×Ev)):List D->Ev->M (List D×Ev)
 | [],env=>.ok ([],env)
 | d::ds,env=>gt d env >>= λe=>gts e >>= λk=>if k=true then act e >>= λr=>cD gt gts act ds r.2 >>= λz=>.ok (r.1++z.1,z.2) else cD gt gts act ds e
def ye (env:Ev) (σ:L2.St) (p:Rq):Prop:=∀(j:Nat) (xs:Mn),env[j]?=some (some (mS xs))->σ[j]?≠some (some (.ref p))
structure xT (Acc:Hp->Hp->List D->Prop):Prop where
 ext:∀{J H J' H':Hp}{ys:List D},Acc J H ys->Ext J H J' H'->Acc J' H' ys
noncomputable def uC (X:Cx) (c:C) (p:Rq) (Acc:Hp->Hp->List D->Prop) (J2 H2:Hp) (N:Nat) (m:Sem Unit) (act:Ev->M (List D×Ev)):Prop:=
 ∀(QV:List (Rq×Obj)) (s:Q_) (σ:L2.St) (H J:Hp) (env:Ev) (ys:List D) (Qf:List D×Ev->Prop),Inv X QV σ H s->Ext J2 H2 J H->SR c J H σ env->ye env σ p->Acc J H ys->ys.length + N<=sizeLine->dJ (act env) Qf c.T->
  RA (RG X.prog X.w) X.A m (λ_ s'=>∃σ' H' J' r,Inv X QV σ' H' s'/\Ext J2 H2 J' H'/\aX J J'/\SR c J' H' σ' r.2/\ye r.2 σ' p/\Acc J' H' (ys++r.1)/\r.1.length<=N/\Qf r) (λ_ _=>False) s
abbrev E8 (ifs:List RX) (env:Env):Sem Bool:=forIn ifs true λc r=>if r=true then do let ok <-Yk c env (eval c env);pure (TY ok) else pure (TY r)
abbrev lZ (QY QZ:RX) (ifs:List RX) (it:Q8) (env:Env) (act:Sem Unit) (again':Sem Fin):Sem Fin:=do
 Uz QZ.pos
 match <-VD it with
 | none=>pure (.done .next)
 | some v=>
  TV QY it v
  assign QY env v
  let mut ok:=true
  for c in ifs do
   if ok then ok <-Yk c env (eval c env)
  if ok then
   act
  again'
noncomputable def su (prog:Rz) (w:RZ) (A:R4) (e:RX) (depth:Nat) (it acc:Q8) (env:Env) (QY:RX) (ifs:List RX) (m:Sem Unit):Prop:=
 ∀(R:ZI->Q_->Prop) (I:Nat->Q_->Prop),(∀n s,I n s->RA (RG prog w) A (VD it) (λr s₁=>match r with
   | none=>R (.ok .next) s₁
   | some v=>RA (RG prog w) A (TV QY it v) (λ_ s₁=>RA (RG prog w) A (assign QY env v) (λ_ s₂=>
     RA (RG prog w) A (E8 ifs env) (λok s₃=>if ok=true then RA (RG prog w) A m (λ_ s₅=>∃m,m < n/\I m s₅) (λ_ _=>False) s₃ else ∃m,m < n/\I m s₃) (λ_ _=>False) s₂) (λ_ _=>False) s₁) (λ_ _=>False) s₁) (λ_ _=>False) s)->
  ∀(n:Nat) (s:Q_),I n s->T8 (RG prog w) A (.compLoop e depth it acc env) R s
section
variable {prog:Rz}{w:RZ}{A:R4}{QY QZ:RX}{ifs:List RX}{QU:T7}{pos:Pos}{it acc:Q8}{env:Env}{depth:Nat}{gens:List Xl}{act:Sem Unit}
theorem z_ {R:ZI->Q_->Prop}{I:Nat->Q_->Prop}{E:Q8->Q_->Prop}{code:Code}{n:Nat}{s:Q_}{Q:Fin->Q_->Prop}
  (QC:∀s,R (.ok .next) s->Q (.done .next) s) (Qw:∀s,(∃m,m < n/\I m s)->RA (RG prog w) A (again code) Q E s)
  (t:RA (RG prog w) A (VD it) (λr s₁=>match r with
   | none=>R (.ok .next) s₁
   | some v=>RA (RG prog w) A (TV QY it v) (λ_ s₁=>RA (RG prog w) A (assign QY env v) (λ_ s₂=>
     RA (RG prog w) A (E8 ifs env) (λok s₃=>if ok=true then RA (RG prog w) A act (λ_ s₅=>∃m,m < n/\I m s₅) (λ_ _=>False) s₃ else ∃m,m < n/\I m s₃) (λ_ _=>False) s₂) (λ_ _=>False) s₁) (λ_ _=>False) s₁) (λ_ _=>False) s):
  RA (RG prog w) A (lZ QY QZ ifs it env act (again code)) Q E s:=by
 refine Q6 (S8 (Q6 (Si t (λr s₁ h₁=>?_) λ_ _ f=>f.elim)))
 cases r with
 | none=>exact Q9 (QC _ h₁)
 | some v=>
  refine Q6 (Si h₁ (λ_ s₁' h₁'=>?_) λ_ _ f=>f.elim)
  refine Q6 (Si h₁' (λ_ s₂ h₂=>Q6 (Si h₂ (λok s₃ h₃=>?_) λ_ _ f=>f.elim)) λ_ _ f=>f.elim)
  cases ok with
  | false=>exact Qw _ h₃
  | true=>exact Q6 (Si h₃ (λ_ s₅ h₅=>Qw _ h₅) λ_ _ f=>f.elim)
theorem Cp {elt:RX}(ht:VV (.ListComp elt gens QU pos) depth it acc env=lZ QY QZ ifs it env act (again (.compLoop (.ListComp elt gens QU pos) depth it acc env))):su prog w A (.ListComp elt gens QU pos) depth it acc env QY ifs act:=by
 intro R I turn n s h
 refine codeAny_loop rfl I (λn s hI=>?_) n h
 show RA _ A ((VV (.ListComp elt gens QU pos) depth it acc env).onRaise (λx=>do Z2 x env;Z3 x)) _ _ s
 refine wpAny_noted ?_
 rw [ht]
 exact z_ (λ_ h=>h) (λ_ h=>Q9 ⟨rfl,h⟩) (turn n s hI)
theorem Co {kx vx:RX}(ht:VV (.DictComp kx vx gens QU pos) depth it acc env=lZ QY QZ ifs it env act (again (.compLoop (.DictComp kx vx gens QU pos) depth it acc env))):su prog w A (.DictComp kx vx gens QU pos) depth it acc env QY ifs act:=by
 intro R I turn n s h
 refine codeAny_loop rfl I (λn s hI=>?_) n h
 show RA _ A ((VV (.DictComp kx vx gens QU pos) depth it acc env).onRaise (λx=>do Z2 x env;Z3 x)) _ _ s
 refine wpAny_noted ?_
 rw [ht]
 exact z_ (λ_ h=>h) (λ_ h=>Q9 ⟨rfl,h⟩) (turn n s hI)
end
section
variable {X:Cx}{c:C}{p:Rq}{Acc:Hp->Hp->List D->Prop}{J2 H2:Hp}{N:Nat}{m:Sem Unit}{act:Ev->M (List D×Ev)}{QY:RX}{ifs:List RX}{gt:GT}{gts:G Bool}{e:RX}{depth:Nat}{acc:Q8}{it:Rq}{fp:List Rq}{tn:Nat->SM->Prop}{It:It}{ds:List D}{J1:Hp}
theorem zg (aR:xT Acc) (hc:X.calm=true) (hx:∀v s,X.xe v s->False) (LP:su X.prog X.w X.A e depth (.ref it) acc X.env QY ifs m) (hT:jb X c QY gt) (hIf:gU X c ifs gts) (hA:uC X c p Acc J2 H2 N m act) (T:Turn X.prog X.w X.K QY It fp it tn)
  (U:Hp->Hp->Prop) (wk:Walk c It ds J1 U){QV:List (Rq×Obj)}{s:Q_}{σ:L2.St}{H J:Hp}{env:Ev}{ys:List D}{Qf:List D×Ev->Prop}(hU:∀J' H',Ext J2 H2 J' H'->aX J J'->U J' H') (I:Inv X QV σ H s) (st:tn 0 s.heap) (fr:∀b∈fp,jX X QV H b) (e2:Ext J2 H2 J H) (sr:SR c J H σ env) (no:ye env σ p) (ac:Acc J H ys)
  (hl:ys.length + ds.length * N<=sizeLine) (w:dJ (cD gt gts act ds env) Qf c.T):
  T8 (RG X.prog X.w) X.A (.compLoop e depth (.ref it) acc X.env) (λr s'=>r=.ok .next/\∃σ' H' J' r',Inv X QV σ' H' s'/\Ext J2 H2 J' H'/\aX J J'/\SR c J' H' σ' r'.2/\ye r'.2 σ' p/\Acc J' H' (ys++r'.1)/\r'.1.length<=ds.length * N/\Qf r') s:=by
 refine LP _ (λn s'=>∃(i:Nat) (σ':L2.St) (H' J':Hp) (env':Ev) (zs:List D),n=ds.length - i/\i<=ds.length/\Inv X QV σ' H' s'/\tn i s'.heap/\(∀b∈fp,H' b=none)/\Ext J2 H2 J' H'/\aX J J'/\SR c J' H' σ' env'/\ye env' σ' p/\Acc J' H' (ys++zs)/\zs.length<=i * N/\
  dJ (cD gt gts act (ds.drop i) env') (λr=>Qf (zs++r.1,r.2)) c.T) ?_ ds.length s ⟨0,σ,H,J,env,[],rfl,RL _,I,st,λb hb=>(fr b hb).1,e2,aX.refl J,sr,no,by rw [Ur];exact ac,by simp,by rw [aaf];exact w⟩
 rintro n s' ⟨i,σ',H',J',env',zs,rfl,hi,I',st',fr',e',sj,sr',no',ac',hz,w'⟩
 have stat:∀{H':Hp},(∀b∈fp,H' b=none)->∀b∈fp,jX X QV H' b:=λhn b hb=>⟨hn b hb,(fr b hb).2⟩
 obtain ⟨wk1,wk2⟩:=wk i J' H' sr'.hp (hU J' H' e' sj)
 by_cases hlt:i < ds.length
 ·obtain ⟨g1,y1⟩:=wk2 ds[i] (by simp [hlt])
  rw [U_ hlt] at w'
  refine Si (T.item X rfl rfl rfl hc i QV s' σ' H' (λ_ _=>False) I' (stat fr') st' g1) (λr s4 ⟨u,hr,h4⟩=>?_) λ_ _ f=>f.elim
  subst hr
  refine Si h4 (λ_ s5 ⟨x,H5,I5,r5,y5,st5,fr5⟩=>?_) λ_ _ f=>f.elim
  obtain ⟨J5,e5,rx⟩:=y1 x H5 y5
  have I5':=I5.pinned (stat fr5) (T.obj _ _ st5)
  have again:∀{σ7:L2.St}{H7:Hp}{s7:Q_},Inv X (QV++pY fp s5.heap) σ7 H7 s7->Inv X QV σ7 H7 s7/\tn (i + 1) s7.heap/\(∀b∈fp,H7 b=none):=fun {σ7 H7 s7} I7=>by
   refine ⟨I7.unpinned,T.keep _ _ _ st5 λb hb o e=>(I7.pin (b,o) (R9 _ (R9 _ (ku hb e)))).1,λb hb=>?_⟩
   obtain ⟨o,e,d⟩:=T.obj _ _ st5 b hb
   exact (I7.pin (b,o) (R9 _ (R9 _ (ku hb e)))).2.1
  refine Si (hT _ s5 σ' H5 x u (λσ6 H6=>∃e6,H6=H5/\SR c J5 H5 σ6 e6/\KO env' σ' e6 σ6/\dJ (gts e6 >>= λk=>if k=true then act e6 >>= λr=>cD gt gts act (ds.drop (i + 1)) r.2 >>= λz=>.ok (r.1++z.1,z.2) else cD gt gts act (ds.drop (i + 1)) e6)
   (λr=>Qf (zs++r.1,r.2)) c.T) I5' r5 ⟨J5,env',ds[i],sr'.ext e5,rx,aG (aM w') λe6 w6 σ6 sr6 ko=>⟨e6,rfl,sr6,ko,w6⟩⟩) (λ_ s6 ⟨σ6,H6,I6,e6,QA,sr6,ko,w6⟩=>?_) λ_ _ f=>(hx _ _ f).elim
  subst QA
  have no6:ye e6 σ6 p:=λj xs q z=>by
   obtain ⟨k1,k2⟩:=ko j xs q
   exact no' j xs k1 (k2▸z)
  refine Si (hIf _ s6 σ6 H6 (λk H7=>∃J7,Ext J5 H6 J7 H7/\dJ (if k=true then act e6 >>= λr=>cD gt gts act (ds.drop (i + 1)) r.2 >>= λz=>.ok (r.1++z.1,z.2) else cD gt gts act (ds.drop (i + 1)) e6)
   (λr=>Qf (zs++r.1,r.2)) c.T) I6 ⟨J5,e6,sr6,aG (aM w6) λk wk J7 H7 e7=>⟨J7,e7,wk⟩⟩) (λk s7 ⟨H7,I7,J7,e7,w7⟩=>?_) λ_ _ f=>(hx _ _ f).elim
  have sr7:=sr6.ext e7
  have ac7:=aR.ext (aR.ext ac' e5) e7
  have x7:=(e'.trans e5).trans e7
  have j7:=(sj.trans e5.j).trans e7.j
  have hm:(i + 1) * N=i * N + N:=by rw [Z4,Nat.one_mul]
  cases k with
  | false=>
   rw [if_neg (by decide)] at w7 ⊢
   obtain ⟨a1,a2,a3⟩:=again I7
   exact ⟨ds.length - (i + 1),by omega,i + 1,σ6,H7,J7,e6,zs,rfl,hlt,a1,a2,a3,x7,j7,sr7,no6,ac7,by omega,w7⟩
  | true=>
   rw [if_pos rfl] at w7 ⊢
   have hN:(i + 1) * N<=ds.length * N:=U7 N hlt
   refine Si (hA _ s7 σ6 H7 J7 e6 (ys++zs) _ I7 x7 sr7 no6 ac7 (by rw [RI];omega) (aM w7)) (λ_ s8 ⟨σ8,H8,J8,r,I8,x8,j8,sr8,no8,ac8,l8,w8⟩=>?_) λ_ _ f=>f.elim
   obtain ⟨a1,a2,a3⟩:=again I8
   refine ⟨ds.length - (i + 1),by omega,i + 1,σ8,H8,J8,r.2,zs++r.1,rfl,hlt,a1,a2,a3,x8,j7.trans j8,sr8,no8,by rw [<-W3];exact ac8,by rw [RI];omega,?_⟩
   refine aG (aM w8) λz q=>?_
   rw [W3]
   exact q
 ·have QK:i=ds.length:=by omega
  subst QK
  rw [Xz (Rj _)] at w'
  refine Si (T.done X rfl rfl rfl hc _ QV s' σ' H' (λ_ _=>False) I' (stat fr') st' (wk1 (Rj _))) (λr s4 ⟨hr,I9⟩=>?_) λ_ _ f=>f.elim
  subst hr
  have w9:Qf (zs++[],env'):=w'
  rw [Ur] at w9
  exact ⟨rfl,σ',H',J',(zs,env'),I9,e',sj,sr',no',ac',hz,w9⟩
end
section
variable {prog:Rz}{w:RZ}{A:R4}{R:ZI->Q_->Prop}{s:Q_}{it acc:Q8}{env:Env}{QU:T7}{pos:Pos}{g0:Xl}{QY QZ:RX}{ifs:List RX}{rest:List Xl}
theorem MN {elt:RX}(h0:T8 (RG prog w) A (.compLoop (.ListComp elt (g0::⟨QY,QZ,ifs,0⟩::rest) QU pos) 1 it acc env) R s)
  (h:RA (RG prog w) A (WB it) (λit' s'=>T8 (RG prog w) A (.compLoop (.ListComp elt (g0::⟨QY,QZ,ifs,0⟩::rest) QU pos) 1 it' acc env) R s') (λ_ _=>False) s):
  T8 (RG prog w) A (.compStart (.ListComp elt (g0::⟨QY,QZ,ifs,0⟩::rest) QU pos) 1 it acc env) R s:=by
 refine UT ?_
 show RA _ _ ((Z5 (.ListComp elt (g0::⟨QY,QZ,ifs,0⟩::rest) QU pos) 1 it acc env).onRaise (λx=>do Z2 x env;Uz Z6)) _ _ s
 refine aa3 ?_
 unfold Z5
 show RA _ _ (ask >>= _) _ _ s
 refine Q6 (T_ (wpAny_ite ?_))
 split
 ·first
   | exact Q6 (Q9 (Q9 (X4 rfl h0)))
   | exact Q9 (X4 rfl h0)
 ·refine Q6 (WX ?_)
  show RA _ _ (Uz QZ.pos >>= _) _ _ s
  exact Q6 (S8 (Q6 (Si h (λit' s' h'=>Q9 (X4 rfl h')) λ_ _ x=>x.elim)))
theorem MM {kx vx:RX}(h0:T8 (RG prog w) A (.compLoop (.DictComp kx vx (g0::⟨QY,QZ,ifs,0⟩::rest) QU pos) 1 it acc env) R s)
  (h:RA (RG prog w) A (WB it) (λit' s'=>T8 (RG prog w) A (.compLoop (.DictComp kx vx (g0::⟨QY,QZ,ifs,0⟩::rest) QU pos) 1 it' acc env) R s') (λ_ _=>False) s):
  T8 (RG prog w) A (.compStart (.DictComp kx vx (g0::⟨QY,QZ,ifs,0⟩::rest) QU pos) 1 it acc env) R s:=by
 refine UT ?_
 show RA _ _ ((Z5 (.DictComp kx vx (g0::⟨QY,QZ,ifs,0⟩::rest) QU pos) 1 it acc env).onRaise (λx=>do Z2 x env;Uz Z6)) _ _ s
 refine aa3 ?_
 unfold Z5
 show RA _ _ (ask >>= _) _ _ s
 refine Q6 (T_ (wpAny_ite ?_))
 split
 ·first
   | exact Q6 (Q9 (Q9 (X4 rfl h0)))
   | exact Q9 (X4 rfl h0)
 ·refine Q6 (WX ?_)
  show RA _ _ (Uz QZ.pos >>= _) _ _ s
  exact Q6 (S8 (Q6 (Si h (λit' s' h'=>Q9 (X4 rfl h')) λ_ _ x=>x.elim)))
end
noncomputable def jf (gi:G (List D)) (gt:GT) (gts:G Bool) (act:Ev->M (List D×Ev)):Ev->M (List D×Ev):=λenv=>gi env >>= λds=>if ds.length<=1000 then cD gt gts act ds env else .bad
abbrev rO (e QZ:RX) (acc:Q8) (env:Env):Sem Unit:=do
 let x <-eval QZ env
 Uz QZ.pos
 let x <-Rx QZ env x
 let _ <-runOwn (.compStart e 1 (<-holding [x] (WB x)) acc env) env
section
variable {X:Cx}{c:C}{p:Rq}{Acc:Hp->Hp->List D->Prop}{J2 H2:Hp}{N:Nat}{m:Sem Unit}{act:Ev->M (List D×Ev)}{QY QZ:RX}{ifs:List RX}{gi:G (List D)}{gt:GT}{gts:G Bool}{e:RX}{acc:Q8}
theorem AV (aR:xT Acc) (hc:X.calm=true) (hx:∀v s,X.xe v s->False) (hs:∀x,Rx QZ X.env x=pure x)
  (start:∀(it:Rq) (R:ZI->Q_->Prop) (s:Q_),T8 (RG X.prog X.w) X.A (.compLoop e 1 (.ref it) acc X.env) R s->RA (RG X.prog X.w) X.A (WB (.ref it)) (λit' s'=>T8 (RG X.prog X.w) X.A (.compLoop e 1 it' acc X.env) R s') (λ_ _=>False) s->T8 (RG X.prog X.w) X.A (.compStart e 1 (.ref it) acc X.env) R s)
  (LP:∀it:Rq,su X.prog X.w X.A e 1 (.ref it) acc X.env QY ifs m) (hi:yg X c QY QZ gi) (hT:jb X c QY gt) (hIf:gU X c ifs gts) (hA:uC X c p Acc J2 H2 N m act):
  uC X c p Acc J2 H2 (1000 * N) (rO e QZ acc X.env) (jf gi gt gts act):=by
 intro QV s σ H J env ys Qf I x2 sr no ac hl w
 refine Q6 (Si (hi QV s σ H (λIt H1=>∃ds J1,Ext J H J1 H1/\Walk c It ds J1 (λJ' _=>aX J1 J')/\dJ (if ds.length<=1000 then cD gt gts act ds env else .bad) Qf c.T) I ⟨J,env,sr,aG (aM w) λds wd It J1 H1 e1 wk=>⟨ds,J1,e1,wk,wd⟩⟩) (λxv s1 h1=>?_) λv s f=>(hx v s f).elim)
 refine Q6 (S8 ?_)
 rw [hs xv]
 refine Q6 (Q9 (Q6 (RU (Si h1 (λitv s2 h2=>?_) λv s f=>(hx v s f).elim))))
 obtain ⟨it,fp,tn,It,H1,rfl,I1,T,st1,f1,ds,J1,e1,wk,w1⟩:=h2
 have hsz:ds.length<=1000:=by
  by_cases z:ds.length<=1000
  ·exact z
  ·rw [if_neg z] at w1;exact w1.elim
 rw [if_pos hsz] at w1
 have hm:ds.length * N<=1000 * N:=U7 N hsz
 have hb:ys.length + ds.length * N<=sizeLine:=RS (Nat.add_le_add_left hm _) hl
 have run:=zg aR hc hx (LP it) hT hIf hA T (λJ' _=>aX J1 J') wk (λ_ _ _ h=>h) I1 st1 f1 (x2.trans e1) (sr.ext e1) no (aR.ext ac e1) hb w1
 have run':T8 (RG X.prog X.w) X.A (.compLoop e 1 (.ref it) acc X.env) (λr s'=>match r with | .ok f=>RA (RG X.prog X.w) X.A (pure ()) (λ_ s'=>∃σ' H' J' r,Inv X QV σ' H' s'/\Ext J2 H2 J' H'/\aX J J'/\SR c J' H' σ' r.2/\ye r.2 σ' p/\Acc J' H' (ys++r.1)/\r.1.length<=1000 * N/\Qf r) (λ_ _=>False) s' | .error e=>cameBackBy (RG X.prog X.w) X.A X.env (λ_ _=>False) e s') s2:=Tw run λr s' ⟨hr,σ',H',J',r',q1,q2,q3,q4,q5,q6,q7,q8⟩=>by
  subst hr
  exact Q9 ⟨σ',H',J',r',q1,q2,e1.j.trans q3,q4,q5,q6,RS q7 hm,q8⟩
 exact Q6 (wpAny_runOwn (h:=none) (start it _ _ run' (T.self _ 0 _ _ _ st1 run')))
end
def gX (ge:G R):Ev->M (List D×Ev):=λe=>ge e >>= λr=>toD r >>= λy=>.ok ([y],e)
def BX (c:C) (p:Rq):Hp->Hp->List D->Prop:=λJ H ys=>∃us,H p=some (.lst us)/\J p=none/\aJ c.K J ys us
theorem rC {c:C}{p:Rq}:xT (BX c p):=⟨fun {J H J' H' ys} ⟨us,h1,h2,h3⟩ e=>⟨us,e.h _ _ h1,e.frz _ (by rw [h1];intro z;cases z) h2,h3.mono e.j⟩⟩
section
variable {X:Cx}{c:C}{p:Rq}{J2 H2:Hp}{elt:RX}{ge:G R}
theorem AU (hx:∀v s,X.xe v s->False) (hp2:H2 p=none) (hp0:c.H0 p=none) (hE:PD X c elt ge):uC X c p (BX c p) J2 H2 1 (do let _ <-call (.builtin "list.append") [.ref p,<-eval elt X.env]) (gX ge):=by
 intro QV s σ H J env ys Qf I x2 sr no ⟨us,h1,h2,h3⟩ hl w
 have hlen:ys.length=us.length:=h3.length
 refine Q6 (Si (hE _ s σ H (λv H8=>∃J8 y,Ext J H J8 H8/\Rep c.K J8 y v/\Qf ([y],env)) I ⟨J,env,sr,aG (aM w) λr wr v J8 H8 e8 r8=>?_⟩) (λu8 s8 ⟨v8,H8,I8,r8,J8,y,e8,ry,w8⟩=>?_) λv s f=>(hx v s f).elim)
 ·obtain ⟨y,q,wr⟩:=iY wr
  obtain ⟨J9,e9,_,ry⟩:=freeze e8 r8 q
  exact ⟨J9,y,e9,ry,wr⟩
 have p8:H8 p=some (.lst us):=e8.h _ _ h1
 have J8p:J8 p=none:=e8.frz _ (by rw [h1];intro z;cases z) h2
 refine Q6 (Si (vW (X:=X) _ s8 σ H8 (.ref p) [v8] (.ref p) [u8] (λ_ H9=>H9=L2.upd H8 p (.lst (us++[v8]))) I8 rfl (.cons r8 .nil) ⟨_,us,v8,rfl,rfl,p8,by omega,rfl⟩) (λ_ s9 ⟨_,H9,I9,_,h9⟩=>?_) λv s f=>(hx v s f).elim)
 subst h9
 exact Q9 ⟨σ,_,J8,([y],env),I9,(x2.trans e8).other hp2 J8p,e8.j,(sr.ext e8).other J8p hp0 no,no,⟨us++[v8],cK,J8p,(h3.mono e8.j).append (.cons ry .nil)⟩,Rj _,w8⟩
end
noncomputable def jj (lim n:Nat) (cap:List Nat) (gi:G (List D)) (gt:GT) (gts:G Bool) (act:Ev->M (List D×Ev)) (fin:List D->M R):G R:=λenv=>gi env >>= λds=>if ds.length<=lim then cD gt gts act ds (cE n cap env) >>= λr=>fin r.1 else .bad
section
variable {X:Cx}{c:C}
theorem nP (own:List Str) (cap:List Nat){e QY QZ:RX}{ifs:List RX}{gs:List Xl}{QU:T7}{gi:G (List D)}{gt:GT}{gts:G Bool}{act:Ev->M (List D×Ev)}{fin:List D->M R}{newAcc:Sem Q8}{ob:Obj}{o0:Rq->HO}{Acc:Rq->Hp->Hp->List D->Prop}{N lim:Nat}{m:Rq->Env->Sem Unit}
  (hcls:clausesOf e=⟨QY,QZ,ifs,0⟩::gs) (hi:pA X c QY QZ gi)
  (hnew:∀(s:Q_) (Q:Q8->Q_->Prop) (E:Q8->Q_->Prop),Q (.ref s.heap.objs.size) {s with heap:=s.heap.push ob}->RA (RG X.prog X.w) X.A newAcc Q E s)
  (hob:∀(h:SM) (H:Hp),cM X.prog X.w H (h.push ob) h.objs.size (o0 h.objs.size))
  (aR:∀p,xT (Acc p)) (a0:∀(p:Rq) (J H:Hp),UJ < p->H p=some (o0 p)->J p=none->Acc p J H [])
  (hN:lim * N<=sizeLine) (LP:∀(it p:Rq) (env:Env),su X.prog X.w X.A e 0 (.ref it) (.ref p) env QY ifs (m p env))
  (start:∀(it:Rq) (acc:Q8) (env:Env) (R:ZI->Q_->Prop) (s:Q_),T8 (RG X.prog X.w) X.A (.compLoop e 0 (.ref it) acc env) R s->RA (RG X.prog X.w) X.A (WB (.ref it)) (λit' s'=>T8 (RG X.prog X.w) X.A (.compLoop e 0 it' acc env) R s') (notedBy (RG X.prog X.w) X.A env λx s'=>R (.error x) s') s->T8 (RG X.prog X.w) X.A (.compStart e 0 (.ref it) acc env) R s)
  (nofin:∀ys z,fin ys≠.exc z) (hend:∀{p:Rq}{J H J' H':Hp}{ys:List D}{r:R},H p=none->Ext J H J' H'->Acc p J' H' ys->fin ys=.ok r->∃J'',Ext J H J'' H'/\RR c H J'' H' r (.ref p))
  (hbody:∀(cl:List (Str×Rq)) (C:Rq) (s:Q_) (H:Hp) (fp:List Rq),bH X.env.cells QU.names []=some cl->jb (aZ X own cap QU cl C s H fp) c QY gt/\gU (aZ X own cap QU cl C s H fp) c ifs gts/\∀(p:Rq) (J2 H2:Hp),H2 p=none->c.H0 p=none->uC (aZ X own cap QU cl C s H fp) c p (Acc p) J2 H2 N (m p (aZ X own cap QU cl C s H fp).env) act)
  (hk:QU.kind=.function) (hno:fV X cap QU=true) (hnames:(QU.names.all λx=>!(x.2 == .local) || (QU.names.lookup x.1 == some .local))=true)
  (hcl:(bH X.env.cells QU.names []).isSome=true) (hcap:eK X cap=true) (hloc:eU X cap QU=true) (hnd:gp cap=true) (Pc:X.calm=true)
  (hs:∀x,Rx QZ X.env x=pure x)
  {QV:List (Rq×Obj)}{s:Q_}{σ:L2.St}{H:Hp}{Q:VK}{use:Option (Q8->Sem Unit)}{Q0:Q8->Q_->Prop}{pos':Pos}(I:Inv X QV σ H s) (h:tD c (jj lim own.length cap gi gt gts act fin) σ H Q)
  (Pg:∀(acc C:Rq) (m:Str->Option Q8) (s':Q_) (H':Hp) (fl:Flow),s'.heap.Ns C m->((C∈X.ex\/X.s₀.heap.objs.size<=C)/\C≠X.env.locals/\(∀x c,X.env.cells.lookup x=some c->c≠C)/\∀p∈X.pn++QV,p.1≠C)->H' C=none->(∀h'',Sy C s'.heap h''->Inv X QV σ H' {s' with heap:=h''})->Q (.ref acc) H'->YU (RG X.prog X.w) X.A X.xe use Q0 (.ref acc) C (.ok fl) s'):
  RA (RG X.prog X.w) X.A (comprehension e QU X.env pos' newAcc false (eval QZ X.env) use) Q0 X.xe s:=by
 obtain ⟨J,env,sr,w⟩:=h
 obtain ⟨cl,hcl⟩:=SE.mp hcl
 have Ql:∀j∈cap,∀x,X.N[j]?=some x->dX QU.names x=false:=λj hj x hx=>by
  have:=R0.mp hno j hj
  rw [hx] at this
  simpa using this
 have PM:∀x∈QU.names,x.2=.local->QU.names.lookup x.1=some .local:=λy hy z=>by
  have:=R0.mp hnames y hy
  rw [z] at this
  simpa using this
 have P9:∀j∈cap,∀x,X.N[j]?=some x->(relabel QU X.env).names.lookup x≠some .local:=λj hj x hx z=>by
  have:=R0.mp hloc j hj
  rw [hx] at this
  simp only at this
  rw [z] at this
  cases this
 refine wpAny_comprehension_free (use:=use) hcls hs (wZ hcl) hk PM ?_
 refine b9 (hi QV s σ H (λIt H1=>∃ds J1,Ext J H J1 H1/\Walk c It ds J1 (λJ' H'=>aX J1 J'/\aX H1 H')/\
  dJ (if ds.length<=lim then cD gt gts act ds (cE own.length cap env) >>= λr=>fin r.1 else .bad) (λr=>∀v J' H',Ext J H J' H'->RR c H J' H' r v->Q v H') c.T) I ⟨J,env,sr,aG (aM w) λds wd It J1 H1 e1 wk=>⟨ds,J1,e1,wk,wd⟩⟩) λxv s1 h1=>b9 h1 λitv s2 h2=>?_
 obtain ⟨it,fp,tn,It,H2,rfl,I2,T,st2,f2,ds,J2,e2,wk,w2⟩:=h2
 have hsz:ds.length<=lim:=by
  by_cases z:ds.length<=lim
  ·exact z
  ·rw [if_neg z] at w2;exact w2.elim
 rw [if_pos hsz] at w2
 have w3:=aM w2
 refine hnew s2 _ _ (Ct ?_)
 dsimp only
 generalize Qg:s2.heap.push ob=Hs
 have hC:Hs.objs.size=s2.heap.objs.size + 1:=by rw [<-Qg,Uh]
 have hp2:H2 s2.heap.objs.size=none:=I2.hok.fresh (Rj _)
 have kHs:∀b o,s2.heap.get? b=some o->Hs.get? b=some o:=λb o e=>by rw [<-Qg];exact Rc _ e
 have I3:Inv X QV σ (L2.upd H2 s2.heap.objs.size (o0 s2.heap.objs.size)) {s2 with heap:=Hs,toks:=s2.toks}:=I2.laid (t':=s2.toks) kHs (Rj _) (by rw [<-Qg];exact hob _ _)
 have f3:∀b∈fp,jX X QV (L2.upd H2 s2.heap.objs.size (o0 s2.heap.objs.size)) b:=λb hb=>by
  obtain ⟨o,ho,_⟩:=T.obj _ _ st2 b hb
  exact ⟨by rw [bG (RE (Ru ho))];exact (f2 b hb).1,(f2 b hb).2⟩
 have hin:∀b∈fp,b < Hs.objs.size:=λb hb=>by
  obtain ⟨o,ho,_⟩:=T.obj _ _ st2 b hb
  exact Vl (Ru ho) (by rw [hC];exact Ti _)
 obtain ⟨h₁,eh₁⟩:∃h₁,h₁=ZV (Hs.push {cls:=.type "dict",data:=.dict #[]}) QU.names:=⟨_,rfl⟩
 rw [<-eh₁]
 have hns₁:h₁.Ns Hs.objs.size (λ_=>none):=by rw [eh₁];exact LO Hs QU.names
 have ck:abI h₁ (Hs.objs.size + 1) (Sj (Hs.objs.size + 1) QU.names []):=by rw [eh₁];exact DG Hs QU.names
 have okC:=IU (own:=own) (cap:=cap) I3 hk hcl ck f3 hin
 have old1:∀b o,Hs.get? b=some o->h₁.get? b=some o:=λb o e=>by rw [eh₁];exact ZW _ _ _ _ (Rc _ e)
 have I4:=FN (tk:=s2.toks) I3 okC hcl ck hcap P9 Ql hns₁ old1
 have sr2:=sr.ext e2
 have srA:SR c J2 (L2.upd H2 s2.heap.objs.size (o0 s2.heap.objs.size)) σ env:=sr2.ext (Ext.new e2.sub hp2 _)
 have J2p:J2 s2.heap.objs.size=none:=e2.sub.free hp2
 have H0p:c.H0 s2.heap.objs.size=none:=sr2.hp.ent.free hp2
 have nown:∀(j:Nat) (xs:Mn),(cE own.length cap env)[j]?=some (some (mS xs))->(R5 own.length none++cap.map λ(j:Nat)=>(σ[j]?).getD none)[j]?≠some (some (.ref s2.heap.objs.size)):=λj xs q z=>by
  obtain ⟨a,h1,h2,h3⟩:=ki q
  obtain ⟨a',h4,h5,h6⟩:=ki z
  rw [h2] at h5;cases h5
  obtain ⟨p,k1,k2,_⟩:=sr2.mine h3
  rw [h6] at k1
  cases k1
  exact k2 hp2
 obtain ⟨hT,hIf,hE⟩:=hbody cl Hs.objs.size {s2 with heap:=Hs,toks:=s2.toks} (L2.upd H2 s2.heap.objs.size (o0 s2.heap.objs.size)) fp hcl
 have fpC:∀{H':Hp},(∀b∈fp,H' b=none)->∀b∈fp,jX (aZ X own cap QU cl Hs.objs.size {s2 with heap:=Hs,toks:=s2.toks} (L2.upd H2 s2.heap.objs.size (o0 s2.heap.objs.size)) fp) [] H' b:=fun {H'} hn b hb=>by
  obtain ⟨m1,_⟩:=gY QU.names [] cl hcl (λx c h=>by simp at h)
  refine ⟨hn b hb,RE (hin b hb),λz=>?_,.inl hb,λx d h=>(gy h).elim (λh=>Ux (RC (hin b hb) (Uv (ck.empty _ _ (Vz h)).2))) (λh=>(f2 b hb).2.2.2.2.1 x d (m1 x d h.2)),λp hp=>absurd (show p∈([]:List (Rq×Obj)) from hp) (by simp)⟩
  rcases Rt.mp (I2.stkSub b z) with e | e
  ·exact (f2 b hb).2.1 e
  ·exact (f2 b hb).2.2.1 e
 have back:∀{pi:List (Rq×Obj)}{σ':L2.St}{H':Hp}{s':Q_}{h'':SM},Inv (aZ X own cap QU cl Hs.objs.size {s2 with heap:=Hs,toks:=s2.toks} (L2.upd H2 s2.heap.objs.size (o0 s2.heap.objs.size)) fp) pi σ' H' s'->Sy Hs.objs.size s'.heap h''->Inv X QV σ H' {s' with heap:=h''}:=fun {pi σ' H' s' h''} I' sb=>by
  have B:Un (frs X.stack) fp (L2.upd H2 s2.heap.objs.size (o0 s2.heap.objs.size)) H' Hs s'.heap:=I'.base
  have ne2:∀{b:Rq}{o:Obj},s2.heap.get? b=some o->b≠s2.heap.objs.size/\b≠Hs.objs.size:=fun {b o} e=>
   ⟨RE (Ru e),RE (Vl (Ru e) (by rw [hC];exact Ti _))⟩
  have nH:∀{b:Rq}{o:HO},H2 b=some o->L2.upd H2 s2.heap.objs.size (o0 s2.heap.objs.size) b=some o:=fun {b o} e=>by rw [bG (fX e hp2)];exact e
  refine Inv.call' (ch:=fp) (s':={s' with heap:=h''}) I2 I'.os ⟨λb o e n hf hx=>?_,λb o e n hf hx=>?_,λb o e n hx=>?_,λb o e hx=>?_,λb xs e=>B.tups b xs (nH e),λb o u e=>B.frzs b o u (nH e),λb ps e=>B.tbls b ps (nH e)⟩ (Az I'.hok I'.free sb) I'.bare λb hb=>⟨(f2 b hb).2.2.2.1,(f2 b hb).2.1,(f2 b hb).2.2.2.2.1,(f2 b hb).2.2.2.2.2⟩
  ·exact (sb.2 b (ne2 e).2).trans (B.keep b o (kHs b o e) (by rw [bG (ne2 e).1];exact n) hf hx)
  ·obtain ⟨sl,z⟩:=B.slot b o (kHs b o e) (by rw [bG (ne2 e).1];exact n) hf hx
   exact ⟨sl,(sb.2 b (ne2 e).2).trans z⟩
  ·exact B.free b o (kHs b o e) (by rw [bG (ne2 e).1];exact n) hx
  ·obtain ⟨o',z⟩:=B.there b o (kHs b o e) hx
   exact ⟨o',(sb.2 b (ne2 e).2).trans z⟩
 have run:=λ(s4:Q_) (I4:Inv (aZ X own cap QU cl Hs.objs.size {s2 with heap:=Hs,toks:=s2.toks} (L2.upd H2 s2.heap.objs.size (o0 s2.heap.objs.size)) fp) [] _ _ s4) (st4:tn 0 s4.heap)=>zg (X:=aZ X own cap QU cl Hs.objs.size {s2 with heap:=Hs,toks:=s2.toks} (L2.upd H2 s2.heap.objs.size (o0 s2.heap.objs.size)) fp) (e:=e) (depth:=0) (acc:=.ref s2.heap.objs.size) (aR _) Pc (λ_ _ f=>f) (LP it _ _) hT hIf (hE s2.heap.objs.size J2 H2 hp2 H0p) T (λJ' H'=>aX J2 J'/\aX H2 H') wk (λJ' H' x _=>⟨x.j,x.h⟩) I4 st4 (fpC λb hb=>(f3 b hb).1) (Ext.new e2.sub hp2 _) (srA.cap own.length cap (Bg hnd)) nown (a0 _ _ _ (K6 I2) cK J2p) (RS (by rw [Wu,Zs];exact U7 N hsz) hN) w3
 have st4:=T.keep _ _ _ st2 (λb hb o e=>old1 b o (kHs b o e))
 have go:=Tw (run _ I4 st4) (R':=YU (RG X.prog X.w) X.A X.xe use Q0 (.ref s2.heap.objs.size) Hs.objs.size) λr s' ⟨hr,σ',H',J',r',I9,x9,j9,sr9,no9,ac9,l9,w9⟩=>by
  subst hr
  obtain ⟨mm,hm,_⟩:=I9.loc
  refine Pg s2.heap.objs.size Hs.objs.size mm _ H' _ hm (K4 I2 (by rw [hC];exact To _)) I9.free (λh'' sb=>back I9 sb) ?_
  cases q:fin r'.1 with
  | bad=>rw [q] at w9;exact w9.elim
  | exc z=>rw [q] at w9;exact (nofin _ z q).elim
  | ok z=>
   rw [q] at w9
   obtain ⟨J9,x10,rr⟩:=hend (e2.h.free hp2) (e2.trans x9) ac9 q
   exact w9 _ J9 H' x10 rr
 exact start it _ _ _ _ go (T.self _ 0 _ _ _ st4 go)
end
noncomputable def jQ (n:Nat) (cap:List Nat) (gi0:G (List D)) (gt0:GT) (gts0:G Bool) (gi1:G (List D)) (gt1:GT) (gts1:G Bool) (ge:G R):G R:=jj 10000 n cap gi0 gt0 gts0 (jf gi1 gt1 gts1 (gX ge)) (λys=>.ok (.l .fresh ys))
theorem Ks (elt t0 i0 t1 i1:RX) (f0 f1:List RX) (QU:T7) (pos:Pos) (it acc:Q8) (env:Env):
  VV (.ListComp elt [⟨t0,i0,f0,0⟩,⟨t1,i1,f1,0⟩] QU pos) 0 it acc env=(do
   Uz i0.pos
   match <-VD it with
   | none=>pure (.done .next)
   | some v=>
    TV t0 it v
    assign t0 env v
    let mut ok:=true
    for c in f0 do
     if ok then ok <-Yk c env (eval c env)
    if ok then
     let x <-eval i1 env
     Uz i1.pos
     let x <-Rx i1 env x
     let _ <-runOwn (.compStart (.ListComp elt [⟨t0,i0,f0,0⟩,⟨t1,i1,f1,0⟩] QU pos) 1 (<-holding [x] (WB x)) acc env) env
    again (.compLoop (.ListComp elt [⟨t0,i0,f0,0⟩,⟨t1,i1,f1,0⟩] QU pos) 0 it acc env)):=by rfl
theorem MU (elt t0 i0 t1 i1:RX) (f0 f1:List RX) (QU:T7) (pos:Pos) (it acc:Q8) (env:Env):
  VV (.ListComp elt [⟨t0,i0,f0,0⟩,⟨t1,i1,f1,0⟩] QU pos) 0 it acc env=lZ t0 i0 f0 it env (rO (.ListComp elt [⟨t0,i0,f0,0⟩,⟨t1,i1,f1,0⟩] QU pos) i1 acc env) (again (.compLoop (.ListComp elt [⟨t0,i0,f0,0⟩,⟨t1,i1,f1,0⟩] QU pos) 0 it acc env)):=by
 rw [Ks]
 refine bind_congr λ_=>bind_congr λr=>?_
 cases r with
 | none=>rfl
 | some v=>
  refine bind_congr λ_=>bind_congr λ_=>bind_congr λok=>?_
  cases ok with
  | false=>rfl
  | true=>simp only [rO,bind_assoc,pure_bind,if_true]
theorem MV (elt t0 i0 t1 i1:RX) (f0 f1:List RX) (QU:T7) (pos:Pos) (it acc:Q8) (env:Env):
  VV (.ListComp elt [⟨t0,i0,f0,0⟩,⟨t1,i1,f1,0⟩] QU pos) 1 it acc env=lZ t1 i1 f1 it env (do let _ <-call (.builtin "list.append") [acc,<-eval elt env]) (again (.compLoop (.ListComp elt [⟨t0,i0,f0,0⟩,⟨t1,i1,f1,0⟩] QU pos) 1 it acc env)):=by rfl
section
variable {X:Cx}{c:C}
theorem DP (own:List Str) (cap:List Nat){elt t0 i0 t1 i1:RX}{f0 f1:List RX}{QU:T7}{pos:Pos}{gi0 gi1:G (List D)}{gt0 gt1:GT}{gts0 gts1:G Bool}{ge:G R}(hi:pA X c t0 i0 gi0)
  (hbody:∀(cl:List (Str×Rq)) (C:Rq) (s:Q_) (H:Hp) (fp:List Rq),bH X.env.cells QU.names []=some cl->jb (aZ X own cap QU cl C s H fp) c t0 gt0/\gU (aZ X own cap QU cl C s H fp) c f0 gts0/\yg (aZ X own cap QU cl C s H fp) c t1 i1 gi1/\jb (aZ X own cap QU cl C s H fp) c t1 gt1/\gU (aZ X own cap QU cl C s H fp) c f1 gts1/\PD (aZ X own cap QU cl C s H fp) c elt ge)
  (hk:QU.kind=.function:=by rfl) (hno:fV X cap QU=true:=by rfl) (hnames:(QU.names.all λx=>!(x.2 == .local) || (QU.names.lookup x.1 == some .local))=true:=by rfl)
  (hcl:(bH X.env.cells QU.names []).isSome=true:=by rfl) (hcap:eK X cap=true:=by rfl) (hloc:eU X cap QU=true:=by rfl) (hnd:gp cap=true:=by rfl) (Pc:X.calm=true:=by rfl)
  (hs:∀x,Rx i0 X.env x=pure x:=by intro _;rfl) (hs1:∀(en:Env) x,Rx i1 en x=pure x:=by intro _ _;rfl)
  {QV:List (Rq×Obj)}{s:Q_}{σ:L2.St}{H:Hp}{Q:VK}{use:Option (Q8->Sem Unit)}{Q0:Q8->Q_->Prop}{pos':Pos}(I:Inv X QV σ H s) (h:tD c (jQ own.length cap gi0 gt0 gts0 gi1 gt1 gts1 ge) σ H Q)
  (Pg:∀(acc C:Rq) (m:Str->Option Q8) (s':Q_) (H':Hp) (fl:Flow),s'.heap.Ns C m->((C∈X.ex\/X.s₀.heap.objs.size<=C)/\C≠X.env.locals/\(∀x c,X.env.cells.lookup x=some c->c≠C)/\∀p∈X.pn++QV,p.1≠C)->H' C=none->(∀h'',Sy C s'.heap h''->Inv X QV σ H' {s' with heap:=h''})->Q (.ref acc) H'->YU (RG X.prog X.w) X.A X.xe use Q0 (.ref acc) C (.ok fl) s'):
  RA (RG X.prog X.w) X.A (comprehension (.ListComp elt [⟨t0,i0,f0,0⟩,⟨t1,i1,f1,0⟩] QU pos) QU X.env pos' (newList []) false (eval i0 X.env) use) Q0 X.xe s:=by
 refine nP (e:=.ListComp elt [⟨t0,i0,f0,0⟩,⟨t1,i1,f1,0⟩] QU pos) (ob:={cls:=.type "list",dict:=none,data:=.seq ([]:List Q8).toArray}) (o0:=λ_=>.lst []) (Acc:=BX c) (N:=1000 * 1) (lim:=10000) (m:=λp env=>rO (.ListComp elt [⟨t0,i0,f0,0⟩,⟨t1,i1,f1,0⟩] QU pos) i1 (.ref p) env) own cap rfl hi
  (λs Q E q=>R8 q) (λh H=>⟨RL _,[],0,.nil,Rn _ rfl⟩) (λp=>rC) (λp J H _ h1 h2=>⟨[],h1,h2,.nil⟩) (by decide) (λit p env=>Cp (MU ..)) (λit acc env R s h0 h=>XD h0 h) (λys z q=>by cases q)
  (fun {p J H J' H' ys r} hp e ⟨us,h1,h2,h3⟩ q=>by cases q;exact ⟨J',e,⟨p,us,rfl,h1,h2,hp,h3⟩⟩) (λcl C s H fp hcc=>?_) hk hno hnames hcl hcap hloc hnd Pc hs I h Pg
 obtain ⟨b1,b2,b3,b4,b5,b6⟩:=hbody cl C s H fp hcc
 refine ⟨b1,b2,λp J2 H2 hp2 hp0=>?_⟩
 exact AV rC Pc (λ_ _ f=>f) (λx=>hs1 _ x) (λit R s h0 h=>MN h0 h) (λit=>Cp (MV ..)) b3 b4 b5 (AU (λ_ _ f=>f) hp2 hp0 b6)
theorem ED (own:List Str) (cap:List Nat){elt t0 i0 t1 i1:RX}{f0 f1:List RX}{QU:T7}{pos:Pos}{gi0 gi1:G (List D)}{gt0 gt1:GT}{gts0 gts1:G Bool}{ge:G R}(hi:pA X c t0 i0 gi0)
  (hbody:∀(cl:List (Str×Rq)) (C:Rq) (s:Q_) (H:Hp) (fp:List Rq),bH X.env.cells QU.names []=some cl->jb (aZ X own cap QU cl C s H fp) c t0 gt0/\gU (aZ X own cap QU cl C s H fp) c f0 gts0/\yg (aZ X own cap QU cl C s H fp) c t1 i1 gi1/\jb (aZ X own cap QU cl C s H fp) c t1 gt1/\gU (aZ X own cap QU cl C s H fp) c f1 gts1/\PD (aZ X own cap QU cl C s H fp) c elt ge)
  (hk:QU.kind=.function:=by rfl) (hno:fV X cap QU=true:=by rfl) (hnames:(QU.names.all λx=>!(x.2 == .local) || (QU.names.lookup x.1 == some .local))=true:=by rfl)
  (hcl:(bH X.env.cells QU.names []).isSome=true:=by rfl) (hcap:eK X cap=true:=by rfl) (hloc:eU X cap QU=true:=by rfl) (hnd:gp cap=true:=by rfl) (Pc:X.calm=true:=by rfl)
  (hs:∀x,Rx i0 X.env x=pure x:=by intro _;rfl) (hs1:∀(en:Env) x,Rx i1 en x=pure x:=by intro _ _;rfl):PD X c (.ListComp elt [⟨t0,i0,f0,0⟩,⟨t1,i1,f1,0⟩] QU pos) (jQ own.length cap gi0 gt0 gts0 gi1 gt1 gts1 ge):=by
 intro QV s σ H Q I h
 rw [aa4]
 exact DP own cap hi hbody hk hno hnames hcl hcap hloc hnd Pc hs hs1 I h λacc C m s' H' fl hm hz hf hb q=>⟨m,hm,λh'' sb=>⟨.ref acc,H',hb h'' sb,rfl,q⟩⟩
theorem EB (i:Nat) (own:List Str) (cap:List Nat){elt t0 i0 t1 i1:RX}{f0 f1:List RX}{QU:T7}{pos:Pos}{gi0 gi1:G (List D)}{gt0 gt1:GT}{gts0 gts1:G Bool}{ge:G R}{pos' pos2:Pos}{x:Str}(hN:X.N.Nodup) (hi:pA X c t0 i0 gi0)
  (hbody:∀(cl:List (Str×Rq)) (C:Rq) (s:Q_) (H:Hp) (fp:List Rq),bH X.env.cells QU.names []=some cl->jb (aZ X own cap QU cl C s H fp) c t0 gt0/\gU (aZ X own cap QU cl C s H fp) c f0 gts0/\yg (aZ X own cap QU cl C s H fp) c t1 i1 gi1/\jb (aZ X own cap QU cl C s H fp) c t1 gt1/\gU (aZ X own cap QU cl C s H fp) c f1 gts1/\PD (aZ X own cap QU cl C s H fp) c elt ge)
  (hk:QU.kind=.function:=by rfl) (hno:fV X cap QU=true:=by rfl) (hnames:(QU.names.all λx=>!(x.2 == .local) || (QU.names.lookup x.1 == some .local))=true:=by rfl)
  (hcl:(bH X.env.cells QU.names []).isSome=true:=by rfl) (hcap:eK X cap=true:=by rfl) (hloc:eU X cap QU=true:=by rfl) (hnd:gp cap=true:=by rfl) (Pc:X.calm=true:=by rfl)
  (hs:∀x,Rx i0 X.env x=pure x:=by intro _;rfl) (hs1:∀(en:Env) x,Rx i1 en x=pure x:=by intro _ _;rfl) (hx:X.N[i]?=some x:=by rfl) (Po:X.env.scope.names.lookup x=some .local:=by rfl)
  (hsw:US (.ListComp elt [⟨t0,i0,f0,0⟩,⟨t1,i1,f1,0⟩] QU pos) (some (.Name x pos')) pos2.line X.env=pure true:=by rfl):AO X c (.Assign [.Name x pos'] (.ListComp elt [⟨t0,i0,f0,0⟩,⟨t1,i1,f1,0⟩] QU pos) pos2) (aN i (jQ own.length cap gi0 gt0 gts0 gi1 gt1 gts1 ge)):=by
 intro QV s σ H D I ⟨J,env,sr,w⟩
 rw [X5]
 refine Q6 (S8 ?_)
 rw [show Vq [.Name x pos'] (.ListComp elt [⟨t0,i0,f0,0⟩,⟨t1,i1,f1,0⟩] QU pos) pos2.line X.env=pure true from hsw]
 refine Q6 (Q9 ?_)
 rw [if_pos rfl,W8]
 refine Q6 (Q6 (DP own cap hi hbody hk hno hnames hcl hcap hloc hnd Pc hs hs1 (Q:=λv H1=>∃J1 r xx,Ext J H J1 H1/\RR c H J1 H1 r v/\toS r=.ok xx/\oP c J D (.nx (env.set i (some xx)))) I ⟨J,env,sr,aG (aM w) λr wr v J1 H1 e1 r1=>?_⟩ λacc C m s' H' fl hm ap hf hb ⟨J1,r,xx,e1,r1,q1,w1⟩=>?_))
 ·obtain ⟨xx,q,wr⟩:=nL wr
  exact ⟨J1,r,xx,e1,r1,q,wr⟩
 ·have I1:L2.Inv X QV σ H' s':=hb s'.heap (W9 ..)
  show RA _ _ (do Uz pos';abS X.env x (.ref acc)) _ _ _
  refine Q6 (S8 (Yo ?_))
  refine lY I1 hN hx (.inl Po) (v:=.ref acc) (u:=.ref acc) rfl (λs2 I2 ⟨a,sb,ha⟩=>?_) (.inr Po)
  have hac:C≠a:=λz=>by
   rcases ha with e | e
   ·exact ap.2.1 (z.trans e)
   ·exact ap.2.2.1 _ _ e z.symm
  refine ⟨m,hm.sameBut sb hac,λh2 sb2=>?_⟩
  refine Q9 (Q9 ⟨σ.set i (some (.ref acc)),H',pV I2 ap hf sb2 (o0:=default),?_⟩)
  exact w1 _ J1 H' e1.j (sr.set e1 r1 q1)
theorem CH (own:List Str) (cap:List Nat){elt t0 i0 t1 i1:RX}{f0 f1:List RX}{QU:T7}{pos:Pos}{gi0 gi1:G (List D)}{gt0 gt1:GT}{gts0 gts1:G Bool}{ge:G R}(hi:qS X c t0 i0 gi0)
  (hbody:∀(cl:List (Str×Rq)) (C:Rq) (s:Q_) (H:Hp) (fp:List Rq),bH X.env.cells QU.names []=some cl->kP (aZ X own cap QU cl C s H fp) c t0 gt0/\jZ (aZ X own cap QU cl C s H fp) c f0 gts0/\yi (aZ X own cap QU cl C s H fp) c t1 i1 gi1/\kP (aZ X own cap QU cl C s H fp) c t1 gt1/\jZ (aZ X own cap QU cl C s H fp) c f1 gts1/\QD (aZ X own cap QU cl C s H fp) c elt ge)
  (hk:QU.kind=.function:=by rfl) (hno:fV X cap QU=true:=by rfl) (hnames:(QU.names.all λx=>!(x.2 == .local) || (QU.names.lookup x.1 == some .local))=true:=by rfl)
  (hcl:(bH X.env.cells QU.names []).isSome=true:=by rfl) (hcap:eK X cap=true:=by rfl) (hloc:eU X cap QU=true:=by rfl) (hnd:gp cap=true:=by rfl) (Pc:X.calm=true:=by rfl)
  (hs:∀x,Rx i0 X.env x=pure x:=by intro _;rfl) (hs1:∀(en:Env) x,Rx i1 en x=pure x:=by intro _ _;rfl):QD X c (.ListComp elt [⟨t0,i0,f0,0⟩,⟨t1,i1,f1,0⟩] QU pos) (jQ own.length cap gi0 gt0 gts0 gi1 gt1 gts1 ge):=
 ⟨ED own cap hi.h (λcl C s H fp hc=>let ⟨a,b,d,e,f,g⟩:=hbody cl C s H fp hc;⟨a.h,b.h,d.h,e.h,f.h,g.h⟩) hk hno hnames hcl hcap hloc hnd Pc hs hs1⟩
theorem CF (i:Nat) (own:List Str) (cap:List Nat){elt t0 i0 t1 i1:RX}{f0 f1:List RX}{QU:T7}{pos:Pos}{gi0 gi1:G (List D)}{gt0 gt1:GT}{gts0 gts1:G Bool}{ge:G R}{pos' pos2:Pos}{x:Str}(hN:X.N.Nodup) (hi:qS X c t0 i0 gi0)
  (hbody:∀(cl:List (Str×Rq)) (C:Rq) (s:Q_) (H:Hp) (fp:List Rq),bH X.env.cells QU.names []=some cl->kP (aZ X own cap QU cl C s H fp) c t0 gt0/\jZ (aZ X own cap QU cl C s H fp) c f0 gts0/\yi (aZ X own cap QU cl C s H fp) c t1 i1 gi1/\kP (aZ X own cap QU cl C s H fp) c t1 gt1/\jZ (aZ X own cap QU cl C s H fp) c f1 gts1/\QD (aZ X own cap QU cl C s H fp) c elt ge)
  (hk:QU.kind=.function:=by rfl) (hno:fV X cap QU=true:=by rfl) (hnames:(QU.names.all λx=>!(x.2 == .local) || (QU.names.lookup x.1 == some .local))=true:=by rfl)
  (hcl:(bH X.env.cells QU.names []).isSome=true:=by rfl) (hcap:eK X cap=true:=by rfl) (hloc:eU X cap QU=true:=by rfl) (hnd:gp cap=true:=by rfl) (Pc:X.calm=true:=by rfl)
  (hs:∀x,Rx i0 X.env x=pure x:=by intro _;rfl) (hs1:∀(en:Env) x,Rx i1 en x=pure x:=by intro _ _;rfl) (hx:X.N[i]?=some x:=by rfl) (Po:X.env.scope.names.lookup x=some .local:=by rfl)
  (hsw:US (.ListComp elt [⟨t0,i0,f0,0⟩,⟨t1,i1,f1,0⟩] QU pos) (some (.Name x pos')) pos2.line X.env=pure true:=by rfl):jc X c (.Assign [.Name x pos'] (.ListComp elt [⟨t0,i0,f0,0⟩,⟨t1,i1,f1,0⟩] QU pos) pos2) (aN i (jQ own.length cap gi0 gt0 gts0 gi1 gt1 gts1 ge)):=
 ⟨EB i own cap hN hi.h (λcl C s H fp hc=>let ⟨a,b,d,e,f,g⟩:=hbody cl C s H fp hc;⟨a.h,b.h,d.h,e.h,f.h,g.h⟩) hk hno hnames hcl hcap hloc hnd Pc hs hs1 hx Po hsw⟩
end
noncomputable def CI:Q8->Option V
 | .int i _=>some (.int i)
 | .ref a=>some (.ref a)
 | _=>none
noncomputable def kD:List Q8->Option (List V)
 | []=>some []
 | u::us=>match CI u,kD us with
  | some v,some vs=>some (v::vs)
  | _,_=>none
open Classical in
noncomputable def lB (h:SM):Hp:=λa=>match h.get? a with
 | some o=>if o.cls=.type "tuple" then (match o.data with
  | .seq QX _=>(kD QX.toList).map .tup
  | _=>none) else none
 | none=>none
theorem G1 {u:Q8}{v:V}(h:CI u=some v):RelV v u:=by
 cases u with
 | int i t=>cases h;exact ⟨t,rfl⟩
 | ref a=>cases h;exact rfl
 | _=>cases h
theorem v_:∀{us:List Q8}{vs:List V},kD us=some vs->Vals vs us
 | [],vs,h=>by cases h;exact .nil
 | u::us,vs,h=>by
  unfold kD at h
  cases q:CI u with
  | none=>rw [q] at h;cases h
  | some v=>
   cases q2:kD us with
   | none=>rw [q,q2] at h;cases h
   | some ws=>rw [q,q2] at h;cases h;exact .cons (G1 q) (v_ q2)
theorem iM {h:SM}{a:Rq}{o:HO}(q:lB h a=some o):∃vs ob QX n,o=.tup vs/\h.get? a=some ob/\ob.cls=.type "tuple"/\ob.data=.seq QX n/\Vals vs QX.toList:=by
 unfold lB at q
 split at q
 ·rename_i ob hob
  split at q
  ·rename_i hc
   split at q
   ·rename_i QX n hd
    cases z:kD QX.toList with
    | none=>rw [z] at q;cases q
    | some vs=>rw [z] at q;cases q;exact ⟨vs,ob,QX,n,rfl,hob,hc,hd,v_ z⟩
   ·cases q
  ·cases q
 ·cases q
theorem J_ {h:SM}{a:Rq}{QX:List Q8}{vs:List V}(p:h.IsTuple a QX.toArray) (q:kD QX=some vs):lB h a=some (.tup vs):=by
 obtain ⟨o,ho,hc,n,hd⟩:=p
 unfold lB
 rw [ho]
 simp only [hc,if_true,hd]
 rw [q];rfl
theorem pQ {s:Q_}:HF [] (lB s.heap) s:=by
 refine ⟨λa xs h=>?_,λa xs h=>?_,λa h=>?_,λa ep Q4 h=>?_⟩
 ·rcases h with (h | ⟨o,h⟩) | ⟨o,QX,n,h,_⟩
  ·obtain ⟨vs,ob,QX,n,e,h1,h2,h3,h4⟩:=iM h
   cases e
   exact ⟨QX.toList,h4,ob,h1,h2,n,by rw [h3]⟩
  ·obtain ⟨vs,ob,QX,n,e,_⟩:=iM h;cases e
  ·cases h
 ·rcases h with (h | ⟨o,h⟩) | ⟨o,QX,n,h,_⟩
  ·obtain ⟨vs,ob,QX,n,e,_⟩:=iM h;cases e
  ·obtain ⟨vs,ob,QX,n,e,_⟩:=iM h;cases e
  ·cases h
 ·obtain ⟨vs,ob,QX,n,e,_⟩:=iM h;cases e
 ·obtain ⟨vs,ob,QX,n,e,_⟩:=iM h;cases e
theorem zC {K:Q7}{J:Hp}:∀{ds:List D}{vs:List V}{us:List Q8},areKeys ds=true->aJ K J ds vs->Vals vs us->kD us=some vs
 | _,_,_,_,.nil,.nil=>rfl
 | d::ds,v::vs,u::us,h,.cons r rs,.cons q qs=>by
  unfold areKeys at h
  rw [Ri] at h
  have ih:=zC h.2 rs qs
  have e:CI u=some v:=by
   cases d with
   | int i=>cases r;obtain ⟨t,rfl⟩:=q;rfl
   | tup xs=>cases r;cases q;rfl
   | _=>cases h.1
  unfold kD
  rw [e,ih]
mutual
theorem kL {K:Q7}{J:Hp}{s:Q_}(F:HF K J s):∀{d:D}{v:V},isKey d=true->Rep K J d v->Rep [] (lB s.heap) d v
 | .int i,_,_,.int _=>.int i
 | .tup ds,_,hk,.tup (a:=a) (vs:=vs) h hs=>by
  obtain ⟨QX,r,p⟩:=F.t _ _ h
  exact .tup (.inl (.inl (J_ p (zC hk hs r)))) (zD F hk hs)
 | .non,_,hk,_=>nomatch hk
 | .bl _,_,hk,_=>nomatch hk
 | .str _,_,hk,_=>nomatch hk
 | .lst _,_,hk,_=>nomatch hk
 | .emp,_,hk,_=>nomatch hk
 | .exn _ _ _,_,hk,_=>nomatch hk
 | .dct _ _,_,hk,_=>nomatch hk
theorem zD {K:Q7}{J:Hp}{s:Q_}(F:HF K J s):∀{ds:List D}{vs:List V},areKeys ds=true->aJ K J ds vs->aJ [] (lB s.heap) ds vs
 | [],_,_,.nil=>.nil
 | d::ds,_,h,.cons r rs=>by
  unfold areKeys at h
  rw [Ri] at h
  exact .cons (kL F h.1 r) (zD F h.2 rs)
end
theorem ET {h h':SM}{d:Rq}{o:Obj} {es ep}(ho:h.get? d=some o) (hd:o.data=.dict es ep) (sb:Sy d h h'):aX (lB h) (lB h'):=λa x q=>by
 obtain ⟨vs,ob,QX,n,rfl,h1,h2,h3,h4⟩:=iM q
 have hne:a≠d:=by
  rintro rfl
  rw [ho] at h1;cases h1
  rw [hd] at h3;cases h3
 unfold lB at q ⊢
 rw [sb.2 a hne]
 exact q
def KD:Type:={d:D // isKey d=true/\dep d<=8}
noncomputable instance:DecidableEq KD:=λa b=>aa5 (a=b)
def CJ (A:R4):Prop:=A.units + 16 < S6
noncomputable def n_ (prog:Rz) (w:RZ):HeapKind prog w KD where
 is:=λh k a=>Rep [] (lB h) k.1 (.ref a)
 hash:=λk=>cC k.1
 draws:=λk=>kq k.1
 room:=CJ
 inj:=fun {h a x y} hx hy=>Xm (Rep.inj (s:=({heap:=h}:Q_)) pQ hx hy (by have:=x.2.2;omega) (by have:=y.2.2;omega))
 keeps:=λhx ho hd sb=>Rep.mono (ET ho hd sb) hx
 pyHash:=fun {A E s k a Q} hu hx q=>vt k.1 (.ref a) (.ref a) A s pQ k.2.1 hx rfl (by have:=k.2.2;unfold CJ at hu;omega) E s Q pQ q
 eqBool:=fun {A E s x y a b Q} hu hx hy q=>by
  have h:=ng (s:=s) pQ A hx hy rfl rfl (u:=.ref a) (u':=.ref b) (by have:=x.2.2;unfold CJ at hu;omega) (by have:=x.2.2;omega) (by have:=y.2.2;omega)
  refine h _ _ _ _ ?_
  have e:bz x.1 y.1=decide (x=y):=by
   rw [RY,uW x.2.1 y.2.1,decide_eq_true_eq]
   exact ⟨λz=>Xm z,λz=>congrArg Subtype.val z⟩
  rw [e];exact q
 quiet:=fun {A E s k a Q} hx q=>nD 8 pQ ⟨k.1,.ref a,k.2.1,k.2.2,hx,rfl⟩ q
noncomputable def ic:List D->List D->D->Option D
 | k::ks,v::vs,x=>if bz k x=true then some v else ic ks vs x
 | _,_,_=>none
section
variable {K:Q7}{J:Hp}{s:Q_}{P:Rz}{w:RZ}
theorem A3 (F:HF K J s):∀{ks:List D}{us ws:List V}{es:List YL},areKeys ks=true->(∀k∈ks,∃xs,k=.tup xs)->deps ks<=8->aJ K J ks us->ws.length=us.length->WT xW ((c_ ks).zip (us.zip ws)) es->
  ∃xs:List (KD×Rq×Q8),es=xs.map (aaq (n_ P w))/\xs.map (λx=>x.1.1)=ks/\(∀x∈xs,(n_ P w).is s.heap x.1 x.2.1)/\Vals ws (xs.map λx=>x.2.2)/\Vals us (xs.map λx=>Vp x.2.1)
 | _,_,[],_,_,_,_,.nil,_,h=>by
  cases h
  exact ⟨[],rfl,rfl,λ_ h=>(nomatch h),.nil,.nil⟩
 | k::ks,u::us,v::ws,es,hk,ht,hd,.cons r rs,hl,h=>by
  unfold areKeys at hk
  rw [Ri] at hk
  unfold deps at hd
  have h:WT xW ((cC k,u,v)::(c_ ks).zip (us.zip ws)) es:=h
  cases h with
  | @cons _ e _ es' h1 h2=>
   obtain ⟨xs,e1,e2,e3,e4,e5⟩:=A3 F hk.2 (λk hk=>ht k (Rb _ hk)) (by omega) rs (by simpa using hl) h2
   obtain ⟨xs',rfl⟩:=ht k Rf
   obtain ⟨q1,q2,q3⟩:=h1
   obtain ⟨eh,ek,ev⟩:=e
   cases r with
   | tup t1 t2=>
    rename_i a vs
    have q2:ek=.ref a:=q2
    have q1:eh=cC (.tup xs'):=q1
    subst q2;subst q1
    refine ⟨(⟨.tup xs',hk.1,by omega⟩,a,ev)::xs,by rw [e1];rfl,by rw [Rv,e2],λx hx=>?_,.cons q3 e4,.cons rfl e5⟩
    (rcases Rt.mp hx with rfl | hx)
    ·exact kL F hk.1 (.tup t1 t2)
    ·exact e3 x hx
 | [],us,v::ws,_,_,_,_,rs,hl,_=>by cases rs;cases hl
 | k::ks,us,[],_,_,_,_,rs,hl,_=>by cases rs;cases hl
theorem Gy {xs:List (KD×Rq×Q8)}{ks:List D}(e:xs.map (λx=>x.1.1)=ks) (nd:ks.Nodup):(xs.map (·.1)).Nodup:=by
 rw [<-e] at nd
 have this:((xs.map (·.1)).map (λk:KD=>k.1)).Nodup:=by rw [RT];exact nd
 exact abn (λk:KD=>k.1) (λa b h e=>h (congrArg (λk:KD=>k.1) e)) this
theorem xA:∀{xs:List (KD×Rq×Q8)}{ks vs:List D}{ws:List V}(k:KD),xs.map (λx=>x.1.1)=ks->aJ K J vs ws->Vals ws (xs.map λx=>x.2.2)->
  (∀d,ic ks vs k.1=some d->∃p v,aa6 xs k=some p/\RelV v p.2/\Rep K J d v)/\(ic ks vs k.1=none->aa6 xs k=none)
 | [],_,vs,ws,k,e,rs,rv=>by
  subst e
  exact ⟨λd h=>(nomatch h),λ_=>rfl⟩
 | x::xs,_,_,_,k,e,.cons r rs,.cons q rv=>by
  subst e
  obtain ⟨i1,i2⟩:=xA (xs:=xs) k rfl rs rv
  rw [Rv]
  unfold ic
  by_cases c:x.1=k
  ·have:bz x.1.1 k.1=true:=by rw [c];exact fF _
   rw [if_pos this]
   have ek:aa6 (x::xs) k=some x.2:=by unfold aa6;rw [List.find?_cons_of_pos (by simpa using c)];rfl
   exact ⟨λd h=>by cases h;exact ⟨x.2,_,ek,q,r⟩,λh=>nomatch h⟩
  ·have:¬bz x.1.1 k.1=true:=λh=>c (Xm ((uW x.1.2.1 k.2.1).mp h))
   rw [if_neg this]
   have ek:aa6 (x::xs) k=aa6 xs k:=by unfold aa6;rw [List.find?_cons_of_neg (by simpa using c)]
   rw [ek]
   exact ⟨i1,i2⟩
theorem rL {H:Hp}(F:HF K J s) (F':HF K H s){ks vs:List D}{a:Rq}(h:fj K J H a ks vs):∃(xs:List (KD×Rq×Q8)) (us ws:List V),s.heap.DictOfH (n_ P w) a xs/\xs.map (λx=>x.1.1)=ks/\aJ K J ks us/\aJ K J vs ws/\Vals ws (xs.map λx=>x.2.2)/\Vals us (xs.map λx=>Vp x.2.1)/\(a == UJ)=false:=by
 obtain ⟨us,ws,ep,h,hk,hv,ok,hs⟩:=h
 obtain ⟨o,es,h1,h2,h3,h4⟩:=F'.d _ _ _ h
 obtain ⟨xs,e1,e2,e3,e4,e5⟩:=A3 (P:=P) (w:=w) F ok.key ok.tp ok.dp hk (by rw [<-hv.length,<-hk.length,hs.2]) h4
 exact ⟨xs,us,ws,⟨o,es,ep,h1,h2,h3,e1,e3,Gy e2 ok.nd⟩,e2,hk,hv,e4,e5,hs.1⟩
end
noncomputable def ff:D->Bool
 | .tup xs=>areKeys xs && decide (deps xs + 1<=8)
 | _=>false
theorem jm {k:D}(h:ff k=true):∃xs,k=.tup xs/\isKey k=true/\dep k<=8:=by
 cases k with
 | tup xs=>
  unfold ff at h
  rw [Ri] at h
  exact ⟨xs,rfl,h.1,of_decide_eq_true h.2⟩
 | _=>cases h
noncomputable def vB:R->Option (List D×List D)
 | .d (.dct ks vs)=>some (ks,vs)
 | .mo ks vs=>some (ks,vs)
 | .mb ks vs=>some (ks,vs)
 | .mf ks vs=>some (ks,vs)
 | _=>none
noncomputable def ir (x y:R):M R:=match vB x,y with
 | some z,.d k=>if ff k=true then (match ic z.1 z.2 k with
  | some d=>.ok (.d d)
  | none=>.bad) else .bad
 | _,_=>.bad
section
variable {X:Cx}{c:C}{a b:RX}{ga gb:G R}{pos:Pos}
theorem RR.dk {He J H:Hp}(hp:HI c J H):∀{r:R}{v:V}{z:List D×List D},RR c He J H r v->vB r=some z->∃a,v=.ref a/\fj c.K J H a z.1 z.2
 | .d (.dct ks vs),v,z,h,e=>by
  cases e
  cases h with
  | dct h1 h2 h3 h4 h5=>exact ⟨_,rfl,_,_,_,hp.sub _ _ h1,h2,h3,h4,h5⟩
 | .mo ks vs,v,z,⟨a,h1,h2,_⟩,e=>by cases e;exact ⟨a,h1,h2⟩
 | .mf ks vs,v,z,⟨a,h1,h2,_⟩,e=>by cases e;exact ⟨a,h1,h2⟩
 | .mb ks vs,v,z,⟨a,h1,h2⟩,e=>by cases e;exact ⟨a,h1,h2.mono (aX.refl _) hp.ent⟩
 | .d .non,_,_,_,e=>nomatch e
 | .d (.bl _),_,_,_,e=>nomatch e
 | .d (.int _),_,_,_,e=>nomatch e
 | .d (.str _),_,_,_,e=>nomatch e
 | .d (.tup _),_,_,_,e=>nomatch e
 | .d (.lst _),_,_,_,e=>nomatch e
 | .d .emp,_,_,_,e=>nomatch e
 | .d (.exn _ _ _),_,_,_,e=>nomatch e
 | .l _ _,_,_,_,e=>nomatch e
theorem Lv (hu:X.A.units + 64 < S6):pq X (λx y H Q=>∃J p ks vs k d,aX J H/\x=.ref p/\fj X.K J H p ks vs/\Rep X.K J k y/\ff k=true/\ic ks vs k=some d/\∀v,Rep X.K J d v->Q v H):=by
 intro value slice QV s σ H x y v u Q I rx ry h hs
 obtain ⟨J,p,ks,vs,k,d,sm,rfl,hd,hk,ok,lk,q⟩:=h
 have F:HF X.K J s:=HF.of (c:=⟨X.K,H,H,λ_=>True⟩) I sm
 obtain ⟨kx,rfl,k1,k2⟩:=jm ok
 obtain ⟨r,rfl⟩:∃r,y=.ref r:=by cases hk;exact ⟨_,rfl⟩
 cases rx
 cases ry
 obtain ⟨xs,us,ws,hm,e2,_,hv,e4,_,hsm⟩:=rL (P:=X.prog) (w:=X.w) F (h_ I) hd
 obtain ⟨pp,v,ea,rv,rd⟩:=(xA ⟨.tup kx,k1,k2⟩ e2 hv e4).1 d lk
 have room:(n_ X.prog X.w).room X.A.in1:=by show X.A.units + 1 + 16 < S6;omega
 exact VF (x:=pp.2) hm.typeIs slot_dict_getitem.lookup (wpAny_getItem_heap (Q:=λr s'=>r=pp.2/\EP X QV σ Q r s') room (kL F k1 hk) hm ea ⟨rfl,v,H,I.tok _,rv,q v rd⟩) hs
theorem gT (hu:X.A.units + 64 < S6) (ha:QD X c a ga) (hb:QD X c b gb) (hK:X.K=c.K:=by rfl) (hs:qw b:=by exact λ_ _=>rfl):QD X c (.Subscript a b pos) (g2 ir ga gb):=have ha:=ha.h;have hb:=hb.h;⟨Ia (Lv hu) (by
 intro He He' J H x y u v Q hp rx ry w
 unfold ir at w
 split at w
 ·rename_i hz
  obtain ⟨p,rfl,hd⟩:=rx.dk hp hz
  split at w
  ·rename_i ok
   split at w
   ·rename_i d hl
    exact ⟨J,p,_,_,_,d,hp.sub,rfl,by rw [hK];exact hd,by rw [hK];exact ry,ok,hl,λv rd=>w v J H (Ext.refl hp.sub) (by rw [hK] at rd;exact rd)⟩
   ·exact w.elim
  ·exact w.elim
 ·exact w.elim) ha hb hs⟩
end
noncomputable def vd:List D->List D->D->D->List D
 | k::ks,v::vs,x,d=>(if bz k x=true then d else v)::vd ks vs x d
 | _,vs,_,_=>vs
def dput (z:List D×List D) (k d:D):List D×List D:=if (ic z.1 z.2 k).isSome=true then (z.1,vd z.1 z.2 k d) else (z.1++[k],z.2++[d])
noncomputable def iQ (ys:List D):List D×List D:=ys.foldl (λz y=>match y with
 | .tup [k,d]=>dput z k d
 | _=>z) ([],[])
theorem nQ (ys:List D) (k d:D):iQ (ys++[.tup [k,d]])=dput (iQ ys) k d:=by unfold iQ;rw [W_];rfl
inductive dF (K:Q7) (J:Hp):List (KD×Rq×Q8)->List D->List V->List D->List V->Prop
 | nil:dF K J [] [] [] [] []
 | cons {x:KD×Rq×Q8}{xs:List (KD×Rq×Q8)}{ks vs:List D}{us ws:List V}{d:D}{v:V}:RelV v x.2.2->Rep K J d v->dF K J xs ks us vs ws->dF K J (x::xs) (x.1.1::ks) (.ref x.2.1::us) (d::vs) (v::ws)
section
variable {K:Q7}{J:Hp}{P:Rz}{w:RZ}
theorem dF.of:∀{xs:List (KD×Rq×Q8)}{us:List V}{vs:List D}{ws:List V},aJ K J vs ws->Vals ws (xs.map λx=>x.2.2)->Vals us (xs.map λx=>Vp x.2.1)->dF K J xs (xs.map λx=>x.1.1) us vs ws
 | [],_,_,_,.nil,.nil,.nil=>.nil
 | x::xs,u::us,_,_,.cons r rs,.cons q qs,.cons p ps=>by
  have:u=.ref x.2.1:=by
   cases u with
   | ref a=>cases p;rfl
   | int i=>obtain ⟨t,h⟩:=p;cases h
   | str i=>obtain ⟨t,h⟩:=p;cases h
   | byt i=>obtain ⟨t,h⟩:=p;cases h
   | flt i=>obtain ⟨t,h⟩:=p;cases h
   | non=>cases p
   | bl b=>cases p
   | ty n=>cases p
  subst this
  exact .cons q r (dF.of rs qs ps)
theorem dF.put {k:KD}{u:Q8}{d:D}{v:V}(rv:RelV v u) (rd:Rep K J d v):∀{xs:List (KD×Rq×Q8)}{ks vs:List D}{us ws:List V},dF K J xs ks us vs ws->∃ws',dF K J (xs.map (putAt k u)) ks us (vd ks vs k.1 d) ws'
 | _,_,_,_,_,.nil=>⟨[],.nil⟩
 | x::xs,_,_,_,_,.cons q r t=>by
  obtain ⟨ws',ih⟩:=dF.put rv rd t
  rw [Rv]
  unfold vd
  by_cases c:x.1=k
  ·have:bz x.1.1 k.1=true:=by rw [c];exact fF _
   rw [if_pos this]
   have e:putAt k u x=(x.1,x.2.1,u):=by unfold putAt;rw [if_pos c]
   rw [e]
   exact ⟨v::ws',.cons (x:=(x.1,x.2.1,u)) rv rd ih⟩
  ·have:¬bz x.1.1 k.1=true:=λh=>c (Xm ((uW x.1.2.1 k.2.1).mp h))
   rw [if_neg this]
   have e:putAt k u x=x:=by unfold putAt;rw [if_neg c]
   rw [e]
   exact ⟨_,.cons q r ih⟩
theorem dF.snoc {k:KD}{a:Rq}{u:Q8}{d:D}{v:V}(rv:RelV v u) (rd:Rep K J d v):∀{xs:List (KD×Rq×Q8)}{ks vs:List D}{us ws:List V},dF K J xs ks us vs ws->dF K J (xs++[(k,a,u)]) (ks++[k.1]) (us++[.ref a]) (vs++[d]) (ws++[v])
 | _,_,_,_,_,.nil=>.cons (x:=(k,a,u)) rv rd .nil
 | _,_,_,_,_,.cons q r t=>.cons q r (dF.snoc rv rd t)
theorem dF.ents:∀{xs:List (KD×Rq×Q8)}{ks vs:List D}{us ws:List V},dF K J xs ks us vs ws->WT xW ((c_ ks).zip (us.zip ws)) (xs.map (aaq (n_ P w)))
 | _,_,_,_,_,.nil=>.nil
 | _,_,_,_,_,.cons q r t=>.cons ⟨rfl,rfl,q⟩ t.ents
theorem dF.reps:∀{xs:List (KD×Rq×Q8)}{ks vs:List D}{us ws:List V},dF K J xs ks us vs ws->aJ K J vs ws
 | _,_,_,_,_,.nil=>.nil
 | _,_,_,_,_,.cons q r t=>.cons r t.reps
theorem dF.keys:∀{xs:List (KD×Rq×Q8)}{ks vs:List D}{us ws:List V},dF K J xs ks us vs ws->xs.map (λx=>x.1.1)=ks
 | _,_,_,_,_,.nil=>rfl
 | _,_,_,_,_,.cons q r t=>by rw [Rv,t.keys]
theorem dF.len:∀{xs:List (KD×Rq×Q8)}{ks vs:List D}{us ws:List V},dF K J xs ks us vs ws->ks.length=vs.length
 | _,_,_,_,_,.nil=>rfl
 | _,_,_,_,_,.cons q r t=>by rw [SG,SG,t.len]
theorem qT:∀{xs ys:List D},areKeys (xs++ys)=(areKeys xs && areKeys ys)
 | [],_=>rfl
 | x::xs,ys=>by
  show (isKey x && areKeys (xs++ys))=((isKey x && areKeys xs) && areKeys ys)
  rw [qT,Bool.and_assoc]
theorem yL:∀{xs ys:List D}{n:Nat},deps xs<=n->deps ys<=n->deps (xs++ys)<=n
 | [],_,_,_,h=>h
 | x::xs,ys,n,h1,h2=>by
  unfold deps at h1
  have:=yL (xs:=xs) (ys:=ys) (n:=n) (by omega) h2
  show max (dep x) (deps (xs++ys))<=n
  omega
theorem aJ.snoc {ds:List D}{vs:List V}{d:D}{v:V}(h:aJ K J ds vs) (r:Rep K J d v):aJ K J (ds++[d]) (vs++[v]):=h.append (.cons r .nil)
end
section
variable {X:Cx}
theorem Bm {QV:List (Rq×Obj)}{s:Q_}{σ:L2.St}{H J:Hp}(I:Inv X QV σ H s) (sub:aX J H){p:Rq}{ks vs:List D}(h:fj X.K J H p ks vs):
  ∃xs:List (KD×Rq×Q8),s.heap.DictOfH (n_ X.prog X.w) p xs/\xs.length=ks.length/\∀{kxs:List D}{a:Rq}{d:D}{v:V}{u:Q8}(k1:isKey (.tup kxs)=true) (k2:dep (.tup kxs)<=8),Rep X.K J (.tup kxs) (.ref a)->Rep X.K J d v->RelV v u->
   ∀(h':SM) (tk:Nat),h'.DictOfH (n_ X.prog X.w) p (storedH xs ⟨.tup kxs,k1,k2⟩ a u)->Sy p s.heap h'->
    ∃o,Inv X QV σ (upd H p o) {s with heap:=h',toks:=tk}/\fj X.K J (upd H p o) p (dput (ks,vs) (.tup kxs) d).1 (dput (ks,vs) (.tup kxs) d).2/\(dput (ks,vs) (.tup kxs) d).1.length<=ks.length + 1:=by
 have F:HF X.K J s:=HF.of (c:=⟨X.K,H,H,λ_=>True⟩) I sub
 obtain ⟨xs,us,ws,hm,q2,h3,h4,q4,q5,h7⟩:=rL (P:=X.prog) (w:=X.w) F (h_ I) h
 obtain ⟨_,_,_,p9,_,_,h5,_⟩:=h
 have rows:dF X.K J xs ks us vs ws:=by
  have:=dF.of h4 q4 q5
  rw [q2] at this
  exact this
 refine ⟨xs,hm,by rw [<-q2,Rh],fun {kxs a d v u} k1 k2 rk rd r9 h' tk hm' sb=>?_⟩
 obtain ⟨o',es',ep',g1',g2'',g3',g4',g5',g6'⟩:=hm'
 obtain ⟨l1,l2⟩:=xA (K:=X.K) (J:=J) ⟨.tup kxs,k1,k2⟩ q2 h4 q4
 have key:∃us' ws',dF X.K J (storedH xs ⟨.tup kxs,k1,k2⟩ a u) (dput (ks,vs) (.tup kxs) d).1 us' (dput (ks,vs) (.tup kxs) d).2 ws'/\aJ X.K J (dput (ks,vs) (.tup kxs) d).1 us'/\areKeys (dput (ks,vs) (.tup kxs) d).1=true/\deps (dput (ks,vs) (.tup kxs) d).1<=8/\(∀k∈(dput (ks,vs) (.tup kxs) d).1,∃xs,k=.tup xs)/\(dput (ks,vs) (.tup kxs) d).1.length<=ks.length + 1:=by
  unfold dput
  cases lk:ic ks vs (.tup kxs) with
  | some z=>
   obtain ⟨pp,v,ea,_,_⟩:=l1 z lk
   rw [storedH_old ea]
   obtain ⟨ws',t⟩:=dF.put (k:=⟨.tup kxs,k1,k2⟩) r9 rd rows
   exact ⟨us,ws',t,h3,h5.key,h5.dp,h5.tp,To _⟩
  | none=>
   rw [storedH_new (l2 lk)]
   refine ⟨us++[.ref a],ws++[v],dF.snoc (k:=⟨.tup kxs,k1,k2⟩) r9 rd rows,h3.snoc rk,?_,yL h5.dp (by show max (dep (.tup kxs)) 0<=8;omega),λk hk=>?_,by simp⟩
   ·show areKeys (ks++[.tup kxs])=true
    rw [qT,h5.key]
    show (true && (isKey (.tup kxs) && true))=true
    rw [k1];rfl
   ·rcases RJ.mp hk with h | h
    ·exact h5.tp k h
    ·exact ⟨kxs,Rp.mp h⟩
 obtain ⟨us',ws',t,tk',kk,kd,kt,kl⟩:=key
 have nd':(dput (ks,vs) (.tup kxs) d).1.Nodup:=by
  rw [<-t.keys]
  have:((storedH xs ⟨.tup kxs,k1,k2⟩ a u).map (·.1)).Nodup:=g6'
  have h:=abX (S:=(·≠·)) (λk:KD=>k.1) (λa b (h:a≠b) e=>h (Xm e)) this
  rw [RT] at h
  exact h
 refine ⟨kT p ep' ((c_ (dput (ks,vs) (.tup kxs) d).1).zip (us'.zip ws')),I.write (e:=p) (by rw [p9];trivial) (.inl rfl) (λb u hb q=>by rw [sb.2 b hb];exact q) ⟨_,g1'⟩ ⟨⟨o',es',g1',g2'',g3',by rw [g4'];exact t.ents⟩,⟨_,g1'⟩,?_⟩,⟨us',ws',ep',cK,tk',t.reps,⟨kk,nd',kd,kt⟩,h7,t.len⟩,kl⟩
 rintro h1 h2 ⟨o,es,a1,a2⟩ e
 exact ⟨o,es,e o a1,a2⟩
end
def BW (c:C) (p:Rq):Hp->Hp->List D->Prop:=λJ H ys=>fj c.K J H p (iQ ys).1 (iQ ys).2/\J p=none/\(iQ ys).1.length<=ys.length
theorem rB {c:C}{p:Rq}:xT (BW c p):=⟨fun {J H J' H' ys} ⟨h1,h2,h3⟩ e=>⟨h1.mono e.j e.h,e.frz _ h1.ne h2,h3⟩⟩
noncomputable def rD (gk gv:G R):Ev->M (List D×Ev):=λe=>gk e >>= λr=>toD r >>= λk=>gv e >>= λr2=>toD r2 >>= λd=>if ff k=true then .ok ([.tup [k,d]],e) else .bad
abbrev CB (kx vx:RX) (p:Rq) (env:Env):Sem Unit:=do
 let kv <-eval kx env
 let vv <-holding [kv] (eval vx env)
 Uz {kx.pos with endLine:=vx.pos.endLine,endCol:=vx.pos.endCol}
 holding [kv,vv] (dictSet p kv vv)
section
variable {X:Cx}{c:C}{p:Rq}{J2 H2:Hp}{kx vx:RX}{gk gv:G R}
theorem AW (hu:X.A.units + 64 < S6) (hK:X.K=c.K) (hx:∀v s,X.xe v s->False) (hp2:H2 p=none) (hp0:c.H0 p=none) (hk:PD X c kx gk) (hv:PD X c vx gv):uC X c p (BW c p) J2 H2 1 (CB kx vx p X.env) (rD gk gv):=by
 intro QV s σ H J env ys Qf I x2 sr no ⟨h1,h2,h8⟩ hl w
 refine Q6 (Si (hk _ s σ H (λv H8=>∃J8 k,Ext J H J8 H8/\Rep c.K J8 k v/\dJ (gv env >>= λr2=>toD r2 >>= λd=>if ff k=true then M.ok ([.tup [k,d]],env) else .bad) Qf c.T) I ⟨J,env,sr,aG (aM w) λr wr v J8 H8 e8 r8=>?_⟩) (λu8 s8 ⟨v8,H8,I8,r8,J8,k,e8,rk,w8⟩=>?_) λv s f=>(hx v s f).elim)
 ·obtain ⟨y,q,wr⟩:=iY wr
  obtain ⟨J9,e9,_,ry⟩:=freeze e8 r8 q
  exact ⟨J9,y,e9,ry,wr⟩
 refine Q6 (RU (Si (hv _ s8 σ H8 (λv H9=>∃J9 d,Ext J8 H8 J9 H9/\Rep c.K J9 d v/\dJ (if ff k=true then M.ok ([.tup [k,d]],env) else .bad) Qf c.T) I8 ⟨J8,env,sr.ext e8,aG (aM w8) λr wr v J9 H9 e9 r9=>?_⟩) (λu9 s9 ⟨v9,H9,I9,r9,J9,d,e9,rd,w9⟩=>?_) λv s f=>(hx v s f).elim))
 ·obtain ⟨y,q,wr⟩:=iY wr
  obtain ⟨J9',e9',_,ry⟩:=freeze e9 r9 q
  exact ⟨J9',y,e9',ry,wr⟩
 refine Q6 (S8 (RU ?_))
 by_cases ok:ff k=true
 case neg=>rw [if_neg ok] at w9;exact w9.elim
 rw [if_pos ok] at w9
 have w9:Qf ([.tup [k,d]],env):=w9
 obtain ⟨kxs,rfl,k1,k2⟩:=jm ok
 have ee:=e8.trans e9
 have rk9:=rk.mono e9.j
 obtain ⟨a,rfl⟩:∃a,v8=.ref a:=by cases rk;exact ⟨_,rfl⟩
 cases r8
 have J9p:J9 p=none:=ee.frz _ h1.ne h2
 rw [<-hK] at rk9 rd
 have h9:=h1.mono ee.j ee.h
 rw [<-hK] at h9
 obtain ⟨xs,hm,lx,put⟩:=Bm I9 ee.sub h9
 refine wpAny_dictSet_heap (knd:=n_ X.prog X.w) (k:=⟨.tup kxs,k1,k2⟩) (show X.A.units + 16 < S6 by omega) (kL (HF.of (c:=⟨X.K,H9,H9,λ_=>True⟩) I9 ee.sub) k1 rk9) hm (λh' hm' sb=>?_) (by rw [lx];omega)
 obtain ⟨o,W,hd,kl⟩:=put k1 k2 rk9 rd r9 h' _ hm' sb
 refine ⟨σ,_,J9,([.tup [.tup kxs,d]],env),W,(x2.trans ee).other hp2 J9p,ee.j,(sr.ext ee).other J9p hp0 no,no,⟨by rw [nQ,<-hK];exact hd,J9p,?_⟩,Rj _,w9⟩
 rw [nQ,RI];exact RS kl (Nat.add_le_add_right h8 1)
end
noncomputable def kI (n:Nat) (cap:List Nat) (gi0:G (List D)) (gt0:GT) (gts0:G Bool) (gi1:G (List D)) (gt1:GT) (gts1:G Bool) (gk gv:G R):G R:=jj 10000 n cap gi0 gt0 gts0 (jf gi1 gt1 gts1 (rD gk gv)) (λys=>.ok (.d (.dct (iQ ys).1 (iQ ys).2)))
theorem Kr (kx vx t0 i0 t1 i1:RX) (f0 f1:List RX) (QU:T7) (pos:Pos) (it acc:Q8) (env:Env):
  VV (.DictComp kx vx [⟨t0,i0,f0,0⟩,⟨t1,i1,f1,0⟩] QU pos) 0 it acc env=(do
   Uz i0.pos
   match <-VD it with
   | none=>pure (.done .next)
   | some v=>
    TV t0 it v
    assign t0 env v
    let mut ok:=true
    for c in f0 do
     if ok then ok <-Yk c env (eval c env)
    if ok then
     let x <-eval i1 env
     Uz i1.pos
     let x <-Rx i1 env x
     let _ <-runOwn (.compStart (.DictComp kx vx [⟨t0,i0,f0,0⟩,⟨t1,i1,f1,0⟩] QU pos) 1 (<-holding [x] (WB x)) acc env) env
    again (.compLoop (.DictComp kx vx [⟨t0,i0,f0,0⟩,⟨t1,i1,f1,0⟩] QU pos) 0 it acc env)):=by rfl
theorem MS (kx vx t0 i0 t1 i1:RX) (f0 f1:List RX) (QU:T7) (pos:Pos) (it acc:Q8) (env:Env):
  VV (.DictComp kx vx [⟨t0,i0,f0,0⟩,⟨t1,i1,f1,0⟩] QU pos) 0 it acc env=lZ t0 i0 f0 it env (rO (.DictComp kx vx [⟨t0,i0,f0,0⟩,⟨t1,i1,f1,0⟩] QU pos) i1 acc env) (again (.compLoop (.DictComp kx vx [⟨t0,i0,f0,0⟩,⟨t1,i1,f1,0⟩] QU pos) 0 it acc env)):=by
 rw [Kr]
 refine bind_congr λ_=>bind_congr λr=>?_
 cases r with
 | none=>rfl
 | some v=>
  refine bind_congr λ_=>bind_congr λ_=>bind_congr λok=>?_
  cases ok with
  | false=>rfl
  | true=>simp only [rO,bind_assoc,pure_bind,if_true]
theorem MT (kx vx t0 i0 t1 i1:RX) (f0 f1:List RX) (QU:T7) (pos:Pos) (it:Q8) (p:Rq) (env:Env):
  VV (.DictComp kx vx [⟨t0,i0,f0,0⟩,⟨t1,i1,f1,0⟩] QU pos) 1 it (.ref p) env=lZ t1 i1 f1 it env (CB kx vx p env) (again (.compLoop (.DictComp kx vx [⟨t0,i0,f0,0⟩,⟨t1,i1,f1,0⟩] QU pos) 1 it (.ref p) env)):=by rfl
section
variable {X:Cx}{c:C}
theorem K_ (hu:X.A.units + 64 < S6) (hK:X.K=c.K) (own:List Str) (cap:List Nat){kx vx t0 i0 t1 i1:RX}{f0 f1:List RX}{QU:T7}{pos:Pos}{gi0 gi1:G (List D)}{gt0 gt1:GT}{gts0 gts1:G Bool}{gk gv:G R}(hi:pA X c t0 i0 gi0)
  (hbody:∀(cl:List (Str×Rq)) (C:Rq) (s:Q_) (H:Hp) (fp:List Rq),bH X.env.cells QU.names []=some cl->jb (aZ X own cap QU cl C s H fp) c t0 gt0/\gU (aZ X own cap QU cl C s H fp) c f0 gts0/\yg (aZ X own cap QU cl C s H fp) c t1 i1 gi1/\jb (aZ X own cap QU cl C s H fp) c t1 gt1/\gU (aZ X own cap QU cl C s H fp) c f1 gts1/\PD (aZ X own cap QU cl C s H fp) c kx gk/\PD (aZ X own cap QU cl C s H fp) c vx gv)
  (hk:QU.kind=.function:=by rfl) (hno:fV X cap QU=true:=by rfl) (hnames:(QU.names.all λx=>!(x.2 == .local) || (QU.names.lookup x.1 == some .local))=true:=by rfl)
  (hcl:(bH X.env.cells QU.names []).isSome=true:=by rfl) (hcap:eK X cap=true:=by rfl) (hloc:eU X cap QU=true:=by rfl) (hnd:gp cap=true:=by rfl) (Pc:X.calm=true:=by rfl)
  (hs:∀x,Rx i0 X.env x=pure x:=by intro _;rfl) (hs1:∀(en:Env) x,Rx i1 en x=pure x:=by intro _ _;rfl)
  {QV:List (Rq×Obj)}{s:Q_}{σ:L2.St}{H:Hp}{Q:VK}{use:Option (Q8->Sem Unit)}{Q0:Q8->Q_->Prop}{pos':Pos}(I:Inv X QV σ H s) (h:tD c (kI own.length cap gi0 gt0 gts0 gi1 gt1 gts1 gk gv) σ H Q)
  (Pg:∀(acc C:Rq) (m:Str->Option Q8) (s':Q_) (H':Hp) (fl:Flow),s'.heap.Ns C m->((C∈X.ex\/X.s₀.heap.objs.size<=C)/\C≠X.env.locals/\(∀x c,X.env.cells.lookup x=some c->c≠C)/\∀p∈X.pn++QV,p.1≠C)->H' C=none->(∀h'',Sy C s'.heap h''->Inv X QV σ H' {s' with heap:=h''})->Q (.ref acc) H'->YU (RG X.prog X.w) X.A X.xe use Q0 (.ref acc) C (.ok fl) s'):
  RA (RG X.prog X.w) X.A (comprehension (.DictComp kx vx [⟨t0,i0,f0,0⟩,⟨t1,i1,f1,0⟩] QU pos) QU X.env pos' newDict false (eval i0 X.env) use) Q0 X.xe s:=by
 refine nP (e:=.DictComp kx vx [⟨t0,i0,f0,0⟩,⟨t1,i1,f1,0⟩] QU pos) (ob:={cls:=.type "dict",data:=.dict #[]}) (o0:=λa=>kT a 0 []) (Acc:=BW c) (N:=1000 * 1) (lim:=10000) (m:=λp env=>rO (.DictComp kx vx [⟨t0,i0,f0,0⟩,⟨t1,i1,f1,0⟩] QU pos) i1 (.ref p) env) own cap rfl hi
  (λs Q E q=>R8 q) (λh H=>⟨⟨_,#[],Rn _ rfl,⟨rfl,rfl,rfl⟩,rfl,.nil⟩,⟨_,Rn _ rfl⟩,λh1 h2 ⟨o,es,a1,a2⟩ e=>⟨o,es,e o a1,a2⟩⟩) (λp=>rB) (λp J H hsm h1 h2=>⟨⟨[],[],0,h1,.nil,.nil,⟨rfl,TR,RL _,λ_ h=>(nomatch h)⟩,beq_eq_false_iff_ne.mpr (Um (RE hsm)),rfl⟩,h2,Rj _⟩) (by decide) (λit p env=>Co (MS ..)) (λit acc env R s h0 h=>XG h0 h) (λys z q=>by cases q)
  (fun {p J H J' H' ys r} hp e ⟨⟨us,ws,ep,h1,h3,h4,h5,h7⟩,h2,h8⟩ q=>by
   cases q
   have s1:aX J' (upd J' p (kT p ep ((c_ (iQ ys).1).zip (us.zip ws)))):=dM h2 _
   refine ⟨upd J' p (kT p ep ((c_ (iQ ys).1).zip (us.zip ws))),⟨e.h,e.j.trans s1,λa o q=>?_,λa ha ja=>?_⟩,.dct cK (h3.mono s1) (h4.mono s1) h5 h7⟩
   ·by_cases z:a=p
    ·subst z;rw [cK] at q;cases q;exact h1
    ·rw [bG z] at q;exact e.sub _ _ q
   ·have:a≠p:=λz=>ha (z▸hp)
    rw [bG this];exact e.frz a ha ja) (λcl C s H fp hcc=>?_) hk hno hnames hcl hcap hloc hnd Pc hs I h Pg
 obtain ⟨b1,b2,b3,b4,b5,b6,b7⟩:=hbody cl C s H fp hcc
 refine ⟨b1,b2,λp J2 H2 hp2 hp0=>?_⟩
 exact AV rB Pc (λ_ _ f=>f) (λx=>hs1 _ x) (λit R s h0 h=>MM h0 h) (λit=>Co (MT ..)) b3 b4 b5 (AW hu hK (λ_ _ f=>f) hp2 hp0 b6 b7)
theorem EC (hu:X.A.units + 64 < S6) (own:List Str) (cap:List Nat){kx vx t0 i0 t1 i1:RX}{f0 f1:List RX}{QU:T7}{pos:Pos}{gi0 gi1:G (List D)}{gt0 gt1:GT}{gts0 gts1:G Bool}{gk gv:G R}(hi:pA X c t0 i0 gi0)
  (hbody:∀(cl:List (Str×Rq)) (C:Rq) (s:Q_) (H:Hp) (fp:List Rq),bH X.env.cells QU.names []=some cl->jb (aZ X own cap QU cl C s H fp) c t0 gt0/\gU (aZ X own cap QU cl C s H fp) c f0 gts0/\yg (aZ X own cap QU cl C s H fp) c t1 i1 gi1/\jb (aZ X own cap QU cl C s H fp) c t1 gt1/\gU (aZ X own cap QU cl C s H fp) c f1 gts1/\PD (aZ X own cap QU cl C s H fp) c kx gk/\PD (aZ X own cap QU cl C s H fp) c vx gv)
  (hk:QU.kind=.function:=by rfl) (hno:fV X cap QU=true:=by rfl) (hnames:(QU.names.all λx=>!(x.2 == .local) || (QU.names.lookup x.1 == some .local))=true:=by rfl)
  (hcl:(bH X.env.cells QU.names []).isSome=true:=by rfl) (hcap:eK X cap=true:=by rfl) (hloc:eU X cap QU=true:=by rfl) (hnd:gp cap=true:=by rfl) (Pc:X.calm=true:=by rfl)
  (hs:∀x,Rx i0 X.env x=pure x:=by intro _;rfl) (hs1:∀(en:Env) x,Rx i1 en x=pure x:=by intro _ _;rfl) (hK:X.K=c.K:=by rfl):PD X c (.DictComp kx vx [⟨t0,i0,f0,0⟩,⟨t1,i1,f1,0⟩] QU pos) (kI own.length cap gi0 gt0 gts0 gi1 gt1 gts1 gk gv):=by
 intro QV s σ H Q I h
 rw [arm_eval_DictComp]
 exact K_ hu hK own cap hi hbody hk hno hnames hcl hcap hloc hnd Pc hs hs1 I h λacc C m s' H' fl hm hz hf hb q=>⟨m,hm,λh'' sb=>⟨.ref acc,H',hb h'' sb,rfl,q⟩⟩
theorem t7 (hu:X.A.units + 64 < S6) (own:List Str) (cap:List Nat){kx vx t0 i0 t1 i1:RX}{f0 f1:List RX}{QU:T7}{pos:Pos}{gi0 gi1:G (List D)}{gt0 gt1:GT}{gts0 gts1:G Bool}{gk gv:G R}(hi:qS X c t0 i0 gi0)
  (hbody:∀(cl:List (Str×Rq)) (C:Rq) (s:Q_) (H:Hp) (fp:List Rq),bH X.env.cells QU.names []=some cl->kP (aZ X own cap QU cl C s H fp) c t0 gt0/\jZ (aZ X own cap QU cl C s H fp) c f0 gts0/\yi (aZ X own cap QU cl C s H fp) c t1 i1 gi1/\kP (aZ X own cap QU cl C s H fp) c t1 gt1/\jZ (aZ X own cap QU cl C s H fp) c f1 gts1/\QD (aZ X own cap QU cl C s H fp) c kx gk/\QD (aZ X own cap QU cl C s H fp) c vx gv)
  (hk:QU.kind=.function:=by rfl) (hno:fV X cap QU=true:=by rfl) (hnames:(QU.names.all λx=>!(x.2 == .local) || (QU.names.lookup x.1 == some .local))=true:=by rfl)
  (hcl:(bH X.env.cells QU.names []).isSome=true:=by rfl) (hcap:eK X cap=true:=by rfl) (hloc:eU X cap QU=true:=by rfl) (hnd:gp cap=true:=by rfl) (Pc:X.calm=true:=by rfl)
  (hs:∀x,Rx i0 X.env x=pure x:=by intro _;rfl) (hs1:∀(en:Env) x,Rx i1 en x=pure x:=by intro _ _;rfl) (hK:X.K=c.K:=by rfl):QD X c (.DictComp kx vx [⟨t0,i0,f0,0⟩,⟨t1,i1,f1,0⟩] QU pos) (kI own.length cap gi0 gt0 gts0 gi1 gt1 gts1 gk gv):=
 ⟨EC hu own cap hi.h (λcl C s H fp hc=>let ⟨a,b,d,e,f,g,h⟩:=hbody cl C s H fp hc;⟨a.h,b.h,d.h,e.h,f.h,g.h,h.h⟩) hk hno hnames hcl hcap hloc hnd Pc hs hs1 hK⟩
end
noncomputable def lexLe:List Int->List Int->Bool
 | [],_=>true
 | _::_,[]=>false
 | x::xs,y::ys=>if x=y then lexLe xs ys else decide (x<=y)
theorem kr (x y:Int) (xs ys:List Int):lexLe (x::xs) (y::ys)=if x=y then lexLe xs ys else decide (x<=y):=rfl
theorem o5:lexLe [] []=true:=rfl
theorem u5 (y:Int) (ys:List Int):lexLe [] (y::ys)=true:=rfl
theorem uZ (x:Int) (xs:List Int):lexLe (x::xs) []=false:=rfl
theorem G2 (A:R4) (s:Q_) (a:Int) (t:Tok) (c:Int) (u:Tok) (prog:Rz) (w:RZ) (E:Q8->Q_->Prop) (Q:Q8->Q_->Prop) (h:Q (.bool (decide (a<=c))) s):
  RA (RG prog w) A (richCompare .LtE (.int a t) (.int c u)) Q E s:=
 (abL h:RA (RG prog w) A (S7 .LtE (.int a t) (.int c u)) Q E s)
section
open PySem.SeqAt
open PySem.AutoSeq1 (wpAny_loadPart')
open PySem.MeetsSeq PySem.MeetsSeq2 PySem.MeetsSeq3
theorem xu (l b:Rq) (QW Q3:Array Q8) (n n2:Nat) (dd dd2:Option Rq) (sl sl2:Array (Option Q8)) (ns ms:List Int) (hi:Vh QW.toList ns) (hj:Vh Q3.toList ms):
  Meets (U3.«tuple.__le__» ⟨[.ref l,.ref b],[]⟩)
   (λ_ R s=>s.heap.get? l=some {cls:=.type "tuple",dict:=dd,data:=.seq QW n,slots:=sl}/\s.heap.get? b=some {cls:=.type "tuple",dict:=dd2,data:=.seq Q3 n2,slots:=sl2}/\
    R (.ok (.ret (.bool (lexLe ns ms)))) s):=
 .of_wp λprog w A R s h=>by
  obtain ⟨hp,g,d,tk,os⟩:=s;obtain ⟨hl,hb,h⟩:=h
  have f2:=Vm
  have z1:QW.size=ns.length:=by rw [<-hi.length];simp
  have z2:Q3.size=ms.length:=by rw [<-hj.length];simp
  wp_walk using TZ hl,TZ hb,T9 _ (λrest b s'=>b.1=none/\s'=⟨hp,g,d,tk,os⟩/\∃(vs ws:List Q8) (ns' ms':List Int),rest=vs.zip ws/\
   Vh vs ns'/\Vh ws ms'/\ns'.length + Q3.size=ms'.length + QW.size/\R (.ok (.ret (.bool (lexLe ns' ms')))) ⟨hp,g,d,tk,os⟩) _
  case turn=>
   rintro ⟨y,x⟩ rest b s' ⟨hb',rfl,vs,ws,ns',ms',hz,Qs,hwi,hlen,hR⟩
   cases Qs with
   | nil=>rw [List.zip_nil_left] at hz;cases hz
   | cons a t Qt=>
    cases hwi with
    | nil=>rw [List.zip_nil_right] at hz;cases hz
    | cons c u Qu=>
     rw [WG] at hz
     injection hz with hyx hrest
     injection hyx with hy hx
     subst hy hx
     rw [kr] at hR
     simp only [SG] at hlen
     obtain ⟨e,he,hiff⟩:=HT.FP A.in1 ⟨hp,g,d,tk,os⟩ a t c u
     refine Q6 (he prog w _ _ ?_)
     cases e with
     | true=>
      rw [if_pos (hiff.mp rfl)] at hR
      wp_walk
      exact ⟨rfl,rfl,_,_,_,_,hrest,Qt,Qu,by omega,hR⟩
     | false=>
      rw [if_neg (λq=>absurd (hiff.mpr q) RV)] at hR
      have Qq:=G2 A.in1 ⟨hp,g,d,tk,os⟩ a t c u prog w
      wp_walk using Qq
      exact ⟨_,rfl,by simpa using hR⟩
  case fin=>
   rintro ⟨b1,b2⟩ s' ⟨hb',rfl,vs,ws,ns',ms',hz,Qs,hwi,hlen,hR⟩
   simp only at hb'
   subst hb'
   have hv:lexLe ns' ms'=decide (QW.size<=Q3.size):=by
    cases Qs with
    | nil=>
     cases hwi with
     | nil=>
      simp only [Wu] at hlen
      rw [o5]
      exact (decide_eq_true (by omega)).symm
     | cons c u hw=>
      simp only [Wu,SG] at hlen
      rw [u5]
      exact (decide_eq_true (by omega)).symm
    | cons a t hv=>
     cases hwi with
     | nil=>
      simp only [Wu,SG] at hlen
      rw [uZ]
      exact (decide_eq_false (by omega)).symm
     | cons c u hw=>
      rw [WG] at hz
      cases hz
   rw [hv] at hR
   wp_walk
   exact ⟨_,rfl,by simpa [VL] using hR⟩
  case h=>
   exact ⟨rfl,rfl,QW.toList,Q3.toList,ns,ms,rfl,hi,hj,by omega,h⟩
end
section
variable {prog:Rz}{w:RZ}{A:R4}{E:Q8->Q_->Prop}{s:Q_}
theorem Cn {l b:Rq}{QW Q3:Array Q8}{ns ms:List Int}{Q:Q8->Q_->Prop}(hl:abo s.heap l QW) (hb:abo s.heap b Q3) (hi:Vh QW.toList ns) (hj:Vh Q3.toList ms)
  (hu:A.units < S6) (h:Q (.bool (lexLe ns ms)) s):RA (RG prog w) A (S7 .LtE (.ref l) (.ref b)) Q E s:=by
 obtain ⟨⟨cls,dd,data,sl⟩,ho,hc,n,hd⟩:=id hl
 obtain ⟨⟨cls2,dd2,data2,sl2⟩,ho2,hc2,n2,hd2⟩:=id hb
 simp only at hc hd hc2 hd2
 subst hc hd hc2 hd2
 exact XA (op:=.LtE) ⟨_,ho,rfl⟩ ⟨_,ho2,rfl⟩ PySem.F.slot_tuple_le PySem.F.entry_tuple_le (PySem.F.args_tuple_le_2 _ _) (xu l b QW Q3 n n2 dd dd2 sl sl2 ns ms hi hj)
  ⟨ho,ho2,show Uk (lexLe ns ms)≠Yh/\Q (.bool (lexLe ns ms)) s from ⟨(λx=>nomatch x),h⟩⟩ hu
end
section
variable {X:Cx}{c:C}{a b e:RX}{ga gb:G R}{pos pos2:Pos}
theorem LU (hu:X.A.units < S6):dZ X (S7 .LtE) (λx y H Q=>∃a b ns ms,x=.ref a/\y=.ref b/\dY X.K H a (ns.map V.int)/\dY X.K H b (ms.map V.int)/\Q (.bl (lexLe ns ms)) H):=by
 intro QV s σ H x y v u Q I rx ry h
 obtain ⟨a,b,ns,ms,rfl,rfl,ha,hb,q⟩:=h
 cases rx
 cases ry
 obtain ⟨QX,r1,p1,_⟩:=I.tuple ha
 obtain ⟨its2,r2,p2,_⟩:=I.tuple hb
 exact Cn p1 p2 (L2.intsAre_of r1:Vh QX.toArray.toList ns) (L2.intsAre_of r2:Vh its2.toArray.toList ms) hu ⟨.bl (lexLe ns ms),H,I,rfl,q⟩
noncomputable def yR:R->R->M R
 | .d (.tup xs),.d (.tup ys)=>match intsOf xs,intsOf ys with
  | some ns,some ms=>.ok (.d (.bl (lexLe ns ms)))
  | _,_=>.bad
 | _,_=>.bad
theorem JT (hu:X.A.units + 64 < S6) (ha:QD X c a ga) (hb:QD X c b gb) (hK:X.K=c.K:=by rfl):QB X c (.Compare a [.LtE] [b] pos) (aT (g2 yR ga gb)):=have ha:=ha.h;have hb:=hb.h;⟨jT (LU (by omega)) (by
 intro He He' J H x y u v Q hp rx ry w
 unfold yR at w
 split at w
 ·cases rx with
  | tup h1 s1=>
   cases ry with
   | tup h2 s2=>
    split at w
    ·rename_i ns ms z1 z2
     have e1:=n8 z1 s1
     have e2:=n8 z2 s2
     subst e1 e2
     exact ⟨_,_,ns,ms,rfl,rfl,by rw [hK];exact gc hp.sub h1,by rw [hK];exact gc hp.sub h2,w _ J H (Ext.refl hp.sub) (.bl _)⟩
    ·exact w.elim
 ·exact w.elim) ha hb⟩
theorem B8:b8 X (.builtin "len") (λxs H Q=>∃p ms,xs=[.ref p]/\H p=some (iF X p ms)/\ms.length < 64/\∀n:Nat,(∃ns:List Int,ns.Nodup/\(∀d,d∈ns↔d∈ms)/\n=ns.length)->Q (.int (n:Nat)) H):=by
 intro QV s σ H xs us Q I r h
 obtain ⟨p,ms,rfl,hp,l64,q⟩:=h
 obtain ⟨u,rfl,rx⟩:=vals1 r
 cases rx
 obtain ⟨⟨ns,es,ep,t,S,hm⟩,_⟩:=(show cM X.prog X.w H s.heap p (iF X p ms) from I.hok p _ hp)
 obtain ⟨L,T⟩:=S.tab
 have len:ns.length<=ms.length:=RN S.nd λd hd=>(hm d).mp hd
 have les:es.size=ns.length:=by rw [<-Rm,S.en.length]
 refine call_len_set S.at_ ⟨rfl,rfl,rfl⟩ rfl (dz T) (by omega) ⟨.int es.size,H,I.tok _,⟨_,rfl⟩,?_⟩
 rw [les]
 exact q _ ⟨ns,S.nd,hm,rfl⟩
noncomputable def m_:List Int->List Int
 | []=>[]
 | x::xs=>if x∈m_ xs then m_ xs else x::m_ xs
theorem yK:∀ns:List Int,(m_ ns).Nodup/\∀d,d∈m_ ns↔d∈ns
 | []=>⟨TR,λ_=>.rfl⟩
 | x::xs=>by
  obtain ⟨h1,h2⟩:=yK xs
  unfold m_
  by_cases c:x∈m_ xs
  ·rw [if_pos c]
   refine ⟨h1,λd=>?_⟩
   rw [h2,Rt]
   exact ⟨.inr,λz=>z.elim (λe=>e▸(h2 x).mp c) id⟩
  ·rw [if_neg c]
   refine ⟨S9.mpr ⟨c,h1⟩,λd=>?_⟩
   rw [Rt,Rt,h2]
theorem En {as bs:List Int}(ha:as.Nodup) (hb:bs.Nodup) (h:∀d,d∈as↔d∈bs):as.length=bs.length:=
 Nat.le_antisymm (RN ha λd hd=>(h d).mp hd) (RN hb λd hd=>(h d).mpr hd)
noncomputable def MA (X:Cx):List V->Hp->VK->Prop:=λxs H Q=>∃p ms,xs=[.ref p]/\H p=some (iF X p ms)/\ms.length < 64/\∀n:Nat,(∃ns:List Int,ns.Nodup/\(∀d,d∈ns↔d∈ms)/\n=ns.length)->Q (.int (n:Nat)) H
theorem Dv:Sd "set"=some (.type "set"):=by decide +kernel
end
theorem uN (gt:GT) (gts:G Bool) (ge:G R):∀(ds:List D) (env:Ev) (k:List D->M R),(cD gt gts (gX ge) ds env >>= λr=>k r.1)=(dG gt gts ge ds env >>= k)
 | [],env,k=>rfl
 | d::ds,env,k=>by
  unfold cD dG
  cases gt d env with
  | bad=>rfl
  | exc z=>rfl
  | ok e=>
   show ((gts e >>= λk=>if k=true then gX ge e >>= λr=>cD gt gts (gX ge) ds r.2 >>= λz=>.ok (r.1++z.1,z.2) else cD gt gts (gX ge) ds e) >>= _)=((gts e >>= λk=>if k=true then ge e >>= λr=>toD r >>= λy=>dG gt gts ge ds e >>= λys=>.ok (y::ys) else dG gt gts ge ds e) >>= _)
   cases gts e with
   | bad=>rfl
   | exc z=>rfl
   | ok b=>
    cases b with
    | false=>exact uN gt gts ge ds e k
    | true=>
     show ((gX ge e >>= λr=>cD gt gts (gX ge) ds r.2 >>= λz=>.ok (r.1++z.1,z.2)) >>= _)=((ge e >>= λr=>toD r >>= λy=>dG gt gts ge ds e >>= λys=>.ok (y::ys)) >>= _)
     unfold gX
     cases ge e with
     | bad=>rfl
     | exc z=>rfl
     | ok r=>
      show (((toD r >>= λy=>M.ok ([y],e)) >>= λr=>cD gt gts (gX ge) ds r.2 >>= λz=>.ok (r.1++z.1,z.2)) >>= _)=((toD r >>= λy=>dG gt gts ge ds e >>= λys=>.ok (y::ys)) >>= _)
      cases toD r with
      | bad=>rfl
      | exc z=>rfl
      | ok y=>
       have ih:=uN gt gts ge ds e λys=>k (y::ys)
       show ((cD gt gts (gX ge) ds e >>= λz=>.ok ([y]++z.1,z.2)) >>= λr=>k r.1)=((dG gt gts ge ds e >>= λys=>M.ok (y::ys)) >>= k)
       have e1:((cD gt gts (gX ge) ds e >>= λz=>M.ok ([y]++z.1,z.2)) >>= λr=>k r.1)=(cD gt gts (gX ge) ds e >>= λr=>k (y::r.1)):=by cases cD gt gts (gX ge) ds e <;> rfl
       have e2:((dG gt gts ge ds e >>= λys=>M.ok (y::ys)) >>= k)=(dG gt gts ge ds e >>= λys=>k (y::ys)):=by cases dG gt gts ge ds e <;> rfl
       rw [e1,e2,ih]
theorem Jb (n:Nat) (cap:List Nat) (gi:G (List D)) (gt:GT) (gts:G Bool) (ge:G R):bN n cap gi gt gts ge=jj sizeLine n cap gi gt gts (gX ge) (λys=>.ok (.l .fresh ys)):=by
 funext env
 unfold bN jj
 cases gi env with
 | bad=>rfl
 | exc z=>rfl
 | ok ds=>
  show (if ds.length<=sizeLine then _ else _)=(if ds.length<=sizeLine then _ else _)
  by_cases c:ds.length<=sizeLine
  ·rw [if_pos c,if_pos c]
   exact (uN gt gts ge ds _ λys=>.ok (.l .fresh ys)).symm
  ·rw [if_neg c,if_neg c]
section
variable {X:Cx}{c:C}
theorem DO (own:List Str) (cap:List Nat){elt QY QZ:RX}{ifs:List RX}{QU:T7}{pos:Pos}{gi:G (List D)}{gt:GT}{gts:G Bool}{ge:G R}(hi:pA X c QY QZ gi)
  (hbody:∀(cl:List (Str×Rq)) (C:Rq) (s:Q_) (H:Hp) (fp:List Rq),bH X.env.cells QU.names []=some cl->jb (aZ X own cap QU cl C s H fp) c QY gt/\gU (aZ X own cap QU cl C s H fp) c ifs gts/\PD (aZ X own cap QU cl C s H fp) c elt ge)
  (hk:QU.kind=.function:=by rfl) (hno:fV X cap QU=true:=by rfl) (hnames:(QU.names.all λx=>!(x.2 == .local) || (QU.names.lookup x.1 == some .local))=true:=by rfl)
  (hcl:(bH X.env.cells QU.names []).isSome=true:=by rfl) (hcap:eK X cap=true:=by rfl) (hloc:eU X cap QU=true:=by rfl) (hnd:gp cap=true:=by rfl) (Pc:X.calm=true:=by rfl)
  (hs:∀x,Rx QZ X.env x=pure x:=by intro _;rfl)
  {QV:List (Rq×Obj)}{s:Q_}{σ:L2.St}{H:Hp}{Q:VK}{use:Option (Q8->Sem Unit)}{Q0:Q8->Q_->Prop}{pos':Pos}(I:Inv X QV σ H s) (h:tD c (bN own.length cap gi gt gts ge) σ H Q)
  (Pg:∀(acc C:Rq) (m:Str->Option Q8) (s':Q_) (H':Hp) (fl:Flow),s'.heap.Ns C m->((C∈X.ex\/X.s₀.heap.objs.size<=C)/\C≠X.env.locals/\(∀x c,X.env.cells.lookup x=some c->c≠C)/\∀p∈X.pn++QV,p.1≠C)->H' C=none->(∀h'',Sy C s'.heap h''->Inv X QV σ H' {s' with heap:=h''})->Q (.ref acc) H'->YU (RG X.prog X.w) X.A X.xe use Q0 (.ref acc) C (.ok fl) s'):
  RA (RG X.prog X.w) X.A (comprehension (.ListComp elt [⟨QY,QZ,ifs,0⟩] QU pos) QU X.env pos' (newList []) false (eval QZ X.env) use) Q0 X.xe s:=by
 rw [Jb] at h
 refine nP (e:=.ListComp elt [⟨QY,QZ,ifs,0⟩] QU pos) (ob:={cls:=.type "list",dict:=none,data:=.seq ([]:List Q8).toArray}) (o0:=λ_=>.lst []) (Acc:=BX c) (N:=1) (lim:=sizeLine) (m:=λp env=>do let _ <-call (.builtin "list.append") [.ref p,<-eval elt env]) own cap rfl hi
  (λs Q E q=>R8 q) (λh H=>⟨RL _,[],0,.nil,Rn _ rfl⟩) (λp=>rC) (λp J H _ h1 h2=>⟨[],h1,h2,.nil⟩) (by rw [Nat.mul_one];exact Rj _) (λit p env=>Cp (compTurn_list ..)) (λit acc env R s h0 h=>XD h0 h) (λys z q=>by cases q)
  (fun {p J H J' H' ys r} hp e ⟨us,h1,h2,h3⟩ q=>by cases q;exact ⟨J',e,⟨p,us,rfl,h1,h2,hp,h3⟩⟩) (λcl C s H fp hcc=>?_) hk hno hnames hcl hcap hloc hnd Pc hs I h Pg
 obtain ⟨b1,b2,b3⟩:=hbody cl C s H fp hcc
 exact ⟨b1,b2,λp J2 H2 hp2 hp0=>AU (λ_ _ f=>f) hp2 hp0 b3⟩
theorem GG (own:List Str) (cap:List Nat){elt QY QZ:RX}{ifs:List RX}{QU:T7}{pos:Pos}{gi:G (List D)}{gt:GT}{gts:G Bool}{ge:G R}(hi:pA X c QY QZ gi)
  (hbody:∀(cl:List (Str×Rq)) (C:Rq) (s:Q_) (H:Hp) (fp:List Rq),bH X.env.cells QU.names []=some cl->jb (aZ X own cap QU cl C s H fp) c QY gt/\gU (aZ X own cap QU cl C s H fp) c ifs gts/\PD (aZ X own cap QU cl C s H fp) c elt ge)
  (hk:QU.kind=.function:=by rfl) (hno:fV X cap QU=true:=by rfl) (hnames:(QU.names.all λx=>!(x.2 == .local) || (QU.names.lookup x.1 == some .local))=true:=by rfl)
  (hcl:(bH X.env.cells QU.names []).isSome=true:=by rfl) (hcap:eK X cap=true:=by rfl) (hloc:eU X cap QU=true:=by rfl) (hnd:gp cap=true:=by rfl) (Pc:X.calm=true:=by rfl)
  (hs:∀x,Rx QZ X.env x=pure x:=by intro _;rfl):PD X c (.ListComp elt [⟨QY,QZ,ifs,0⟩] QU pos) (bN own.length cap gi gt gts ge):=by
 intro QV s σ H Q I h
 rw [aa4]
 exact DO own cap hi hbody hk hno hnames hcl hcap hloc hnd Pc hs I h λacc C m s' H' fl hm hz hf hb q=>⟨m,hm,λh'' sb=>⟨.ref acc,H',hb h'' sb,rfl,q⟩⟩
theorem GC (i:Nat) (own:List Str) (cap:List Nat){elt QY QZ:RX}{ifs:List RX}{QU:T7}{pos pos' pos2:Pos}{x:Str}{gi:G (List D)}{gt:GT}{gts:G Bool}{ge:G R}(hN:X.N.Nodup) (hi:pA X c QY QZ gi)
  (hbody:∀(cl:List (Str×Rq)) (C:Rq) (s:Q_) (H:Hp) (fp:List Rq),bH X.env.cells QU.names []=some cl->jb (aZ X own cap QU cl C s H fp) c QY gt/\gU (aZ X own cap QU cl C s H fp) c ifs gts/\PD (aZ X own cap QU cl C s H fp) c elt ge)
  (hk:QU.kind=.function:=by rfl) (hno:fV X cap QU=true:=by rfl) (hnames:(QU.names.all λx=>!(x.2 == .local) || (QU.names.lookup x.1 == some .local))=true:=by rfl)
  (hcl:(bH X.env.cells QU.names []).isSome=true:=by rfl) (hcap:eK X cap=true:=by rfl) (hloc:eU X cap QU=true:=by rfl) (hnd:gp cap=true:=by rfl) (Pc:X.calm=true:=by rfl)
  (hs:∀x,Rx QZ X.env x=pure x:=by intro _;rfl) (hx:X.N[i]?=some x:=by rfl) (Po:X.env.scope.names.lookup x=some .local:=by rfl)
  (hsw:US (.ListComp elt [⟨QY,QZ,ifs,0⟩] QU pos) (some (.Name x pos')) pos2.line X.env=pure true:=by rfl):AO X c (.Assign [.Name x pos'] (.ListComp elt [⟨QY,QZ,ifs,0⟩] QU pos) pos2) (aN i (bN own.length cap gi gt gts ge)):=by
 intro QV s σ H D I ⟨J,env,sr,w⟩
 rw [X5]
 refine Q6 (S8 ?_)
 rw [show Vq [.Name x pos'] (.ListComp elt [⟨QY,QZ,ifs,0⟩] QU pos) pos2.line X.env=pure true from hsw]
 refine Q6 (Q9 ?_)
 rw [if_pos rfl,W8]
 refine Q6 (Q6 (DO own cap hi hbody hk hno hnames hcl hcap hloc hnd Pc hs (Q:=λv H1=>∃J1 r xx,Ext J H J1 H1/\RR c H J1 H1 r v/\toS r=.ok xx/\oP c J D (.nx (env.set i (some xx)))) I ⟨J,env,sr,aG (aM w) λr wr v J1 H1 e1 r1=>?_⟩ λacc C m s' H' fl hm ap hf hb ⟨J1,r,xx,e1,r1,q1,w1⟩=>?_))
 ·obtain ⟨xx,q,wr⟩:=nL wr
  exact ⟨J1,r,xx,e1,r1,q,wr⟩
 ·have I1:L2.Inv X QV σ H' s':=hb s'.heap (W9 ..)
  show RA _ _ (do Uz pos';abS X.env x (.ref acc)) _ _ _
  refine Q6 (S8 (Yo ?_))
  refine lY I1 hN hx (.inl Po) (v:=.ref acc) (u:=.ref acc) rfl (λs2 I2 ⟨a,sb,ha⟩=>?_) (.inr Po)
  have hac:C≠a:=λz=>by
   rcases ha with e | e
   ·exact ap.2.1 (z.trans e)
   ·exact ap.2.2.1 _ _ e z.symm
  refine ⟨m,hm.sameBut sb hac,λh2 sb2=>?_⟩
  refine Q9 (Q9 ⟨σ.set i (some (.ref acc)),H',pV I2 ap hf sb2 (o0:=default),?_⟩)
  exact w1 _ J1 H' e1.j (sr.set e1 r1 q1)
theorem bL (own:List Str) (cap:List Nat){elt QY QZ:RX}{ifs:List RX}{QU:T7}{pos:Pos}{gi:G (List D)}{gt:GT}{gts:G Bool}{ge:G R}(hi:qS X c QY QZ gi)
  (hbody:∀(cl:List (Str×Rq)) (C:Rq) (s:Q_) (H:Hp) (fp:List Rq),bH X.env.cells QU.names []=some cl->kP (aZ X own cap QU cl C s H fp) c QY gt/\jZ (aZ X own cap QU cl C s H fp) c ifs gts/\QD (aZ X own cap QU cl C s H fp) c elt ge)
  (hk:QU.kind=.function:=by rfl) (hno:fV X cap QU=true:=by rfl) (hnames:(QU.names.all λx=>!(x.2 == .local) || (QU.names.lookup x.1 == some .local))=true:=by rfl)
  (hcl:(bH X.env.cells QU.names []).isSome=true:=by rfl) (hcap:eK X cap=true:=by rfl) (hloc:eU X cap QU=true:=by rfl) (hnd:gp cap=true:=by rfl) (Pc:X.calm=true:=by rfl)
  (hs:∀x,Rx QZ X.env x=pure x:=by intro _;rfl):QD X c (.ListComp elt [⟨QY,QZ,ifs,0⟩] QU pos) (bN own.length cap gi gt gts ge):=
 ⟨GG own cap hi.h (λcl C s H fp hc=>let ⟨a,b,d⟩:=hbody cl C s H fp hc;⟨a.h,b.h,d.h⟩) hk hno hnames hcl hcap hloc hnd Pc hs⟩
theorem jV (i:Nat) (own:List Str) (cap:List Nat){elt QY QZ:RX}{ifs:List RX}{QU:T7}{pos pos' pos2:Pos}{x:Str}{gi:G (List D)}{gt:GT}{gts:G Bool}{ge:G R}(hN:X.N.Nodup) (hi:qS X c QY QZ gi)
  (hbody:∀(cl:List (Str×Rq)) (C:Rq) (s:Q_) (H:Hp) (fp:List Rq),bH X.env.cells QU.names []=some cl->kP (aZ X own cap QU cl C s H fp) c QY gt/\jZ (aZ X own cap QU cl C s H fp) c ifs gts/\QD (aZ X own cap QU cl C s H fp) c elt ge)
  (hk:QU.kind=.function:=by rfl) (hno:fV X cap QU=true:=by rfl) (hnames:(QU.names.all λx=>!(x.2 == .local) || (QU.names.lookup x.1 == some .local))=true:=by rfl)
  (hcl:(bH X.env.cells QU.names []).isSome=true:=by rfl) (hcap:eK X cap=true:=by rfl) (hloc:eU X cap QU=true:=by rfl) (hnd:gp cap=true:=by rfl) (Pc:X.calm=true:=by rfl)
  (hs:∀x,Rx QZ X.env x=pure x:=by intro _;rfl) (hx:X.N[i]?=some x:=by rfl) (Po:X.env.scope.names.lookup x=some .local:=by rfl)
  (hsw:US (.ListComp elt [⟨QY,QZ,ifs,0⟩] QU pos) (some (.Name x pos')) pos2.line X.env=pure true:=by rfl):jc X c (.Assign [.Name x pos'] (.ListComp elt [⟨QY,QZ,ifs,0⟩] QU pos) pos2) (aN i (bN own.length cap gi gt gts ge)):=
 ⟨GC i own cap hN hi.h (λcl C s H fp hc=>let ⟨a,b,d⟩:=hbody cl C s H fp hc;⟨a.h,b.h,d.h⟩) hk hno hnames hcl hcap hloc hnd Pc hs hx Po hsw⟩
end
end DL
namespace K23
open PySem DL
def BN:List Str:=["world","many","marks","arrows"]
noncomputable def tw:G O:=(aC (uQ (iG 3 (dB (aB 1) (dB (aB 2) (dB (aB 3) jw)))) (af 0))
 (aO (bP (ay (gN dW (ao (bN 2 [] (gj (af 2)) (iG 2 (dB (aB 0) (dB (aB 1) jw))) cR (af 0)) av)) (ay (gN dW (ao (bN 2 [] (gj (af 3)) (iG 2 (dB (aB 0) (dB (aB 1) jw))) cR (af 0)) av)) aK)))))
def i_ (as:List S):M R:=fin (tw (aI BN as))
def yd:List Str:=["one","other"]
def pP:G O:=(aY (aT (g2 (cY true) (gN (aE 1 K23.i_) (ao (af 0) av)) (gN (aE 1 K23.i_) (ao (af 1) av)))) xH bF)
def i9 (as:List S):M R:=fin (pP (aI yd as))
def rz:List Str:=["worlds","world"]
def kY:G O:=(eV (kW (af 0)) (aB 1) (aY (aT (g2 (cj λi j=>.bl (decide (j < i))) (g2 bE (af 1) (gC (.int 0))) (gC (.int 4)))) xH bF))
def gF (as:List S):M R:=fin (kY (aI rz as))
def Ai:List Str:=["one","other"]
noncomputable def qX:G O:=(aC (jk (gN (aE 2 K23.i9) (ao (af 0) (ao (af 1) av))))
 (jk (gN (aE 1 K23.gF) (ao (bP (ay (af 0) (ay (af 1) aK))) av))))
def fB (as:List S):M R:=fin (qX (aI Ai as))
def IB:List Str:=["pairs"]
noncomputable def A8:G O:=(aC (aY (aT (g2 (sQ false) (af 0) (gC .non))) (aO (bP aK)) bF)
 (aO (gN dW (ao (gN pJ (ao (af 0) av)) av))))
def qv (as:List S):M R:=fin (A8 (aI IB as))
def M9:List Str:=["world","one","other","many","marks","arrows","bearing","leading"]
noncomputable def HN:G O:=(aC (uQ (iG 3 (dB (aB 3) (dB (aB 4) (dB (aB 5) jw)))) (af 0))
 (aC (aN 6 (gN dW (ao (bN 2 [1] (gj (af 4)) (iG 2 (dB (aB 0) (dB (aB 1) jw))) cR (g2 (gg false) (af 2) (af 1))) av)))
 (aC (aN 7 (gN dW (ao (bN 2 [1,2] (gj (af 5)) (iG 2 (dB (aB 0) (dB (aB 1) jw))) cR (g2 (gg false) (bP (ay (af 2) (ay (af 3) aK))) (af 1))) av)))
 (aO (bP (ay (g2 (cY false) (af 1) (af 2)) (ay (af 6) (ay (af 7) aK))))))))
def xw (as:List S):M R:=fin (HN (aI M9 as))
def KR:List Str:=["world"]
noncomputable def D6:G O:=(aO (kI 2 [0] (bS (ao (g2 bE (af 0) (gC (.int 0))) av)) (aB 0) cR (bS (ao (g2 bE (af 2) (gC (.int 0))) av)) (aB 1) cR (bP (ay (af 0) (ay (af 1) aK))) (gN (aE 3 K23.xw) (ao (af 2) (ao (af 0) (ao (af 1) av))))))
def pg (as:List S):M R:=fin (D6 (aI KR as))
def KQ:List Str:=["first","second","pair","again"]
noncomputable def D4:G O:=(aO (g2 (cY false) (g2 ir (af 0) (bP (ay (g2 bE (af 2) (gC (.int 0))) (ay (g2 bE (af 3) (gC (.int 0))) aK)))) (g2 ir (af 1) (bP (ay (g2 bE (af 2) (gC (.int 1))) (ay (g2 bE (af 3) (gC (.int 1))) aK))))))
def fT (as:List S):M R:=fin (D4 (aI KQ as))
def yc:List Str:=["first","second","pairing","pair","again"]
noncomputable def pO:G O:=(aC (aY (bK (Cg (af 2)) (aT (g2 yR (af 3) (g2 bE (af 2) (FY (gC (.int 1))))))) (aO (gC (.bl false))) bF)
 (aC (eV (kW (af 2)) (aB 4) (aY (bU (bB (aT (gN (aE 4 K23.fT) (ao (af 0) (ao (af 1) (ao (af 3) (ao (af 4) av))))))) (bB (aT (gN (aE 4 K23.fT) (ao (af 0) (ao (af 1) (ao (af 4) (ao (af 3) av)))))))) (aO (gC (.bl false))) bF))
 (aO (gC (.bl true)))))
def i8 (as:List S):M R:=fin (pO (aI yc as))
def Dj:List Str:=["one","other","most","first","second","pairs","longest","told","step"]
noncomputable def vP:G O:=(aC (jk (gN (aE 2 K23.fB) (ao (af 0) (ao (af 1) av))))
 (aC (jk (gN (aE 3 K55.eH) (ao (af 2) (ao (gC (.int 0)) (ao (gC (.int 4)) av)))))
 (aC (aN 3 (gN (aE 1 K23.pg) (ao (af 0) av)))
 (aC (aN 4 (gN (aE 1 K23.pg) (ao (af 1) av)))
 (aC (aN 5 (jQ 2 [1,3,4] (bS (ao (g2 bE (af 0) (gC (.int 0))) av)) (aB 0) cR (bS (ao (g2 bE (af 2) (gC (.int 0))) av)) (aB 1) (aT (gN (aE 4 K23.fT) (ao (af 3) (ao (af 4) (ao (bP (ay (af 0) (ay (af 1) aK))) (ao (bP (ay (af 0) (ay (af 1) aK))) av)))))) (bP (ay (af 0) (ay (af 1) aK)))))
 (aC (j4 5 (aN 6 (gm (ay (bP aK) aK))))
 (aC (aN 7 (gm (ay (bP aK) aK)))
 (aC (eV (bS (ao (af 2) av)) (aB 8) (aC (j4 5 (aN 6 (jQ 2 [5,3,4] (gj (af 6)) (aB 0) cR (kW (af 2)) (aB 1) (aT (gN (aE 4 K23.i8) (ao (af 3) (ao (af 4) (ao (af 0) (ao (af 1) av)))))) (g2 sN (af 0) (bP (ay (af 1) aK))))))
 (yT 7 (af 6))))
 (aO (af 7))))))))))
def lK (as:List S):M R:=fin (vP (aI Dj as))
end K23
namespace K23
open PySem DL K01 WP K51 K52 K55
section
variable {α β:Type}
theorem qy {gts:G Bool}{act:Ev->M (List D×Ev)}{h':β->D}{a0:Option S}{rest:Ev}(p:β->Bool) (f:β->D):∀(ys:List β),(∀y∈ys,gts (a0::some (.d (h' y))::rest)=.ok (p y)/\(p y=true->act (a0::some (.d (h' y))::rest)=.ok ([f y],a0::some (.d (h' y))::rest)))->
  ∀z:Option S,∃z',cD (aB 1) gts act (ys.map h') (a0::z::rest)=.ok ((ys.filter p).map f,a0::z'::rest)
 | [],_,z=>⟨z,rfl⟩
 | y::ys,H,z=>by
  obtain ⟨h1,h2⟩:=H y Rf
  obtain ⟨z',ih⟩:=qy p f ys (λy hy=>H y (Rb _ hy)) (some (.d (h' y)))
  refine ⟨z',?_⟩
  rw [Rv]
  unfold cD
  show (gts (a0::some (.d (h' y))::rest) >>= λk=>if k=true then act (a0::some (.d (h' y))::rest) >>= λr=>cD (aB 1) gts act (ys.map h') r.2 >>= λz=>.ok (r.1++z.1,z.2) else cD (aB 1) gts act (ys.map h') (a0::some (.d (h' y))::rest))=_
  rw [h1,aL]
  cases q:p y with
  | true=>
   rw [if_pos rfl,h2 q,aL]
   show (cD (aB 1) gts act (ys.map h') (a0::some (.d (h' y))::rest) >>= _)=_
   rw [ih,aL,VA q]
   rfl
  | false=>
   rw [if_neg (by decide),ih,Xj (by simp [q])]
theorem DH {gi1:G (List D)}{gts:G Bool}{act:Ev->M (List D×Ev)}{h:α->D}{h':β->D}{rest:Ev}(ys:α->List β) (p:α->β->Bool) (f:α->β->D):∀(xs:List α),(∀x∈xs,(ys x).length<=1000/\(∀z:Option S,gi1 (some (.d (h x))::z::rest)=.ok ((ys x).map h'))/\∀y∈ys x,gts (some (.d (h x))::some (.d (h' y))::rest)=.ok (p x y)/\(p x y=true->act (some (.d (h x))::some (.d (h' y))::rest)=.ok ([f x y],some (.d (h x))::some (.d (h' y))::rest)))->
  ∀z0 z:Option S,∃z0' z',cD (aB 0) cR (jf gi1 (aB 1) gts act) (xs.map h) (z0::z::rest)=.ok (xs.flatMap λx=>((ys x).filter (p x)).map (f x),z0'::z'::rest)
 | [],_,z0,z=>⟨z0,z,rfl⟩
 | x::xs,H,z0,z=>by
  obtain ⟨h1,h2,h3⟩:=H x Rf
  obtain ⟨z1,e1⟩:=qy (a0:=some (.d (h x))) (p x) (f x) (ys x) h3 z
  obtain ⟨z0',z',ih⟩:=DH ys p f xs (λy hy=>H y (Rb _ hy)) (some (.d (h x))) z1
  refine ⟨z0',z',?_⟩
  rw [Rv]
  unfold cD
  show (jf gi1 (aB 1) gts act (some (.d (h x))::z::rest) >>= _)=_
  unfold jf
  rw [h2 z,aL,if_pos (by rw [Rh];exact h1),e1,aL]
  show (cD (aB 0) cR (jf gi1 (aB 1) gts act) (xs.map h) (some (.d (h x))::z1::rest) >>= _)=_
  rw [ih]
  rfl
theorem xC {env:Ev}{cap:List Nat}{gi0 gi1:G (List D)}{gts:G Bool}{act:Ev->M (List D×Ev)}{fin:List D->M R}{h:α->D}{h':β->D}{xs:List α}(ys:α->List β) (p:α->β->Bool) (f:α->β->D) (hi:gi0 env=.ok (xs.map h)) (hl:xs.length<=10000)
  (H:∀x∈xs,(ys x).length<=1000/\(∀z:Option S,gi1 (some (.d (h x))::z::cE 0 cap env)=.ok ((ys x).map h'))/\∀y∈ys x,gts (some (.d (h x))::some (.d (h' y))::cE 0 cap env)=.ok (p x y)/\(p x y=true->act (some (.d (h x))::some (.d (h' y))::cE 0 cap env)=.ok ([f x y],some (.d (h x))::some (.d (h' y))::cE 0 cap env))):
  jj 10000 2 cap gi0 (aB 0) cR (jf gi1 (aB 1) gts act) fin env=fin (xs.flatMap λx=>((ys x).filter (p x)).map (f x)):=by
 unfold jj
 rw [hi,aL,if_pos (by rw [Rh];exact hl)]
 obtain ⟨z0',z',e⟩:=DH ys p f xs H none none
 show (cD (aB 0) cR (jf gi1 (aB 1) gts act) (xs.map h) (none::none::cE 0 cap env) >>= _)=_
 rw [e]
 rfl
theorem AS {ge:G R}{env:Ev}{r:R}{d:D}(h:ge env=.ok r) (h2:toD r=.ok d):gX ge env=.ok ([d],env):=by
 unfold gX
 rw [h,aL,h2]
 rfl
theorem uD {gk gv:G R}{env:Ev}{r r2:R}{k d:D}(h:gk env=.ok r) (h2:toD r=.ok k) (h3:gv env=.ok r2) (h4:toD r2=.ok d) (ok:ff k=true):rD gk gv env=.ok ([.tup [k,d]],env):=by
 unfold rD
 rw [h,aL,h2,aL,h3,aL,h4,aL,if_pos ok]
end
noncomputable def fM (u:Wd) (a c:Nat):D:=.tup [.bl (bz (dN a) (dN c)),.tup (u.ms.map λr=>.bl (inD (dN a) (r.2.map dN))),.tup (u.ar.map λr=>.bl (inD (dP (a,c)) (r.2.map dP)))]
theorem KJ (u:Wd) (hu:Dm u) (a c:Nat):xw [.d u.d,.d (dN a),.d (dN c)]=.ok (.d (fM u a c)):=by
 have ml:=hu.ml
 have al:=hu.al
 refine cV (Ii rfl rfl rfl ?_)
 refine cH (n1 (qz (xs:=u.ms) (λr=>.str r.1) (λr=>.tup (r.2.map dN)) (λr=>.bl (inD (dN a) (r.2.map dN))) rfl (by omega) λr _=>⟨_,two rfl rfl (Gb a r.2),rfl⟩) rfl) rfl ?_
 refine cH (n1 (qz (xs:=u.ar) (λr=>.str r.1) (λr=>.tup (r.2.map dP)) (λr=>.bl (inD (dP (a,c)) (r.2.map dP))) rfl (by omega) λr _=>⟨_,two (cI (bf rfl rfl (bf rfl rfl bQ)) t2) rfl (Ln (a,c) r.2),rfl⟩) rfl) rfl ?_
 exact dg (cI (bf rfl rfl (bf rfl rfl (bf rfl rfl bQ))) (by show 3<=1000;decide)) rfl rfl
def fq (m n:Nat):List (Nat×Nat):=(Ra m).flatMap λa=>(Ra n).map λb=>(a,b)
theorem om {m n:Nat}{p:Nat×Nat}:p∈fq m n↔p.1 < m/\p.2 < n:=by
 unfold fq
 simp only [Wa,Rk,Rg]
 constructor
 ·rintro ⟨a,ha,b,hb,rfl⟩;exact ⟨ha,hb⟩
 ·rintro ⟨h1,h2⟩;exact ⟨p.1,h1,p.2,h2,rfl⟩
theorem ow (m n:Nat):(fq m n).Nodup:=by
 unfold fq
 refine V3.mpr ⟨λa _=>R3.mpr (W7 (λh e=>h (by cases e;rfl)) (Tj (n:=n))),?_⟩
 refine W7 ?_ (Tj (n:=m))
 intro a b hab p h1 q h2 e
 subst e
 obtain ⟨x,_,rfl⟩:=Rg.mp h1
 obtain ⟨y,_,e⟩:=Rg.mp h2
 cases e
 exact hab rfl
theorem Gn (m n:Nat):(fq m n).length=m * n:=by
 induction m with
 | zero=>simp [fq]
 | succ m ih=>
  unfold fq at ih ⊢
  rw [T5,List.flatMap_append,RI,ih,Z4]
  simp
theorem Jq {ks vs:List D}{k:D}(h:∀x∈ks,bz x k=false):ic ks vs k=none:=by
 induction ks generalizing vs with
 | nil=>cases vs <;> rfl
 | cons x ks ih=>
  cases vs with
  | nil=>rfl
  | cons v vs=>
   unfold ic
   rw [h x Rf,if_neg (by decide)]
   exact ih λy hy=>h y (Rb _ hy)
theorem vG (f:Nat×Nat->D):∀(n:Nat) (ps:List (Nat×Nat)),ps.length=n->ps.Nodup->iQ (ps.map λp=>D.tup [dP p,f p])=(ps.map dP,ps.map f)
 | 0,ps,h,_=>by
  have:=UD.mp h
  subst this
  rfl
 | n + 1,ps,h,nd=>by
  rcases Uc ps with rfl | ⟨qs,p,rfl⟩
  ·cases h
  ·rw [Ud] at h nd ⊢
   have nd':=VN.mp nd
   have ih:=vG f n qs (by simpa using h) nd'.1
   have hn:ic (qs.map dP) (qs.map f) (dP p)=none:=Jq λx hx=>by
    obtain ⟨q,hq,rfl⟩:=Rg.mp hx
    rw [vI,decide_eq_false_iff_not]
    rintro rfl
    exact nd'.2.2 q hq q Rf rfl
   rw [RM,List.map_singleton,nQ,ih]
   unfold dput
   rw [hn]
   simp
abbrev ie (u:Wd):List D:=(fq u.m u.m).map dP
abbrev ig (u:Wd):List D:=(fq u.m u.m).map λp=>fM u p.1 p.2
theorem AM (u:Wd) (hu:Dm u):pg [.d u.d]=.ok (.d (.dct (ie u) (ig u))):=by
 have hi:=hu.hi
 refine cV (dg (r:=.d (.dct (ie u) (ig u))) ?_ rfl rfl)
 refine (xC (xs:=Ra u.m) (h:=dN) (h':=dN) (λ_=>Ra u.m) (λ_ _=>true) (λa b=>.tup [dP (a,b),fM u a b]) ?_ (by simp;omega) λa _=>⟨by simp;omega,λz=>?_,λb _=>⟨rfl,λ_=>uD (cI (bf rfl rfl (bf rfl rfl bQ)) t2) rfl (c3 rfl rfl rfl (KJ u hu a b)) rfl rfl⟩⟩).trans ?_
 ·exact iz (bW (two rfl rfl (cu _ _))) (by omega)
 ·exact iz (bW (two rfl rfl (cu _ _))) (by omega)
 ·have ef:(Ra u.m).filter (λ_=>true)=Ra u.m:=Wv.mpr λ_ _=>rfl
  have e:((Ra u.m).flatMap λa=>((Ra u.m).filter λ_=>true).map λb=>D.tup [dP (a,b),fM u a b])=(fq u.m u.m).map λp=>D.tup [dP p,fM u p.1 p.2]:=by
   rw [ef]
   unfold fq
   rw [Wb]
   simp [RT,VP]
  rw [e]
  have h:=vG (λp=>fM u p.1 p.2) _ (fq u.m u.m) rfl (ow _ _)
  show M.ok (R.d (.dct (iQ ((fq u.m u.m).map λp=>D.tup [dP p,fM u p.1 p.2])).1 (iQ ((fq u.m u.m).map λp=>D.tup [dP p,fM u p.1 p.2])).2))=_
  rw [h]
theorem Bd (u:Wd):∀(ps:List (Nat×Nat)) (p:Nat×Nat),p∈ps->ic (ps.map dP) (ps.map λp=>fM u p.1 p.2) (dP p)=some (fM u p.1 p.2)
 | q::ps,p,h=>by
  rw [Rv,Rv]
  unfold ic
  by_cases c:q=p
  ·subst c
   rw [if_pos (by rw [vI];simp)]
  ·rw [if_neg (by rw [vI];simpa using c)]
   rcases Rt.mp h with e | e
   ·exact absurd e.symm c
   ·exact Bd u ps p e
theorem yM (u:Wd) (a c:Nat) (ha:a < u.m) (hc:c < u.m):ir (.d (.dct (ie u) (ig u))) (.d (dP (a,c)))=.ok (.d (fM u a c)):=by
 show (if ff (dP (a,c))=true then (match ic (ie u) (ig u) (dP (a,c)) with
  | some d=>M.ok (R.d d)
  | none=>.bad) else .bad)=_
 rw [if_pos (show ff (dP (a,c))=true from rfl),Bd u (fq u.m u.m) (a,c) (om.mpr ⟨ha,hc⟩)]
theorem Ab (u:Wd) (a c:Nat):dep (fM u a c)<=60:=by
 have h1:deps (u.ms.map λr=>D.bl (inD (dN a) (r.2.map dN)))<=0:=dQ λx hx=>by obtain ⟨r,_,rfl⟩:=Rg.mp hx;exact RL _
 have h2:deps (u.ar.map λr=>D.bl (inD (dP (a,c)) (r.2.map dP)))<=0:=dQ λx hx=>by obtain ⟨r,_,rfl⟩:=Rg.mp hx;exact RL _
 unfold fM
 simp only [dep,deps]
 omega
def jz (v w:Wd) (p q:Nat×Nat):Bool:=bz (fM v p.1 q.1) (fM w p.2 q.2)
def qQ (v w:Wd) (p:Nat×Nat):Prop:=p.1 < v.m/\p.2 < w.m
theorem uu (v w:Wd) (p q:Nat×Nat) (hp:qQ v w p) (hq:qQ v w q):fT [.d (.dct (ie v) (ig v)),.d (.dct (ie w) (ig w)),.d (dP p),.d (dP q)]=.ok (.d (.bl (jz v w p q))):=by
 refine cV (dg (two (x:=.d (fM v p.1 q.1)) (y:=.d (fM w p.2 q.2)) (two rfl (cI (bf (two rfl rfl (cu _ _)) rfl (bf (two rfl rfl (cu _ _)) rfl bQ)) t2) (yM v p.1 q.1 hp.1 hq.1)) (two rfl (cI (bf (two rfl rfl (cW _ _ _)) rfl (bf (two rfl rfl (cW _ _ _)) rfl bQ)) t2) (yM w p.2 q.2 hp.2 hq.2)) (qC _ _ _ (Ab v p.1 q.1) (Ab w p.2 q.2))) rfl rfl)
def q9 (p q:Nat×Nat):Bool:=lexLe [p.1,p.2] [q.1,q.2]
theorem OX (p q:Nat×Nat):yR (.d (dP p)) (.d (dP q))=.ok (.d (.bl (q9 p q))):=rfl
noncomputable def gb (v w:Wd) (ps:List (Nat×Nat)) (q:Nat×Nat):Bool:=(match ps.getLast? with
 | some l=>!q9 q l
 | none=>true) && ps.all λr=>jz v w q r && jz v w r q
theorem zZ {env:Ev}{g:G R}{b:Bool}(h:g env=.ok (.d (.bl b))):aT g env=.ok b:=by
 show (g env >>= _)=_
 rw [h]
 rfl
theorem mR {env:Ev}{g:G R}{b:Bool}(h:g env=.ok (cF (.d (.bl b)))):aT g env=.ok b:=zZ h
theorem cL {env:Ev}{f:R->R->M R}{g h:G R}{x y:R}{b:Bool}(hx:g env=.ok x) (hy:h env=.ok y) (hf:f x y=.ok (.d (.bl b))):aT (g2 f g h) env=.ok b:=zZ (two hx hy hf)
theorem kB {env:Ev}{g:G Bool}{b:Bool}(h:g env=.ok b):bB g env=.ok (!b):=by
 show (g env >>= _)=_
 rw [h]
 rfl
theorem sG {env:Ev}{a b:G Bool}(h:a env=.ok false):bK a b env=.ok false:=by
 unfold bK
 rw [h]
 rfl
theorem qx {env:Ev}{a b:G Bool}{k:Bool}(h:a env=.ok true) (h2:b env=.ok k):bK a b env=.ok k:=by
 unfold bK
 rw [h]
 exact h2
theorem L6 {env:Ev}{a b:G Bool}{x y:Bool}(h:a env=.ok (!x)) (h2:b env=.ok (!y)):bU a b env=.ok (!(x && y)):=by
 unfold bU
 rw [h]
 cases x with
 | true=>exact h2
 | false=>rfl
theorem Ob (v w:Wd) (ps:List (Nat×Nat)) (q:Nat×Nat) (hp:∀p∈ps,qQ v w p) (hq:qQ v w q):i8 [.d (.dct (ie v) (ig v)),.d (.dct (ie w) (ig w)),.d (.tup (ps.map dP)),.d (dP q)]=.ok (.d (.bl (gb v w ps q))):=by
 have loop:(match ps.getLast? with
   | some l=>!q9 q l
   | none=>true)=true->Wp (aC (eV (kW (af 2)) (aB 4) (aY (bU (bB (aT (gN (aE 4 K23.fT) (ao (af 0) (ao (af 1) (ao (af 3) (ao (af 4) av))))))) (bB (aT (gN (aE 4 K23.fT) (ao (af 0) (ao (af 1) (ao (af 4) (ao (af 3) av)))))))) (aO (gC (.bl false))) bF))
 (aO (gC (.bl true))) [some (.d (.dct (ie v) (ig v))),some (.d (.dct (ie w) (ig w))),some (.d (.tup (ps.map dP))),some (.d (dP q)),none]) (·=.rt (.d (.bl (gb v w ps q)))):=by
  intro hl
  refine lW (ds:=ps.map dP) rfl ?_
  have key:∀(rs:List (Nat×Nat)),(∀p∈rs,qQ v w p)->∀x:Option S,Wp (e_ (aB 4) (aY (bU (bB (aT (gN (aE 4 K23.fT) (ao (af 0) (ao (af 1) (ao (af 3) (ao (af 4) av))))))) (bB (aT (gN (aE 4 K23.fT) (ao (af 0) (ao (af 1) (ao (af 4) (ao (af 3) av)))))))) (aO (gC (.bl false))) bF) (rs.map dP) [some (.d (.dct (ie v) (ig v))),some (.d (.dct (ie w) (ig w))),some (.d (.tup (ps.map dP))),some (.d (dP q)),x])
    (λo=>((∃e,o=.nx e)/\(rs.all λr=>jz v w q r && jz v w r q)=true)\/(o=.rt (.d (.bl false))/\(rs.all λr=>jz v w q r && jz v w r q)=false)):=by
   intro rs
   induction rs with
   | nil=>intro _ x;exact ⟨_,rfl,.inl ⟨⟨_,rfl⟩,rfl⟩⟩
   | cons r rs ih=>
    intro hr x
    have h1:=uu v w q r hq (hr r Rf)
    have h2:=uu v w r q (hr r Rf) hq
    have ht:(bU (bB (aT (gN (aE 4 K23.fT) (ao (af 0) (ao (af 1) (ao (af 3) (ao (af 4) av))))))) (bB (aT (gN (aE 4 K23.fT) (ao (af 0) (ao (af 1) (ao (af 4) (ao (af 3) av)))))))) [some (.d (.dct (ie v) (ig v))),some (.d (.dct (ie w) (ig w))),some (.d (.tup (ps.map dP))),some (.d (dP q)),some (.d (dP r))]=.ok (!(jz v w q r && jz v w r q)):=L6 (kB (mR (c4 rfl rfl rfl rfl h1))) (kB (mR (c4 rfl rfl rfl rfl h2)))
    rw [Rv,UC]
    unfold e_
    show Wp ((aY _ _ _ [some (.d (.dct (ie v) (ig v))),some (.d (.dct (ie w) (ig w))),some (.d (.tup (ps.map dP))),some (.d (dP q)),some (.d (dP r))]) >>= _) _
    cases hc:(jz v w q r && jz v w r q) with
    | true=>
     rw [hc] at ht
     rw [jR ht]
     exact ih (λp hp=>hr p (Rb _ hp)) _
    | false=>
     rw [hc] at ht
     rw [nk ht]
     exact ⟨_,rfl,.inr ⟨rfl,rfl⟩⟩
  refine (key ps hp none).mono ?_
  rintro o (⟨⟨e,rfl⟩,h⟩ | ⟨rfl,h⟩)
  ·refine dg rfl rfl ?_
   unfold gb
   rw [hl,h]
   rfl
  ·show O.rt _=_
   unfold gb
   rw [h,UL]
 refine cV ?_
 cases q':ps.getLast? with
 | none=>
  have:ps=[]:=WS.mp q'
  subst this
  exact iD (sG rfl) (loop rfl)
 | some l=>
  obtain ⟨rs,rfl⟩:∃rs,ps=rs++[l]:=by
   rcases Uc ps with rfl | ⟨ys,y,rfl⟩
   ·cases q'
   ·rw [Ud] at q' ⊢
    rw [Yi] at q'
    cases q'
    exact ⟨ys,rfl⟩
  have hix:bE (.d (.tup ((rs++[l]).map dP))) (.d (.int (-1)))=.ok (.d (dP l)):=by rw [RM];exact Jh _ _
  have ht:bK (Cg (af 2)) (aT (g2 yR (af 3) (g2 bE (af 2) (FY (gC (.int 1)))))) [some (.d (.dct (ie v) (ig v))),some (.d (.dct (ie w) (ig w))),some (.d (.tup ((rs++[l]).map dP))),some (.d (dP q)),none]=.ok (q9 q l):=by
   refine qx ?_ (zZ (two rfl (two rfl rfl hix) (OX q l)))
   show M.ok (!((rs++[l]).map dP).isEmpty)=_
   simp
  cases hc:q9 q l with
  | true=>
   rw [hc] at ht
   refine fN (tK ht (dg rfl rfl ?_))
   show O.rt _=_
   unfold gb
   rw [q']
   simp [hc]
  | false=>
   rw [hc] at ht
   exact iD ht (loop (by rw [q'];simp [hc]))
section
variable {env:Ev}{Q:O->Prop}{g:G R}{t:G O}{r:R}{i:Nat}
theorem Np {xs ys:List D}(h0:env[i]?=some (some (.own xs))) (h:g env=.ok r) (h2:jg r=.ok ys) (hl:xs.length + ys.length<=16777216) (k:Q (.nx (env.set i (some (.own (xs++ys)))))):Wp (yT i g env) Q:=by
 refine ⟨_,?_,k⟩
 unfold yT
 rw [h0]
 show (g env >>= _)=_
 rw [h,aL,h2,aL,if_pos (by rw [Sh];exact hl)]
theorem LH (h:g env=.ok r) (k:Q (.nx env)):Wp (jk g env) Q:=⟨.nx env,by show (g env >>= _)=_;rw [h];rfl,k⟩
theorem M1 {d:D}(h:env[i]?=some (some (.d d))) (k:Wp (t env) Q):Wp (j4 i t env) Q:=by
 have:j4 i t env=t env:=by unfold j4;rw [h]
 rw [this];exact k
end
structure Pr (v w:Wd):Prop where
 vo:Dm v
 wo:Dm w
 v4:v.m<=4
 w4:w.m<=4
 mn:v.ms.map Ve=w.ms.map Ve
 an:v.ar.map Ve=w.ar.map Ve
def jM (u:Wd):D:=.tup [.tup ((u.ms.map Ve).map .str),.tup ((u.ar.map Ve).map .str)]
theorem nM (u:Wd) (hu:Dm u):i_ [.d u.d]=.ok (.d (jM u)):=by
 have ml:=hu.ml
 have al:=hu.al
 refine cV (Ii rfl rfl rfl (dg (cI (bf (n1 (qz (xs:=u.ms) (λr=>.str r.1) (λr=>.tup (r.2.map dN)) (λr=>.str r.1) rfl (by omega) λr _=>⟨_,rfl,rfl⟩) rfl) rfl (bf (n1 (qz (xs:=u.ar) (λr=>.str r.1) (λr=>.tup (r.2.map dP)) (λr=>.str r.1) rfl (by omega) λr _=>⟨_,rfl,rfl⟩) rfl) rfl bQ)) t2) rfl ?_))
 unfold jM
 rw [RT,RT]
 rfl
theorem Bv (u:Wd):dep (jM u)<=60:=by
 have h:∀ss:List Str,deps (ss.map D.str)<=0:=λss=>dQ λx hx=>by obtain ⟨r,_,rfl⟩:=Rg.mp hx;exact RL _
 have h1:=h (u.ms.map Ve)
 have h2:=h (u.ar.map Ve)
 unfold jM
 simp only [dep,deps]
 omega
theorem uv {v w:Wd}(t:Pr v w):fB [.d v.d,.d w.d]=.ok (.d .non):=by
 have ht:i9 [.d v.d,.d w.d]=.ok (.d .non):=by
  refine qo (oh (cL (b:=false) (c1 rfl (nM v t.vo)) (c1 rfl (nM w t.wo)) ?_) (jl ⟨_,rfl⟩))
  show cY true (.d (jM v)) (.d (jM w))=_
  rw [qC true (.d (jM v)) (.d (jM w)) (Bv v) (Bv w)]
  have e:jM v=jM w:=by unfold jM;rw [t.mn,t.an]
  show M.ok (R.d (.bl (!bz (jM v) (jM w))))=_
  rw [e,fF]
  rfl
 have hf:gF [.d (.tup [v.d,w.d])]=.ok (.d .non):=by
  have v4:=t.v4
  have w4:=t.w4
  have one:∀(u:Wd),u.m<=4->aT (g2 (cj λi j=>.bl (decide (j < i))) (g2 bE (af 1) (gC (.int 0))) (gC (.int 4))) [some (.d (.tup [v.d,w.d])),some (.d u.d)]=.ok false:=λu hu=>by
   refine cL (two rfl rfl (cu _ _)) rfl ?_
   show M.ok (R.d (.bl (decide ((4:Int) < (u.m:Int)))))=_
   rw [decide_eq_false (by omega)]
  refine qo (qE (ds:=[v.d,w.d]) rfl (qp (λk env=>∃x,env=[some (.d (.tup [v.d,w.d])),x]) [v.d,w.d] ⟨none,rfl⟩ ?_ λe _=>⟨e,rfl⟩))
  rintro k hk _ ⟨x,rfl⟩
  match k,hk with
  | 0,_=>exact ⟨_,rfl,oh (one v v4) (jl ⟨_,rfl,_,rfl⟩)⟩
  | 1,_=>exact ⟨_,rfl,oh (one w w4) (jl ⟨_,rfl,_,rfl⟩)⟩
 refine qo (jG (c2 rfl rfl ht) ?_)
 exact LH (c1 (cI (bf rfl rfl (bf rfl rfl bQ)) t2) hf) ⟨_,rfl⟩
theorem M4 (d:Nat) (hd:d<=4):K55.eH [.d (.int d),.d (.int 0),.d (.int 4)]=.ok (.d .non):=by
 refine qo (oh ?_ (jl ⟨_,rfl⟩))
 show (if decide ((d:Int) < 0)=true then M.ok true else M.ok (decide ((4:Int) < d)))=M.ok false
 rw [decide_eq_false (show ¬(d:Int) < 0 by omega),decide_eq_false (show ¬(4:Int) < d by omega)]
 rfl
def prs (v w:Wd):List (Nat×Nat):=(fq v.m w.m).filter λp=>jz v w p p
noncomputable def LG (v w:Wd):Nat->List (List (Nat×Nat))
 | 0=>[[]]
 | j + 1=>(LG v w j).flatMap λah=>((prs v w).filter (gb v w ah)).map λq=>ah++[q]
noncomputable def told (v w:Wd):Nat->List (List (Nat×Nat))
 | 0=>[[]]
 | j + 1=>told v w j++LG v w (j + 1)
abbrev bu (ps:List (Nat×Nat)):D:=.tup (ps.map dP)
theorem EJ {v w:Wd}{p:Nat×Nat}(h:p∈prs v w):qQ v w p:=om.mp (R1.mp h).1
theorem Bl {v w:Wd}(t:Pr v w):(prs v w).length<=16:=by
 have h1:=Sa (λp=>jz v w p p) (fq v.m w.m)
 rw [Gn] at h1
 have h2:=Ym t.v4 t.w4
 unfold prs
 omega
theorem sf {v w:Wd}:∀(j:Nat){ps:List (Nat×Nat)},ps∈LG v w j->ps.length=j/\∀p∈ps,qQ v w p
 | 0,ps,h=>by
  rw [show ps=[] from Rp.mp h]
  exact ⟨rfl,λ_ h=>by cases h⟩
 | j + 1,ps,h=>by
  obtain ⟨ah,h1,h2⟩:=Wa.mp h
  obtain ⟨q,h3,rfl⟩:=Rg.mp h2
  obtain ⟨l,k⟩:=sf j h1
  refine ⟨by rw [RI,l];rfl,λp hp=>?_⟩
  rcases RJ.mp hp with h | h
  ·exact k p h
  ·rw [Rp.mp h];exact EJ (R1.mp h3).1
theorem yS {α β:Type}(f:α->List β) (n:Nat):∀(xs:List α),(∀x∈xs,(f x).length<=n)->(xs.flatMap f).length<=xs.length * n
 | [],_=>by simp
 | x::xs,h=>by
  have h1:=h x Rf
  have h2:=yS f n xs λy hy=>h y (Rb _ hy)
  rw [List.flatMap_cons,RI,SG,Z4]
  omega
theorem sq {v w:Wd}(t:Pr v w):∀j,(LG v w j).length<=16 ^ j
 | 0=>Rj _
 | j + 1=>by
  have h:=yS (λah=>((prs v w).filter (gb v w ah)).map λq=>ah++[q]) 16 (LG v w j) λah _=>by
   rw [Rh]
   exact RS (Sa _ _) (Bl t)
  have h2:=U7 16 (sq t j)
  rw [Zr]
  exact RS h h2
theorem r_ {v w:Wd}(t:Pr v w):∀j,j<=4->(told v w j).length<=(j + 1) * 65536
 | 0,_=>by show 1<=_;omega
 | j + 1,h=>by
  have h1:=r_ t j (by omega)
  have h2:=sq t (j + 1)
  have h3:(16:Nat) ^ (j + 1)<=16 ^ 4:=U6 (by decide) h
  have h4:(16:Nat) ^ 4=65536:=by decide
  show (told v w j++LG v w (j + 1)).length<=_
  rw [RI]
  omega
theorem vq {v w:Wd}:∀(n:Nat){ps:List (Nat×Nat)},ps∈told v w n↔∃j,j<=n/\ps∈LG v w j
 | 0,ps=>by
  constructor
  ·exact λh=>⟨0,Rj _,h⟩
  ·rintro ⟨j,hj,h⟩
   have:j=0:=by omega
   subst this
   exact h
 | n + 1,ps=>by
  show ps∈told v w n++LG v w (n + 1)↔_
  rw [RJ,vq n]
  constructor
  ·rintro (⟨j,hj,h⟩ | h)
   ·exact ⟨j,by omega,h⟩
   ·exact ⟨n + 1,Rj _,h⟩
  ·rintro ⟨j,hj,h⟩
   by_cases c:j=n + 1
   ·subst c;exact .inr h
   ·exact .inl ⟨j,by omega,h⟩
theorem BC {v w:Wd}(t:Pr v w) (n:Nat) (hn:n<=4):lK [.d v.d,.d w.d,.d (.int n)]=.ok (.l .fresh ((told v w n).map bu)):=by
 have v4:=t.v4
 have w4:=t.w4
 refine cV (jG (c2 rfl rfl (uv t)) (jG (c3 rfl rfl rfl (M4 n hn)) (cH (c1 rfl (AM v t.vo)) rfl (cH (c1 rfl (AM w t.wo)) rfl ?_))))
 have hp:jQ 2 [1,3,4] (bS (ao (g2 bE (af 0) (gC (.int 0))) av)) (aB 0) cR (bS (ao (g2 bE (af 2) (gC (.int 0))) av)) (aB 1) (aT (gN (aE 4 K23.fT) (ao (af 3) (ao (af 4) (ao (bP (ay (af 0) (ay (af 1) aK))) (ao (bP (ay (af 0) (ay (af 1) aK))) av)))))) (bP (ay (af 0) (ay (af 1) aK)))
   [some (.d v.d),some (.d w.d),some (.d (.int n)),some (.d (.dct (ie v) (ig v))),some (.d (.dct (ie w) (ig w))),none,none,none,none]=.ok (.l .fresh ((prs v w).map dP)):=by
  refine (xC (xs:=Ra v.m) (h:=dN) (h':=dN) (λ_=>Ra w.m) (λa b=>jz v w (a,b) (a,b)) (λa b=>dP (a,b)) (iz (bW (two rfl rfl (cu _ _))) (by omega)) (by simp;omega) λa ha=>⟨by simp;omega,λz=>iz (bW (two rfl rfl (cu _ _))) (by omega),λb hb=>⟨?_,λ_=>AS (cI (bf rfl rfl (bf rfl rfl bQ)) t2) rfl⟩⟩).trans ?_
  ·have ha:a < v.m:=by simpa using ha
   have hb:b < w.m:=by simpa using hb
   exact mR (c4 rfl rfl (cI (bf rfl rfl (bf rfl rfl bQ)) t2) (cI (bf rfl rfl (bf rfl rfl bQ)) t2) (uu v w (a,b) (a,b) ⟨ha,hb⟩ ⟨ha,hb⟩))
  ·have e:((Ra v.m).flatMap λa=>((Ra w.m).filter λb=>jz v w (a,b) (a,b)).map λb=>dP (a,b))=(prs v w).map dP:=by
    unfold prs fq
    rw [List.filter_flatMap,Wb]
    congr 1
    funext a
    rw [Z7,RT]
    rfl
   rw [e]
 refine cH hp rfl ?_
 refine fN (De rfl (qF (nu (bf (cI bQ (by decide)) rfl bQ) (by show 1<=1000;decide)) rfl ?_))
 refine cH (nu (bf (cI bQ (by decide)) rfl bQ) (by show 1<=1000;decide)) rfl ?_
 refine lW (vg (n:=n) rfl (by omega)) ?_
 refine xS (λk env=>∃x:Option S,env=[some (.d v.d),some (.d w.d),some (.d (.int n)),some (.d (.dct (ie v) (ig v))),some (.d (.dct (ie w) (ig w))),some (.d (.lst ((prs v w).map dP))),some (.own ((LG v w k).map bu)),some (.own ((told v w k).map bu)),x]) ⟨none,rfl⟩ ?_ ?_
 ·rintro k hk _ ⟨x,rfl⟩
  have l1:=sq t k
  have l2:=sq t (k + 1)
  have l3:=r_ t k (by omega)
  have p1:(16:Nat) ^ k<=16 ^ 3:=U6 (by decide) (by omega)
  have p2:(16:Nat) ^ (k + 1)<=16 ^ 4:=U6 (by decide) (by omega)
  have p3:(16:Nat) ^ 3=4096:=by decide
  have p4:(16:Nat) ^ 4=65536:=by decide
  refine ⟨_,rfl,fN (M1 rfl (qF (r:=.l .fresh ((LG v w (k + 1)).map bu)) ?_ rfl (Np rfl rfl rfl (by simp only [Rh];omega) ⟨_,rfl,some (.d (.int k)),?_⟩)))⟩
  ·refine (xC (xs:=LG v w k) (h:=bu) (h':=dP) (λ_=>prs v w) (λah q=>gb v w ah q) (λah q=>bu (ah++[q])) rfl (by omega) λah Qy=>⟨by have:=Bl t;omega,λz=>rfl,λq hq=>⟨?_,λ_=>AS (two rfl (cI (bf rfl rfl bQ) (by show 1<=1000;decide)) (Im _ _ ?_)) ?_⟩⟩).trans ?_
   ·exact mR (c4 rfl rfl rfl rfl (Ob v w ah q (sf k Qy).2 (EJ hq)))
   ·have:=(sf k Qy).1
    simp;omega
   ·show M.ok (D.tup (ah.map dP++[dP q]))=M.ok (D.tup ((ah++[q]).map dP))
    rw [RM]
    rfl
   ·show M.ok (R.l .fresh _)=_
    show _=M.ok (R.l .fresh (((LG v w k).flatMap λah=>((prs v w).filter (gb v w ah)).map λq=>ah++[q]).map bu))
    rw [Wb]
    simp only [RT]
    rfl
  ·show _=[_,_,_,_,_,_,_,some (S.own ((told v w k++LG v w (k + 1)).map bu)),_]
   rw [RM]
   rfl
 ·rintro _ ⟨x,rfl⟩
  exact dg rfl rfl rfl
theorem allM {α:Type}(f:α->Bool) (xs:List α):nU [.l .fresh (xs.map λx=>.bl (f x))]=.ok (.d (.bl (xs.all f))):=by
 have:=all_map (λd=>match d with
  | .bl b=>b
  | _=>false) (xs.map λx=>.bl (f x))
 rw [RT,XU] at this
 exact this
theorem yO:∀{xs ys:List Bool},cP (xs.map D.bl) (ys.map D.bl)=true↔xs=ys
 | [],[]=>by simp [cP]
 | [],_::_=>by simp [cP]
 | _::_,[]=>by simp [cP]
 | x::xs,y::ys=>by
  rw [Rv,Rv,gR,Ri,yO]
  simp [bz]
structure AL (v w:Wd) (p q:Nat×Nat):Prop where
 eq:p.1=q.1↔p.2=q.2
 ms:v.ms.map (λr=>decide (p.1∈r.2))=w.ms.map λr=>decide (p.2∈r.2)
 ar:v.ar.map (λr=>decide ((p.1,q.1)∈r.2))=w.ar.map λr=>decide ((p.2,q.2)∈r.2)
theorem mY (v w:Wd) (p q:Nat×Nat):jz v w p q=true↔AL v w p q:=by
 have e:jz v w p q=((p.1 == q.1) == (p.2 == q.2) && (cP ((v.ms.map λr=>decide (p.1∈r.2)).map D.bl) ((w.ms.map λr=>decide (p.2∈r.2)).map D.bl) && (cP ((v.ar.map λr=>decide ((p.1,q.1)∈r.2)).map D.bl) ((w.ar.map λr=>decide ((p.2,q.2)∈r.2)).map D.bl) && true))):=by
  unfold jz fM
  rw [kG,gR,gR,gR,kG,kG,cP]
  simp only [K55.inN,K55.HR,RT,K55.vH]
  rfl
 rw [e,Ri,Ri,Ri,yO,yO]
 have e1:((p.1 == q.1) == (p.2 == q.2))=true↔(p.1=q.1↔p.2=q.2):=by
  rw [beq_iff_eq,RY,beq_iff_eq,beq_iff_eq]
 rw [e1]
 exact ⟨λ⟨a,b,c,_⟩=>⟨a,b,c⟩,λ⟨a,b,c⟩=>⟨a,b,c,rfl⟩⟩
theorem LJ {p q:Nat×Nat}(h:q9 p q=false):q.1 < p.1\/(q.1=p.1/\q.2 < p.2):=by
 unfold q9 at h
 rw [kr] at h
 by_cases c:(p.1:Int)=q.1
 ·rw [if_pos c,kr] at h
  by_cases c2:(p.2:Int)=q.2
  ·rw [if_pos c2,o5] at h;cases h
  ·rw [if_neg c2,decide_eq_false_iff_not] at h
   exact .inr ⟨by omega,by omega⟩
 ·rw [if_neg c,decide_eq_false_iff_not] at h
  exact .inl (by omega)
theorem LI {p q:Nat×Nat}(h:q.1 < p.1):q9 p q=false:=by
 unfold q9
 rw [kr,if_neg (by omega),decide_eq_false_iff_not]
 omega
structure Good (v w:Wd) (ps:List (Nat×Nat)):Prop where
 up:ps.Pairwise λp q=>p.1 < q.1
 ag:∀p∈ps,∀q∈ps,AL v w p q
 rg:∀p∈ps,qQ v w p
theorem uY {α:Type}{ps:List α}{l:α}(h:ps.getLast?=some l):∃rs,ps=rs++[l]:=by
 rcases Uc ps with rfl | ⟨ys,y,rfl⟩
 ·cases h
 ·rw [Ud] at h ⊢
  rw [Yi] at h
  cases h
  exact ⟨ys,rfl⟩
theorem Be {v w:Wd}{p:Nat×Nat}:p∈prs v w↔qQ v w p/\AL v w p p:=by
 unfold prs
 rw [R1,om,mY]
 exact Yx
theorem D5 {v w:Wd}{ps:List (Nat×Nat)}(g:Good v w ps){q:Nat×Nat}(hq:q∈prs v w):gb v w ps q=true↔Good v w (ps++[q]):=by
 obtain ⟨h1,h2⟩:=Be.mp hq
 unfold gb
 rw [Ri,R0]
 constructor
 ·rintro ⟨a,b⟩
  have ag:∀r∈ps,AL v w q r/\AL v w r q:=λr hr=>by
   have:=b r hr
   rw [Ri,mY,mY] at this
   exact this
  have lt:∀r∈ps,r.1 < q.1:=by
   cases e:ps.getLast? with
   | none=>rw [WS.mp e];exact λ_ h=>by cases h
   | some l=>
    rw [e] at a
    have hl:l.1 < q.1:=by
     obtain ⟨rs,rfl⟩:=uY e
     rcases LJ (by simpa using a) with h | ⟨h,h'⟩
     ·exact h
     ·have:=(ag l (by simp)).1.eq
      omega
    obtain ⟨rs,rfl⟩:=uY e
    intro r hr
    rcases RJ.mp hr with h | h
    ·have:=(Te.mp g.up).2.2 r h l (by simp)
     omega
    ·rw [Rp.mp h];exact hl
  refine ⟨Te.mpr ⟨g.up,Sf _ _,λr hr x hx=>by rw [Rp.mp hx];exact lt r hr⟩,λr hr x hx=>?_,λr hr=>?_⟩
  ·rcases RJ.mp hr with hr | hr <;> rcases RJ.mp hx with hx | hx
   ·exact g.ag r hr x hx
   ·rw [Rp.mp hx];exact (ag r hr).2
   ·rw [Rp.mp hr];exact (ag x hx).1
   ·rw [Rp.mp hr,Rp.mp hx];exact h2
  ·rcases RJ.mp hr with hr | hr
   ·exact g.rg r hr
   ·rw [Rp.mp hr];exact h1
 ·intro h
  refine ⟨?_,λr hr=>?_⟩
  ·cases e:ps.getLast? with
   | none=>rfl
   | some l=>
    have hl:l∈ps:=by obtain ⟨rs,rfl⟩:=uY e;simp
    have:=(Te.mp h.up).2.2 l hl q (by simp)
    show (!q9 q l)=true
    rw [LI this]
    rfl
  ·rw [Ri,mY,mY]
   exact ⟨h.ag q (by simp) r (by simp [hr]),h.ag r (by simp [hr]) q (by simp)⟩
theorem tQ {v w:Wd}:∀(j:Nat){ps:List (Nat×Nat)},ps∈LG v w j↔ps.length=j/\Good v w ps
 | 0,ps=>by
  constructor
  ·intro h
   rw [show ps=[] from Rp.mp h]
   exact ⟨rfl,.nil,(λ_ h=>nomatch h),(λ_ h=>nomatch h)⟩
  ·rintro ⟨h,_⟩
   rw [UD.mp h]
   exact Rp.mpr rfl
 | j + 1,ps=>by
  constructor
  ·intro h
   obtain ⟨ah,h1,h2⟩:=Wa.mp h
   obtain ⟨q,h3,rfl⟩:=Rg.mp h2
   obtain ⟨l,g⟩:=(tQ j).mp h1
   obtain ⟨h4,h5⟩:=R1.mp h3
   exact ⟨by rw [RI,l];rfl,(D5 g h4).mp h5⟩
  ·rintro ⟨h,g⟩
   rcases Uc ps with rfl | ⟨ah,q,rfl⟩
   ·cases h
   ·rw [Ud] at h g ⊢
    have ga:Good v w ah:=⟨(Te.mp g.up).1,λp hp x hx=>g.ag p (by simp [hp]) x (by simp [hx]),λp hp=>g.rg p (by simp [hp])⟩
    have hq:q∈prs v w:=Be.mpr ⟨g.rg q (by simp),g.ag q (by simp) q (by simp)⟩
    exact Wa.mpr ⟨ah,(tQ j).mpr ⟨by simpa using h,ga⟩,Rg.mpr ⟨q,R1.mpr ⟨hq,(D5 ga hq).mpr g⟩,rfl⟩⟩
theorem Cr (a b:Nat):fG (dN a) (dN b)=true↔a < b:=by
 rw [nv,decide_eq_true_eq]
 omega
theorem HX (a b:Nat×Nat):fG (dP a) (dP b)=true↔pW a b:=by
 have e:fG (dP a) (dP b)=iy [dN a.1,dN a.2] [dN b.1,dN b.2]:=rfl
 rw [e,jJ,K55.vH]
 unfold pW
 by_cases c:a.1=b.1
 ·rw [if_pos (by simpa using c),jJ,K55.vH]
  by_cases c2:a.2=b.2
  ·rw [if_pos (by simpa using c2)]
   constructor
   ·intro h;cases h
   ·intro h;omega
  ·rw [if_neg (by simpa using c2)]
   rw [show fG (D.int a.2) (D.int b.2)=fG (dN a.2) (dN b.2) from rfl,Cr]
   omega
 ·rw [if_neg (by simpa using c)]
  rw [show fG (D.int a.1) (D.int b.1)=fG (dN a.1) (dN b.1) from rfl,Cr]
  omega
end K23
namespace DL
open PySem PySem.Spec PyProof.Rows L2 DX
section
variable {X:Cx}{c:C}{e ke a b:RX}{g gk ga gb:G R}{pos:Pos}
noncomputable def NG (K:Q7):BU:=λo i v H Q=>∃J p ks vs kxs d,aX J H/\o=.ref p/\fj K J H p ks vs/\ff (.tup kxs)=true/\Rep K J (.tup kxs) i/\Rep K J d v/\ks.length<=sizeLine/\∀o,fj K J (upd H p o) p (dput (ks,vs) (.tup kxs) d).1 (dput (ks,vs) (.tup kxs) d).2->Q (upd H p o)
theorem set_dict (hu:X.A.units + 64 < S6):KW X (NG X.K):=by
 intro QV s σ H o i v ov iv u Q I ro ri rv h
 obtain ⟨J,p,ks,vs,kxs,d,sm,rfl,hd,ok,rk,rd,hl,q⟩:=h
 obtain ⟨_,_,k1,k2⟩:=jm ok
 obtain ⟨r,rfl⟩:∃r,i=.ref r:=by cases rk;exact ⟨_,rfl⟩
 cases ro
 cases ri
 obtain ⟨xs,hm,lx,put⟩:=Bm I sm hd
 refine wpAny_setItem_heap (knd:=n_ X.prog X.w) (k:=⟨.tup kxs,k1,k2⟩) (show X.A.units + 1 + 16 < S6 by omega) (kL (HF.of (c:=⟨X.K,H,H,λ_=>True⟩) I sm) k1 rk) hm (λh' hm' sb=>?_) (by rw [lx];exact hl)
 obtain ⟨o,W,hd,_⟩:=put k1 k2 rk rd rv h' _ hm' sb
 exact ⟨_,W,q o hd⟩
noncomputable def yU (i:Nat) (gk g:G R):G O:=λenv=>match env[i]? with
 | some (some (.dk ks vs))=>g env >>= λr=>toD r >>= λd=>gk env >>= λr2=>toD r2 >>= λk=>if ff k=true/\ks.length<=1000000 then .ok (.nx (env.set i (some (.dk (dput (ks,vs) k d).1 (dput (ks,vs) k d).2)))) else .bad
 | _=>.bad
theorem DQ {prog:Rz}{w:RZ}{K:Type} [DecidableEq K] {knd:HeapKind prog w K}{A:R4}{E:Q8->Q_->Prop}{s:Q_}{d a:Rq}{k:K}{xs:List (K×Rq×Q8)}{Q:Bool->Q_->Prop}(hu:knd.room A.in1) (hkey:knd.is s.heap k a) (hd:(d == UJ)=false)
  (hm:s.heap.DictOfH knd d xs) (h:Q (aa6 xs k).isSome {s with toks:=s.toks + knd.draws k}):RA (RG prog w) A (contains (.ref d) (.ref a)) Q E s:=by
 refine wpAny_contains_slot hm.typeIs YV (Sb YV hm.typeIs entry_dict_contains ?_ (args_dict_contains _ _))
 show RA _ _ (dictGet d (.ref a) >>= λ_=>_) _ _ s
 refine Q6 (wpAny_dictGet_heap hu hkey hm ?_)
 cases q:aa6 xs k with
 | some p=>rw [q] at h;exact Q9 ⟨_,rfl,Sw h⟩
 | none=>rw [q] at h;exact Q6 (wpAny_pendingKey_other hd (Q9 ⟨_,rfl,Sw h⟩))
noncomputable def GW (K:Q7) (neg:Bool):R2:=λx y H Q=>∃J p ks vs k,aX J H/\y=.ref p/\fj K J H p ks vs/\Rep K J k x/\ff k=true/\Q (.bl (if neg then !(ic ks vs k).isSome else (ic ks vs k).isSome)) H
theorem FJ (hu:X.A.units + 64 < S6){QV:List (Rq×Obj)}{s:Q_}{σ:L2.St}{H:Hp}{x y:V}{v u:Q8}{Q:VK}{neg:Bool}(I:Inv X QV σ H s) (rx:RelV x v) (ry:RelV y u) (h:GW X.K neg x y H Q):RA (RG X.prog X.w) X.A (contains u v) (λr s'=>EP X QV σ Q (.bool (if neg then !r else r)) s') X.xe s:=by
 obtain ⟨J,p,ks,vs,k,sm,rfl,hd,hk,ok,q⟩:=h
 have F:HF X.K J s:=HF.of (c:=⟨X.K,H,H,λ_=>True⟩) I sm
 obtain ⟨kx,rfl,k1,k2⟩:=jm ok
 obtain ⟨r,rfl⟩:∃r,x=.ref r:=by cases hk;exact ⟨_,rfl⟩
 cases rx
 cases ry
 obtain ⟨xs,us,ws,hm,e2,_,hv,e4,_,hsm⟩:=rL (P:=X.prog) (w:=X.w) F (h_ I) hd
 have e:(aa6 xs ⟨.tup kx,k1,k2⟩).isSome=(ic ks vs (.tup kx)).isSome:=by
  obtain ⟨l1,l2⟩:=xA (K:=X.K) (J:=J) ⟨.tup kx,k1,k2⟩ e2 hv e4
  cases z:ic ks vs (.tup kx) with
  | some d=>obtain ⟨p,_,e,_⟩:=l1 d z;rw [e];rfl
  | none=>rw [l2 z];rfl
 exact DQ (k:=⟨.tup kx,k1,k2⟩) (show X.A.units + 1 + 16 < S6 by omega) (kL F k1 hk) hsm hm ⟨.bl _,H,I.tok _,by rw [e];rfl,q⟩
theorem Ex (hu:X.A.units + 64 < S6):dZ X (S7 .In) (GW X.K false):=λQV s σ H x y v u Q I rx ry h=>Q6 (Si (FJ hu I rx ry h) (λ_ _ h=>Q9 h) λ_ _ f=>f)
noncomputable def nW (neg:Bool) (x y:R):M R:=match vB y,x with
 | some z,.d k=>if ff k=true then .ok (.d (.bl (if neg then !(ic z.1 z.2 k).isSome else (ic z.1 z.2 k).isSome))) else .bad
 | _,_=>.bad
theorem Dq (neg:Bool) (hK:X.K=c.K):BD c (GW X.K neg) (nW neg):=by
 intro He He' J H x y u v Q hp rx ry w
 unfold nW at w
 split at w
 ·rename_i hz
  obtain ⟨p,rfl,hd⟩:=ry.dk hp hz
  split at w
  ·rename_i ok
   exact ⟨J,p,_,_,_,hp.sub,rfl,by rw [hK];exact hd,by rw [hK];exact rx,ok,w _ J H (Ext.refl hp.sub) (.bl _)⟩
  ·exact w.elim
 ·exact w.elim
theorem GP (i:Nat){x:Str}{p1 p2:Pos}(hu:X.A.units + 64 < S6) (h:QD X c e g) (hk:QD X c ke gk) (hN:X.N[i]?=some x:=by rfl) (hv:vA X.env.scope x:=by first | exact WE rfl | exact Vy (WE rfl) | exact Vy (Vy rfl)) (hd:(x == ("__debug__":Str))=false:=by decide)
  (hcd:(x == ("__classdict__":Str))=false:=by decide)
  (ha:∀v,assign (.Subscript (.Name x p1) ke p2) X.env v=(do
   let ov <-holding [v] (eval (.Name x p1) X.env)
   let iv <-holding [v,ov] (eval ke X.env)
   Uz p2
   (holding [v,ov,iv] (setItem ov iv v))
   release [v,ov,iv] []):=by intro _;rfl)
  (hs:Vq [.Subscript (.Name x p1) ke p2] e pos.line X.env=pure false:=by rfl) (hw:YC [.Subscript (.Name x p1) ke p2] e X.env=pure none:=by rfl)
  (h1:(Uo [.Subscript (.Name x p1) ke p2] X.env).map (·.2)=[assign (.Subscript (.Name x p1) ke p2) X.env]:=by rfl) (hK:X.K=c.K:=by rfl):
  jc X c (.Assign [.Subscript (.Name x p1) ke p2] e pos) (yU i gk g):=have h:=h.h;have hk:=hk.h;⟨
 jo (EK h (Mg (pX hN hv hd hcd) hk (set_dict hu) ha) hs hw h1) λE σ H ⟨J,env,sr,w⟩=>by
  unfold yU at w
  split at w
  ·rename_i ks vs hi
   obtain ⟨v,q1,p,rfl,h2,h3,h4⟩:=sr.at_ i _ hi
   refine ⟨J,env,sr,aG (aM w) λr wr y J1 H1 e1 r1=>?_⟩
   obtain ⟨d,q,wr⟩:=iY wr
   obtain ⟨J2,e2,s2,rd⟩:=freeze e1 r1 q
   refine ⟨.ref p,q1,?_⟩
   refine ⟨J2,env,sr.ext e2,aG (aM wr) λrk wk vk J3 H3 e3 r3=>?_⟩
   obtain ⟨k,qk,wk⟩:=iY wk
   obtain ⟨J4,e4,s4,rk⟩:=freeze e3 r3 qk
   have e5:=e2.trans e4
   split at wk
   ·rename_i ok
    obtain ⟨kxs,rfl,_⟩:=jm ok.1
    have h2':=h2.mono e5.j e5.h
    have h3':=e5.frz p h2.ne h3
    refine ⟨J4,p,ks,vs,kxs,d,e5.sub,rfl,by rw [hK];exact h2',ok.1,by rw [hK];exact rk,by rw [hK];exact rd.mono e4.j,RS ok.2 (by decide),λo ho=>?_⟩
    rw [hK] at ho
    exact wk σ J4 _ e5.j ((sr.ext e5).updM (x:=.inr (ks,vs)) (y:=.inr (dput (ks,vs) (.tup kxs) d)) hi q1 h3' h4 ⟨p,rfl,ho,h3',h4⟩)
   ·exact wk.elim
  ·exact w.elim⟩
theorem JV (hu:X.A.units + 64 < S6) (ha:QD X c a ga) (hb:QD X c b gb) (hK:X.K=c.K:=by rfl) (hm:SA .In b=false:=by rfl):QD X c (.Compare a [.In] [b] pos) (g2 (nW false) ga gb):=⟨nB (Ex hu) (Dq false hK) ha.h hb.h hm⟩
theorem JS (hu:X.A.units + 64 < S6) (ha:QD X c a ga) (hb:QD X c b gb) (hK:X.K=c.K:=by rfl) (hm:SA .In b=false:=by rfl):QB X c (.Compare a [.In] [b] pos) (aT (g2 (nW false) ga gb)):=⟨jT (Ex hu) (Dq false hK) ha.h hb.h hm⟩
end
end DL
namespace K22
open PySem DL
end K22
namespace K22
open PySem DL K01 WP K51 K52 K55 K23
section
variable {env:Ev}{tg:GT}{u t:G O}{α:Type}{h:α->D}{Q:O->Prop}{gi:G (List D)}
theorem w_all (I:Ev->Prop) (f:α->Bool):∀(xs:List α) (env:Ev),I env->(∀x∈xs,∀env,I env->∃e,tg (h x) env=.ok e/\Wp (u e) λo=>(f x=true/\∃e',o=.nx e'/\I e')\/(f x=false/\o=.rt (.d (.bl false))))->
  Wp (e_ tg u (xs.map h) env) λo=>(xs.all f=true/\∃e',o=.nx e'/\I e')\/(xs.all f=false/\o=.rt (.d (.bl false)))
 | [],env,hI,_=>⟨.nx env,rfl,.inl ⟨rfl,env,rfl,hI⟩⟩
 | x::xs,env,hI,step=>by
  obtain ⟨e,h1,o,ho,hP⟩:=step x Rf env hI
  rw [Rv,UC]
  show Wp (tg (h x) env >>= _) _
  rw [h1,aL,ho,aL]
  rcases hP with ⟨hf,e',rfl,hI'⟩ | ⟨hf,rfl⟩
  ·rw [hf,TM]
   exact w_all I f xs e' hI' λx hx=>step x (Rb _ hx)
  ·rw [hf]
   exact ⟨_,rfl,.inr ⟨rfl,rfl⟩⟩
theorem Ac (I:Ev->Prop) (xs:List α) (h0:I env) (step:∀x∈xs,∀e,I e->∃e',tg (h x) e=.ok e'/\Wp (u e') λo=>∃e,o=.nx e/\I e) (k:∀e,I e->Q (.nx e)):Wp (e_ tg u (xs.map h) env) Q:=by
 refine (w_all I (λ_=>true) xs env h0 λx hx e he=>?_).mono ?_
 ·obtain ⟨e',a,b⟩:=step x hx e he
  exact ⟨e',a,b.mono λo ⟨e,h1,h2⟩=>.inl ⟨rfl,e,h1,h2⟩⟩
 ·rintro o (⟨_,e,rfl,hI⟩ | ⟨z,_⟩)
  ·exact k e hI
  ·simp at z
end
theorem Nd (neg a b:Bool):cY neg (.d (.bl a)) (.d (.bl b))=.ok (.d (.bl (if neg then !(a == b) else a == b))):=by
 cases neg <;> cases a <;> cases b <;> rfl
theorem iB (ps:List (Nat×Nat)):ff (bu ps)=true:=by
 have h1:∀qs:List (Nat×Nat),areKeys (qs.map dP)=true:=λqs=>by
  induction qs with
  | nil=>rfl
  | cons q qs ih=>rw [Rv];unfold areKeys;rw [ih];rfl
 have h2:deps (ps.map dP)<=1:=dQ λx hx=>by obtain ⟨q,_,rfl⟩:=Rg.mp hx;exact Rj _
 show (areKeys (ps.map dP) && decide (deps (ps.map dP) + 1<=8))=true
 rw [h1,decide_eq_true (by omega)]
 rfl
section
variable {env:Ev}{g gk:G R}{r r2:R}{u:G O}{Q:O->Prop}{i:Nat}
theorem Nq {ks vs:List D}{k d:D}(h0:env[i]?=some (some (.dk ks vs))) (h:g env=.ok r) (h2:toD r=.ok d) (h3:gk env=.ok r2) (h4:toD r2=.ok k) (ok:ff k=true) (hl:ks.length<=1000000) (q:Q (.nx (env.set i (some (.dk (dput (ks,vs) k d).1 (dput (ks,vs) k d).2))))):Wp (yU i gk g env) Q:=by
 refine ⟨_,?_,q⟩
 unfold yU
 rw [h0]
 simp only
 rw [h,aL,h2,aL,h3,aL,h4,aL,if_pos ⟨ok,hl⟩]
theorem JA {a b:G R}(h:a env=.ok (.d (.bl true))):rP a b env=.ok (.d (.bl true)):=by
 unfold rP;rw [h];rfl
theorem L4 {a b:G R}(h:a env=.ok (.d (.bl false))) (h2:b env=.ok r):rP a b env=.ok r:=by
 unfold rP;rw [h];exact h2
theorem pU {a b:G Bool}{k:Bool}(h1:a env=.ok false) (h2:b env=.ok k):bU a b env=.ok k:=by
 unfold bU;rw [h1];exact h2
end
theorem Mk (ps:List (Nat×Nat)):dep (bu ps)<=60:=by
 have h2:deps (ps.map dP)<=1:=dQ λx hx=>by obtain ⟨q,_,rfl⟩:=Rg.mp hx;exact Rj _
 show deps (ps.map dP) + 1<=60
 omega
end K22
namespace DL
open PySem PySem.Spec PyProof.Rows L2 DX
section
variable {X:Cx}{c:C}
noncomputable def xV (X:Cx) (c:C) (cm:Option (Q8->Sem Unit)->Sem Q8) (g:G R):Prop:=
 ∀{QV:List (Rq×Obj)}{s:Q_}{σ:L2.St}{H:Hp}{Q:VK}{use:Option (Q8->Sem Unit)}{Q0:Q8->Q_->Prop},Inv X QV σ H s->tD c g σ H Q->
  (∀(acc C:Rq) (m:Str->Option Q8) (s':Q_) (H':Hp) (fl:Flow),s'.heap.Ns C m->((C∈X.ex\/X.s₀.heap.objs.size<=C)/\C≠X.env.locals/\(∀x c,X.env.cells.lookup x=some c->c≠C)/\∀p∈X.pn++QV,p.1≠C)->H' C=none->(∀h'',Sy C s'.heap h''->Inv X QV σ H' {s' with heap:=h''})->Q (.ref acc) H'->YU (RG X.prog X.w) X.A X.xe use Q0 (.ref acc) C (.ok fl) s')->
  RA (RG X.prog X.w) X.A (cm use) Q0 X.xe s
theorem Ou {e:RX}{cm:Option (Q8->Sem Unit)->Sem Q8}{g:G R}(core:xV X c cm g) (hev:eval e X.env=cm none):PD X c e g:=by
 intro QV s σ H Q I h
 rw [hev]
 exact core I h λacc C m s' H' fl hm hz hf hb q=>⟨m,hm,λh'' sb=>⟨.ref acc,H',hb h'' sb,rfl,q⟩⟩
theorem GD (i:Nat){e:RX}{cm:Option (Q8->Sem Unit)->Sem Q8}{g:G R}{x:Str}{pos' pos2:Pos}(hN:X.N.Nodup) (core:xV X c cm g) (hev:∀use,evalThenUse e X.env use=(do let _ <-cm (some use))) (hx:X.N[i]?=some x) (Po:X.env.scope.names.lookup x=some .local)
  (hsw:US e (some (.Name x pos')) pos2.line X.env=pure true):AO X c (.Assign [.Name x pos'] e pos2) (aN i g):=by
 intro QV s σ H D I ⟨J,env,sr,w⟩
 rw [X5]
 refine Q6 (S8 ?_)
 rw [show Vq [.Name x pos'] e pos2.line X.env=pure true from hsw]
 refine Q6 (Q9 ?_)
 rw [if_pos rfl,hev]
 refine Q6 (Q6 (core (Q:=λv H1=>∃J1 r xx,Ext J H J1 H1/\RR c H J1 H1 r v/\toS r=.ok xx/\oP c J D (.nx (env.set i (some xx)))) I ⟨J,env,sr,aG (aM w) λr wr v J1 H1 e1 r1=>?_⟩ λacc C m s' H' fl hm ap hf hb ⟨J1,r,xx,e1,r1,q1,w1⟩=>?_))
 ·obtain ⟨xx,q,wr⟩:=nL wr
  exact ⟨J1,r,xx,e1,r1,q,wr⟩
 ·have I1:L2.Inv X QV σ H' s':=hb s'.heap (W9 ..)
  show RA _ _ (do Uz pos';abS X.env x (.ref acc)) _ _ _
  refine Q6 (S8 (Yo ?_))
  refine lY I1 hN hx (.inl Po) (v:=.ref acc) (u:=.ref acc) rfl (λs2 I2 ⟨a,sb,ha⟩=>?_) (.inr Po)
  have hac:C≠a:=λz=>by
   rcases ha with e | e
   ·exact ap.2.1 (z.trans e)
   ·exact ap.2.2.1 _ _ e z.symm
  refine ⟨m,hm.sameBut sb hac,λh2 sb2=>?_⟩
  refine Q9 (Q9 ⟨σ.set i (some (.ref acc)),H',pV I2 ap hf sb2 (o0:=default),?_⟩)
  exact w1 _ J1 H' e1.j (sr.set e1 r1 q1)
noncomputable def iR (n:Nat) (cap:List Nat) (gi:G (List D)) (gt:GT) (gts:G Bool) (gk gv:G R):G R:=jj 1000000 n cap gi gt gts (rD gk gv) (λys=>.ok (.mf (iQ ys).1 (iQ ys).2))
theorem NZ (kx vx t0 i0:RX) (f0:List RX) (QU:T7) (pos:Pos) (it:Q8) (p:Rq) (env:Env):
  VV (.DictComp kx vx [⟨t0,i0,f0,0⟩] QU pos) 0 it (.ref p) env=lZ t0 i0 f0 it env (CB kx vx p env) (again (.compLoop (.DictComp kx vx [⟨t0,i0,f0,0⟩] QU pos) 0 it (.ref p) env)):=by rfl
theorem DM (hu:X.A.units + 64 < S6) (hK:X.K=c.K) (own:List Str) (cap:List Nat){kx vx t0 i0:RX}{f0:List RX}{QU:T7}{pos pos':Pos}{gi0:G (List D)}{gt0:GT}{gts0:G Bool}{gk gv:G R}(hi:pA X c t0 i0 gi0)
  (hbody:∀(cl:List (Str×Rq)) (C:Rq) (s:Q_) (H:Hp) (fp:List Rq),bH X.env.cells QU.names []=some cl->jb (aZ X own cap QU cl C s H fp) c t0 gt0/\gU (aZ X own cap QU cl C s H fp) c f0 gts0/\PD (aZ X own cap QU cl C s H fp) c kx gk/\PD (aZ X own cap QU cl C s H fp) c vx gv)
  (hk:QU.kind=.function) (hno:fV X cap QU=true) (hnames:(QU.names.all λx=>!(x.2 == .local) || (QU.names.lookup x.1 == some .local))=true)
  (hcl:(bH X.env.cells QU.names []).isSome=true) (hcap:eK X cap=true) (hloc:eU X cap QU=true) (hnd:gp cap=true) (Pc:X.calm=true) (hs:∀x,Rx i0 X.env x=pure x):
  xV X c (λuse=>comprehension (.DictComp kx vx [⟨t0,i0,f0,0⟩] QU pos) QU X.env pos' newDict false (eval i0 X.env) use) (iR own.length cap gi0 gt0 gts0 gk gv):=by
 intro QV s σ H Q use Q0 I h Pg
 refine nP (e:=.DictComp kx vx [⟨t0,i0,f0,0⟩] QU pos) (ob:={cls:=.type "dict",data:=.dict #[]}) (o0:=λa=>kT a 0 []) (Acc:=BW c) (N:=1) (lim:=1000000) (m:=λp env=>CB kx vx p env) own cap rfl hi
  (λs Q E q=>R8 q) (λh H=>⟨⟨_,#[],Rn _ rfl,⟨rfl,rfl,rfl⟩,rfl,.nil⟩,⟨_,Rn _ rfl⟩,λh1 h2 ⟨o,es,a1,a2⟩ e=>⟨o,es,e o a1,a2⟩⟩) (λp=>rB) (λp J H hsm h1 h2=>⟨⟨[],[],0,h1,.nil,.nil,⟨rfl,TR,RL _,λ_ h=>(nomatch h)⟩,beq_eq_false_iff_ne.mpr (Um (RE hsm)),rfl⟩,h2,Rj _⟩) (by decide) (λit p env=>Co (NZ ..)) (λit acc env R s h0 h=>XG h0 h) (λys z q=>by cases q)
  (fun {p J H J' H' ys r} hp e ⟨h1,h2,h8⟩ q=>by cases q;exact ⟨J',e,⟨p,rfl,h1,h2,hp⟩⟩) (λcl C s H fp hcc=>?_) hk hno hnames hcl hcap hloc hnd Pc hs I h Pg
 obtain ⟨b1,b2,b3,b4⟩:=hbody cl C s H fp hcc
 exact ⟨b1,b2,λp J2 H2 hp2 hp0=>AW hu hK (λ_ _ f=>f) hp2 hp0 b3 b4⟩
theorem t6 (hu:X.A.units + 64 < S6) (own:List Str) (cap:List Nat){kx vx t0 i0:RX}{f0:List RX}{QU:T7}{pos:Pos}{gi0:G (List D)}{gt0:GT}{gts0:G Bool}{gk gv:G R}(hi:qS X c t0 i0 gi0)
  (hbody:∀(cl:List (Str×Rq)) (C:Rq) (s:Q_) (H:Hp) (fp:List Rq),bH X.env.cells QU.names []=some cl->kP (aZ X own cap QU cl C s H fp) c t0 gt0/\jZ (aZ X own cap QU cl C s H fp) c f0 gts0/\QD (aZ X own cap QU cl C s H fp) c kx gk/\QD (aZ X own cap QU cl C s H fp) c vx gv)
  (hk:QU.kind=.function:=by rfl) (hno:fV X cap QU=true:=by rfl) (hnames:(QU.names.all λx=>!(x.2 == .local) || (QU.names.lookup x.1 == some .local))=true:=by rfl)
  (hcl:(bH X.env.cells QU.names []).isSome=true:=by rfl) (hcap:eK X cap=true:=by rfl) (hloc:eU X cap QU=true:=by rfl) (hnd:gp cap=true:=by rfl) (Pc:X.calm=true:=by rfl)
  (hs:∀x,Rx i0 X.env x=pure x:=by intro _;rfl) (hK:X.K=c.K:=by rfl):QD X c (.DictComp kx vx [⟨t0,i0,f0,0⟩] QU pos) (iR own.length cap gi0 gt0 gts0 gk gv):=
 ⟨Ou (DM hu hK own cap hi.h (λcl C s H fp hc=>let ⟨a,b,d,e⟩:=hbody cl C s H fp hc;⟨a.h,b.h,d.h,e.h⟩) hk hno hnames hcl hcap hloc hnd Pc hs) rfl⟩
theorem CC (i:Nat) (hu:X.A.units + 64 < S6) (own:List Str) (cap:List Nat){kx vx t0 i0:RX}{f0:List RX}{QU:T7}{pos pos' pos2:Pos}{x:Str}{gi0:G (List D)}{gt0:GT}{gts0:G Bool}{gk gv:G R}(hN:X.N.Nodup) (hi:qS X c t0 i0 gi0)
  (hbody:∀(cl:List (Str×Rq)) (C:Rq) (s:Q_) (H:Hp) (fp:List Rq),bH X.env.cells QU.names []=some cl->kP (aZ X own cap QU cl C s H fp) c t0 gt0/\jZ (aZ X own cap QU cl C s H fp) c f0 gts0/\QD (aZ X own cap QU cl C s H fp) c kx gk/\QD (aZ X own cap QU cl C s H fp) c vx gv)
  (hk:QU.kind=.function:=by rfl) (hno:fV X cap QU=true:=by rfl) (hnames:(QU.names.all λx=>!(x.2 == .local) || (QU.names.lookup x.1 == some .local))=true:=by rfl)
  (hcl:(bH X.env.cells QU.names []).isSome=true:=by rfl) (hcap:eK X cap=true:=by rfl) (hloc:eU X cap QU=true:=by rfl) (hnd:gp cap=true:=by rfl) (Pc:X.calm=true:=by rfl)
  (hs:∀x,Rx i0 X.env x=pure x:=by intro _;rfl) (hx:X.N[i]?=some x:=by rfl) (Po:X.env.scope.names.lookup x=some .local:=by rfl)
  (hsw:US (.DictComp kx vx [⟨t0,i0,f0,0⟩] QU pos) (some (.Name x pos')) pos2.line X.env=pure true:=by rfl) (hK:X.K=c.K:=by rfl):jc X c (.Assign [.Name x pos'] (.DictComp kx vx [⟨t0,i0,f0,0⟩] QU pos) pos2) (aN i (iR own.length cap gi0 gt0 gts0 gk gv)):=
 ⟨GD i hN (DM hu hK own cap hi.h (λcl C s H fp hc=>let ⟨a,b,d,e⟩:=hbody cl C s H fp hc;⟨a.h,b.h,d.h,e.h⟩) hk hno hnames hcl hcap hloc hnd Pc hs) (λ_=>rfl) hx Po hsw⟩
end
end DL
namespace DL
open PySem PySem.Spec PyProof.Rows L2 DX
open Sem (wp)
section
variable {prog:Rz}{w:RZ}{A:R4}{E:Q8->Q_->Prop}{s:Q_}{d it:Rq}{o:Obj}{es:Array YL}{ep i:Nat}
theorem Gd {Q:Q8->Q_->Prop}(hd:(d == UJ)=false) (ho:s.heap.get? d=some o) (hc:o.ExactDict) (hdat:o.data=.dict es ep)
  (hQ:Q (.ref s.heap.objs.size) {s with heap:=s.heap.push {cls:=.type "dict_keyiterator",data:=.fields #[.ref d,.int 0 0,.int es.size 0,.int ep 0]}}):RA (RG prog w) A (WB (.ref d)) Q E s:=by
 have hT:s.TypeIs (.ref d) "dict":=⟨o,ho,hc.1⟩
 refine W4 hT ZD (Sb ZD hT F.entry_dict_iter ?_ (F.args_dict_iter_1 _));unfold U3.«dict.__iter__»;refine Q6 ?_
 unfold aao;refine Q6 (wpAny_notOrdered_dict hT (Q9 ?_))
 show RA _ _ (Bind.bind (X6 d) _) _ _ s
 unfold X6;rw [if_neg (by rw [hd];decide)]
 refine Q6 (Q9 (Q6 (Xa ho hdat (Q6 (X7 ho hdat ?_)))))
 exact Q6 (R8 (Q9 ⟨_,rfl,"dict_keyiterator",_,⟨_,Rn _ rfl,rfl⟩,S5.lookup,by simpa [aat] using hQ⟩))
theorem Gu {Q:Option Q8->Q_->Prop}(hit:s.heap.IsKeyIter it d i es.size ep) (hod:s.heap.get? d=some o) (Pu:o.data=.dict es ep) (hi:i < es.size)
  (hQ:∀h',h'.IsKeyIter it d (i + 1) es.size ep->Sy it s.heap h'->Q (some es[i].key) {s with heap:=h'}):RA (RG prog w) A (VD (.ref it)) Q E s:=by
 obtain ⟨oi,ho,hc,hd⟩:=id hit
 unfold VD
 refine Q6 (Vv (S_ (name:=VX "__next__") hit.typeIs S5 (Sb S5 hit.typeIs Wc ?_ (V4 _))))
 refine Q6 (Q9 (Q6 (Q6 ?_)))
 refine Q6 (TJ hit.typeIs (Q9 (Q6 (WO ho hd ?_))))
 have hown:Wg "dict_keyiterator"=false:=by decide
 simp only [hown,Ry,if_false]
 show RA _ _ (ite ((Vp d == R7)=true) _ _) _ _ s
 rw [if_neg (show ¬((Vp d == R7)=true) from RV)];refine Q6 (Q9 (Q6 (Xa hod Pu ?_)))
 rw [if_neg (by simp)];refine Q6 (Q9 (Q6 (X7 hod Pu ?_)))
 rw [if_neg (by simp)];refine Q9 ?_
 simp only [show ¬((i:Int) < 0) from by omega,if_false,Tn,Ui hi]
 refine Q6 (Q6 (TJ hit.typeIs (Q9 ?_)))
 refine Q6 (X8 hit.typeIs ?_)
 refine Q6 (m:=setField (.ref it) 1 (aat ((i:Int) + 1))) (aap ho hd (by simp) ?_)
 have P8:(s.heap.update it (aa7 (·.setIfInBounds 1 (aat ((i:Int) + 1))))).IsKeyIter it d (i + 1) es.size ep:=⟨_,S3 _ ho (Obj.isFreed_of_fields (YW hd _)),(Obj.cls_mapFields ..).trans hc,by rw [YW hd];simp [aat]⟩
 refine Q6 (RU (Q6 (X8 (s:={s with heap:=s.heap.update it (aa7 (·.setIfInBounds 1 (aat ((i:Int) + 1))))}) P8.typeIs ?_)))
 exact Q9 (Q9 ⟨_,rfl,Q9 (hQ _ P8 (SW ..))⟩)
theorem IX {Q:Option Q8->Q_->Prop}(hh:A.handled=none) (hit:s.heap.IsKeyIter it d i es.size ep) (hod:s.heap.get? d=some o) (Pu:o.data=.dict es ep) (hi:es.size<=i)
  (hQ:∀h',abJ it s.heap h'->Q none {s with heap:=h'}):RA (RG prog w) A (VD (.ref it)) Q E s:=by
 obtain ⟨oi,ho,hc,hd⟩:=id hit
 unfold VD
 refine Q6 (Vv (S_ (name:=VX "__next__") hit.typeIs S5 (Sb S5 hit.typeIs Wc ?_ (V4 _))))
 refine Q6 (Q9 (Q6 (Q6 ?_)))
 refine Q6 (TJ hit.typeIs (Q9 (Q6 (WO ho hd ?_))))
 have hown:Wg "dict_keyiterator"=false:=by decide
 simp only [hown,Ry,if_false]
 show RA _ _ (ite ((Vp d == R7)=true) _ _) _ _ s
 rw [if_neg (show ¬((Vp d == R7)=true) from RV)];refine Q6 (Q9 (Q6 (Xa hod Pu ?_)))
 rw [if_neg (by simp)];refine Q6 (Q9 (Q6 (X7 hod Pu ?_)))
 rw [if_neg (by simp)];refine Q9 ?_
 simp only [show ¬((i:Int) < 0) from by omega,if_false,Tn,Array.getElem?_eq_none hi]
 refine Q6 (Q6 (TJ hit.typeIs (Q9 ?_)))
 refine Q6 (m:=setField (.ref it) 0 .none) (aap ho hd (by simp) ?_)
 refine Q6 (m:=newExc (.type "StopIteration") []) ?_
 simp only [newExc,newTuple];refine Q6 (R8 ?_ (by size_fits))
 refine Q6 (m:=WQ _ _) (Vj (a:=R7) (by first | rfl | (simp only [WQ];rfl)) (R8 ?_ (by size_fits)))
 simp only [raiseNew];refine Q6 (aa1 ?_)
 rw [show A.in1.handled=none from hh];refine Q6 (Q9 (wpAny_throw ?_))
 exact Q6 (V9 (T:="StopIteration") (b:=true) ⟨_,Rn _ rfl,rfl⟩ aan (Q9 (hQ _ (((SW ..).extBut.push _).push _))))
end
end DL
namespace DL
open PySem PySem.Spec PyProof.Rows L2 DX
noncomputable def N3 (a:Rq) (ep:Nat) (Q4:List (Int×V×V)):It:=⟨λi H=>H a=some (kT a ep Q4)/\i < Q4.length,λi H x H'=>H'=H/\∃p,Q4[i]?=some p/\x=p.2.1,λi H=>H a=some (kT a ep Q4)/\Q4.length<=i⟩
theorem vX {α β:Type}{F:α->β->Prop}:∀{xs:List α}{ys:List β}{i:Nat}(hi:i < ys.length),WT F xs ys->∃p,xs[i]?=some p/\F p ys[i]
 | _,_,0,_,.cons h _=>⟨_,rfl,h⟩
 | _,_,i + 1,hi,.cons _ t=>vX (i:=i) (by simpa using hi) t
theorem Ho {P:Rz}{w:RZ}{K:Q7}{tg:RX}(a it:Rq) (ep:Nat) (Q4:List (Int×V×V)):Turn P w K tg (N3 a ep Q4) [it] it (λi h=>h.IsKeyIter it a i Q4.length ep) where
 mem:=by simp
 obj:=λi h st b hb=>by
  cases Rp.mp hb
  obtain ⟨o,e,c,d⟩:=st
  exact ⟨o,e,λv z=>by rw [d] at z;cases z⟩
 keep:=λi h h' st k=>st.at λo e=>k it (by simp) o e
 item:=by
  rintro X rfl rfl rfl hc i QV s σ H E I hf st ⟨hq,hi⟩
  obtain ⟨o,es,h1,h2,h3,h4⟩:=(show cM X.prog X.w H s.heap a (kT a ep Q4) from I.hok a _ hq).1
  have hl:Q4.length=es.size:=by have:=h4.length;simpa using this
  obtain ⟨p,hp,er⟩:=vX (i:=i) (by simp;omega) h4
  obtain ⟨f0,f1,f2,f3,f4,f5⟩:=hf it (by simp)
  refine Gu (es:=es) (ep:=ep) (hl▸st) h1 h3 (by omega) λh' st' sb=>?_
  have I1:Inv X QV σ H {s with heap:=h'}:=I.turned (t':=s.toks) (λb o hb e=>(sb.2 b hb).trans e) f0 f1 f3 f4 f5
  obtain ⟨oi,e,c,d⟩:=id st'
  exact ⟨_,rfl,xJ (s:={s with heap:=h'}) e c d (by decide) ⟨p.2.1,H,I1,by simpa using er.2.1,⟨rfl,p,hp,rfl⟩,by rw [hl];exact st',λb hb=>(hf b hb).1⟩⟩
 done:=by
  rintro X rfl rfl rfl hc i QV s σ H E I hf st ⟨hq,hi⟩
  obtain ⟨o,es,h1,h2,h3,h4⟩:=(show cM X.prog X.w H s.heap a (kT a ep Q4) from I.hok a _ hq).1
  have hl:Q4.length=es.size:=by have:=h4.length;simpa using this
  obtain ⟨f0,f1,f2,f3,f4,f5⟩:=hf it (by simp)
  exact IX (es:=es) (ep:=ep) (I.ok.hd hc) (hl▸st) h1 h3 (by omega) λh' eb=>⟨rfl,I.turned (t':=s.toks) (λb o hb e=>eb b o hb e) f0 f1 f3 f4 f5⟩
 self:=λ_ _ _ _ _ st h=>wpAny_pyIter_keyiter st h
section
variable {X:Cx}{c:C}{e tg:RX}{g:G R}
noncomputable def uS (g:G R):G (List D):=λenv=>g env >>= λr=>match vB r with
 | some z=>.ok z.1
 | none=>.bad
theorem Mi {tl:TE}(hl:PE X e tl):PI X tg e (λσ H Q=>tl σ H λx H1=>∃a ep Q4,x=.ref a/\(a == UJ)=false/\H1 a=some (kT a ep Q4)/\Q (N3 a ep Q4) H1):=λQV s σ H R I h=>b9 (hl QV s σ H _ I h) λv s1 ⟨x,H1,I1,r1,a,ep,Q4,ex,hsm,hq,q⟩=>by
 subst ex
 cases r1
 obtain ⟨o,es,h1,h2,h3,h4⟩:=(show cM X.prog X.w H1 s1.heap a (kT a ep Q4) from I1.hok a _ hq).1
 have hl:Q4.length=es.size:=by have:=h4.length;simpa using this
 refine Gd hsm h1 h2 h3 ⟨s1.heap.objs.size,[s1.heap.objs.size],_,_,H1,rfl,I1.kept (t':=s1.toks) (λb o e=>Rc _ e),Ho a _ ep Q4,⟨_,Rn _ rfl,rfl,by rw [hl];rfl⟩,λb hb=>?_,q⟩
 cases Rp.mp hb
 exact I1.fpOk (Rj _) (I1.hok.fresh (Rj _))
theorem lA (h:QD X c e g) (hK:X.K=c.K:=by rfl):qS X c tg e (uS g):=have h:=h.h;⟨tX (Mi h) λσ H Q ⟨J,env,sr,w⟩=>by
 refine ⟨J,env,sr,aG (aM w) λr wr v J1 H1 e1 r1=>?_⟩
 cases hz:vB r with
 | none=>rw [hz] at wr;exact wr.elim
 | some z=>
  rw [hz] at wr
  obtain ⟨a,rfl,us,ws,ep,h1,h2,h3,h4,h5,h6⟩:=r1.dk (sr.hp.ext e1) hz
  have hh:∀ds:List D,(c_ ds).length=ds.length:=λds=>by induction ds with
   | nil=>rfl
   | cons d ds ih=>show (c_ ds).length + 1=_;rw [ih];rfl
  have lk:((c_ z.1).zip (us.zip ws)).length=z.1.length:=by
   rw [Z8,Z8,hh,<-h2.length,<-h3.length,<-h6];omega
  refine ⟨a,ep,_,rfl,h5,h1,wr _ J1 H1 e1 λi J' H' hp u=>⟨λhl=>⟨u.2 _ _ h1,by omega⟩,λd hd=>?_⟩⟩
  have hi:i < z.1.length:=(RK.mp hd).1
  obtain ⟨x,k1,k2⟩:=h2.get hd
  refine ⟨⟨u.2 _ _ h1,by omega⟩,λy H2 ⟨e,p,hp',hy⟩=>⟨J',by subst e;exact Ext.refl hp.sub,?_⟩⟩
  have:p.2.1=x:=by
   rw [Vd,] at hp'
   have:=(Vd.mp hp'.2).1
   rw [k1] at this
   cases this;rfl
  rw [hy,this]
  exact k2.mono u.1⟩
end
end DL
namespace DL
open PySem PySem.Spec PyProof.Rows L2
section
variable {X:Cx}{c:C}{e:RX}{es:List RX}{g:G R}{pos p:Pos}{x y:Str}
def Fq (K:Q7) (mg:Str->Option Q8) (x:Str):Prop:=∃f,R_ K RP x=some (some (.ref f))/\mg x=some (.ref f)
noncomputable def DZ (y:Str) (F:List S->M R) (g:G R):G R:=λenv=>g env >>= λr=>match F [bR r,.fn y] with
 | .ok r=>.ok (cF r)
 | _=>.bad
theorem GR {k k':Nat}{F:List S->M R}{q:Pos}(G:bA X.prog X.w X.K X.mg X.base k 2 x F) (hv:Fq X.K X.mg y) (hr:fk k' X.A) (ha:QD X c e g) (hk:k<=k':=by decide) (hT:c.K=X.K:=by rfl) (hg:Gl X x:=by rfl) (QJ:Gl X y:=by rfl)
  (hdb:(x == ("__debug__":Str))=false:=by decide) (QG:(y == ("__debug__":Str))=false:=by decide) (he:Rr [e,.Name y q] X.env=(false,eval e X.env)::Rr [.Name y q] X.env:=by rfl) (PY:Rr [.Name y q] X.env=(false,eval (.Name y q) X.env)::Rr [] X.env:=by rfl)
  (hpl:(TU pos (Rr [.Name y q] X.env)).any (·.1)=false:=by rfl):QD X c (.Call (.Name x p) [e,.Name y q] [] pos) (DZ y F g):=by
 obtain ⟨f,fd,ps,h1,h2,h3,h4⟩:=G
 obtain ⟨f',h5,h6⟩:=hv
 refine ⟨gH (Bj (E:=E0) h1 (hr.mono hk) hg h2 h3 h4 .nil Cy (gq ha.h (gq (Bk (v:=.ref f') QJ h6 rfl QG) jn PY) he) hdb he hpl) λσ H Q ⟨J,env,sr,w⟩=>?_⟩
 refine ⟨J,env,sr,aG (aM w) λr wr v J1 H1 e1 r1=>Ij hT e1 ?_ rfl wr⟩
 obtain ⟨_,_,e,a1,_⟩:=lO.args (rs:=[r]) (vs:=[v]) (sr.hp.ext e1) ⟨v,[],rfl,r1,rfl⟩
 cases e
 exact ⟨v,_,rfl,a1,_,_,rfl,⟨f',rfl,hT▸h5⟩,rfl⟩
noncomputable def Cf (i:Nat) (x:Str) (g g':G R):G R:=λenv=>match env[i]? with
 | some (some (.fn z))=>if z=x then g env else g' env
 | _=>.bad
def Ce:G R:=λ_=>.bad
theorem Bq:QD X c e Ce:=⟨λ_ _ _ _ _ _ ⟨_,_,_,w⟩=>w.elim⟩
theorem zz (i:Nat){k k' n:Nat}{F:List S->M R}{gs:G (List R)}(G:bA X.prog X.w X.K X.mg X.base k n x F) (hv:Fq X.K X.mg x) (hr:fk k' X.A) (ha:kc X c (e::es) gs) (rest:QD X c (.Call (.Name y p) (e::es) [] pos) g) (hk:k<=k':=by decide) (hT:c.K=X.K:=by rfl)
  (hN:X.N[i]?=some y:=by rfl) (hvs:vA X.env.scope y:=by first | exact WE rfl | exact Vy (WE rfl) | exact Vy (Vy rfl)) (hd:(y == ("__debug__":Str))=false:=by decide) (hcd:(y == ("__classdict__":Str))=false:=by decide)
  (he:Rr (e::es) X.env=(false,eval e X.env)::Rr es X.env:=by rfl) (hpl:(TU pos (Rr es X.env)).any (·.1)=false:=by rfl):QD X c (.Call (.Name y p) (e::es) [] pos) (Cf i x (gN (aE n F) gs) g):=by
 refine ⟨λQV s σ H Q I ⟨J,env,sr,w⟩=>?_⟩
 obtain ⟨f,fd,ps,h1,h2,h3,h4⟩:=G
 obtain ⟨f',h5,h6⟩:=hv
 have ef:f'=f:=by rw [h2] at h6;cases h6;rfl
 subst ef
 unfold Cf at w
 split at w
 ·rename_i z hz
  split at w
  ·rename_i ez
   subst ez
   obtain ⟨_,hv,_,rfl,q⟩:=sr.at_ i _ hz
   rw [hT,h5] at q
   cases q
   refine Vs (b9 (pX hN hvs hd hcd QV s σ H (λv H1=>v=.ref f'/\H1=H) I ⟨_,hv,rfl,rfl⟩) λu s1 ⟨x',H1,I1,rx,ev,eh⟩=>?_)
   subst ev eh
   cases rx
   refine YD (h₀:=X.base) I1.ok.mod.kin h3 (b9 (ha.h pos QV s1 σ H1 _ I1 (yv hT σ H1 Q ⟨J,env,sr,w⟩)) λus s2 ⟨vs,H2,I2,r,q⟩=>⟨I2.kIn,?_⟩) he hpl
   exact EX h1 (hr.mono hk) h4 .nil Cy I2 r q
  ·exact rest.h QV s σ H Q I ⟨J,env,sr,w⟩
 ·exact w.elim
end
end DL
namespace K33
open PySem DL
def KP:List Str:=["pairing","pair"]
def D3:G O:=(aO (gN (aE 1 K23.qv) (ao (g2 sN (af 0) (bP (ay (af 1) aK))) av)))
def o9 (as:List S):M R:=fin (D3 (aI KP as))
def Aj:List Str:=["one","other","side","point"]
noncomputable def qZ:G O:=(aC (aY (aT (g2 (cY false) (af 2) (gC (.int 0)))) (aO (bN 1 [3] (bS (ao (g2 bE (af 1) (gC (.int 0))) av)) (aB 0) cR (bP (ay (af 1) (ay (af 0) aK))))) bF)
 (aO (bN 1 [3] (bS (ao (g2 bE (af 0) (gC (.int 0))) av)) (aB 0) cR (bP (ay (af 0) (ay (af 1) aK))))))
def gP (as:List S):M R:=fin (qZ (aI Aj as))
def Dk:List Str:=["one","other"]
noncomputable def vQ:G O:=(aO (g2 cA (bN 1 [] (bS (ao (g2 bE (af 0) (gC (.int 0))) av)) (aB 0) cR (bP (ay (gC (.int 0)) (ay (af 0) aK)))) (bN 1 [] (bS (ao (g2 bE (af 1) (gC (.int 0))) av)) (aB 0) cR (bP (ay (gC (.int 1)) (ay (af 0) aK))))))
def lM (as:List S):M R:=fin (vQ (aI Dk as))
def Di:List Str:=["one","other","pairing","known","grown"]
noncomputable def vO:G O:=(aC (aN 4 (kI 2 [0,1,2] (bS (ao (g2 bE (af 0) (gC (.int 0))) av)) (aB 0) cR (kW (gN (aE 4 K33.gP) (ao (af 2) (ao (af 3) (ao (gC (.int 0)) (ao (af 0) av)))))) (aB 1) cR (af 1) (gN (aE 2 K33.o9) (ao (af 4) (ao (af 1) av)))))
 (aO (bN 2 [0,1,4,3] (gj (gN (aE 2 K33.lM) (ao (af 0) (ao (af 1) av)))) (iG 2 (dB (aB 0) (dB (aB 1) jw))) cR (bN 1 [4,5] (gj (gN (aE 4 K33.gP) (ao (af 2) (ao (af 3) (ao (af 0) (ao (af 1) av)))))) (aB 0) (aT (g2 (nW false) (g2 ir (af 1) (af 0)) (af 2))) (g2 ir (af 1) (af 0))))))
def lJ (as:List S):M R:=fin (vO (aI Di as))
def sC:List Str:=["rows","depths"]
noncomputable def lR:G O:=(aO (gN nU (ao (bN 1 [1] (gj (af 0)) (aB 0) cR (gN yQ (ao (bN 1 [1] (gj (af 0)) (aB 0) cR (g2 (sQ false) (g2 ir (af 1) (af 0)) (gC .non))) av))) av)))
def eY (as:List S):M R:=fin (lR (aI sC as))
def AN:List Str:=["rows","stays","depths","depth","gone","pairing"]
noncomputable def uU:G O:=(aC (aN 2 (iR 1 [] (uS (af 0)) (aB 0) cR (af 0) (gC .non)))
 (aC (aN 3 (gC (.int 1)))
 (aC (aN 4 (bN 1 [1,0,2] (uS (af 0)) (aB 0) (bB (aT (Cf 1 "answered_still" (gN (aE 2 K33.eY) (ao (g2 ir (af 2) (af 0)) (ao (af 3) av))) Ce))) (af 0)))
 (aC (yV 400000 (Cg (af 4)) (aC (j4 4 (eV (kW (af 4)) (aB 5) (yU 2 (af 5) (af 3))))
 (aC (uR 3 yP (gC (.int 1)))
 (aN 4 (bN 1 [2,1,0] (uS (af 0)) (aB 0) (bK (aT (g2 (sQ false) (g2 ir (af 1) (af 0)) (gC .non))) (bB (aT (Cf 2 "answered_still" (gN (aE 2 K33.eY) (ao (g2 ir (af 3) (af 0)) (ao (af 1) av))) Ce)))) (af 0))))))
 (aO (af 2))))))
def mW (as:List S):M R:=fin (uU (aI AN as))
def uB:List Str:=["one","other","base"]
noncomputable def nj:G O:=(aO (bN 1 [2] (gj (gN (aE 3 K23.lK) (ao (af 0) (ao (af 1) (ao (gC (.int 4)) av))))) (aB 0) (aT (gN nU (ao (bN 1 [0] (gj (af 1)) (aB 0) cR (g2 (gg false) (af 0) (af 1))) av))) (af 0)))
def g_ (as:List S):M R:=fin (nj (aI uB as))
def sD:List Str:=["one","other","base","known","rows"]
noncomputable def lS:G O:=(aC (aN 3 (iR 1 [] (gj (gN (aE 3 K33.g_) (ao (af 0) (ao (af 1) (ao (af 2) av))))) (aB 0) cR (af 0) (gC (.bl true))))
 (aC (aN 4 (iR 1 [0,1,3] (uS (af 3)) (aB 0) cR (af 0) (gN (aE 4 K33.lJ) (ao (af 1) (ao (af 2) (ao (af 0) (ao (af 3) av)))))))
 (aO (DZ "answered_still" K33.mW (af 4)))))
def eZ (as:List S):M R:=fin (lS (aI sD as))
def vz:List Str:=["depths","pairing","depth"]
noncomputable def vM:G O:=(aO (bx (g2 (nW false) (af 1) (af 0)) (rP (g2 (sQ false) (g2 ir (af 0) (af 1)) (gC .non)) (g2 (cj λi j=>.bl (decide (j < i))) (g2 ir (af 0) (af 1)) (af 2)))))
def iP (as:List S):M R:=fin (vM (aI vz as))
def BL:List Str:=["depths","depth"]
noncomputable def tu:G O:=(aO (bN 1 [0] (bS (ao (g2 cA (af 1) (gC (.int 1))) av)) (aB 0) cR (bN 1 [1,0] (uS (af 1)) (aB 0) (aT (gN (aE 3 K33.iP) (ao (af 1) (ao (af 0) (ao (af 2) av))))) (af 0))))
def kg (as:List S):M R:=fin (tu (aI BL as))
def IA:List Str:=["one","other","depth"]
noncomputable def A7:G O:=(aC (jk (gN (aE 2 K23.fB) (ao (af 0) (ao (af 1) av))))
 (aC (jk (gN (aE 3 K55.eH) (ao (af 2) (ao (gC (.int 0)) (ao (gC (.int 6)) av)))))
 (aO (gN (aE 2 K33.kg) (ao (gN (aE 3 K33.eZ) (ao (af 0) (ao (af 1) (ao (bP aK) av)))) (ao (af 2) av))))))
def qu (as:List S):M R:=fin (A7 (aI IA as))
end K33
namespace K33
open PySem DL K01 WP K51 K52 K55 K23
abbrev Ps:=List (Nat×Nat)
section
variable {κ:Type}{rows:κ->List (List κ)}{i j d e:Nat}{k:κ}{ks:List κ}
noncomputable def LY (rows:κ->List (List κ)):Nat->κ->Bool
 | 0,_=>true
 | j + 1,k=>LY rows j k && (rows k).all λr=>r.any (LY rows j)
theorem uy:LY rows (j + 1) k=true↔LY rows j k=true/\∀r∈rows k,∃x∈r,LY rows j x=true:=by
 show (LY rows j k && _)=true↔_
 simp only [Ri,R0,SS]
theorem ux (h:i<=j) (q:LY rows j k=true):LY rows i k=true:=by
 induction h with
 | refl=>exact q
 | step _ ih=>exact ih (uy.mp q).1
def dA (rows:κ->List (List κ)) (d:Nat) (k:κ):Option Nat:=(Ra (d + 1)).find? λj=>!LY rows j k
theorem jF:dA rows d k=none↔LY rows d k=true:=by
 unfold dA
 rw [WH]
 constructor
 ·intro h;simpa using h d (by simp)
 ·intro h j hj
  rw [ux (by have:=Rk.mp hj;omega) h]
  decide
theorem IV (h:dA rows d k=some e):LY rows e k=false/\∀i,i < e->LY rows i k=true:=by
 obtain ⟨h1,_,h2⟩:=Xb.mp h
 exact ⟨by simpa using h1,λi hi=>by simpa using h2 i hi⟩
theorem IW:dA rows (d + 1) k=if (LY rows d k && !LY rows (d + 1) k)=true then some (d + 1) else dA rows d k:=by
 have e:dA rows (d + 1) k=(dA rows d k).or ([d + 1].find? λj=>!LY rows j k):=by
  show (Ra (d + 1 + 1)).find? _=_
  rw [T5,List.find?_append];rfl
 rw [e]
 cases q:dA rows d k with
 | none=>
  rw [jF.mp q]
  cases z:LY rows (d + 1) k <;> simp [List.find?,z]
 | some e=>
  have:LY rows d k=false:=by
   cases z:LY rows d k with
   | false=>rfl
   | true=>rw [jF.mpr z] at q;cases q
  rw [this];rfl
theorem Hh (hc:∀k∈ks,∀r∈rows k,∀x∈r,x∈ks) (h:∀k∈ks,LY rows d k=true->LY rows (d + 1) k=true):∀j,∀k∈ks,LY rows d k=true->LY rows j k=true
 | 0,_,_,_=>rfl
 | j + 1,k,hk,q=>uy.mpr ⟨Hh hc h j k hk q,λr hr=>by
  obtain ⟨x,h1,h2⟩:=(uy.mp (h k hk q)).2 r hr
  exact ⟨x,h1,Hh hc h j x (hc k hk r hr x h1) h2⟩⟩
noncomputable def vR (o:Option Nat) (j:Nat):Bool:=match o with
 | none=>true
 | some e=>decide (j < e)
theorem Ll (hs:∀j,LY rows d k=true->LY rows j k=true):vR (dA rows d k) j=LY rows j k:=by
 cases q:dA rows d k with
 | none=>exact (hs j (jF.mp q)).symm
 | some e=>
  obtain ⟨h1,h2⟩:=IV q
  show decide (j < e)=_
  by_cases c:j < e
  ·rw [h2 j c,decide_eq_true c]
  ·cases z:LY rows j k with
   | false=>exact decide_eq_false c
   | true=>rw [ux (by omega) z] at h1;cases h1
theorem xy {rows':κ->List (List κ)}(hc:∀k∈ks,∀r∈rows k,∀x∈r,x∈ks) (he:∀k∈ks,rows k=rows' k):∀j,∀k∈ks,LY rows j k=LY rows' j k
 | 0,_,_=>rfl
 | j + 1,k,hk=>by
  rw [RY,uy,uy,xy hc he j k hk,<-he k hk]
  refine and_congr Yx ⟨λh r hr=>?_,λh r hr=>?_⟩ <;> obtain ⟨x,h1,h2⟩:=h r hr <;> refine ⟨x,h1,?_⟩
  ·rw [<-xy hc he j x (hc k hk r hr x h1)];exact h2
  ·rw [xy hc he j x (hc k hk r hr x h1)];exact h2
end
def nG (ps:Ps):Ps:=(fK (ps.map dP)).map Ip
theorem xQ (ps:Ps):∀d∈ps.map dP,jY pF d:=λd hd=>by obtain ⟨x,_,rfl⟩:=Rg.mp hd;exact Lk x
theorem zU (ps:Ps):(nG ps).map dP=fK (ps.map dP):=back dP Ip xR λd hd=>by
 obtain ⟨x,_,rfl⟩:=Rg.mp ((E4 (jx pF) (xQ ps)).2 d hd);exact ⟨x,rfl⟩
theorem HJ {p:Nat×Nat}{ps:Ps}:dP p∈ps.map dP↔p∈ps:=by
 rw [Rg]
 exact ⟨λ⟨q,h,e⟩=>by rw [<-xR p,<-e,xR];exact h,λh=>⟨p,h,rfl⟩⟩
theorem iS {ps:Ps}{q:Nat×Nat}:q∈nG ps↔q∈ps:=by
 rw [<-HJ,zU,(rZ (jx pF) (xQ ps)).2,HJ]
theorem qm (ps:Ps):(nG ps).Pairwise pW:=by
 have:=(rZ (jx pF) (xQ ps)).1
 rw [<-zU,R3] at this
 exact this.imp fun {a b} h=>(HX a b).mp h
theorem HD {A B:Ps}(hA:A.Pairwise pW) (hB:B.Pairwise pW) (h:∀y,y∈A↔y∈B):A=B:=by
 have up:∀{C:Ps},C.Pairwise pW->(C.map dP).Pairwise λa b=>fG a b=true:=fun {C} hC=>R3.mpr (hC.imp fun {a b} h=>(HX a b).mpr h)
 have e:=ur (jx pF) (xQ A) (up hA) (up hB) λy=>by
  rw [Rg,Rg]
  exact ⟨λ⟨q,a,b⟩=>⟨q,(h q).mp a,b⟩,λ⟨q,a,b⟩=>⟨q,(h q).mpr a,b⟩⟩
 have:=congrArg (abQ Ip) e
 simpa only [RT,VP,xR,List.map_id'] using this
section
variable {v w:Wd}{ps qs S:Ps}{p:Nat×Nat}{n j:Nat}
structure j6 (v w:Wd) (S:Ps):Prop where
 ag:∀p∈S,∀q∈S,AL v w p q
 rg:∀p∈S,qQ v w p
theorem j6.sub (h:j6 v w S) (hs:∀p∈ps,p∈S):j6 v w ps:=⟨λp hp q hq=>h.ag p (hs p hp) q (hs q hq),λp hp=>h.rg p (hs p hp)⟩
theorem n5 (hu:ps.Pairwise pW):Good v w ps↔j6 v w ps:=⟨λg=>⟨g.ag,g.rg⟩,λf=>⟨hu.imp_of_mem fun {a b} ha hb h=>by
 have:=(f.ag a ha b hb).eq
 unfold pW at h
 omega,f.ag,f.rg⟩⟩
theorem yX (g:Good v w ps):ps.length<=v.m:=by
 have h:=RN (l₁:=ps.map Ve) (l₂:=Ra v.m) (R3.mpr (g.up.imp λh=>by omega)) λx hx=>by
  obtain ⟨p,hp,rfl⟩:=Rg.mp hx
  exact Rk.mpr (g.rg p hp).1
 simpa using h
abbrev T4 (v w:Wd):List Ps:=told v w 4
theorem tR (t:Pr v w):ps∈T4 v w↔Good v w ps:=by
 rw [vq]
 constructor
 ·rintro ⟨j,_,h⟩;exact ((tQ j).mp h).2
 ·intro g;exact ⟨ps.length,RS (yX g) t.v4,(tQ _).mpr ⟨rfl,g⟩⟩
theorem Hx (v w:Wd):∀j,(LG v w j).Nodup
 | 0=>Sf _ _
 | j + 1=>by
  refine V3.mpr ⟨λah _=>R3.mpr ?_,(Hx v w j).imp_of_mem fun {a b} _ _ hab x hx y hy e=>?_⟩
  ·exact (((ow v.m w.m).filter _).filter _).imp λh e=>h (by simpa using e)
  ·obtain ⟨p,_,rfl⟩:=Rg.mp hx
   obtain ⟨q,_,rfl⟩:=Rg.mp hy
   exact hab (List.append_inj' e rfl).1
theorem Bw (v w:Wd):∀j,(told v w j).Nodup
 | 0=>Sf _ _
 | j + 1=>VN.mpr ⟨Bw v w j,Hx v w (j + 1),λa ha b hb e=>by
  obtain ⟨i,hi,h⟩:=(vq j).mp ha
  have h1:=(sf i h).1
  have h2:=(sf (j + 1) hb).1
  rw [e] at h1
  omega⟩
def dU (ps:Ps) (p:Nat×Nat):Ps:=nG (ps++[p])
theorem u6 {q:Nat×Nat}:q∈dU ps p↔q∈ps\/q=p:=by unfold dU;rw [iS];simp
theorem Na (t:Pr v w):dU ps p∈T4 v w↔j6 v w (ps++[p]):=by
 rw [tR t,dU,n5 (qm _)]
 exact ⟨λh=>h.sub λq hq=>iS.mpr hq,λh=>h.sub λq hq=>iS.mp hq⟩
def kn (v w:Wd) (B:Ps):List Ps:=(T4 v w).filter λps=>B.all λq=>decide (q∈ps)
theorem ny {B:Ps}:ps∈kn v w B↔ps∈T4 v w/\∀q∈B,q∈ps:=by
 unfold kn
 rw [R1,R0]
 simp
def picks (v w:Wd):Ps:=(Ra v.m).map (λa=>(0,a))++(Ra w.m).map λb=>(1,b)
def lq (v w:Wd) (k:Nat×Nat):Ps:=if k.1=0 then (Ra w.m).map λb=>(k.2,b) else (Ra v.m).map λa=>(a,k.2)
def RW (v w:Wd) (B ps:Ps):List (List Ps):=(picks v w).map λk=>((lq v w k).map (dU ps)).filter λx=>decide (x∈kn v w B)
theorem BS {B:Ps}:∀k∈kn v w B,∀r∈RW v w B k,∀x∈r,x∈kn v w B:=λk _ r hr x hx=>by
 obtain ⟨_,_,rfl⟩:=Rg.mp hr
 simpa using (R1.mp hx).2
theorem M_ {B:Ps}:∀k∈kn v w B,RW v w B k=RW v w [] k:=λk hk=>UG λa _=>VQ λx hx=>by
 obtain ⟨p,_,rfl⟩:=Rg.mp hx
 rw [RY,decide_eq_true_eq,decide_eq_true_eq,ny,ny]
 exact ⟨λh=>⟨h.1,λ_ h=>nomatch h⟩,λh=>⟨h.1,λq hq=>u6.mpr (.inl ((ny.mp hk).2 q hq))⟩⟩
def La (v w:Wd) (j:Nat) (ps:Ps):Bool:=LY (RW v w []) j ps
theorem Oc {B:Ps}(h:ps∈kn v w B):LY (RW v w B) j ps=La v w j ps:=xy BS M_ j ps h
theorem uz:La v w (j + 1) ps=true↔La v w j ps=true/\∀k∈picks v w,∃p∈lq v w k,dU ps p∈T4 v w/\La v w j (dU ps p)=true:=by
 show LY _ (j + 1) ps=true↔_
 rw [uy]
 refine and_congr Yx ⟨λh k hk=>?_,λh r hr=>?_⟩
 ·obtain ⟨x,h1,h2⟩:=h _ (Rg.mpr ⟨k,hk,rfl⟩)
  obtain ⟨h3,h4⟩:=R1.mp h1
  obtain ⟨p,h5,rfl⟩:=Rg.mp h3
  exact ⟨p,h5,(ny.mp (of_decide_eq_true h4)).1,h2⟩
 ·obtain ⟨k,hk,rfl⟩:=Rg.mp hr
  obtain ⟨p,h1,h2,h3⟩:=h k hk
  exact ⟨_,R1.mpr ⟨Rg.mpr ⟨p,h1,rfl⟩,decide_eq_true (ny.mpr ⟨h2,λ_ h=>nomatch h⟩)⟩,h3⟩
end
end K33
namespace K33
open PySem DL K01 WP K51 K52 K55 K23 K22
section
variable {α:Type} [DecidableEq α] {e:α->D}{f:α->D}{ks:List α}{k:α}{d:D}
theorem pS (he:∀a b,bz (e a) (e b)=decide (a=b)) (f:α->D):∀(ks:List α) (k:α),ic (ks.map e) (ks.map f) (e k)=if k∈ks then some (f k) else none
 | [],_=>rfl
 | a::ks,k=>by
  rw [Rv,Rv,ic,he,pS he f ks k]
  by_cases h:a=k
  ·subst h;simp
  ·rw [if_neg (by simpa using h)]
   simp [Um h]
theorem Bo (he:∀a b,bz (e a) (e b)=decide (a=b)) (f:α->D) (k:α) (d:D):∀ks:List α,vd (ks.map e) (ks.map f) (e k) d=ks.map λx=>if x=k then d else f x
 | []=>rfl
 | a::ks=>by
  rw [Rv,Rv,vd,he,Bo he f k d ks,Rv]
  simp only [decide_eq_true_eq]
theorem FO (he:∀a b,bz (e a) (e b)=decide (a=b)) (hk:k∈ks):dput (ks.map e,ks.map f) (e k) d=(ks.map e,ks.map λx=>if x=k then d else f x):=by
 unfold dput
 simp only
 rw [pS he,if_pos hk,Bo he]
 rfl
theorem uO (he:∀a b,bz (e a) (e b)=decide (a=b)) (f:α->D):∀(n:Nat) (ks:List α),ks.length=n->ks.Nodup->iQ (ks.map λk=>D.tup [e k,f k])=(ks.map e,ks.map f)
 | 0,ks,h,_=>by rw [UD.mp h];rfl
 | n + 1,ks,h,nd=>by
  rcases Uc ks with rfl | ⟨qs,p,rfl⟩
  ·cases h
  ·rw [Ud] at h nd ⊢
   have nd':=VN.mp nd
   have hp:p∉qs:=λhq=>nd'.2.2 p hq p (by simp) rfl
   rw [RM,RM,RM,Rv,WC,nQ,uO he f n qs (by simpa using h) nd'.1]
   unfold dput
   simp only
   rw [pS he,if_neg hp]
   rfl
end
theorem ji (a b:Ps):bz (bu a) (bu b)=decide (a=b):=by
 show cP (a.map dP) (b.map dP)=_
 induction a generalizing b with
 | nil=>cases b <;> simp [cP]
 | cons x a ih=>
  cases b with
  | nil=>simp [cP]
  | cons y b=>rw [Rv,Rv,gR,ih,K55.vI,RY];simp
theorem Lo {m:Md}(p:Ps) (L:List Ps) (x:R) (hx:jg x=.ok (L.map bu)):gg false (.d (bu p)) x=.ok (.d (.bl (decide (p∈L)))):=by
 have h1:∀q:Ps,dep (bu q)<=60:=Mk
 unfold gg
 rw [hx,aL,if_pos ⟨dQ λd hd=>by obtain ⟨q,_,rfl⟩:=Rg.mp hd;exact h1 q,h1 p⟩]
 have:inD (bu p) (L.map bu)=decide (p∈L):=by
  unfold inD
  rw [Vn,RY,SS,decide_eq_true_eq]
  simp only [VP,ji,decide_eq_true_eq]
  exact ⟨λ⟨x,h,e⟩=>e▸h,λh=>⟨p,h,rfl⟩⟩
 show M.ok (R.d (.bl (inD (bu p) (L.map bu))))=_
 rw [this]
theorem M7 (ps:Ps) (hl:ps.length < 64):qv [.d (bu ps)]=.ok (.d (bu (nG ps))):=by
 refine cV (iD (cL (b:=false) rfl rfl rfl) (dg (n1 (n1 (x:=.d (bu ps)) (z:=.l .fresh (fK (ps.map dP))) rfl (OC ps hl)) rfl) rfl ?_))
 rw [<-zU]
theorem K9 (ps:Ps) (p:Nat×Nat) (hl:ps.length < 63):sN (.d (bu ps)) (.d (.tup [dP p]))=.ok (.d (bu (ps++[p]))):=by
 rw [bu,Im _ _ (by simp;omega),bu,RM];rfl
theorem Iq (ps:Ps) (p:Nat×Nat) (hl:ps.length < 63):o9 [.d (bu ps),.d (dP p)]=.ok (.d (bu (dU ps p))):=
 cV (dg (c1 (two rfl (cI (bf rfl rfl bQ) (by show 1<=1000;decide)) (K9 ps p hl)) (M7 _ (by simp;omega))) rfl rfl)
section
variable {v w:Wd}
theorem KH (hv:v.m<=1000) (hw:w.m<=1000) (s x:Nat):gP [.d v.d,.d w.d,.d (.int s),.d (.int x)]=.ok (.l .fresh ((lq v w (s,x)).map dP)):=by
 have hb:cY false (.d (.int (s:Int))) (.d (.int 0))=.ok (.d (.bl (decide (s=0)))):=by
  rw [K01.eq_int]
  congr 3
  rw [RY];simp
 unfold lq
 by_cases h:s=0
 ·rw [if_pos h,RT]
  exact cV (fN (tK (cL rfl rfl (hb.trans (by rw [decide_eq_true h]))) (dg (jD (λb=>dP (x,b)) (iz (bW (two rfl rfl (cu _ _))) hw) (by simp;omega) λb _=>⟨_,cI (bf rfl rfl (bf rfl rfl bQ)) t2,rfl⟩) rfl rfl)))
 ·rw [if_neg h,RT]
  exact cV (iD (cL rfl rfl (hb.trans (by rw [decide_eq_false h]))) (dg (jD (λa=>dP (a,x)) (iz (bW (two rfl rfl (cu _ _))) hv) (by simp;omega) λb _=>⟨_,cI (bf rfl rfl (bf rfl rfl bQ)) t2,rfl⟩) rfl rfl))
theorem Iu (hv:v.m<=1000) (hw:w.m<=1000):lM [.d v.d,.d w.d]=.ok (.l .fresh ((picks v w).map dP)):=by
 refine cV (dg (two (jD (λa=>dP (0,a)) (iz (bW (two rfl rfl (cu _ _))) hv) (by simp;omega) λb _=>⟨_,cI (bf rfl rfl (bf rfl rfl bQ)) t2,rfl⟩) (jD (λa=>dP (1,a)) (iz (bW (two rfl rfl (cu _ _))) hw) (by simp;omega) λb _=>⟨_,cI (bf rfl rfl (bf rfl rfl bQ)) t2,rfl⟩) (z:=.l .fresh ((picks v w).map dP)) ?_) rfl rfl)
 unfold picks
 rw [RM,RT,RT]
 show (if _<=sizeLine then _ else M.bad)=_
 rw [if_pos (by rw [Sh];simp;omega)]
 rfl
end
section
variable {α:Type} [DecidableEq α] {e f:α->D}{ks:List α}{k:α}{env:Ev}
theorem N6 {act:Ev->M (List D×Ev)}{h f:α->D}{rest:Ev}:∀(ys:List α),(∀y∈ys,act (some (.d (h y))::rest)=.ok ([f y],some (.d (h y))::rest))->∀z:Option S,∃z',cD (aB 0) cR act (ys.map h) (z::rest)=.ok (ys.map f,z'::rest)
 | [],_,z=>⟨z,rfl⟩
 | y::ys,H,z=>by
  obtain ⟨z',ih⟩:=N6 ys (λy hy=>H y (Rb _ hy)) (some (.d (h y)))
  refine ⟨z',?_⟩
  rw [Rv]
  unfold cD
  show (act (some (.d (h y))::rest) >>= _)=_
  rw [H y Rf,aL]
  show (cD (aB 0) cR act (ys.map h) (some (.d (h y))::rest) >>= _)=_
  rw [ih]
  rfl
theorem yJ {cap:List Nat}{gi:G (List D)}{gk gv:G R}(he:∀a b,bz (e a) (e b)=decide (a=b)) (nd:ks.Nodup) (hi:gi env=.ok (ks.map e)) (hl:ks.length<=1000000)
  (hb:∀k∈ks,ff (e k)=true/\gk (some (.d (e k))::cE 0 cap env)=.ok (.d (e k))/\∃r,gv (some (.d (e k))::cE 0 cap env)=.ok r/\toD r=.ok (f k)):iR 1 cap gi (aB 0) cR gk gv env=.ok (.mf (ks.map e) (ks.map f)):=by
 obtain ⟨z,h⟩:=N6 (act:=rD gk gv) (h:=e) (f:=λk=>.tup [e k,f k]) (rest:=cE 0 cap env) ks (λk hk=>by
  obtain ⟨h1,h2,r,h3,h4⟩:=hb k hk
  exact uD h2 rfl h3 h4 h1) none
 unfold iR jj
 rw [hi,aL,if_pos (by rw [Rh];exact hl)]
 show (cD (aB 0) cR (rD gk gv) (ks.map e) (none::cE 0 cap env) >>= _)=_
 rw [h]
 show M.ok (R.mf (iQ _).1 (iQ _).2)=_
 rw [uO he f _ ks rfl nd]
theorem nc (he:∀a b,bz (e a) (e b)=decide (a=b)){x:R}(hx:vB x=some (ks.map e,ks.map f)) (ok:ff (e k)=true) (hk:k∈ks):ir x (.d (e k))=.ok (.d (f k)):=by
 unfold ir
 rw [hx]
 simp only
 rw [if_pos ok,pS he,if_pos hk]
theorem A9 (he:∀a b,bz (e a) (e b)=decide (a=b)){x:R}(hx:vB x=some (ks.map e,ks.map f)) (ok:ff (e k)=true){q:Decidable (k∈ks)}:nW false (.d (e k)) x=.ok (.d (.bl (@decide (k∈ks) q))):=by
 unfold nW
 rw [hx]
 simp only
 rw [if_pos ok,pS he]
 by_cases h:k∈ks <;> simp [h]
end
theorem anyM {α:Type}(f:α->Bool) (xs:List α):yQ [.l .fresh (xs.map λx=>.bl (f x))]=.ok (.d (.bl (xs.any f))):=by
 have:=uH (λd=>match d with
  | .bl b=>b
  | _=>false) (xs.map λx=>.bl (f x))
 rw [RT,RT] at this
 unfold yQ
 show (match jN (xs.map λx=>.bl (f x)) with
  | some ks=>M.ok (R.d (.bl (ks.any id)))
  | none=>.bad)=_
 rw [show jN (xs.map λx=>.bl (f x))=some (xs.map f) from this]
 simp [Vn]
section
variable {v w:Wd}
abbrev p7 (r:List Ps):D:=.lst (r.map bu)
theorem M6 (t:Pr v w) (ks:List Ps) (ps:Ps) (hl:ps.length < 63):lJ [.d v.d,.d w.d,.d (bu ps),.db (ks.map bu) (ks.map λ_=>.bl true)]=.ok (.l .fresh (((picks v w).map λk=>((lq v w k).map (dU ps)).filter λx=>decide (x∈ks)).map p7)):=by
 have v4:=t.v4
 have w4:=t.w4
 have hg:kI 2 [0,1,2] (bS (ao (g2 bE (af 0) (gC (.int 0))) av)) (aB 0) cR (kW (gN (aE 4 K33.gP) (ao (af 2) (ao (af 3) (ao (gC (.int 0)) (ao (af 0) av)))))) (aB 1) cR (af 1) (gN (aE 2 K33.o9) (ao (af 4) (ao (af 1) av)))
   [some (.d v.d),some (.d w.d),some (.d (bu ps)),some (.db (ks.map bu) (ks.map λ_=>.bl true)),none]=.ok (.d (.dct ((fq v.m w.m).map dP) ((fq v.m w.m).map λq=>bu (dU ps q)))):=by
  refine (xC (xs:=Ra v.m) (h:=dN) (h':=dP) (λa=>(Ra w.m).map λb=>(a,b)) (λ_ _=>true) (λ_ q=>.tup [dP q,bu (dU ps q)]) (iz (bW (two rfl rfl (cu _ _))) (by omega)) (by simp;omega) λa ha=>⟨by simp;omega,λz=>?_,λq hq=>⟨rfl,λ_=>uD rfl rfl (c2 rfl rfl (Iq ps q hl)) rfl rfl⟩⟩).trans ?_
  ·show (gN _ _ _ >>= _)=_
   rw [c4 rfl rfl rfl rfl (KH (v:=v) (w:=w) (by omega) (by omega) 0 a)]
   rfl
  ·have e:((Ra v.m).flatMap λa=>(((Ra w.m).map λb=>(a,b)).filter λ_=>true).map λq=>D.tup [dP q,bu (dU ps q)])=(fq v.m w.m).map λq=>D.tup [dP q,bu (dU ps q)]:=by
    unfold fq
    rw [Wb]
    congr 1
    funext a
    rw [Wv.mpr λ_ _=>rfl]
   rw [e]
   show M.ok (R.d (.dct (iQ _).1 (iQ _).2))=_
   rw [uO K55.vI _ _ _ rfl (ow v.m w.m)]
 refine cV (cH hg rfl (dg (qz (xs:=picks v w) (λk=>dN k.1) (λk=>dN k.2) (λk=>p7 (((lq v w k).map (dU ps)).filter λx=>decide (x∈ks))) ?_ (by unfold picks;simp;omega) λk hk=>?_) rfl (by rw [RT];rfl)))
 ·show (gN _ _ _ >>= _)=_
  rw [c2 rfl rfl (Iu (v:=v) (w:=w) (by omega) (by omega))]
  rfl
 ·have hin:∀q∈lq v w k,q∈fq v.m w.m:=λq hq=>by
   rw [om]
   have hk:(k.1=0/\k.2 < v.m)\/(k.1≠0/\k.2 < w.m):=by
    unfold picks at hk
    simp only [RJ,Rg,Rk] at hk
    rcases hk with ⟨a,h,rfl⟩ | ⟨a,h,rfl⟩
    ·exact .inl ⟨rfl,h⟩
    ·exact .inr ⟨Nat.one_ne_zero,h⟩
   unfold lq at hq
   rcases hk with ⟨h1,h2⟩ | ⟨h1,h2⟩
   ·rw [if_pos h1] at hq
    obtain ⟨b,hb,rfl⟩:=Rg.mp hq
    exact ⟨h2,Rk.mp hb⟩
   ·rw [if_neg h1] at hq
    obtain ⟨b,hb,rfl⟩:=Rg.mp hq
    exact ⟨Rk.mp hb,h2⟩
  refine ⟨.l .fresh (((((lq v w k).map (dU ps)).filter λx=>decide (x∈ks))).map bu),?_,rfl⟩
  rw [Z7,RT]
  refine kj (xs:=lq v w k) (h:=dP) (λq=>decide (dU ps q∈ks)) (λq=>bu (dU ps q)) ?_ (by unfold lq;split <;> simp <;> omega) λq hq=>?_
  ·show (gN _ _ _ >>= _)=_
   rw [c4 rfl rfl rfl rfl (KH (v:=v) (w:=w) (by omega) (by omega) k.1 k.2)]
   rfl
  ·have hd:=nc (e:=dP) (f:=λq=>bu (dU ps q)) K55.vI (x:=.d (.dct ((fq v.m w.m).map dP) ((fq v.m w.m).map λq=>bu (dU ps q)))) rfl (k:=q) rfl (hin q hq)
   exact ⟨cL (two rfl rfl hd) rfl (A9 (ks:=ks) (f:=λ_=>.bl true) ji (x:=.mb (ks.map bu) (ks.map λ_=>.bl true)) rfl (iB (dU ps q))),λ_=>⟨_,two rfl rfl hd,rfl⟩⟩
end
noncomputable def dV:Option Nat->D
 | none=>.non
 | some e=>.int e
theorem Ck (o:Option Nat):sQ false (.d (dV o)) (.d .non)=.ok (.d (.bl o.isNone)):=by cases o <;> rfl
theorem Iw (rs:List (List Ps)) (ks:List Ps) (f:Ps->Option Nat) (h:∀r∈rs,∀x∈r,x∈ks) (h1:rs.length<=1000) (h2:∀r∈rs,r.length<=1000):eY [.d (.lst (rs.map p7)),.db (ks.map bu) (ks.map λk=>dV (f k))]=.ok (.d (.bl (rs.all λr=>r.any λx=>(f x).isNone))):=by
 refine cV (dg (n1 (jD (xs:=rs) (h:=p7) (λr=>.bl (r.any λx=>(f x).isNone)) rfl (by omega) λr hr=>⟨_,n1 (jD (xs:=r) (h:=bu) (λx=>.bl (f x).isNone) rfl (by have:=h2 r hr;omega) λx hx=>⟨_,two (two rfl rfl (nc (f:=λk=>dV (f k)) ji rfl (iB x) (h r hr x hx))) rfl (Ck (f x)),rfl⟩) (anyM _ r),rfl⟩) (allM _ rs)) rfl rfl)
theorem part {κ:Type}{p q:κ->Bool}(h:∀k,q k=true->p k=true):∀l:List κ,(l.filter p).length=(l.filter q).length + (l.filter λk=>p k && !q k).length
 | []=>rfl
 | a::l=>by
  have ih:=part h l
  cases hq:q a with
  | true=>simp [h a hq,hq];omega
  | false=>cases hp:p a <;> simp [hp,hq] <;> omega
abbrev wC (rows:Ps->List (List Ps)) (k:Ps):D:=.lst ((rows k).map p7)
abbrev eP (ks:List Ps) (rows:Ps->List (List Ps)) (f:Ps->Option Nat) (d:Nat) (g z:Option S):Ev:=[some (.db (ks.map bu) (ks.map (wC rows))),some (.fn "answered_still"),some (.dk (ks.map bu) (ks.map λk=>dV (f k))),some (.d (.int d)),g,z]
section
variable {ks:List Ps}{rows:Ps->List (List Ps)}
theorem Fo (nd:ks.Nodup) (hl:ks.length<=390000) (hc:∀k∈ks,∀r∈rows k,∀x∈r,x∈ks) (h1:∀k∈ks,(rows k).length<=1000) (h2:∀k∈ks,∀r∈rows k,r.length<=1000):
  ∃d,mW [.db (ks.map bu) (ks.map (wC rows)),.fn "answered_still"]=.ok (.mf (ks.map bu) (ks.map λk=>dV (dA rows d k)))/\∀k∈ks,LY rows d k=true->LY rows (d + 1) k=true:=by
 have st:∀d k,k∈ks->eY [.d (wC rows k),.db (ks.map bu) (ks.map λk=>dV (dA rows d k))]=.ok (.d (.bl ((rows k).all λr=>r.any (LY rows d)))):=λd k hk=>by
  rw [Iw (rows k) ks (dA rows d) (hc k hk) (h1 k hk) (h2 k hk)]
  congr 4
  funext r
  congr 1
  funext x
  rw [RY,Option.isNone_iff_eq_none,jF]
 have dx:∀k∈ks,∀x:R,vB x=some (ks.map bu,ks.map (wC rows))->ir x (.d (bu k))=.ok (.d (wC rows k)):=λk hk x hx=>nc ji hx (iB k) hk
 have key:Wp (uU (aI AN [.db (ks.map bu) (ks.map (wC rows)),.fn "answered_still"])) λo=>∃r,o=.rt r/\∃d,r=.mf (ks.map bu) (ks.map λk=>dV (dA rows d k))/\∀k∈ks,LY rows d k=true->LY rows (d + 1) k=true:=by
  refine cH (yJ (e:=bu) (f:=λk=>dV (dA rows 0 k)) (ks:=ks) ji nd rfl (by omega) λk hk=>⟨iB k,rfl,_,rfl,by rw [jF.mpr rfl];rfl⟩) rfl (cH rfl rfl (cH (kj (xs:=ks) (h:=bu) (λk=>LY rows 0 k && !LY rows 1 k) bu rfl (by omega) λk hk=>⟨?_,λ_=>⟨_,rfl,rfl⟩⟩) rfl ?_))
  ·refine kB (b:=LY rows 1 k) (mR ?_)
   exact (c2 (two rfl rfl (dx k hk _ rfl)) rfl (st 0 k hk)).trans rfl
  ·refine Kc (λn env=>∃d z,env=eP ks rows (dA rows d) (d + 1) (some (.own ((ks.filter λk=>LY rows d k && !LY rows (d + 1) k).map bu))) z/\n=(ks.filter (LY rows d)).length) (ks.filter (LY rows 0)).length (by have:=Sa (LY rows 0) ks;omega) ⟨0,none,rfl,rfl⟩ ?_
   rintro n _ ⟨d,z,rfl,rfl⟩
   obtain ⟨g,hg⟩:∃g,g=ks.filter λk=>LY rows d k && !LY rows (d + 1) k:=⟨_,rfl⟩
   rw [<-hg]
   have hm:∀k,k∈g↔k∈ks/\LY rows d k=true/\LY rows (d + 1) k=false:=λk=>by rw [hg,R1];simp
   by_cases h0:g=[]
   ·refine .inl ⟨by rw [h0];rfl,dg rfl rfl ⟨_,rfl,d,rfl,λk hk q=>?_⟩⟩
    cases z:LY rows (d + 1) k with
    | true=>rfl
    | false=>have:=(hm k).mpr ⟨hk,q,z⟩;rw [h0] at this;cases this
   ·refine .inr ⟨?_,?_⟩
    ·show M.ok (!(g.map bu).isEmpty)=_
     cases g with
     | nil=>exact absurd rfl h0
     | cons _ _=>rfl
    have QO:=part (p:=LY rows d) (q:=LY rows (d + 1)) (λk h=>ux (To d) h) ks
    rw [<-hg] at QO
    have g0:0 < g.length:=List.length_pos_iff.mpr h0
    refine fN (De rfl (qE (ds:=g.map bu) rfl (qp (λi env=>∃z,env=eP ks rows (λk=>if k∈g.take i then some (d + 1) else dA rows d k) (d + 1) (some (.d (.lst (g.map bu)))) z) (g.map bu) ⟨z,by simp⟩ ?_ ?_)))
    ·rintro i hi _ ⟨z,rfl⟩
     have hi':i < g.length:=by simpa using hi
     have e:(g.map bu)[i]=bu g[i]:=V8 ..
     have hk:g[i]∈ks:=((hm _).mp (SH hi')).1
     rw [e]
     have ev:dput (ks.map bu,ks.map λk=>dV (if k∈g.take i then some (d + 1) else dA rows d k)) (bu g[i]) (.int ((d + 1:Nat):Int))=(ks.map bu,ks.map λk=>dV (if k∈g.take (i + 1) then some (d + 1) else dA rows d k)):=by
      rw [FO ji hk,VS,Rl hi']
      congr 1
      refine UG λk _=>?_
      simp only [RJ,Option.toList_some,Rp]
      by_cases c:k=g[i]
      ·rw [if_pos c,if_pos (.inr c)];rfl
      ·simp only [c,if_false,or_false]
     exact ⟨_,rfl,Nq (ks:=ks.map bu) (vs:=ks.map λk=>dV (if k∈g.take i then some (d + 1) else dA rows d k)) rfl rfl rfl rfl rfl (iB g[i]) (by rw [Rh];omega) ⟨_,rfl,some (.d (bu g[i])),by rw [ev];rfl⟩⟩
    ·rintro _ ⟨z,rfl⟩
     have ev:(ks.map λk=>dV (if k∈g.take (g.map bu).length then some (d + 1) else dA rows d k))=ks.map λk=>dV (dA rows (d + 1) k):=UG λk hk=>by
      rw [Rh,Vf,IW]
      congr 1
      by_cases c:k∈g
      ·rw [if_pos c,if_pos (by obtain ⟨_,a,b⟩:=(hm k).mp c;rw [a,b];rfl)]
      ·rw [if_neg c,if_neg λz=>c ((hm k).mpr ⟨hk,by simpa using z⟩)]
     show Wp _ _
     unfold eP
     rw [ev]
     refine fN (Nn rfl rfl rfl rfl (qF (kj (xs:=ks) (h:=bu) (λk=>LY rows (d + 1) k && !LY rows (d + 1 + 1) k) bu rfl (by omega) λk hk=>⟨?_,λ_=>⟨_,rfl,rfl⟩⟩) rfl ⟨(ks.filter (LY rows (d + 1))).length,by omega,d + 1,z,rfl,rfl⟩))
     have q1:=nc (f:=λk=>dV (dA rows (d + 1) k)) (ks:=ks) (k:=k) (e:=bu) ji (x:=.mo (ks.map bu) (ks.map λk=>dV (dA rows (d + 1) k))) rfl (iB k) hk
     cases c:LY rows (d + 1) k with
     | false=>
      refine sG (cL (two rfl rfl q1) rfl ((Ck _).trans ?_))
      cases z:dA rows (d + 1) k with
      | none=>rw [jF.mp z] at c;cases c
      | some _=>rfl
     | true=>
      rw [jF.mpr c] at q1
      refine qx (cL (two rfl rfl q1) rfl (Ck none)) (kB (b:=LY rows (d + 1 + 1) k) (mR ((c2 (two rfl rfl (dx k hk _ rfl)) rfl (st (d + 1) k hk)).trans ?_)))
      show M.ok (R.d (.bl _))=M.ok (R.d (.bl (LY rows (d + 1) k && _)))
      rw [c];rfl
 obtain ⟨r,h,d,rfl,hs⟩:=Dd key
 exact ⟨d,h,hs⟩
end
section
variable {v w:Wd}{B:Ps}
theorem BV (t:Pr v w):(T4 v w).length<=327680:=r_ t 4 (Rj _)
theorem OW (t:Pr v w){ps:Ps}(h:ps∈T4 v w):ps.length<=4:=RS (yX ((tR t).mp h)) t.v4
theorem Iv (t:Pr v w) (hB:B.length<=100):g_ [.d v.d,.d w.d,.d (bu B)]=.ok (.l .fresh ((kn v w B).map bu)):=by
 have tl:=BV t
 refine cV (dg (kj (xs:=T4 v w) (h:=bu) (λps=>B.all λq=>decide (q∈ps)) bu ?_ (by omega) λps _=>⟨?_,λ_=>⟨_,rfl,rfl⟩⟩) rfl rfl)
 ·show (gN _ _ _ >>= _)=_
  rw [c3 rfl rfl rfl (BC t 4 (Rj _))]
  rfl
 ·refine zZ (n1 (jD (xs:=B) (h:=dP) (λq=>.bl (decide (q∈ps))) rfl (by omega) λq _=>⟨_,two rfl rfl (Ln q ps),by rw [K55.HR];rfl⟩) (allM _ B))
theorem KG (t:Pr v w) (hB:B.length<=100):∃f:Ps->Option Nat,eZ [.d v.d,.d w.d,.d (bu B)]=.ok (.mf ((kn v w B).map bu) ((kn v w B).map λk=>dV (f k)))/\∀j,∀k∈kn v w B,vR (f k) j=La v w j k:=by
 have v4:=t.v4
 have w4:=t.w4
 have tl:=BV t
 have kl:(kn v w B).length<=(T4 v w).length:=Sa _ _
 have nd:(kn v w B).Nodup:=(Bw v w 4).filter _
 have pl:(picks v w).length<=8:=by unfold picks;simp;omega
 obtain ⟨d,h1,h2⟩:=Fo (ks:=kn v w B) (rows:=RW v w B) nd (by omega) BS (λk _=>by unfold RW;rw [Rh];omega) (λk _ r hr=>by
  obtain ⟨q,_,rfl⟩:=Rg.mp hr
  refine RS (Sa _ _) ?_
  rw [Rh]
  unfold lq
  split <;> simp <;> omega)
 refine ⟨dA (RW v w B) d,?_,λj k hk=>(Ll λj q=>Hh BS h2 j k hk q).trans (Oc hk)⟩
 refine cV (cH (yJ (e:=bu) (f:=λ_=>.bl true) (ks:=kn v w B) ji nd ?_ (by omega) λk hk=>⟨iB k,rfl,_,rfl,rfl⟩) rfl (cH (yJ (e:=bu) (f:=wC (RW v w B)) (ks:=kn v w B) ji nd rfl (by omega) λk hk=>⟨iB k,rfl,_,c4 rfl rfl rfl rfl (M6 t (kn v w B) k (by have:=OW t (ny.mp hk).1;omega)),rfl⟩) rfl (dg (r:=.mf ((kn v w B).map bu) ((kn v w B).map λk=>dV (dA (RW v w B) d k))) ?_ rfl rfl)))
 ·show (gN _ _ _ >>= _)=_
  rw [c3 rfl rfl rfl (Iv t hB)]
  rfl
 ·show (match mW [.db ((kn v w B).map bu) ((kn v w B).map (wC (RW v w B))),.fn "answered_still"] with
   | .ok r=>M.ok (cF r)
   | _=>.bad)=_
  rw [h1]
  rfl
theorem Ht (ks:List Ps) (f:Ps->Option Nat) (p:Ps) (j:Nat):iP [.db (ks.map bu) (ks.map λk=>dV (f k)),.d (bu p),.d (.int j)]=.ok (.d (.bl (decide (p∈ks) && vR (f p) j))):=by
 have hi:=A9 (ks:=ks) (f:=λk=>dV (f k)) ji (x:=.mb (ks.map bu) (ks.map λk=>dV (f k))) rfl (iB p) (q:=inferInstance)
 refine cV (dg (r:=.d (.bl (decide (p∈ks) && vR (f p) j))) ?_ rfl rfl)
 unfold bx
 rw [show g2 (nW false) (af 1) (af 0) (aI vz [.db (ks.map bu) (ks.map λk=>dV (f k)),.d (bu p),.d (.int j)])=_ from two rfl rfl hi,aL]
 by_cases h:p∈ks
 ·rw [decide_eq_true h]
  have hd:=nc (ks:=ks) (f:=λk=>dV (f k)) ji (x:=.mb (ks.map bu) (ks.map λk=>dV (f k))) rfl (iB p) h
  show rP _ _ _=M.ok (R.d (.bl (vR (f p) j)))
  cases q:f p with
  | none=>rw [q] at hd;exact JA (two (two rfl rfl hd) rfl rfl)
  | some e=>
   rw [q] at hd
   refine L4 (two (two rfl rfl hd) rfl rfl) (two (two rfl rfl hd) rfl ?_)
   show M.ok (R.d (.bl (decide ((j:Int) < (e:Int)))))=M.ok (R.d (.bl (decide (j < e))))
   rw [show decide ((j:Int) < (e:Int))=decide (j < e) by rw [RY];simp]
 ·rw [decide_eq_false h];rfl
theorem M5 (ks:List Ps) (f:Ps->Option Nat) (n:Nat) (hn:n<=100) (hl:ks.length<=1000000):kg [.db (ks.map bu) (ks.map λk=>dV (f k)),.d (.int n)]=.ok (.l .fresh ((Ra (n + 1)).map λj=>p7 (ks.filter λk=>vR (f k) j))):=by
 refine cV (dg (jD (xs:=Ra (n + 1)) (h:=dN) (λj=>p7 (ks.filter λk=>vR (f k) j)) (iz (n:=n + 1) (bW (two rfl rfl rfl)) (by omega)) (by simp;omega) λj _=>⟨_,kj (xs:=ks) (h:=bu) (λk=>vR (f k) j) bu rfl hl λk hk=>⟨mR ((c3 rfl rfl rfl (Ht ks f k j)).trans ?_),λ_=>⟨_,rfl,rfl⟩⟩,rfl⟩) rfl rfl)
 rw [decide_eq_true hk,TM]
theorem Ky (d m:Nat) (hd:d<=m):K55.eH [.d (.int d),.d (.int 0),.d (.int m)]=.ok (.d .non):=by
 refine qo (oh ?_ (jl ⟨_,rfl⟩))
 show (if decide ((d:Int) < 0)=true then M.ok true else M.ok (decide ((m:Int) < d)))=M.ok false
 rw [decide_eq_false (show ¬(d:Int) < 0 by omega),decide_eq_false (show ¬(m:Int) < d by omega)]
 rfl
theorem Ed:kn v w []=T4 v w:=Wv.mpr λ_ _=>rfl
def zd (v w:Wd) (j:Nat):D:=p7 ((T4 v w).filter (La v w j))
theorem Fi (t:Pr v w) (n:Nat) (hn:n<=6):qu [.d v.d,.d w.d,.d (.int n)]=.ok (.l .fresh ((Ra (n + 1)).map (zd v w))):=by
 obtain ⟨f,h1,h2⟩:=KG (B:=[]) t (RL _)
 rw [Ed] at h1 h2
 refine cV (jG (c2 rfl rfl (uv t)) (jG (c3 rfl rfl rfl (Ky n 6 hn)) (dg (c2 (c3 rfl rfl (cI bQ (by decide)) h1) rfl (M5 (T4 v w) f n (by omega) (by have:=BV t;omega))) rfl ?_)))
 show O.rt (.l .fresh _)=_
 congr 2
 refine UG λj _=>?_
 unfold zd
 rw [VQ λk hk=>h2 j k hk]
end
end K33
namespace K33
open PySem DL K01 WP K51 K52 K55 K23
section
variable {v w:Wd}{ps qs:Ps}{n j:Nat}
structure N2 (v w:Wd) (qs:Ps):Prop where
 g:Good v w qs
 a:∀x,x < v.m->∃p∈qs,p.1=x
 b:∀x,x < w.m->∃p∈qs,p.2=x
theorem xY (t:Pr v w) (i:N2 v w qs):∀(j:Nat) (ps:Ps),(∀p∈ps,p∈qs)->La v w j ps=true
 | 0,_,_=>rfl
 | j + 1,ps,h=>by
  have add:∀p∈qs,dU ps p∈T4 v w/\La v w j (dU ps p)=true:=λp hp=>
   ⟨(Na t).mpr (j6.sub ⟨i.g.ag,i.g.rg⟩ λq hq=>by rcases RJ.mp hq with hq | hq;exact h q hq;rw [Rp.mp hq];exact hp),xY t i j _ λq hq=>by rcases u6.mp hq with hq | rfl;exact h q hq;exact hp⟩
  refine uz.mpr ⟨xY t i j ps h,λk hk=>?_⟩
  rcases RJ.mp hk with hk | hk <;> obtain ⟨x,hx,rfl⟩:=Rg.mp hk
  ·obtain ⟨p,hp,rfl⟩:=i.a x (Rk.mp hx)
   exact ⟨p,Rg.mpr ⟨p.2,Rk.mpr (i.g.rg p hp).2,rfl⟩,add p hp⟩
  ·obtain ⟨p,hp,rfl⟩:=i.b x (Rk.mp hx)
   exact ⟨p,Rg.mpr ⟨p.1,Rk.mpr (i.g.rg p hp).1,rfl⟩,add p hp⟩
end
end K33
namespace K33
open PySem DL K01 WP K51 K52 K55 K23 K22
theorem Bf (i:Int) (m:Nat) (h:0 < m):∃k:Nat,i % (m:Int)=k/\k < m:=by
 obtain ⟨k,hk⟩:=LN (T3 i (b:=m) (by omega))
 have:=Ua i (b:=m) (by omega)
 exact ⟨k,hk,by omega⟩
end K33
namespace DL
open PySem PySem.Spec PyProof.Rows L2
def FA (K:Q7) (x:Str) (st:Uy):Prop:=∃f fd,R_ K RP x=some (some (.ref f))/\dh K x x st f fd
theorem cB {K:Q7}{x:Str}{st:Uy}{f:Rq}{u v d p q r:Q8}{o n:Option Rq}{s:Array (Option Q8)}(a:R_ K RP x=some (some (.ref f)))
  (l:K.lookup f=some ⟨u,o,.func (Rw x x (a_ st) (aW st) (az st) .none v d p n q r),s⟩) (c:VR K q x=true) (k:UK K (.ref f)=true):FA K x st:=⟨f,_,a,DY l c k⟩
section
variable {X:Cx}{c:C}{a b:RX}{ga gb:G R}{pos:Pos}
def Lh:R->R->M R:=fI (λ_ j=>decide (0<=j)) λi j=>.int (i / 2 ^ j.toNat)
def HL:R->R->M R:=cj λi j=>.int (WL i j)
theorem JY (ha:QD X c a ga) (hb:QD X c b gb):QD X c (.BinOp a .RShift b pos) (g2 Lh ga gb):=⟨kC LZ (ym (λ_ _ h=>of_decide_eq_true h) λ_ _ _=>.int _) ha.h hb.h⟩
theorem GQ (ha:QD X c a ga) (hb:QD X c b gb):QD X c (.BinOp a .BitAnd b pos) (g2 HL ga gb):=⟨kC LS (gV λ_ _ _=>.int _) ha.h hb.h⟩
end
end DL
namespace DL
open PySem PySem.Spec PyProof.Rows L2 ST
section
variable {w:RZ}{prog:Rz}{A:R4}{s:Q_}{E:Q8->Q_->Prop}
theorem zP {l:Rq}{QW:Array Q8}{ds:List Int}{Q:Q8->Q_->Prop}(hh:A.handled=none) (hl:s.heap.IsList l QW) (hz:QW.size=ds.length) (hi:∀(i:Nat) (v:Q8),QW[i]?=some v->∃t,v=.int (ds.getD i 0) t) (hn:ds.length<=76)
  (h:∀(h':SM) (tk:Nat) ks es ep t,iK h' s.heap.objs.size (bX w) ks es ep t->(∀d,d∈ks↔d∈ds)->(∀b o,b < s.heap.objs.size->s.heap.get? b=some o->h'.get? b=some o)->Q (.ref s.heap.objs.size) {s with heap:=h',toks:=tk}):
  (RA (RG prog w) A (call (.type "set") [.ref l]) Q E s):=by
 (obtain ⟨c,tl,P_⟩:=R6.mro)
 (have hmade:=R6.made)
 have hsub:=R6.sub
 (refine WV (UT ?_))
 (show RA _ _ (callAny (.type "set") _) _ _ _)
 (refine Q9 ⟨WJ _ (by decide +kernel),Td W6 ?_⟩)
 (rw [WK (V2 "set" [.ref l] []) rfl])
 (have h1:=R6.notType)
 (have h2:=R6.canCreate)
 have hct:=VH (.ref l)
 (repeat (any_goals (first | assumption | wp_step)))
 refine Tw (rX (.ref l) (E:=E) (Q₁:=λobj s₁=>obj=.ref s.heap.objs.size/\s₁={s with heap:=s.heap.push (dH (bX w))}) ⟨rfl,rfl⟩) λr s₁ hr=>?_
 cases r with
 | error e=>exact hr
 | ok fl=>
  cases fl with
  | ret obj=>
   obtain ⟨rfl,rfl⟩:=hr
   have hS:(s.heap.push (dH (bX w))).get? s.heap.objs.size=some (dH (bX w)):=Rn _ rfl
   have hT:UE {s with heap:=s.heap.push (dH (bX w))} (.ref s.heap.objs.size) "set":=⟨_,hS,rfl⟩
   (have hli:=R6.init.lookup)
   (have hbi:=R6.init.bind (.ref s.heap.objs.size))
   (repeat (any_goals (first | assumption | wp_step)))
   refine Tw (U4 (R:=wants (λr s₂=>r=.none/\∃h' tk ks es ep t,s₂={s with heap:=h',toks:=tk}/\iK h' s.heap.objs.size (bX w) ks es ep t/\(∀d,d∈ks↔d∈ds)/\
     (∀b o,b < s.heap.objs.size->s.heap.get? b=some o->h'.get? b=some o)) E) R6.init.plain Xv ((Xw hT ?_))) λr₂ s₂ hr₂=>?_
   ·obtain ⟨ol,PU,hcl,nl,hdl⟩:=id hl
    have Ph:(s.heap.push (dH (bX w))).get? l=some ol:=Rc _ PU
    have Qc:=Eg
    have Qa:=Ef
    have hne:(Ul "list" == Ul "dict")=false:=by decide
    have hl1:(s.heap.push (dH (bX w))).IsList l QW:=⟨_,Ph,hcl,nl,hdl⟩
    have Qx:UE {s with heap:=s.heap.push (dH (bX w))} (.ref l) "list":=⟨_,Ph,hcl⟩
    (unfold U3.«set.__init__» aaF UR)
    generalize P6:WB=PI
    wp_walk
    subst P6
    refine (VJ hl1 ?_)
    refine (Q6 (WR ?_))
    (have hlS:l < s.heap.objs.size:=Ru PU)
    have z1:(s.heap.push (dH (bX w))).objs.size=s.heap.objs.size + 1:=Uh _ _
    have Px:l≠(s.heap.push (dH (bX w))).objs.size:=by rw [z1];exact RE (Sn hlS)
    have hSf:s.heap.objs.size∉[(s.heap.push (dH (bX w))).objs.size,l]:=by
     rw [z1]
     simp only [Rt,Sl,or_false,not_or]
     (exact ⟨RE (Ti _),Ux hlS⟩)
    have hno:∀b,s.heap.objs.size<=b->s.heap.get? b=none:=λb hb=>by
     cases q:s.heap.get? b with
     | none=>rfl
     | some o=>exact absurd (Ru q) (aaG.mpr hb)
    have hval:∀(i:Nat) (v:Q8),QW[i]?=some v->∃t,v=.int (ds.getD i 0) t:=hi
    have all:(Ra QW.size).map (λi=>ds.getD i 0)=ds:=by
     refine UI (by simp [hz]) λi a b=>?_
     simp [b]
    refine wH (A:=A.in1.in1) (led:=bX w) ((aaA (A:=A.in1.in1.in1) (by simp [hh]) (s.heap.push (dH (bX w))).objs.size l Px QW).toS) s.heap.objs.size hSf (λi=>ds.getD i 0) hval (by omega) QW.size 0 _ [] #[] 0 (.fresh 0 0 (bX w)) (by omega) (RL _) ⟨⟨_,Rn _ rfl,rfl,rfl⟩,hl1.push _⟩ (ue (Rc _ hS)) (λd=>by simp) λs' ks es ep t hm hS' hmem=>?_
    ·rw [all] at hmem
     (obtain ⟨h',g',d',tk',os'⟩:=s')
     (have eg:g'=s.gens:=hm.gens)
     (have ed:d'=s.drawn:=hm.drawn)
     have eo:os'=s.os:=hm.os
     subst eg;subst ed;subst eo
     show RA _ _ _ _ _ _
     refine Q9 ?_
     (show RA _ _ (ret R7) _ _ _)
     refine Q9 ⟨rfl,h',tk',ks,es,ep,t,rfl,hS',hmem,λb o hb e=>?_⟩
     refine hm.heap b o ?_ (Rc _ (Rc _ e))
     rw [z1]
     simp only [Rt,Sl,or_false,not_or]
     exact ⟨RE hb,RE (Sn hb)⟩
   ·cases r₂ with
    | error e=>exact hr₂
    | ok fl₂=>
     cases fl₂ with
     | ret r=>
      obtain ⟨rfl,h',tk,ks,es,ep,t,rfl,hS',hm',hk'⟩:=hr₂
      (repeat (any_goals (first | assumption | wp_step)))
      exact h _ _ _ _ _ _ hS' hm' hk'
     | _=>exact hr₂.elim
  | _=>exact hr.elim
end
end DL
namespace DL
open PySem PySem.Spec PyProof.Rows L2
section
variable {X:Cx}{c:C}{e:RX}{pos pos2:Pos}
noncomputable def MC (X:Cx):List V->Hp->VK->Prop:=λxs H Q=>∃p vs ms J0,xs=[.ref p]/\dw X.K H p vs/\aJ X.K J0 (ms.map .int) vs/\ms.length < 64/\∀l,H l=none->Q (.ref l) (upd H l (iF X l ms))
theorem B9 (hc:X.calm=true):b8 X (.type "set") (MC X):=by
 intro QV s σ H xs us Q I r h
 obtain ⟨p,vs,ms,J0,rfl,hq,rs,l64,q⟩:=h
 obtain ⟨u,rfl,rx⟩:=vals1 r
 cases rx
 obtain ⟨QX,r',pl,hz⟩:=I.list hq
 have lm:(ms.map D.int).length=vs.length:=rs.length
 rw [Rh] at lm
 refine zP (I.ok.hd hc) pl.isList (by simp [<-r'.length,lm]) (int_at rs r') (by omega) λh' tk ks es ep t S hm kp=>?_
 exact ⟨.ref s.heap.objs.size,_,I.laid (t':=tk) (λb o e=>kp b o (Ru e) e) (Rj _) (show cM X.prog X.w _ _ _ (iF X s.heap.objs.size ms) from ⟨⟨ks,es,ep,t,S,hm⟩,⟨_,S.at_⟩,λh1 h2 ⟨ks,es,ep,t,S,hm⟩ e=>⟨ks,es,ep,t,S.keep e,hm⟩⟩),rfl,q _ (I.hok.fresh (Rj _))⟩
noncomputable def xF:List R->M R
 | [r]=>jP r >>= λys=>if pT ys=true then .ok (.d (.int (m_ (ys.map l_)).length)) else .bad
 | _=>.bad
theorem GS {p p2:Pos}{gs:G (List R)}(ha:kc X c [e] gs) (hm:X.mg "len"=none) (hm2:X.mg "set"=none) (hK:X.K=c.K:=by rfl) (hc:X.calm=true:=by rfl) (hg:Gl X "len":=by rfl) (PZ:Gl X "set":=by rfl)
  (he:Rr [.Call (.Name "set" p2) [e] [] pos2] X.env=(false,eval (.Call (.Name "set" p2) [e] [] pos2) X.env)::Rr [] X.env:=by rfl) (hpl:(TU pos (Rr [] X.env)).any (·.1)=false:=by rfl)
  (PY:Rr [e] X.env=(false,eval e X.env)::Rr [] X.env:=by rfl) (P1:(TU pos2 (Rr [] X.env)).any (·.1)=false:=by rfl):
  QD X c (.Call (.Name "len" p) [.Call (.Name "set" p2) [e] [] pos2] [] pos) (gN xF gs):=by
 have h1:=jU (p:=p2) (pos:=pos2) (B9 hc) PZ hm2 Dv ha.h (by decide) (by decide) PY P1
 have h2:=oA (p:=p) (pos:=pos) (show b8 X (.builtin "len") (MA X) from B8) hg hm aae (gq h1 jn he) (by decide) (by decide) he hpl
 refine ⟨Cz (ta:=zW) (f:=xF) (r:=λvs H1 Q=>MC X vs H1 λv H2=>MA X [v] H2 Q) h2 rfl ?_⟩
 intro He J H xs vs Q hp rs w
 unfold xF at w
 split at w
 ·obtain ⟨v,rfl,r⟩:=rs.one
  obtain ⟨ys,q,w⟩:=kN w
  obtain ⟨a,us,rfl,h3,h4⟩:=r.list hp q
  split at w
  ·rename_i ok
   unfold pT at ok
   rw [Ri] at ok
   have o1:=of_decide_eq_true ok.1
   have ey:=Fd ok.2
   refine ⟨a,us,ys.map l_,J,rfl,by rw [hK];exact h3,by rw [hK,<-ey];exact h4,by rw [Rh];exact o1,λl hl=>⟨l,ys.map l_,rfl,cK,by rw [Rh];exact o1,λn ⟨ns,n1,n2,n3⟩=>?_⟩⟩
   obtain ⟨d1,d2⟩:=yK (ys.map l_)
   rw [n3,En n1 d1 λd=>by rw [n2,d2]]
   exact w _ _ _ (Ext.new hp.sub hl _) (.int _)
  ·exact w.elim
 ·exact w.elim
end
end DL
namespace K81
open PySem DL
def BK:List Str:=["things","told","thing"]
noncomputable def s_:G O:=(aC (aN 1 (gm aK))
 (aC (eV (kW (af 0)) (aB 2) (aY (aT (g2 (gg true) (af 2) (af 1))) (eE 1 (af 2)) bF))
 (aO (af 1))))
def i7 (as:List S):M R:=fin (s_ (aI BK as))
def Fv:List Str:=["world","depth","depths","points"]
noncomputable def yW:G O:=(aC (jk (gN (aE 2 K23.fB) (ao (af 0) (ao (af 0) av))))
 (aC (jk (gN (aE 3 K55.eH) (ao (af 1) (ao (gC (.int 0)) (ao (gC (.int 6)) av)))))
 (aC (aN 2 (gN (aE 3 K33.eZ) (ao (af 0) (ao (af 0) (ao (bP aK) av)))))
 (aC (aN 3 (sW (ao (g2 bE (af 0) (gC (.int 0))) av)))
 (aO (gN (aE 1 K81.i7) (ao (bN 1 [3,2,1] (gj (af 3)) (aB 0) cR (gN dW (ao (bN 1 [2,0,3] (gj (af 1)) (aB 0) (aT (gN (aE 3 K33.iP) (ao (af 1) (ao (bP (ay (bP (ay (af 2) (ay (af 0) aK))) aK)) (ao (af 3) av))))) (af 0)) av))) av)))))))
def iI (as:List S):M R:=fin (yW (aI Fv as))
def BG:List Str:=["_law_number","_law_many","_law_steps","_law_both","_law_found","_law_one","_law_other","_law_far"]
noncomputable def sX:G O:=(aC (aN 2 (bN 1 [0] (bS (ao (af 1) av)) (aB 0) (aT (g2 (cY false) (g2 HL (g2 Lh (af 1) (af 0)) (gC (.int 1))) (gC (.int 1)))) (af 0)))
 (aC (aN 3 (g2 cQ (g2 fO (af 0) (gC (.int 16))) (gC (.int 2))))
 (aC (aN 4 (gm aK))
 (aC (eV (bS (ao (af 1) av)) (aB 5) (eV (bS (ao (af 1) av)) (aB 6) (aC (aN 7 (g2 cQ (g2 mD (af 6) (af 5)) (af 1)))
 (aY (bU (aT (g2 (gg false) (af 7) (af 2))) (bK (aT (g2 (cY false) (af 3) (gC (.int 1)))) (aT (g2 (gg false) (g2 cQ (g2 mD (af 5) (af 6)) (af 1)) (af 2))))) (eE 4 (bP (ay (af 5) (ay (af 6) aK)))) bF))))
 (aO (gN dW (ao (af 4) av)))))))
def iZ (as:List S):M R:=fin (sX (aI BG as))
noncomputable def x_:List Str:=["_law_script","_law_at","_law_many","_law_tongue_here","_law_world_here","_law_number","_law_arrows","_law_k","_law_pairs_here","_law_marks"]
noncomputable def pN:G O:=(aC (aN 4 (gN (aE 4 K01.iA) (ao (af 0) (ao (af 1) (ao (af 2) (ao (af 3) av))))))
 (aC (aN 5 (g2 cQ (g2 dI (gN (aE 2 K01.dD) (ao (af 0) (ao (g2 cA (af 1) (gC (.int 6))) av))) (gC (.int 1283))) (gC (.int 100003))))
 (aC (aN 6 (gm aK))
 (aC (eV (bS (ao (gN j3 (ao (g2 bE (af 4) (gC (.int 2))) av)) av)) (aB 7) (aC (aN 8 (g2 bE (g2 bE (g2 bE (af 4) (gC (.int 2))) (af 7)) (gC (.int 1))))
 (aC (aY (aT (g2 (cY false) (g2 cQ (af 5) (gC (.int 3))) (gC (.int 1)))) (aN 8 (gN (aE 2 K81.iZ) (ao (g2 cA (g2 fO (af 5) (gC (.int 3))) (g2 dI (gC (.int 5)) (af 7))) (ao (af 2) av)))) bF)
 (aC (aY (aT (g2 (cY false) (g2 cQ (af 5) (gC (.int 3))) (gC (.int 2)))) (aN 8 (gN dW (ao (bN 1 [] (gj (af 8)) (aB 0) (bU (aT (g2 (cj λi j=>.bl (decide (i < j))) (g2 bE (af 0) (gC (.int 0))) (gC (.int 2)))) (aT (g2 (cj λi j=>.bl (decide (j < i))) (g2 bE (af 0) (gC (.int 1))) (gC (.int 1))))) (af 0)) av))) bF)
 (eE 6 (bP (ay (g2 bE (g2 bE (g2 bE (af 4) (gC (.int 2))) (af 7)) (gC (.int 0))) (ay (af 8) aK))))))))
 (aC (aN 9 (bN 2 [5] (gj (g2 bE (af 4) (gC (.int 1)))) (iG 2 (dB (aB 0) (dB (aB 1) jw))) cR (bP (ay (af 0) (ay (vL rN (af 1) D0 (vK (g2 cQ (g2 fO (af 2) (gC (.int 81))) (gC (.int 5))))) aK)))))
 (aO (bP (ay (af 2) (ay (gN dW (ao (af 9) av)) (ay (gN dW (ao (af 6) av)) aK))))))))))
def fD (as:List S):M R:=fin (pN (aI x_ as))
def BI:List Str:=["_law_found","_law_due"]
noncomputable def sZ (Fr:List S->M R):G O:=(aC (aY (aT (cG "tuple" (af 1))) (aC (aY (bU (bB (aT (cG "tuple" (af 0)))) (aT (g2 (cY true) (gN j3 (ao (af 0) av)) (gN j3 (ao (af 1) av))))) (aO (gC (.bl false))) bF)
 (aO (gN nU (ao (bN 1 [0,1] (bS (ao (gN j3 (ao (af 1) av)) av)) (aB 0) cR (gN (aE 2 Fr) (ao (g2 bE (af 1) (af 0)) (ao (g2 bE (af 2) (af 0)) av)))) av)))) bF)
 (aC (aY (bU (aT (cG "bool" (af 1))) (aT (cG "int" (af 1)))) (aO (bx (cG "int" (af 0)) (bx (g2 (cY false) (cG "bool" (af 0)) (cG "bool" (af 1))) (g2 (cY false) (af 0) (af 1))))) bF)
 (aO (bx (cG "str" (af 0)) (g2 (cY false) (af 0) (af 1))))))
noncomputable def gE:Nat->List S->M R
 | 0,_=>.bad
 | k + 1,as=>fin (sZ (gE k) (aI BI as))
def BH:List Str:=["_law_some_here","_law_point","_law_k"]
noncomputable def sY:G O:=(aC (eV (bS (ao (gN j3 (ao (af 0) av)) av)) (aB 2) (aY (aT (g2 (gg false) (af 1) (g2 bE (af 0) (af 2)))) (aO (af 2)) bF))
 (aO (gC .non)))
def gD (as:List S):M R:=fin (sY (aI BH as))
def xZ:List Str:=["_law_found","_law_many","_law_all_points","_law_part","_law_firsts"]
noncomputable def pM:G O:=(aC (aY (bU (bB (aT (cG "list" (af 0)))) (bB (aT (gN nU (ao (bN 1 [] (gj (af 0)) (aB 0) cR (bx (cG "tuple" (af 0)) (g2 (cY true) (af 0) (bP aK)))) av))))) (aO (gC (.bl false))) bF)
 (aC (aN 2 (gm aK))
 (aC (eV (kW (af 0)) (aB 3) (aC (aN 2 (g2 cA (af 2) (gN xG (ao (af 3) av))))
 (aY (bB (aT (gN (aE 2 (K81.gE 10)) (ao (af 3) (ao (gN dW (ao (bN 1 [3] (bS (ao (af 1) av)) (aB 0) (aT (g2 (gg false) (af 0) (af 1))) (af 0)) av)) av))))) (aO (gC (.bl false))) bF)))
 (aC (aY (aT (g2 (cY true) (gN ni (ao (af 2) av)) (sW (ao (af 1) av)))) (aO (gC (.bl false))) bF)
 (aC (aN 4 (bN 1 [] (gj (af 0)) (aB 0) cR (g2 bE (af 0) (gC (.int 0)))))
 (aO (g2 (cY false) (af 4) (gN ni (ao (af 4) av)))))))))
def i6 (as:List S):M R:=fin (pM (aI xZ as))
noncomputable def Od:List Str:=["_law_script","_law_many","_law_tongue_here","_law_world_here","_law_depth","_law_found","_law_layer","_law_one","_law_other","_law_kept","_law_wider","_law_part"]
noncomputable def Lj:G O:=(aC (aN 1 (g2 cA (gC (.int 1)) (g2 cQ (gN (aE 2 K01.dD) (ao (af 0) (ao (gC (.int 0)) av))) (gC (.int 4)))))
 (aC (aN 2 (gN (aE 1 K01.gW) (ao (gN (aE 2 K01.dD) (ao (af 0) (ao (gC (.int 1)) av))) av)))
 (aC (aN 3 (gN (aE 4 K81.fD) (ao (af 0) (ao (gC (.int 2)) (ao (af 1) (ao (af 2) av))))))
 (aC (aN 4 (g2 cQ (gN (aE 2 K01.dD) (ao (af 0) (ao (gC (.int 9)) av))) (gC (.int 7))))
 (aC (aN 5 (gN (aE 2 K81.iI) (ao (af 3) (ao (af 4) av))))
 (aC (aY (bB (aT (gN (aE 2 K81.i6) (ao (af 5) (ao (af 1) av))))) (aO (gC (.bl false))) bF)
 (aC (aN 6 (g2 bE (gN (aE 3 K33.qu) (ao (af 3) (ao (af 3) (ao (af 4) av)))) (af 4)))
 (aC (eV (bS (ao (af 1) av)) (aB 7) (eV (bS (ao (af 1) av)) (aB 8) (aY (aT (g2 (cY true) (g2 (cY false) (gN (aE 2 K81.gD) (ao (af 5) (ao (af 7) av))) (gN (aE 2 K81.gD) (ao (af 5) (ao (af 8) av)))) (g2 (gg false) (bP (ay (bP (ay (af 7) (ay (af 8) aK))) aK)) (af 6)))) (aO (gC (.bl false))) bF)))
 (aC (aN 9 (gN xG (ao (af 5) av)))
 (aC (eE 5 (bP aK))
 (aC (aY (bU (bK (aT (g2 (cj λi j=>.bl (decide (i < j))) (af 1) (gC (.int 4)))) (aT (g2 (cY true) (gN (aE 2 K81.iI) (ao (af 3) (ao (af 4) av))) (af 9)))) (aT (g2 (cY true) (af 3) (gN (aE 4 K81.fD) (ao (af 0) (ao (gC (.int 2)) (ao (af 1) (ao (af 2) av)))))))) (aO (gC (.bl false))) bF)
 (aC (aY (aT (g2 (cj λi j=>.bl (decide (j < i))) (af 4) (gC (.int 0)))) (aC (aN 10 (gN (aE 2 K81.iI) (ao (af 3) (ao (g2 mD (af 4) (gC (.int 1))) av))))
 (j4 9 (eV (kW (af 9)) (aB 11) (aY (aT (g2 (cY true) (gN xF (ao (bN 1 [10] (gj (af 11)) (aB 0) cR (gN (aE 2 K81.gD) (ao (af 1) (ao (af 0) av)))) av)) (gC (.int 1)))) (aO (gC (.bl false))) bF)))) bF)
 (aO (gC (.bl true)))))))))))))))
def uw (as:List S):M R:=fin (Lj (aI Od as))
end K81
namespace K81
open PySem PySem.Spec PyProof.Rows L2 DL DX
structure eu (w:RZ) (K:Q7) (mg:Str->Option Q8):Prop where
 all:mg "all"=none
 any:mg "any"=none
 bool:mg "bool"=none
 int:mg "int"=none
 isinstance:mg "isinstance"=none
 len:mg "len"=none
 list:mg "list"=none
 range:mg "range"=none
 set:mg "set"=none
 sorted:mg "sorted"=none
 str:mg "str"=none
 tuple:mg "tuple"=none
 MOST_DEPTH:BF K mg "MOST_DEPTH" (.int 6)
 MOST_SMALL:BF K mg "MOST_SMALL" (.int 4)
 fv_answered_still:Fq K mg "answered_still"
section
variable {P:Rz}{w:RZ}{K:Q7}{mg:Str->Option Q8}{base:SM}{f:Rq}{fd:RO}
abbrev qb:Uy:=top 6
theorem CL:br ["thing"] ["thing"] (az qb):=⟨rfl,rfl,rfl,by decide +kernel,rfl,by decide +kernel,by decide +kernel⟩
theorem Ao (m:eu w K mg) (F:dh K "is_whole" "is_whole" qb f fd) (hm:mg "is_whole"=some (.ref f)):bA P w K mg base 1 1 "is_whole" K01.o_:=
 have sc:=CL
 bC (k:=0) (gB:=K01.vN) F hm sc (λ_ _ _ _ _ _ us hl=>match us,hl with | [_],_=>rfl) (λcdv A outer s H E J T hr=>
 (aD (aQ (kJ (dS uX pD m.int (aa 0) m.isinstance) (jK (JX (dS n9 kh m.bool (aa 0) m.isinstance))))))) (λas r _ h=>h)
abbrev oV:Uy:=top 7
theorem AI:br ["world","many","marks","arrows"] ["world"] (az oV):=⟨rfl,rfl,rfl,by decide +kernel,rfl,by decide +kernel,by decide +kernel⟩
theorem yF (m:eu w K mg) (F:dh K "tongue_of" "tongue_of" oV f fd) (hm:mg "tongue_of"=some (.ref f)):bA P w K mg base 1 1 "tongue_of" K23.i_:=
 have sc:=AI
 bC (k:=0) (gB:=K23.tw) F hm sc (λ_ _ _ _ _ _ us hl=>match us,hl with | [_],_=>rfl) (λcdv A outer s H E J T hr=>
 (au (zx (aa 0) (g8 (b_ (aF 1 sc.nd) (b_ (aF 2 sc.nd) (b_ (aF 3 sc.nd) gA)))))
 (aD (aQ (bD (aH (cS (ak (bL ["name","points"] [] (cU (aa 2)) (λ_ _ _ _ _ hc=>⟨(g8 (b_ (aF 0 (bY rfl)) (b_ (aF 1 (bY rfl)) gA))),bw,(aa 0)⟩)) aq) m.tuple) (aH (cS (ak (bL ["name","pairs"] [] (cU (aa 3)) (λ_ _ _ _ _ hc=>⟨(g8 (b_ (aF 0 (bY rfl)) (b_ (aF 1 (bY rfl)) gA))),bw,(aa 0)⟩)) aq) m.tuple) aU))))))) (λas r _ h=>h)
abbrev lH:Uy:=top 8
theorem xm:br ["one","other"] ["one","other"] (az lH):=⟨rfl,rfl,rfl,by decide +kernel,rfl,by decide +kernel,by decide +kernel⟩
theorem uM (m:eu w K mg) (htongue_of:bA P w K mg base 1 1 "tongue_of" K23.i_) (F:dh K "need_tongue" "need_tongue" lH f fd) (hm:mg "need_tongue"=some (.ref f)):bA P w K mg base 2 2 "need_tongue" K23.i9:=
 have sc:=xm
 bC (k:=1) (gB:=K23.pP) F hm sc (λ_ _ _ _ _ _ us hl=>match us,hl with | [_,_],_=>rfl) (λcdv A outer s H E J T hr=>
 (aD (bV (ly hr.units (aS htongue_of hr (ak (aa 0) aq)) (aS htongue_of hr (ak (aa 1) aq))) (aD oF) bM))) (λas r _ h=>h)
abbrev iO:Uy:=top 11
theorem qO:br ["worlds","world"] ["worlds"] (az iO):=⟨rfl,rfl,rfl,by decide +kernel,rfl,by decide +kernel,by decide +kernel⟩
theorem pH (m:eu w K mg) (F:dh K "need_few_points" "need_few_points" iO f fd) (hm:mg "need_few_points"=some (.ref f)):bA P w K mg base 1 1 "need_few_points" K23.gF:=
 have sc:=qO
 bC (k:=0) (gB:=K23.kY) F hm sc (λ_ _ _ _ _ _ us hl=>match us,hl with | [_],_=>rfl) (λcdv A outer s H E J T hr=>
 (aD (cT (g7 (aa 0)) (aF 1 sc.nd) (aD (bV (iT tV (gV λ_ _ _=>.bl _) (aV (aa 1) aA) (jW m.MOST_SMALL)) (aD oF) bM))))) (λas r _ h=>h)
abbrev mP:Uy:=top 12
theorem zM:br ["one","other"] ["one","other"] (az mP):=⟨rfl,rfl,rfl,by decide +kernel,rfl,by decide +kernel,by decide +kernel⟩
theorem wW (m:eu w K mg) (hneed_tongue:bA P w K mg base 2 2 "need_tongue" K23.i9) (hneed_few_points:bA P w K mg base 1 1 "need_few_points" K23.gF) (F:dh K "need_small" "need_small" mP f fd) (hm:mg "need_small"=some (.ref f)):bA P w K mg base 3 2 "need_small" K23.fB:=
 have sc:=zM
 bC (k:=2) (gB:=K23.qX) F hm sc (λ_ _ _ _ _ _ us hl=>match us,hl with | [_,_],_=>rfl) (λcdv A outer s H E J T hr=>
 (au (gz (aS hneed_tongue hr (ak (aa 0) (ak (aa 1) aq))))
 (aD (gz (aS hneed_few_points hr (ak (bD (aH (aa 0) (aH (aa 1) aU))) aq)))))) (λas r _ h=>h)
abbrev mO:Uy:=top 13
theorem zL:br ["told","least","most"] ["told","least","most"] (az mO):=⟨rfl,rfl,rfl,by decide +kernel,rfl,by decide +kernel,by decide +kernel⟩
theorem wV (m:eu w K mg) (his_whole:bA P w K mg base 1 1 "is_whole" K01.o_) (F:dh K "need_count" "need_count" mO f fd) (hm:mg "need_count"=some (.ref f)):bA P w K mg base 2 3 "need_count" K55.eH:=
 have sc:=zL
 bC (k:=1) (gB:=K55.qW) F hm sc (λ_ _ _ _ _ _ us hl=>match us,hl with | [_,_,_],_=>rfl) (λcdv A outer s H E J T hr=>
 (aD (bV (fQ (jr (gS (dR (aS his_whole hr (ak (aa 0) aq)))) (jr (iT xN (gV λ_ _ _=>.bl _) (aa 0) (aa 1)) (iU (iT tV (gV λ_ _ _=>.bl _) (aa 0) (aa 2)))))) (aD oF) bM))) (λas r _ h=>h)
abbrev vn:Uy:=top 15
theorem G9:br ["pairs"] ["pairs"] (az vn):=⟨rfl,rfl,rfl,by decide +kernel,rfl,by decide +kernel,by decide +kernel⟩
theorem DF (m:eu w K mg) (F:dh K "rising" "rising" vn f fd) (hm:mg "rising"=some (.ref f)):bA P w K mg base 1 1 "rising" K23.qv:=
 have sc:=G9
 bC (k:=0) (gB:=K23.A8) F hm sc (λ_ _ _ _ _ _ us hl=>match us,hl with | [_],_=>rfl) (λcdv A outer s H E J T hr=>
 (au (bV (EM (aa 0) kK) (aD (aQ (bD aU))) bM)
 (aD (aQ (cS (ak (ES hr.units (ak (aa 0) aq) m.sorted m.set) aq) m.tuple))))) (λas r _ h=>h)
abbrev CU:Uy:=top 16
theorem MJ:br ["world","one","other","many","marks","arrows","bearing","leading"] ["world","one","other"] (az CU):=⟨rfl,rfl,rfl,by decide +kernel,rfl,by decide +kernel,by decide +kernel⟩
theorem IM (m:eu w K mg) (F:dh K "view" "view" CU f fd) (hm:mg "view"=some (.ref f)):bA P w K mg base 1 3 "view" K23.xw:=
 have sc:=MJ
 bC (k:=0) (gB:=K23.HN) F hm sc (λ_ _ _ _ _ _ us hl=>match us,hl with | [_,_,_],_=>rfl) (λcdv A outer s H E J T hr=>
 (au (zx (aa 0) (g8 (b_ (aF 3 sc.nd) (b_ (aF 4 sc.nd) (b_ (aF 5 sc.nd) gA)))))
 (au (aP 6 sc.nd (cS (ak (bL ["name","points"] [1] (cU (aa 4)) (λ_ _ _ _ _ hc=>⟨(g8 (b_ (aF 0 (bY rfl)) (b_ (aF 1 (bY rfl)) gA))),bw,(t8 hr.units (aa 2) (aa 1))⟩)) aq) m.tuple))
 (au (aP 7 sc.nd (cS (ak (bL ["name","pairs"] [1,2] (cU (aa 5)) (λ_ _ _ _ _ hc=>⟨(g8 (b_ (aF 0 (bY rfl)) (b_ (aF 1 (bY rfl)) gA))),bw,(t8 hr.units (bD (aH (aa 2) (aH (aa 3) aU))) (aa 1))⟩)) aq) m.tuple))
 (aD (aQ (bD (aH (lz hr.units (aa 1) (aa 2)) (aH (aa 6) (aH (aa 7) aU)))))))))) (λas r _ h=>h)
abbrev zV:Uy:=top 17
theorem Kg:br ["world"] ["world"] (az zV):=⟨rfl,rfl,rfl,by decide +kernel,rfl,by decide +kernel,by decide +kernel⟩
theorem FG (m:eu w K mg) (Qd:bA P w K mg base 1 3 "view" K23.xw) (F:dh K "views" "views" zV f fd) (hm:mg "views"=some (.ref f)):bA P w K mg base 2 1 "views" K23.pg:=
 have sc:=Kg
 bC (k:=1) (gB:=K23.D6) F hm sc (λ_ _ _ _ _ _ us hl=>match us,hl with | [_],_=>rfl) (λcdv A outer s H E J T hr=>
 (aD (aQ (t7 hr.units ["one","other"] [0] (eG (bq (ak (aV (aa 0) aA) aq) m.range)) (λ_ _ _ _ _ hc=>⟨(aF 0 (bY rfl)),bw,(bq (ak (aV (aa 2) aA) aq) m.range),(aF 1 (bY rfl)),bw,(bD (aH (aa 0) (aH (aa 1) aU))),(aS Qd hr (ak (aa 2) (ak (aa 0) (ak (aa 1) aq))))⟩))))) (λas r _ h=>h)
abbrev zH:Uy:=top 18
theorem Kf:br ["first","second","pair","again"] ["first","second","pair","again"] (az zH):=⟨rfl,rfl,rfl,by decide +kernel,rfl,by decide +kernel,by decide +kernel⟩
theorem FE (m:eu w K mg) (F:dh K "agree" "agree" zH f fd) (hm:mg "agree"=some (.ref f)):bA P w K mg base 1 4 "agree" K23.fT:=
 have sc:=Kf
 bC (k:=0) (gB:=K23.D4) F hm sc (λ_ _ _ _ _ _ us hl=>match us,hl with | [_,_,_,_],_=>rfl) (λcdv A outer s H E J T hr=>
 (aD (aQ (lz hr.units (gT hr.units (aa 0) (bD (aH (aV (aa 2) aA) (aH (aV (aa 3) aA) aU)))) (gT hr.units (aa 1) (bD (aH (aV (aa 2) aA) (aH (aV (aa 3) aA) aU)))))))) (λas r _ h=>h)
abbrev lF:Uy:=top 19
theorem xj:br ["first","second","pairing","pair","again"] ["first","second","pairing","pair"] (az lF):=⟨rfl,rfl,rfl,by decide +kernel,rfl,by decide +kernel,by decide +kernel⟩
theorem uL (m:eu w K mg) (Pf:bA P w K mg base 1 4 "agree" K23.fT) (F:dh K "goes_behind" "goes_behind" lF f fd) (hm:mg "goes_behind"=some (.ref f)):bA P w K mg base 2 4 "goes_behind" K23.i8:=
 have sc:=xj
 bC (k:=1) (gB:=K23.pO) F hm sc (λ_ _ _ _ _ _ us hl=>match us,hl with | [_,_,_,_],_=>rfl) (λcdv A outer s H E J T hr=>
 (au (bV (fQ (qI (Bp (aa 2)) (oB (JT hr.units (aa 3) (aV (aa 2) (JW aA)))))) (aD (aQ gr)) bM)
 (au (cT (g7 (aa 2)) (aF 4 sc.nd) (aD (bV (fQ (jr (gS (dR (aS Pf hr (ak (aa 0) (ak (aa 1) (ak (aa 3) (ak (aa 4) aq))))))) (iU (gS (dR (aS Pf hr (ak (aa 0) (ak (aa 1) (ak (aa 4) (ak (aa 3) aq)))))))))) (aD (aQ gr)) bM)))
 (aD (aQ gr))))) (λas r _ h=>h)
abbrev qi:Uy:=top 20
theorem CN:br ["one","other","most","first","second","pairs","longest","told","step"] ["one","other","most"] (az qi):=⟨rfl,rfl,rfl,by decide +kernel,rfl,by decide +kernel,by decide +kernel⟩
theorem Au (m:eu w K mg) (hneed_small:bA P w K mg base 3 2 "need_small" K23.fB) (hneed_count:bA P w K mg base 2 3 "need_count" K55.eH) (Pz:bA P w K mg base 2 1 "views" K23.pg) (Pf:bA P w K mg base 1 4 "agree" K23.fT) (hgoes_behind:bA P w K mg base 2 4 "goes_behind" K23.i8) (F:dh K "pairings" "pairings" qi f fd) (hm:mg "pairings"=some (.ref f)):bA P w K mg base 4 3 "pairings" K23.lK:=
 have sc:=CN
 bC (k:=3) (gB:=K23.vP) F hm sc (λ_ _ _ _ _ _ us hl=>match us,hl with | [_,_,_],_=>rfl) (λcdv A outer s H E J T hr=>
 (au (gz (aS hneed_small hr (ak (aa 0) (ak (aa 1) aq))))
 (au (gz (aS hneed_count hr (ak (aa 2) (ak aA (ak (jW m.MOST_SMALL) aq)))))
 (au (aP 3 sc.nd (aS Pz hr (ak (aa 0) aq)))
 (au (aP 4 sc.nd (aS Pz hr (ak (aa 1) aq)))
 (au (aP 5 sc.nd (CH ["a","b"] [1,3,4] (eG (bq (ak (aV (aa 0) aA) aq) m.range)) (λ_ _ _ _ _ hc=>⟨(aF 0 (bY rfl)),bw,(bq (ak (aV (aa 2) aA) aq) m.range),(aF 1 (bY rfl)),(eW (dR (aS Pf hr (ak (aa 3) (ak (aa 4) (ak (bD (aH (aa 0) (aH (aa 1) aU))) (ak (bD (aH (aa 0) (aH (aa 1) aU))) aq))))))),(bD (aH (aa 0) (aH (aa 1) aU)))⟩)))
 (au (oE 5 (aP 6 sc.nd (fR (aH (bD aU) aU))))
 (au (aP 7 sc.nd (fR (aH (bD aU) aU)))
 (au (cT (bq (ak (aa 2) aq) m.range) (aF 8 sc.nd) (au (oE 5 (CF 6 ["ahead","pair"] [5,3,4] sc.nd (cU (aa 6)) (λ_ _ _ _ _ hc=>⟨(aF 0 (bY rfl)),bw,(g7 (aa 2)),(aF 1 (bY rfl)),(eW (dR (aS hgoes_behind hr (ak (aa 3) (ak (aa 4) (ak (aa 0) (ak (aa 1) aq))))))),(zy (aa 0) (bD (aH (aa 1) aU)))⟩)))
 (aD (Ax 7 (aa 6)))))
 (aD (aQ (aa 7)))))))))))) (λas r _ h=>h)
abbrev zG:Uy:=top 23
theorem Ke:br ["pairing","pair"] ["pairing","pair"] (az zG):=⟨rfl,rfl,rfl,by decide +kernel,rfl,by decide +kernel,by decide +kernel⟩
theorem FD (m:eu w K mg) (PR:bA P w K mg base 1 1 "rising" K23.qv) (F:dh K "added" "added" zG f fd) (hm:mg "added"=some (.ref f)):bA P w K mg base 2 2 "added" K33.o9:=
 have sc:=Ke
 bC (k:=1) (gB:=K33.D3) F hm sc (λ_ _ _ _ _ _ us hl=>match us,hl with | [_,_],_=>rfl) (λcdv A outer s H E J T hr=>
 (aD (aQ (aS PR hr (ak (zy (aa 0) (bD (aH (aa 1) aU))) aq))))) (λas r _ h=>h)
abbrev mQ:Uy:=top 24
theorem zN:br ["one","other","side","point"] ["one","other","side","point"] (az mQ):=⟨rfl,rfl,rfl,by decide +kernel,rfl,by decide +kernel,by decide +kernel⟩
theorem wX (m:eu w K mg) (F:dh K "pairs_with" "pairs_with" mQ f fd) (hm:mg "pairs_with"=some (.ref f)):bA P w K mg base 1 4 "pairs_with" K33.gP:=
 have sc:=zN
 bC (k:=0) (gB:=K33.qZ) F hm sc (λ_ _ _ _ _ _ us hl=>match us,hl with | [_,_,_,_],_=>rfl) (λcdv A outer s H E J T hr=>
 (au (bV (jq hr.units (aa 2) aA) (aD (aQ (bL ["answer"] [3] (eG (bq (ak (aV (aa 1) aA) aq) m.range)) (λ_ _ _ _ _ hc=>⟨(aF 0 (bY rfl)),bw,(bD (aH (aa 1) (aH (aa 0) aU)))⟩)))) bM)
 (aD (aQ (bL ["answer"] [3] (eG (bq (ak (aV (aa 0) aA) aq) m.range)) (λ_ _ _ _ _ hc=>⟨(aF 0 (bY rfl)),bw,(bD (aH (aa 0) (aH (aa 1) aU)))⟩)))))) (λas r _ h=>h)
abbrev ql:Uy:=top 25
theorem CO:br ["one","other"] ["one","other"] (az ql):=⟨rfl,rfl,rfl,by decide +kernel,rfl,by decide +kernel,by decide +kernel⟩
theorem Av (m:eu w K mg) (F:dh K "picks_of" "picks_of" ql f fd) (hm:mg "picks_of"=some (.ref f)):bA P w K mg base 1 2 "picks_of" K33.lM:=
 have sc:=CO
 bC (k:=0) (gB:=K33.vQ) F hm sc (λ_ _ _ _ _ _ us hl=>match us,hl with | [_,_],_=>rfl) (λcdv A outer s H E J T hr=>
 (aD (aQ (cZ (bL ["point"] [] (eG (bq (ak (aV (aa 0) aA) aq) m.range)) (λ_ _ _ _ _ hc=>⟨(aF 0 (bY rfl)),bw,(bD (aH aA (aH (aa 0) aU)))⟩)) (bL ["point"] [] (eG (bq (ak (aV (aa 1) aA) aq) m.range)) (λ_ _ _ _ _ hc=>⟨(aF 0 (bY rfl)),bw,(bD (aH aA (aH (aa 0) aU)))⟩)))))) (λas r _ h=>h)
abbrev qf:Uy:=top 26
theorem CM:br ["one","other","pairing","known","grown"] ["one","other","pairing","known"] (az qf):=⟨rfl,rfl,rfl,by decide +kernel,rfl,by decide +kernel,by decide +kernel⟩
theorem As (m:eu w K mg) (hpairs_with:bA P w K mg base 1 4 "pairs_with" K33.gP) (PV:bA P w K mg base 2 2 "added" K33.o9) (hpicks_of:bA P w K mg base 1 2 "picks_of" K33.lM) (F:dh K "outcomes" "outcomes" qf f fd) (hm:mg "outcomes"=some (.ref f)):bA P w K mg base 3 4 "outcomes" K33.lJ:=
 have sc:=CM
 bC (k:=2) (gB:=K33.vO) F hm sc (λ_ _ _ _ _ _ us hl=>match us,hl with | [_,_,_,_],_=>rfl) (λcdv A outer s H E J T hr=>
 (au (aP 4 sc.nd (t7 hr.units ["a","pair"] [0,1,2] (eG (bq (ak (aV (aa 0) aA) aq) m.range)) (λ_ _ _ _ _ hc=>⟨(aF 0 (bY rfl)),bw,(g7 (aS hpairs_with hr (ak (aa 2) (ak (aa 3) (ak aA (ak (aa 0) aq)))))),(aF 1 (bY rfl)),bw,(aa 1),(aS PV hr (ak (aa 4) (ak (aa 1) aq)))⟩)))
 (aD (aQ (bL ["side","point"] [0,1,4,3] (cU (aS hpicks_of hr (ak (aa 0) (ak (aa 1) aq)))) (λ_ _ _ _ _ hc=>⟨(g8 (b_ (aF 0 (bY rfl)) (b_ (aF 1 (bY rfl)) gA))),bw,(bL ["pair"] [4,5] (cU (aS hpairs_with hr (ak (aa 2) (ak (aa 3) (ak (aa 0) (ak (aa 1) aq)))))) (λ_ _ _ _ _ hc=>⟨(aF 0 (bY rfl)),(eW (JS hr.units (gT hr.units (aa 1) (aa 0)) (aa 2))),(gT hr.units (aa 1) (aa 0))⟩) (hcl:=m9 hc rfl))⟩)))))) (λas r _ h=>h)
abbrev jt:Uy:=top 27
theorem rT:br ["rows","depths"] ["rows","depths"] (az jt):=⟨rfl,rfl,rfl,by decide +kernel,rfl,by decide +kernel,by decide +kernel⟩
theorem qL (m:eu w K mg) (F:dh K "answered_still" "answered_still" jt f fd) (hm:mg "answered_still"=some (.ref f)):bA P w K mg base 1 2 "answered_still" K33.eY:=
 have sc:=rT
 bC (k:=0) (gB:=K33.lR) F hm sc (λ_ _ _ _ _ _ us hl=>match us,hl with | [_,_],_=>rfl) (λcdv A outer s H E J T hr=>
 (aD (aQ (qJ (ak (bL ["row"] [1] (cU (aa 0)) (λ_ _ _ _ _ hc=>⟨(aF 0 (bY rfl)),bw,(JU (ak (bL ["pairing"] [1] (cU (aa 0)) (λ_ _ _ _ _ hc=>⟨(aF 0 (bY rfl)),bw,(ER (gT hr.units (aa 1) (aa 0)) kK)⟩) (hcl:=m9 hc rfl)) aq) m.any)⟩)) aq) m.all)))) (λas r _ h=>h)
abbrev vm:Uy:=top 28
theorem G8:br ["rows","stays","depths","depth","gone","pairing"] ["rows","stays"] (az vm):=⟨rfl,rfl,rfl,by decide +kernel,rfl,by decide +kernel,by decide +kernel⟩
theorem DE (m:eu w K mg) (hanswered_still:bA P w K mg base 1 2 "answered_still" K33.eY) (F:dh K "peeled" "peeled" vm f fd) (hm:mg "peeled"=some (.ref f)):bA P w K mg base 2 2 "peeled" K33.mW:=
 have sc:=G8
 bC (k:=1) (gB:=K33.uU) F hm sc (λ_ _ _ _ _ _ us hl=>match us,hl with | [_,_],_=>rfl) (λcdv A outer s H E J T hr=>
 (au (aP 2 sc.nd (t6 hr.units ["pairing"] [] (lA (aa 0)) (λ_ _ _ _ _ hc=>⟨(aF 0 (bY rfl)),bw,(aa 0),kK⟩)))
 (au (aP 3 sc.nd aA)
 (au (jV 4 ["pairing"] [1,0,2] sc.nd (lA (aa 0)) (λ_ _ _ _ _ hc=>⟨(aF 0 (bY rfl)),(eW (gS (dR (zz 1 hanswered_still m.fv_answered_still hr (ak (gT hr.units (aa 2) (aa 0)) (ak (aa 3) aq)) Bq)))),(aa 0)⟩))
 (au (CG 400000 (Bp (aa 4)) (au (oE 4 (cT (g7 (aa 4)) (aF 5 sc.nd) (aD (GP 2 hr.units (aa 3) (aa 5)))))
 (au (EO 3 sc.nd aA)
 (aD (jV 4 ["pairing"] [2,1,0] sc.nd (lA (aa 0)) (λ_ _ _ _ _ hc=>⟨(aF 0 (bY rfl)),(eW (fQ (qI (EM (gT hr.units (aa 1) (aa 0)) kK) (oB (gS (dR (zz 2 hanswered_still m.fv_answered_still hr (ak (gT hr.units (aa 3) (aa 0)) (ak (aa 1) aq)) Bq))))))),(aa 0)⟩))))))
 (aD (aQ (aa 2)))))))) (λas r _ h=>h)
abbrev jL:Uy:=top 29
theorem ud:br ["one","other","base"] ["one","other","base"] (az jL):=⟨rfl,rfl,rfl,by decide +kernel,rfl,by decide +kernel,by decide +kernel⟩
theorem rH (m:eu w K mg) (Pq:bA P w K mg base 4 3 "pairings" K23.lK) (F:dh K "pairings_with" "pairings_with" jL f fd) (hm:mg "pairings_with"=some (.ref f)):bA P w K mg base 5 3 "pairings_with" K33.g_:=
 have sc:=ud
 bC (k:=4) (gB:=K33.nj) F hm sc (λ_ _ _ _ _ _ us hl=>match us,hl with | [_,_,_],_=>rfl) (λcdv A outer s H E J T hr=>
 (aD (aQ (bL ["pairing"] [2] (cU (aS Pq hr (ak (aa 0) (ak (aa 1) (ak (jW m.MOST_SMALL) aq))))) (λ_ _ _ _ _ hc=>⟨(aF 0 (bY rfl)),(eW (dR (qJ (ak (bL ["pair"] [0] (cU (aa 1)) (λ_ _ _ _ _ hc=>⟨(aF 0 (bY rfl)),bw,(t8 hr.units (aa 0) (aa 1))⟩) (hcl:=m9 hc rfl)) aq) m.all))),(aa 0)⟩))))) (λas r _ h=>h)
abbrev ju:Uy:=top 30
theorem rW:br ["one","other","base","known","rows"] ["one","other","base"] (az ju):=⟨rfl,rfl,rfl,by decide +kernel,rfl,by decide +kernel,by decide +kernel⟩
theorem qM (m:eu w K mg) (hpairings_with:bA P w K mg base 5 3 "pairings_with" K33.g_) (Pp:bA P w K mg base 3 4 "outcomes" K33.lJ) (PN:bA P w K mg base 2 2 "peeled" K33.mW) (F:dh K "parting_depths" "parting_depths" ju f fd) (hm:mg "parting_depths"=some (.ref f)):bA P w K mg base 6 3 "parting_depths" K33.eZ:=
 have sc:=rW
 bC (k:=5) (gB:=K33.lS) F hm sc (λ_ _ _ _ _ _ us hl=>match us,hl with | [_,_,_],_=>rfl) (λcdv A outer s H E J T hr=>
 (au (aP 3 sc.nd (t6 hr.units ["pairing"] [] (cU (aS hpairings_with hr (ak (aa 0) (ak (aa 1) (ak (aa 2) aq))))) (λ_ _ _ _ _ hc=>⟨(aF 0 (bY rfl)),bw,(aa 0),gr⟩)))
 (au (CC 4 hr.units ["pairing"] [0,1,3] sc.nd (lA (aa 3)) (λ_ _ _ _ _ hc=>⟨(aF 0 (bY rfl)),bw,(aa 0),(aS Pp hr (ak (aa 1) (ak (aa 2) (ak (aa 0) (ak (aa 3) aq)))))⟩))
 (aD (aQ (GR PN m.fv_answered_still hr (aa 4))))))) (λas r _ h=>h)
abbrev qa:Uy:=top 31
theorem CK:br ["depths","pairing","depth"] ["depths","pairing","depth"] (az qa):=⟨rfl,rfl,rfl,by decide +kernel,rfl,by decide +kernel,by decide +kernel⟩
theorem An (m:eu w K mg) (F:dh K "in_layer" "in_layer" qa f fd) (hm:mg "in_layer"=some (.ref f)):bA P w K mg base 1 3 "in_layer" K33.iP:=
 have sc:=CK
 bC (k:=0) (gB:=K33.vM) F hm sc (λ_ _ _ _ _ _ us hl=>match us,hl with | [_,_,_],_=>rfl) (λcdv A outer s H E J T hr=>
 (aD (aQ (kJ (JV hr.units (aa 1) (aa 0)) (jK (Mw (ER (gT hr.units (aa 0) (aa 1)) kK) (jK (Mu (gT hr.units (aa 0) (aa 1)) (aa 2))))))))) (λas r _ h=>h)
abbrev oS:Uy:=top 32
theorem AH:br ["depths","depth"] ["depths","depth"] (az oS):=⟨rfl,rfl,rfl,by decide +kernel,rfl,by decide +kernel,by decide +kernel⟩
theorem yE (m:eu w K mg) (hin_layer:bA P w K mg base 1 3 "in_layer" K33.iP) (F:dh K "layers_of" "layers_of" oS f fd) (hm:mg "layers_of"=some (.ref f)):bA P w K mg base 2 2 "layers_of" K33.kg:=
 have sc:=AH
 bC (k:=1) (gB:=K33.tu) F hm sc (λ_ _ _ _ _ _ us hl=>match us,hl with | [_,_],_=>rfl) (λcdv A outer s H E J T hr=>
 (aD (aQ (bL ["step"] [0] (eG (bq (ak (cZ (aa 1) aA) aq) m.range)) (λ_ _ _ _ _ hc=>⟨(aF 0 (bY rfl)),bw,(bL ["pairing"] [1,0] (lA (aa 1)) (λ_ _ _ _ _ hc=>⟨(aF 0 (bY rfl)),(eW (dR (aS hin_layer hr (ak (aa 1) (ak (aa 0) (ak (aa 2) aq)))))),(aa 0)⟩) (hcl:=m9 hc rfl))⟩))))) (λas r _ h=>h)
abbrev vj:Uy:=top 33
theorem G7:br ["one","other","depth"] ["one","other","depth"] (az vj):=⟨rfl,rfl,rfl,by decide +kernel,rfl,by decide +kernel,by decide +kernel⟩
theorem DC (m:eu w K mg) (hneed_small:bA P w K mg base 3 2 "need_small" K23.fB) (hneed_count:bA P w K mg base 2 3 "need_count" K55.eH) (hparting_depths:bA P w K mg base 6 3 "parting_depths" K33.eZ) (hlayers_of:bA P w K mg base 2 2 "layers_of" K33.kg) (F:dh K "layers" "layers" vj f fd) (hm:mg "layers"=some (.ref f)):bA P w K mg base 7 3 "layers" K33.qu:=
 have sc:=G7
 bC (k:=6) (gB:=K33.A7) F hm sc (λ_ _ _ _ _ _ us hl=>match us,hl with | [_,_,_],_=>rfl) (λcdv A outer s H E J T hr=>
 (au (gz (aS hneed_small hr (ak (aa 0) (ak (aa 1) aq))))
 (au (gz (aS hneed_count hr (ak (aa 2) (ak aA (ak (jW m.MOST_DEPTH) aq)))))
 (aD (aQ (aS hlayers_of hr (ak (aS hparting_depths hr (ak (aa 0) (ak (aa 1) (ak (bD aU) aq)))) (ak (aa 2) aq)))))))) (λas r _ h=>h)
abbrev oO:Uy:=top 35
theorem AG:br ["things","told","thing"] ["things"] (az oO):=⟨rfl,rfl,rfl,by decide +kernel,rfl,by decide +kernel,by decide +kernel⟩
theorem yu (m:eu w K mg) (F:dh K "each_once" "each_once" oO f fd) (hm:mg "each_once"=some (.ref f)):bA P w K mg base 1 1 "each_once" K81.i7:=
 have sc:=AG
 bC (k:=0) (gB:=K81.s_) F hm sc (λ_ _ _ _ _ _ us hl=>match us,hl with | [_],_=>rfl) (λcdv A outer s H E J T hr=>
 (au (aP 1 sc.nd (fR aU))
 (au (cT (g7 (aa 0)) (aF 2 sc.nd) (aD (bV (EN hr.units (aa 2) (aa 1)) (aD (eT 1 (aa 2))) bM)))
 (aD (aQ (aa 1)))))) (λas r _ h=>h)
abbrev rV:Uy:=top 37
theorem EY:br ["world","depth","depths","points"] ["world","depth"] (az rV):=⟨rfl,rfl,rfl,by decide +kernel,rfl,by decide +kernel,by decide +kernel⟩
theorem B7 (m:eu w K mg) (hneed_small:bA P w K mg base 3 2 "need_small" K23.fB) (hneed_count:bA P w K mg base 2 3 "need_count" K55.eH) (hparting_depths:bA P w K mg base 6 3 "parting_depths" K33.eZ) (hin_layer:bA P w K mg base 1 3 "in_layer" K33.iP) (heach_once:bA P w K mg base 1 1 "each_once" K81.i7) (F:dh K "classes" "classes" rV f fd) (hm:mg "classes"=some (.ref f)):bA P w K mg base 7 2 "classes" K81.iI:=
 have sc:=EY
 bC (k:=6) (gB:=K81.yW) F hm sc (λ_ _ _ _ _ _ us hl=>match us,hl with | [_,_],_=>rfl) (λcdv A outer s H E J T hr=>
 (au (gz (aS hneed_small hr (ak (aa 0) (ak (aa 0) aq))))
 (au (gz (aS hneed_count hr (ak (aa 1) (ak aA (ak (jW m.MOST_DEPTH) aq)))))
 (au (aP 2 sc.nd (aS hparting_depths hr (ak (aa 0) (ak (aa 0) (ak (bD aU) aq)))))
 (au (aP 3 sc.nd (t9 (ak (aV (aa 0) aA) aq) m.range m.list))
 (aD (aQ (aS heach_once hr (ak (bL ["a"] [3,2,1] (cU (aa 3)) (λ_ _ _ _ _ hc=>⟨(aF 0 (bY rfl)),bw,(cS (ak (bL ["b"] [2,0,3] (cU (aa 1)) (λ_ _ _ _ _ hc=>⟨(aF 0 (bY rfl)),(eW (dR (aS hin_layer hr (ak (aa 1) (ak (bD (aH (bD (aH (aa 2) (aH (aa 0) aU))) aU)) (ak (aa 3) aq)))))),(aa 0)⟩) (hcl:=m9 hc rfl)) aq) m.tuple)⟩)) aq))))))))) (λas r _ h=>h)
abbrev oH:Uy:=top 39
theorem AA:br ["_law_script","_law_k"] ["_law_script","_law_k"] (az oH):=⟨rfl,rfl,rfl,by decide +kernel,rfl,by decide +kernel,by decide +kernel⟩
theorem yp (m:eu w K mg) (F:dh K "_law_cell" "_law_cell" oH f fd) (hm:mg "_law_cell"=some (.ref f)):bA P w K mg base 1 2 "_law_cell" K01.dD:=
 have sc:=AA
 bC (k:=0) (gB:=K01.nY) F hm sc (λ_ _ _ _ _ _ us hl=>match us,hl with | [_,_],_=>rfl) (λcdv A outer s H E J T hr=>
 (au (bV (iT xN (gV λ_ _ _=>.bl _) (aa 1) (iV (ak (aa 0) aq) m.len)) (aD (aQ (bZ (aV (aa 0) (aa 1)) (ve aA aA)))) bM)
 (aD (aQ aA)))) (λas r _ h=>h)
abbrev mJ:Uy:=top 40
theorem zI:br ["_law_cell_here","_law_many","_law_number","_law_base","_law_size","_law_words","_law_first","_law_signs","_law_at","_law_found","_law_k","_law_sign"] ["_law_cell_here","_law_many"] (az mJ):=⟨rfl,rfl,rfl,by decide +kernel,rfl,by decide +kernel,by decide +kernel⟩
theorem wN (m:eu w K mg) (F:dh K "_law_names" "_law_names" mJ f fd) (hm:mg "_law_names"=some (.ref f)):bA P w K mg base 1 2 "_law_names" K01.fZ:=
 have sc:=zI
 bC (k:=0) (gB:=K01.mE) F hm sc (λ_ _ _ _ _ _ us hl=>match us,hl with | [_,_],_=>rfl) (λcdv A outer s H E J T hr=>
 (au (aP 2 sc.nd (bZ (fC (aa 0) aA) aA))
 (au (aP 3 sc.nd (aV gu (bZ (aa 2) aA)))
 (au (aP 4 sc.nd (cZ aA (bZ (fh (aa 2) aA) aA)))
 (au (bV (jq hr.units (bZ (fh (aa 2) aA) aA) aA) (aD (aQ (bL ["_law_k"] [3] (eG (bq (ak (aa 1) aq) m.range)) (λ_ _ _ _ _ hc=>⟨(aF 0 (bY rfl)),bw,(fC (aa 1) (cZ aA (aa 0)))⟩)))) bM)
 (au (bV (jq hr.units (bZ (fh (aa 2) aA) aA) aA) (au (aP 5 sc.nd (fR (aH gu (aH gu (aH gu (aH gu (aH gu (aH gu (aH gu (aH gu aU))))))))))
 (au (aP 6 sc.nd (bZ (fh (aa 2) aA) aA))
 (au (aP 7 sc.nd gu)
 (aD (aQ (t_ (ak (bL ["_law_k"] [5,6,7,2] (eG (bq (ak (aa 1) aq) m.range)) (λ_ _ _ _ _ hc=>⟨(aF 0 (bY rfl)),bw,(cZ (aV (cZ (aa 1) (aa 1)) (cZ (aa 2) (aa 0))) (aV (aa 3) (bZ (fh (aa 4) aA) aA)))⟩)) aq) m.sorted)))))) bM)
 (au (aP 8 sc.nd (bZ (fh (aa 2) aA) (aa 4)))
 (au (aP 9 sc.nd (fR aU))
 (au (cT (bq (ak (aa 1) aq) m.range) (aF 10 sc.nd) (au (aP 11 sc.nd (aV gu (bZ (cZ (fh (aa 2) aA) (fC aA (aa 10))) aA)))
 (aD (eT 9 (cZ (cZ (fC (aa 3) (aa 8)) (aa 11)) (fC (aa 3) (nC (nC (aa 4) aA) (aa 8))))))))
 (aD (aQ (t_ (ak (aa 9) aq) m.sorted)))))))))))) (λas r _ h=>h)
abbrev oN:Uy:=top 41
theorem AF:br ["_law_bits","_law_many","_law_found","_law_point"] ["_law_bits","_law_many"] (az oN):=⟨rfl,rfl,rfl,by decide +kernel,rfl,by decide +kernel,by decide +kernel⟩
theorem yt (m:eu w K mg) (F:dh K "_law_some" "_law_some" oN f fd) (hm:mg "_law_some"=some (.ref f)):bA P w K mg base 1 2 "_law_some" K01.g9:=
 have sc:=AF
 bC (k:=0) (gB:=K01.nZ) F hm sc (λ_ _ _ _ _ _ us hl=>match us,hl with | [_,_],_=>rfl) (λcdv A outer s H E J T hr=>
 (au (aP 2 sc.nd (fR aU))
 (au (cT (bq (ak (aa 1) aq) m.range) (aF 3 sc.nd) (au (bV (jq hr.units (bZ (aa 0) aA) aA) (aD (eT 2 (aa 3))) bM)
 (aD (aP 0 sc.nd (fh (aa 0) aA)))))
 (aD (aQ (cS (ak (aa 2) aq) m.tuple)))))) (λas r _ h=>h)
abbrev mK:Uy:=top 42
theorem zJ:br ["_law_bits","_law_many","_law_found","_law_one","_law_other"] ["_law_bits","_law_many"] (az mK):=⟨rfl,rfl,rfl,by decide +kernel,rfl,by decide +kernel,by decide +kernel⟩
theorem wO (m:eu w K mg) (F:dh K "_law_pairs" "_law_pairs" mK f fd) (hm:mg "_law_pairs"=some (.ref f)):bA P w K mg base 1 2 "_law_pairs" K01.gO:=
 have sc:=zJ
 bC (k:=0) (gB:=K01.mF) F hm sc (λ_ _ _ _ _ _ us hl=>match us,hl with | [_,_],_=>rfl) (λcdv A outer s H E J T hr=>
 (au (aP 2 sc.nd (fR aU))
 (au (cT (bq (ak (aa 1) aq) m.range) (aF 3 sc.nd) (aD (cT (bq (ak (aa 1) aq) m.range) (aF 4 sc.nd) (au (bV (jq hr.units (bZ (aa 0) aA) aA) (aD (eT 2 (bD (aH (aa 3) (aH (aa 4) aU))))) bM)
 (aD (aP 0 sc.nd (fh (aa 0) aA)))))))
 (aD (aQ (cS (ak (aa 2) aq) m.tuple)))))) (λas r _ h=>h)
abbrev lE:Uy:=top 43
theorem xh:br ["_law_cell_here","_law_names_here","_law_number","_law_first"] ["_law_cell_here"] (az lE):=⟨rfl,rfl,rfl,by decide +kernel,rfl,by decide +kernel,by decide +kernel⟩
theorem uK (m:eu w K mg) (h_law_names:bA P w K mg base 1 2 "_law_names" K01.fZ) (F:dh K "_law_tongue" "_law_tongue" lE f fd) (hm:mg "_law_tongue"=some (.ref f)):bA P w K mg base 2 1 "_law_tongue" K01.gW:=
 have sc:=xh
 bC (k:=1) (gB:=K01.kX) F hm sc (λ_ _ _ _ _ _ us hl=>match us,hl with | [_],_=>rfl) (λcdv A outer s H E J T hr=>
 (au (aP 1 sc.nd (aS h_law_names hr (ak (aa 0) (ak aA aq))))
 (au (aP 2 sc.nd (bZ (fC (aa 0) aA) aA))
 (au (aP 3 sc.nd (bZ (fh (aa 2) aA) aA))
 (aD (aQ (bD (aH (cS (ak (vf (aa 1) v7 (lV (bZ (aa 2) aA))) aq) m.tuple) (aH (cS (ak (vf (aa 1) (lV (aa 3)) (lV (cZ (aa 3) (bZ (fh (aa 2) aA) aA)))) aq) m.tuple) aU))))))))) (λas r _ h=>h)
abbrev mL:Uy:=top 44
theorem zK:br ["_law_script","_law_at","_law_many","_law_tongue_here","_law_marks","_law_k","_law_arrows","_law_bits"] ["_law_script","_law_at","_law_many","_law_tongue_here"] (az mL):=⟨rfl,rfl,rfl,by decide +kernel,rfl,by decide +kernel,by decide +kernel⟩
theorem wQ (m:eu w K mg) (h_law_cell:bA P w K mg base 1 2 "_law_cell" K01.dD) (h_law_some:bA P w K mg base 1 2 "_law_some" K01.g9) (h_law_pairs:bA P w K mg base 1 2 "_law_pairs" K01.gO) (F:dh K "_law_world" "_law_world" mL f fd) (hm:mg "_law_world"=some (.ref f)):bA P w K mg base 2 4 "_law_world" K01.iA:=
 have sc:=zK
 bC (k:=1) (gB:=K01.mG) F hm sc (λ_ _ _ _ _ _ us hl=>match us,hl with | [_,_,_,_],_=>rfl) (λcdv A outer s H E J T hr=>
 (au (aP 4 sc.nd (fR aU))
 (au (cT (bq (ak (iV (ak (aV (aa 3) aA) aq) m.len) aq) m.range) (aF 5 sc.nd) (aD (eT 4 (bD (aH (aV (aV (aa 3) aA) (aa 5)) (aH (aS h_law_some hr (ak (bZ (fC (aS h_law_cell hr (ak (aa 0) (ak (cZ (aa 1) (aa 5)) aq))) aA) (ve aA aA)) (ak (aa 2) aq))) aU))))))
 (au (aP 6 sc.nd (fR aU))
 (au (cT (bq (ak (iV (ak (aV (aa 3) aA) aq) m.len) aq) m.range) (aF 5 sc.nd) (au (aP 7 sc.nd (bZ (fC (aS h_law_cell hr (ak (aa 0) (ak (cZ (cZ (aa 1) aA) (aa 5)) aq))) aA) (ve aA aA)))
 (aD (eT 6 (bD (aH (aV (aV (aa 3) aA) (aa 5)) (aH (aS h_law_pairs hr (ak (aa 7) (ak (aa 2) aq))) aU)))))))
 (aD (aQ (bD (aH (aa 2) (aH (cS (ak (aa 4) aq) m.tuple) (aH (cS (ak (aa 6) aq) m.tuple) aU))))))))))) (λas r _ h=>h)
abbrev oJ:Uy:=top 45
theorem AB:br ["_law_number","_law_many","_law_steps","_law_both","_law_found","_law_one","_law_other","_law_far"] ["_law_number","_law_many"] (az oJ):=⟨rfl,rfl,rfl,by decide +kernel,rfl,by decide +kernel,by decide +kernel⟩
theorem yq (m:eu w K mg) (F:dh K "_law_even" "_law_even" oJ f fd) (hm:mg "_law_even"=some (.ref f)):bA P w K mg base 1 2 "_law_even" K81.iZ:=
 have sc:=AB
 bC (k:=0) (gB:=K81.sX) F hm sc (λ_ _ _ _ _ _ us hl=>match us,hl with | [_,_],_=>rfl) (λcdv A outer s H E J T hr=>
 (au (jV 2 ["_law_k"] [0] sc.nd (eG (bq (ak (aa 1) aq) m.range)) (λ_ _ _ _ _ hc=>⟨(aF 0 (bY rfl)),(eW (jq hr.units (GQ (JY (aa 1) (aa 0)) aA) aA)),(aa 0)⟩))
 (au (aP 3 sc.nd (bZ (fh (aa 0) aA) aA))
 (au (aP 4 sc.nd (fR aU))
 (au (cT (bq (ak (aa 1) aq) m.range) (aF 5 sc.nd) (aD (cT (bq (ak (aa 1) aq) m.range) (aF 6 sc.nd) (au (aP 7 sc.nd (bZ (nC (aa 6) (aa 5)) (aa 1)))
 (aD (bV (fQ (jr (tZ hr.units (aa 7) (aa 2)) (iU (fQ (qI (jq hr.units (aa 3) aA) (oB (tZ hr.units (bZ (nC (aa 5) (aa 6)) (aa 1)) (aa 2)))))))) (aD (eT 4 (bD (aH (aa 5) (aH (aa 6) aU))))) bM))))))
 (aD (aQ (cS (ak (aa 4) aq) m.tuple)))))))) (λas r _ h=>h)
abbrev lD:Uy:=top 46
theorem xg:br ["_law_script","_law_at","_law_many","_law_tongue_here","_law_world_here","_law_number","_law_arrows","_law_k","_law_pairs_here","_law_marks"] ["_law_script","_law_at","_law_many","_law_tongue_here"] (az lD):=⟨rfl,rfl,rfl,by decide +kernel,rfl,by decide +kernel,by decide +kernel⟩
theorem uJ (m:eu w K mg) (h_law_world:bA P w K mg base 2 4 "_law_world" K01.iA) (h_law_cell:bA P w K mg base 1 2 "_law_cell" K01.dD) (h_law_even:bA P w K mg base 1 2 "_law_even" K81.iZ) (F:dh K "_law_shaped" "_law_shaped" lD f fd) (hm:mg "_law_shaped"=some (.ref f)):bA P w K mg base 3 4 "_law_shaped" K81.fD:=
 have sc:=xg
 bC (k:=2) (gB:=K81.pN) F hm sc (λ_ _ _ _ _ _ us hl=>match us,hl with | [_,_,_,_],_=>rfl) (λcdv A outer s H E J T hr=>
 (au (aP 4 sc.nd (aS h_law_world hr (ak (aa 0) (ak (aa 1) (ak (aa 2) (ak (aa 3) aq))))))
 (au (aP 5 sc.nd (bZ (fC (aS h_law_cell hr (ak (aa 0) (ak (cZ (aa 1) aA) aq))) aA) aA))
 (au (aP 6 sc.nd (fR aU))
 (au (cT (bq (ak (iV (ak (aV (aa 4) aA) aq) m.len) aq) m.range) (aF 7 sc.nd) (au (aP 8 sc.nd (aV (aV (aV (aa 4) aA) (aa 7)) aA))
 (au (bV (jq hr.units (bZ (aa 5) aA) aA) (aD (aP 8 sc.nd (aS h_law_even hr (ak (cZ (fh (aa 5) aA) (fC aA (aa 7))) (ak (aa 2) aq))))) bM)
 (au (bV (jq hr.units (bZ (aa 5) aA) aA) (aD (aP 8 sc.nd (cS (ak (bL ["_law_pair"] [] (cU (aa 8)) (λ_ _ _ _ _ hc=>⟨(aF 0 (bY rfl)),(eW (fQ (jr (iT xN (gV λ_ _ _=>.bl _) (aV (aa 0) aA) aA) (iU (iT tV (gV λ_ _ _=>.bl _) (aV (aa 0) aA) aA))))),(aa 0)⟩)) aq) m.tuple))) bM)
 (aD (eT 6 (bD (aH (aV (aV (aV (aa 4) aA) (aa 7)) aA) (aH (aa 8) aU)))))))))
 (au (jV 9 ["_law_name","_law_points"] [5] sc.nd (cU (aV (aa 4) aA)) (λ_ _ _ _ _ hc=>⟨(g8 (b_ (aF 0 (bY rfl)) (b_ (aF 1 (bY rfl)) gA))),bw,(bD (aH (aa 0) (aH (vf (aa 1) v7 (lV (bZ (fh (aa 2) aA) aA))) aU)))⟩))
 (aD (aQ (bD (aH (aa 2) (aH (cS (ak (aa 9) aq) m.tuple) (aH (cS (ak (aa 6) aq) m.tuple) aU)))))))))))) (λas r _ h=>h)
abbrev oM:Uy:=top 47
theorem AE:br ["_law_found","_law_due"] ["_law_found","_law_due"] (az oM):=⟨rfl,rfl,rfl,by decide +kernel,rfl,by decide +kernel,by decide +kernel⟩
theorem pG (m:eu w K mg) (F:dh K "_law_same" "_law_same" oM f fd) (hm:mg "_law_same"=some (.ref f)):∀fu:Nat,bA P w K mg base (0 + fu) 2 "_law_same" (K81.gE fu)
 | 0=>IL (ps:=["_law_found","_law_due"]) F hm (λ_ _ _ _ _ _ us hl=>match us,hl with | [_,_],_=>rfl) (λ_=>rfl)
 | fu + 1=>
  have sc:=AE
  have hself:=pG m F hm fu
  bC (k:=0 + fu) (gB:=K81.sZ (K81.gE fu)) F hm sc (λ_ _ _ _ _ _ us hl=>match us,hl with | [_,_],_=>rfl) (λcdv A outer s H E J T hr=>
 (au (bV (dR (dS kit_tuple mq m.tuple (aa 1) m.isinstance)) (au (bV (fQ (jr (gS (dR (dS kit_tuple mq m.tuple (aa 0) m.isinstance))) (iU (ly hr.units (iV (ak (aa 0) aq) m.len) (iV (ak (aa 1) aq) m.len))))) (aD (aQ gr)) bM)
 (aD (aQ (qJ (ak (bL ["_law_k"] [0,1] (eG (bq (ak (iV (ak (aa 1) aq) m.len) aq) m.range)) (λ_ _ _ _ _ hc=>⟨(aF 0 (bY rfl)),bw,(aS hself hr (ak (aV (aa 1) (aa 0)) (ak (aV (aa 2) (aa 0)) aq)) (by omega))⟩)) aq) m.all)))) bM)
 (au (bV (fQ (jr (dR (dS n9 kh m.bool (aa 1) m.isinstance)) (iU (dR (dS uX pD m.int (aa 1) m.isinstance))))) (aD (aQ (kJ (dS uX pD m.int (aa 0) m.isinstance) (kJ (lz hr.units (dS n9 kh m.bool (aa 0) m.isinstance) (dS n9 kh m.bool (aa 1) m.isinstance)) (jK (lz hr.units (aa 0) (aa 1))))))) bM)
 (aD (aQ (kJ (dS Jm Dw m.str (aa 0) m.isinstance) (jK (lz hr.units (aa 0) (aa 1))))))))) (λas r _ h=>h)
abbrev oK:Uy:=top 48
theorem AD:br ["_law_some_here","_law_point","_law_k"] ["_law_some_here","_law_point"] (az oK):=⟨rfl,rfl,rfl,by decide +kernel,rfl,by decide +kernel,by decide +kernel⟩
theorem yr (m:eu w K mg) (F:dh K "_law_home" "_law_home" oK f fd) (hm:mg "_law_home"=some (.ref f)):bA P w K mg base 1 2 "_law_home" K81.gD:=
 have sc:=AD
 bC (k:=0) (gB:=K81.sY) F hm sc (λ_ _ _ _ _ _ us hl=>match us,hl with | [_,_],_=>rfl) (λcdv A outer s H E J T hr=>
 (au (cT (bq (ak (iV (ak (aa 0) aq) m.len) aq) m.range) (aF 2 sc.nd) (aD (bV (tZ hr.units (aa 1) (aV (aa 0) (aa 2))) (aD (aQ (aa 2))) bM)))
 (aD (aQ kK)))) (λas r _ h=>h)
abbrev lC:Uy:=top 49
theorem w_:br ["_law_found","_law_many","_law_all_points","_law_part","_law_firsts"] ["_law_found","_law_many"] (az lC):=⟨rfl,rfl,rfl,by decide +kernel,rfl,by decide +kernel,by decide +kernel⟩
theorem uI (m:eu w K mg) (h_law_same:bA P w K mg base 10 2 "_law_same" (K81.gE 10)) (F:dh K "_law_parted" "_law_parted" lC f fd) (hm:mg "_law_parted"=some (.ref f)):bA P w K mg base 11 2 "_law_parted" K81.i6:=
 have sc:=w_
 bC (k:=10) (gB:=K81.pM) F hm sc (λ_ _ _ _ _ _ us hl=>match us,hl with | [_,_],_=>rfl) (λcdv A outer s H E J T hr=>
 (au (bV (fQ (jr (gS (dR (dS Gg B6 m.list (aa 0) m.isinstance))) (iU (gS (dR (qJ (ak (bL ["_law_part"] [] (cU (aa 0)) (λ_ _ _ _ _ hc=>⟨(aF 0 (bY rfl)),bw,(kJ (dS kit_tuple mq m.tuple (aa 0) m.isinstance) (jK (Mv hr.units (aa 0) (bD aU))))⟩)) aq) m.all)))))) (aD (aQ gr)) bM)
 (au (aP 2 sc.nd (fR aU))
 (au (cT (g7 (aa 0)) (aF 3 sc.nd) (au (aP 2 sc.nd (cZ (aa 2) (zB (ak (aa 3) aq) m.list)))
 (aD (bV (gS (dR (aS h_law_same hr (ak (aa 3) (ak (cS (ak (bL ["_law_point"] [3] (eG (bq (ak (aa 1) aq) m.range)) (λ_ _ _ _ _ hc=>⟨(aF 0 (bY rfl)),(eW (tZ hr.units (aa 0) (aa 1))),(aa 0)⟩)) aq) m.tuple) aq))))) (aD (aQ gr)) bM))))
 (au (bV (ly hr.units (v5 hr.units (ak (aa 2) aq) m.sorted) (t9 (ak (aa 1) aq) m.range m.list)) (aD (aQ gr)) bM)
 (au (jV 4 ["_law_part"] [] sc.nd (cU (aa 0)) (λ_ _ _ _ _ hc=>⟨(aF 0 (bY rfl)),bw,(aV (aa 0) aA)⟩))
 (aD (aQ (lz hr.units (aa 4) (v5 hr.units (ak (aa 4) aq) m.sorted)))))))))) (λas r _ h=>h)
abbrev oR:Uy:=top 50
theorem NK:br ["_law_script","_law_many","_law_tongue_here","_law_world_here","_law_depth","_law_found","_law_layer","_law_one","_law_other","_law_kept","_law_wider","_law_part"] ["_law_script"] (az oR):=⟨rfl,rfl,rfl,by decide +kernel,rfl,by decide +kernel,by decide +kernel⟩
theorem Nt (m:eu w K mg) (h_law_cell:bA P w K mg base 1 2 "_law_cell" K01.dD) (h_law_tongue:bA P w K mg base 2 1 "_law_tongue" K01.gW) (h_law_shaped:bA P w K mg base 3 4 "_law_shaped" K81.fD) (Pe:bA P w K mg base 7 2 "classes" K81.iI) (h_law_parted:bA P w K mg base 11 2 "_law_parted" K81.i6) (PL:bA P w K mg base 7 3 "layers" K33.qu) (h_law_home:bA P w K mg base 1 2 "_law_home" K81.gD) (F:dh K "law" "law" oR f fd):jB P w K mg base oW 12 f fd ["_law_script"] (qh K 1 K81.uw):=
 have sc:=NK
 JR (k:=11) (gB:=K81.Lj) F sc (λcdv A outer s H E J T hr=>
 (au (aP 1 sc.nd (cZ aA (bZ (aS h_law_cell hr (ak (aa 0) (ak aA aq))) aA)))
 (au (aP 2 sc.nd (aS h_law_tongue hr (ak (aS h_law_cell hr (ak (aa 0) (ak aA aq))) aq)))
 (au (aP 3 sc.nd (aS h_law_shaped hr (ak (aa 0) (ak aA (ak (aa 1) (ak (aa 2) aq))))))
 (au (aP 4 sc.nd (bZ (aS h_law_cell hr (ak (aa 0) (ak aA aq))) aA))
 (au (aP 5 sc.nd (aS Pe hr (ak (aa 3) (ak (aa 4) aq))))
 (au (bV (gS (dR (aS h_law_parted hr (ak (aa 5) (ak (aa 1) aq))))) (aD (aQ gr)) bM)
 (au (aP 6 sc.nd (aV (aS PL hr (ak (aa 3) (ak (aa 3) (ak (aa 4) aq)))) (aa 4)))
 (au (cT (bq (ak (aa 1) aq) m.range) (aF 7 sc.nd) (aD (cT (bq (ak (aa 1) aq) m.range) (aF 8 sc.nd) (aD (bV (ly hr.units (lz hr.units (aS h_law_home hr (ak (aa 5) (ak (aa 7) aq))) (aS h_law_home hr (ak (aa 5) (ak (aa 8) aq)))) (t8 hr.units (bD (aH (bD (aH (aa 7) (aH (aa 8) aU))) aU)) (aa 6))) (aD (aQ gr)) bM)))))
 (au (aP 9 sc.nd (zB (ak (aa 5) aq) m.list))
 (au (eT 5 (bD aU))
 (au (bV (fQ (jr (fQ (qI (iT xN (gV λ_ _ _=>.bl _) (aa 1) aA) (oB (ly hr.units (aS Pe hr (ak (aa 3) (ak (aa 4) aq))) (aa 9))))) (iU (ly hr.units (aa 3) (aS h_law_shaped hr (ak (aa 0) (ak aA (ak (aa 1) (ak (aa 2) aq))))))))) (aD (aQ gr)) bM)
 (au (bV (iT tV (gV λ_ _ _=>.bl _) (aa 4) aA) (au (aP 10 sc.nd (aS Pe hr (ak (aa 3) (ak (nC (aa 4) aA) aq))))
 (aD (oE 9 (cT (g7 (aa 9)) (aF 11 sc.nd) (aD (bV (ly hr.units (GS (ak (bL ["_law_point"] [10] (cU (aa 11)) (λ_ _ _ _ _ hc=>⟨(aF 0 (bY rfl)),bw,(aS h_law_home hr (ak (aa 1) (ak (aa 0) aq)))⟩)) aq) m.len m.set) aA) (aD (aQ gr)) bM)))))) bM)
 (aD (aQ gr))))))))))))))) (λas r _ h=>h)
end
end K81
namespace K81
open PySem DL K01 WP K51 K52 K55 K23 K33
section
variable {v w:Wd}{ra rb rc:List Nat}{a b c d p q:Nat}
theorem Hz {ps:Ps}:∀{j:Nat},(∀k∈picks v w,∃p∈lq v w k,dU ps p∈T4 v w/\La v w j (dU ps p)=true)->La v w j ps=true
 | 0,_=>rfl
 | j + 1,h=>by
  have h':∀k∈picks v w,∃p∈lq v w k,dU ps p∈T4 v w/\La v w j (dU ps p)=true:=λk hk=>let ⟨p,a,b,c⟩:=h k hk;⟨p,a,b,(uz.mp c).1⟩
  exact uz.mpr ⟨Hz h',h'⟩
theorem Kn (Z:Ps) (x:Nat×Nat):nG (Z++[x])=dU (nG Z) x:=HD (qm _) (qm _) λy=>by rw [iS,u6,iS];simp
noncomputable def Al (u:Wd):Nat->List Nat->List Nat->Prop
 | 0,_,_=>True
 | d + 1,ra,rb=>(∀p,p < u.m->∃q,q < u.m/\j6 u u ((ra++[p]).zip (rb++[q]))/\Al u d (ra++[p]) (rb++[q]))/\∀q,q < u.m->∃p,p < u.m/\j6 u u ((ra++[p]).zip (rb++[q]))/\Al u d (ra++[p]) (rb++[q])
theorem Hy {u:Wd}(t:Pr u u):∀(d:Nat) (ra rb:List Nat),ra.length=rb.length->(La u u d (nG (ra.zip rb))=true↔Al u d ra rb)
 | 0,_,_,_=>⟨λ_=>trivial,λ_=>rfl⟩
 | d + 1,ra,rb,hl=>by
  have step:∀p q,(dU (nG (ra.zip rb)) (p,q)∈T4 u u/\La u u d (dU (nG (ra.zip rb)) (p,q))=true↔j6 u u ((ra++[p]).zip (rb++[q]))/\Al u d (ra++[p]) (rb++[q])):=λp q=>by
   have z:(ra++[p]).zip (rb++[q])=ra.zip rb++[(p,q)]:=List.zip_append hl
   rw [<-Hy t d _ _ (by simp [hl]),z,<-Kn,tR t,n5 (qm _)]
   exact ⟨λ⟨a,b⟩=>⟨a.sub λy hy=>iS.mpr hy,b⟩,λ⟨a,b⟩=>⟨a.sub λy hy=>iS.mp hy,b⟩⟩
  constructor
  ·intro h
   have h:=(uz.mp h).2
   constructor
   ·intro p hp
    obtain ⟨x,h1,h2⟩:=h (0,p) (Uj _ (Rg.mpr ⟨p,Rk.mpr hp,rfl⟩))
    obtain ⟨q,hq,rfl⟩:=Rg.mp (show x∈(Ra u.m).map λb=>(p,b) from h1)
    exact ⟨q,Rk.mp hq,(step p q).mp h2⟩
   ·intro q hq
    obtain ⟨x,h1,h2⟩:=h (1,q) (R9 _ (Rg.mpr ⟨q,Rk.mpr hq,rfl⟩))
    obtain ⟨p,hp,rfl⟩:=Rg.mp (show x∈(Ra u.m).map λb=>(b,q) from h1)
    exact ⟨p,Rk.mp hp,(step p q).mp h2⟩
  ·rintro ⟨h1,h2⟩
   have h:∀k∈picks u u,∃p∈lq u u k,dU (nG (ra.zip rb)) p∈T4 u u/\La u u d (dU (nG (ra.zip rb)) p)=true:=λk hk=>by
    rcases RJ.mp hk with hk | hk <;> obtain ⟨x,hx,rfl⟩:=Rg.mp hk
    ·obtain ⟨q,hq,e⟩:=h1 x (Rk.mp hx)
     exact ⟨(x,q),Rg.mpr ⟨q,Rk.mpr hq,rfl⟩,(step x q).mpr e⟩
    ·obtain ⟨q,hq,e⟩:=h2 x (Rk.mp hx)
     exact ⟨(q,x),Rg.mpr ⟨q,Rk.mpr hq,rfl⟩,(step q x).mpr e⟩
   exact uz.mpr ⟨Hz h,h⟩
theorem k_ {z:Nat×Nat}:z∈ra.zip rb↔∃(i:Nat),ra[i]?=some z.1/\rb[i]?=some z.2:=by
 rw [V0]
 simp only [Vd]
theorem uP {u:Wd}(h:j6 u u (ra.zip rb)):j6 u u (rb.zip ra):=by
 have sw:∀z∈rb.zip ra,(z.2,z.1)∈ra.zip rb:=λz hz=>by
  obtain ⟨i,h1,h2⟩:=k_.mp hz
  exact k_.mpr ⟨i,h2,h1⟩
 exact ⟨λx hx y hy=>let g:=h.ag _ (sw x hx) _ (sw y hy);⟨g.eq.symm,g.ms.symm,g.ar.symm⟩,λx hx=>(h.rg _ (sw x hx)).symm⟩
theorem pK {u:Wd}(hl:ra.length=rb.length) (h:j6 u u (ra.zip rb)) (h':j6 u u (rb.zip rc)):j6 u u (ra.zip rc):=by
 have mid:∀z∈ra.zip rc,∃y,(z.1,y)∈ra.zip rb/\(y,z.2)∈rb.zip rc:=λz hz=>by
  obtain ⟨i,h1,h2⟩:=k_.mp hz
  have hi:=(RK.mp h1).1
  exact ⟨rb[i]'(hl▸hi),k_.mpr ⟨i,h1,Rl _⟩,k_.mpr ⟨i,Rl _,h2⟩⟩
 refine ⟨λx hx y hy=>?_,λx hx=>?_⟩
 ·obtain ⟨x',a1,a2⟩:=mid x hx
  obtain ⟨y',b1,b2⟩:=mid y hy
  have g:=h.ag _ a1 _ b1
  have g':=h'.ag _ a2 _ b2
  exact ⟨g.eq.trans g'.eq,g.ms.trans g'.ms,g.ar.trans g'.ar⟩
 ·obtain ⟨x',a1,a2⟩:=mid x hx
  exact ⟨(h.rg _ a1).1,(h'.rg _ a2).2⟩
theorem xU {u:Wd}:∀(d:Nat) (ra rb:List Nat),Al u d ra rb->Al u d rb ra
 | 0,_,_,_=>trivial
 | d + 1,ra,rb,⟨h1,h2⟩=>⟨λq hq=>let ⟨p,a,b,c⟩:=h2 q hq;⟨p,a,uP b,xU d _ _ c⟩,λp hp=>let ⟨q,a,b,c⟩:=h1 p hp;⟨q,a,uP b,xU d _ _ c⟩⟩
theorem rq {u:Wd}:∀(d:Nat) (ra rb rc:List Nat),ra.length=rb.length->rb.length=rc.length->Al u d ra rb->Al u d rb rc->Al u d ra rc
 | 0,_,_,_,_,_,_,_=>trivial
 | d + 1,ra,rb,rc,l1,l2,⟨h1,h2⟩,⟨k1,k2⟩=>⟨λp hp=>by
   obtain ⟨q,a1,a2,a3⟩:=h1 p hp
   obtain ⟨r,b1,b2,b3⟩:=k1 q a1
   exact ⟨r,b1,pK (by simp [l1]) a2 b2,rq d _ _ _ (by simp [l1]) (by simp [l2]) a3 b3⟩,λr hr=>by
   obtain ⟨q,b1,b2,b3⟩:=k2 r hr
   obtain ⟨p,a1,a2,a3⟩:=h2 q b1
   exact ⟨p,a1,pK (by simp [l1]) a2 b2,rq d _ _ _ (by simp [l1]) (by simp [l2]) a3 b3⟩⟩
def sim (u:Wd) (d a b:Nat):Bool:=decide ([(a,b)]∈T4 u u) && La u u d [(a,b)]
theorem kM {u:Wd}(t:Pr u u):sim u d a b=true↔j6 u u (([a]:List Nat).zip [b])/\Al u d [a] [b]:=by
 unfold sim
 rw [Ri,decide_eq_true_eq,tR t,n5 (Sf _ _),<-Hy t d [a] [b] rfl]
 rw [show nG (([a]:List Nat).zip [b])=[(a,b)] from HD (qm _) (Sf _ _) λ_=>iS]
 exact Yx
theorem iW {u:Wd}(t:Pr u u) (h:sim u d a b=true):sim u d b a=true:=by
 obtain ⟨h1,h2⟩:=(kM t).mp h
 exact (kM t).mpr ⟨uP h1,xU d _ _ h2⟩
theorem iX {u:Wd}(t:Pr u u) (h:sim u d a b=true) (h':sim u d b c=true):sim u d a c=true:=by
 obtain ⟨h1,h2⟩:=(kM t).mp h
 obtain ⟨k1,k2⟩:=(kM t).mp h'
 exact (kM t).mpr ⟨pK (rb:=[b]) rfl h1 k1,rq d [a] [b] [c] rfl rfl h2 k2⟩
theorem rY {u:Wd}(t:Pr u u) (ha:a < u.m):sim u d a a=true:=by
 have i:N2 u u ((Ra u.m).map λx=>(x,x)):=⟨⟨R3.mpr (Sz.imp λh=>h),λp hp q hq=>by
   obtain ⟨x,_,rfl⟩:=Rg.mp hp
   obtain ⟨y,_,rfl⟩:=Rg.mp hq
   exact ⟨Yx,rfl,rfl⟩,λp hp=>by
   obtain ⟨x,hx,rfl⟩:=Rg.mp hp
   exact ⟨Rk.mp hx,Rk.mp hx⟩⟩,λx hx=>⟨(x,x),Rg.mpr ⟨x,Rk.mpr hx,rfl⟩,rfl⟩,λx hx=>⟨(x,x),Rg.mpr ⟨x,Rk.mpr hx,rfl⟩,rfl⟩⟩
 have hs:∀p∈[(a,a)],p∈(Ra u.m).map λx=>(x,x):=λp hp=>by rw [Rp.mp hp];exact Rg.mpr ⟨a,Rk.mpr ha,rfl⟩
 unfold sim
 rw [xY t i d _ hs,decide_eq_true ((tR t).mpr ((n5 (Sf _ _)).mpr (j6.sub ⟨i.g.ag,i.g.rg⟩ hs)))]
 rfl
theorem G_ {u:Wd}(h:sim u (d + 1) a b=true):sim u d a b=true:=by
 unfold sim at h ⊢
 rw [Ri] at h ⊢
 exact ⟨h.1,(uz.mp h.2).1⟩
theorem zR {u:Wd}(t:Pr u u) (h:sim u d a b=true):a < u.m/\b < u.m:=((kM t).mp h).1.rg (a,b) (by simp)
end
end K81
namespace K81
open PySem DL K01 WP K51 K52 K55 K23 K22 K33
abbrev tN (xs:List Nat):D:=.tup (xs.map dN)
theorem Ng (a b:List Nat):bz (tN a) (tN b)=decide (a=b):=by
 show cP (a.map dN) (b.map dN)=_
 induction a generalizing b with
 | nil=>cases b <;> simp [cP]
 | cons x a ih=>
  cases b with
  | nil=>simp [cP]
  | cons y b=>rw [Rv,Rv,gR,ih,K55.vH,RY];simp
theorem uo (xs:List Nat):dep (tN xs)<=60:=by
 have:deps (xs.map dN)<=0:=dQ λx hx=>by obtain ⟨q,_,rfl⟩:=Rg.mp hx;exact Rj _
 show deps (xs.map dN) + 1<=60
 omega
theorem Nk (neg:Bool) (p:List Nat) (L:List (List Nat)) (x:R) (hx:jg x=.ok (L.map tN)):gg neg (.d (tN p)) x=.ok (.d (.bl (if neg then !decide (p∈L) else decide (p∈L)))):=by
 unfold gg
 rw [hx,aL,if_pos ⟨dQ λd hd=>by obtain ⟨q,_,rfl⟩:=Rg.mp hd;exact uo q,uo p⟩]
 have:inD (tN p) (L.map tN)=decide (p∈L):=by
  unfold inD
  rw [Vn,RY,SS,decide_eq_true_eq]
  simp only [VP,Ng,decide_eq_true_eq]
  exact ⟨λ⟨x,h,e⟩=>e▸h,λh=>⟨p,h,rfl⟩⟩
 show M.ok (R.d (.bl (if neg then !inD (tN p) (L.map tN) else inD (tN p) (L.map tN))))=_
 rw [this]
theorem LL {gs:G (List R)}{env:Ev}{n:Nat}(hg:gs env=.ok [.d (.int (n:Int))]) (h:n<=1000):sW gs env=.ok (.l .fresh ((Ra n).map dN)):=by
 unfold sW
 rw [hg,aL]
 simp only
 rw [if_pos (eB.mpr ⟨by omega,by omega⟩),Tn,MF]
def once (L:List (List Nat)):List (List Nat):=L.foldl (λacc x=>if x∈acc then acc else acc++[x]) []
theorem Kz (L:List (List Nat)) (hl:L.length<=1000):i7 [.bor (L.map tN)]=.ok (.l .fresh ((once L).map tN)):=by
 refine cV (cH (nu bQ (by decide)) rfl (lW (ds:=L.map tN) rfl (qp (λk env=>∃z,env=[some (.bor (L.map tN)),some (.own ((once (L.take k)).map tN)),z]/\(once (L.take k)).length<=k) (L.map tN) ⟨none,rfl,Rj _⟩ ?_ ?_)))
 ·rintro k hk _ ⟨z,rfl,hk1⟩
  have hk':k < L.length:=by simpa using hk
  have e:(L.map tN)[k]=tN L[k]:=V8 ..
  rw [e]
  have es:once (L.take (k + 1))=if L[k]∈once (L.take k) then once (L.take k) else once (L.take k)++[L[k]]:=by
   rw [VS,Rl hk']
   unfold once
   rw [W_]
   rfl
  refine ⟨_,rfl,zc (c:=!decide (L[k]∈once (L.take k))) (K23.cL rfl rfl ((Nk true L[k] (once (L.take k)) (.l .own ((once (L.take k)).map tN)) rfl).trans rfl)) (λq=>?_) λq=>?_⟩
  ·have q:L[k]∉once (L.take k):=by simpa using q
   refine xK rfl rfl rfl (by rw [Rh];omega) ⟨_,rfl,some (.d (tN L[k])),?_,?_⟩
   ·rw [es,if_neg q,RM];rfl
   ·rw [es,if_neg q,RI];simp;omega
  ·have q:L[k]∈once (L.take k):=by simpa using q
   refine jl ⟨_,rfl,some (.d (tN L[k])),?_,?_⟩
   ·rw [es,if_pos q];rfl
   ·rw [es,if_pos q];omega
 ·rintro _ ⟨z,rfl,_⟩
  rw [Rh,Vf]
  exact dg rfl rfl rfl
section
variable {u:Wd}{d:Nat}
def cls (u:Wd) (d a:Nat):List Nat:=(Ra u.m).filter (sim u d a)
def least (u:Wd) (d a:Nat):Bool:=(Ra a).all λb=>!sim u d a b
def cl (u:Wd) (d:Nat):List (List Nat):=((Ra u.m).filter (least u d)).map (cls u d)
theorem gn (t:Pr u u){a b:Nat}:b∈cls u d a↔sim u d a b=true:=by
 unfold cls
 rw [R1,Rk]
 exact ⟨λh=>h.2,λh=>⟨(zR t h).2,h⟩⟩
theorem DI (t:Pr u u){a b:Nat}(hb:b < u.m):cls u d a=cls u d b↔sim u d a b=true:=by
 constructor
 ·intro h
  exact (gn t).mp (by rw [h];exact (gn t).mpr (rY t hb))
 ·intro h
  refine VQ λx _=>?_
  rw [RY]
  exact ⟨λk=>iX t (iW t h) k,λk=>iX t h k⟩
theorem Jw (t:Pr u u):once ((Ra u.m).map (cls u d))=cl u d:=by
 have key:∀k,k<=u.m->once ((Ra k).map (cls u d))=((Ra k).filter (least u d)).map (cls u d)/\∀x,x∈once ((Ra k).map (cls u d))↔x∈(Ra k).map (cls u d):=by
  intro k
  induction k with
  | zero=>exact λ_=>⟨rfl,λ_=>Yx⟩
  | succ k ih=>
   intro hk
   obtain ⟨i1,i2⟩:=ih (by omega)
   have e:once ((Ra (k + 1)).map (cls u d))=if cls u d k∈once ((Ra k).map (cls u d)) then once ((Ra k).map (cls u d)) else once ((Ra k).map (cls u d))++[cls u d k]:=by
    rw [T5,RM]
    unfold once
    rw [W_]
    rfl
   have hm:cls u d k∈once ((Ra k).map (cls u d))↔least u d k=false:=by
    rw [i2,Rg]
    unfold least
    rw [Zj]
    constructor
    ·rintro ⟨b,hb,h⟩
     exact ⟨b,hb,by rw [iW t ((DI t (by omega)).mp h)];decide⟩
    ·rintro ⟨b,hb,h⟩
     exact ⟨b,hb,(DI t (by omega)).mpr (iW t (by simpa using h))⟩
   rw [e]
   cases q:least u d k with
   | true=>
    have c:cls u d k∉once ((Ra k).map (cls u d)):=λz=>by rw [hm,q] at z;cases z
    rw [if_neg c,i1,T5,UO,RM]
    refine ⟨by simp [q],λx=>?_⟩
    rw [<-i1,RJ,i2,RM,RJ]
    exact Yx
   | false=>
    have c:=hm.mpr q
    rw [if_pos c,T5,UO,RM]
    refine ⟨by simp [q,i1],λx=>?_⟩
    rw [i2,RM,RJ]
    refine ⟨.inl,λh=>h.elim id λh=>?_⟩
    rw [Rp.mp (show x∈[cls u d k] from h)]
    exact (i2 _).mp c
 exact (key u.m (Rj _)).1
theorem o8 (t:Pr u u) (hd:d<=6):iI [.d u.d,.d (.int d)]=.ok (.l .fresh ((cl u d).map tN)):=by
 have u4:=t.v4
 obtain ⟨f,h1,h2⟩:=KG (B:=[]) t (RL _)
 rw [Ed] at h1 h2
 refine cV (jG (c2 rfl rfl (uv t)) (jG (c3 rfl rfl rfl (Ky d 6 hd)) (cH (c3 rfl rfl (cI bQ (by decide)) h1) rfl (cH (r:=.l .fresh ((Ra u.m).map dN)) ?_ rfl (dg (c1 (jD (xs:=Ra u.m) (h:=dN) (λa=>tN (cls u d a)) rfl (by simp;omega) λa ha=>⟨_,n1 (kj (xs:=Ra u.m) (h:=dN) (sim u d a) dN rfl (by simp;omega) λb hb=>⟨K23.mR ((c3 rfl (cI (bf (cI (bf rfl rfl (bf rfl rfl bQ)) t2) rfl bQ) (by show 1<=1000;decide)) rfl (Ht (T4 u u) f [(a,b)] d)).trans ?_),λ_=>⟨_,rfl,rfl⟩⟩) rfl,rfl⟩) (show i7 [.bor ((Ra u.m).map λa=>tN (cls u d a))]=.ok (.l .fresh ((cl u d).map tN)) from ?_)) rfl rfl)))))
 ·exact LL (bW (two rfl rfl (cu _ _))) (by omega)
 ·unfold sim
  by_cases h:[(a,b)]∈T4 u u
  ·rw [decide_eq_true h,h2 d _ h]
  ·rw [decide_eq_false h];rfl
 ·have:=Kz ((Ra u.m).map (cls u d)) (by simp;omega)
  rw [RT,Jw t] at this
  exact this
end
theorem E5 {ps qs:List Nat}(nd:ps.Nodup) (up:qs.Pairwise (· < ·)) (h:∀x,x∈ps↔x∈qs):cg (ps.map dN)=qs.map dN:=by
 have tp:∀d∈ps.map dN,jY .i d:=λd hd=>by obtain ⟨x,_,rfl⟩:=Rg.mp hd;exact ⟨_,rfl⟩
 have inj:∀a b:Nat,dN a=dN b->a=b:=λa b e=>by have:=congrArg MX e;exact this
 refine ur (jx .i) (λx hx=>tp x ((gI _).mem_iff.mp hx)) (qK (jx .i) tp (R3.mpr (nd.imp λh e=>h (inj _ _ e)))) (R3.mpr (up.imp fun {a b} h=>(Cr a b).mpr h)) λy=>?_
 rw [(gI _).mem_iff,Rg,Rg]
 exact ⟨λ⟨q,a,b⟩=>⟨q,(h q).mp a,b⟩,λ⟨q,a,b⟩=>⟨q,(h q).mpr a,b⟩⟩
theorem NJ (k x:Nat):gE (k + 1) [.d (dN x),.d (dN x)]=.ok (.d (.bl true)):=by
 refine cV (iD rfl (fN (tK rfl (dg (r:=.d (.bl true)) ?_ rfl rfl))))
 show cY false (.d (.int (x:Int))) (.d (.int (x:Int)))=_
 rw [K01.eq_int];simp
theorem Kd (k:Nat) (xs:List Nat) (hl:xs.length<=100):gE (k + 2) [.d (tN xs),.d (tN xs)]=.ok (.d (.bl true)):=by
 refine cV (fN (tK rfl (iD (pU (kB (b:=true) rfl) (K23.cL (n1 rfl rfl) (n1 rfl rfl) ?_)) (dg (r:=.d (.bl true)) (n1 (jD (xs:=Ra xs.length) (h:=dN) (λ_=>.bl true) (iz (bW (n1 (x:=.d (tN xs)) (z:=.d (.int (xs.length:Int))) rfl ((bg _).trans ?_))) (by omega)) (by simp;omega) λi hi=>?_) ((allM (λ_=>true) (Ra xs.length)).trans ?_)) rfl rfl))))
 ·rw [K01.eq_int];simp
 ·rw [Rh]
 ·have hi:i < xs.length:=Rk.mp hi
  have e:=jH (xs:=xs.map dN) (k:=i) (x:=dN xs[i]) (by rw [RD,Rl hi];rfl)
  exact ⟨_,c2 (two rfl rfl e) (two rfl rfl e) (NJ k xs[i]),rfl⟩
 ·rw [show ((Ra xs.length).all λ_=>true)=true by simp]
def hm (C:List (List Nat)) (p:Nat):Option Nat:=(Ra C.length).find? λk=>decide (p∈C.getD k [])
theorem KC (C:List (List Nat)) (hl:C.length<=100) (p:Nat):gD [.bor (C.map tN),.d (dN p)]=.ok (.d (dV (hm C p))):=by
 refine cV (lW (ds:=(Ra C.length).map dN) (iz (bW (n1 rfl (by show M.ok (R.d (.int ((C.map tN).length:Int)))=_;rw [Rh]))) (by omega)) ?_)
 have key:∀(js:List Nat) (z:Option S),(∀j∈js,j < C.length)->Wp (e_ (aB 2) (aY (aT (g2 (gg false) (af 1) (g2 bE (af 0) (af 2)))) (aO (af 2)) bF) (js.map dN) [some (.bor (C.map tN)),some (.d (dN p)),z])
   λo=>match js.find? (λk=>decide (p∈C.getD k [])) with
    | some j=>o=.rt (.d (.int j))
    | none=>∃e,o=.nx e:=by
  intro js
  induction js with
  | nil=>exact λz _=>⟨_,rfl,_,rfl⟩
  | cons j js ih=>
   intro z hj
   have hj0:=hj j Rf
   have ht:aT (g2 (gg false) (af 1) (g2 bE (af 0) (af 2))) [some (.bor (C.map tN)),some (.d (dN p)),some (.d (dN j))]=.ok (decide (p∈C.getD j [])):=by
    refine K23.cL rfl (two rfl rfl (xE (m:=.bor) (x:=tN C[j]) (by rw [RD,Rl hj0];rfl))) ((Gb p C[j]).trans ?_)
    rw [K55.inN,RH,Rl hj0]
    rfl
   rw [Rv]
   show Wp (aB 2 (dN j) _ >>= _) _
   rw [show aB 2 (dN j) [some (.bor (C.map tN)),some (.d (dN p)),z]=.ok [some (.bor (C.map tN)),some (.d (dN p)),some (.d (dN j))] from rfl,aL,List.find?_cons]
   cases q:decide (p∈C.getD j []) with
   | true=>
    rw [q] at ht
    rw [nk ht]
    exact ⟨_,rfl,rfl⟩
   | false=>
    rw [q] at ht
    rw [jR ht]
    exact ih _ λi hi=>hj i (Rb _ hi)
 refine (key (Ra C.length) none λj hj=>Rk.mp hj).mono λo h=>?_
 unfold hm
 cases q:(Ra C.length).find? (λk=>decide (p∈C.getD k [])) with
 | some j=>rw [q] at h;rw [h];rfl
 | none=>
  rw [q] at h
  obtain ⟨e,rfl⟩:=h
  exact dg rfl rfl rfl
section
variable {u:Wd}{d:Nat}
theorem kZ (t:Pr u u){c:List Nat}:c∈cl u d↔∃a,a < u.m/\least u d a=true/\c=cls u d a:=by
 unfold cl
 rw [Rg]
 simp only [R1,Rk]
 exact ⟨λ⟨a,h,e⟩=>⟨a,h.1,h.2,e.symm⟩,λ⟨a,h1,h2,e⟩=>⟨a,⟨h1,h2⟩,e.symm⟩⟩
theorem rM (t:Pr u u):∀(n a:Nat),a < n->a < u.m->∃b,b < u.m/\least u d b=true/\sim u d b a=true
 | 0,_,h,_=>absurd h (So _)
 | n + 1,a,hn,ha=>by
  cases q:least u d a with
  | true=>exact ⟨a,ha,q,rY t ha⟩
  | false=>
   obtain ⟨b,hb,h⟩:=Zj.mp q
   have hb:=Rk.mp hb
   have h:sim u d a b=true:=by simpa using h
   obtain ⟨c,h1,h2,h3⟩:=rM t n b (by omega) (by omega)
   exact ⟨c,h1,h2,iX t h3 (iW t h)⟩
theorem uV (t:Pr u u){a:Nat}(ha:a < u.m):∃k,hm (cl u d) a=some k/\∃h:k < (cl u d).length,a∈(cl u d)[k]:=by
 obtain ⟨b,h1,h2,h3⟩:=rM (d:=d) t (a + 1) a (by omega) ha
 have hc:cls u d b∈cl u d:=(kZ t).mpr ⟨b,h1,h2,rfl⟩
 cases q:hm (cl u d) a with
 | none=>
  obtain ⟨i,hi,e⟩:=Tf.mp hc
  have:=WH.mp q i (Rk.mpr hi)
  rw [RH,Rl hi] at this
  exact absurd (decide_eq_true (show a∈(some (cl u d)[i]).getD [] by rw [e];exact (gn t).mpr h3)) this
 | some k=>
  obtain ⟨h4,h5,_⟩:=Xb.mp q
  have hk:=Rk.mp h5
  refine ⟨k,rfl,hk,?_⟩
  have:=of_decide_eq_true h4
  rwa [RH,Rl hk] at this
theorem qy (t:Pr u u){c:List Nat}(hc:c∈cl u d){a b:Nat}(h:a∈c):b∈c↔sim u d a b=true:=by
 obtain ⟨x,_,_,rfl⟩:=(kZ t).mp hc
 have h:=(gn t).mp h
 rw [gn t]
 exact ⟨λk=>iX t (iW t h) k,λk=>iX t h k⟩
theorem HQ (t:Pr u u){a b:Nat}(ha:a < u.m) (hb:b < u.m):hm (cl u d) a=hm (cl u d) b↔sim u d a b=true:=by
 constructor
 ·intro h
  obtain ⟨k,h1,hk,h2⟩:=uV (d:=d) t ha
  obtain ⟨k',h3,hk',h4⟩:=uV (d:=d) t hb
  rw [h1,h3] at h
  cases h
  exact (qy t (SH hk) h2).mp h4
 ·intro h
  unfold hm
  congr 1
  funext k
  rw [RY,decide_eq_true_eq,decide_eq_true_eq,RH]
  by_cases hk:k < (cl u d).length
  ·rw [Rl hk]
   show a∈(cl u d)[k]↔b∈(cl u d)[k]
   exact ⟨λz=>(qy t (SH hk) z).mpr h,λz=>(qy t (SH hk) z).mpr (iW t h)⟩
  ·rw [XX (by omega)]
   simp
theorem rJ (t:Pr u u){a:Nat}(ha:a < u.m) (hl:least u d a=true):∃r,cls u d a=a::r:=by
 obtain ⟨k,hk⟩:∃k,u.m=a + (k + 1):=⟨u.m - a - 1,by omega⟩
 unfold cls
 rw [hk,List.range_add,UO,UM,Rv,VA (by simpa using rY t ha)]
 have:(Ra a).filter (sim u d a)=[]:=List.filter_eq_nil_iff.mpr λb hb=>by
  have:=R0.mp hl b hb
  simpa using this
 rw [this]
 exact ⟨_,rfl⟩
theorem Gm (t:Pr u u){a b:Nat}(ha:least u d a=true) (hb:least u d b=true) (h:sim u d a b=true):a=b:=by
 have no:∀{x y:Nat},least u d y=true->x < y->sim u d y x=true->False:=λhy hlt hs=>by
  have:=R0.mp hy _ (Rk.mpr hlt)
  rw [hs] at this
  cases this
 rcases Uw a b with c | c | c
 ·exact (no hb c (iW t h)).elim
 ·exact c
 ·exact (no ha c h).elim
theorem I0 (t:Pr u u):(cl u d).flatten.Nodup/\∀x,x∈(cl u d).flatten↔x∈Ra u.m:=by
 constructor
 ·show ((((Ra u.m).filter (least u d)).map (cls u d)).flatten).Nodup
  rw [<-List.flatMap_def]
  refine V3.mpr ⟨λa _=>Tj.filter _,((Tj (n:=u.m)).filter _).imp_of_mem fun {a b} ha hb hne x hx y hy e=>?_⟩
  subst e
  exact hne (Gm t (R1.mp ha).2 (R1.mp hb).2 (iX t ((gn t).mp hx) (iW t ((gn t).mp hy))))
 ·intro x
  rw [List.mem_flatten,Rk]
  constructor
  ·rintro ⟨c,hc,hx⟩
   obtain ⟨a,_,_,rfl⟩:=(kZ t).mp hc
   exact (zR t ((gn t).mp hx)).2
  ·intro hx
   obtain ⟨b,h1,h2,h3⟩:=rM (d:=d) t (x + 1) x (by omega) hx
   exact ⟨_,(kZ t).mpr ⟨b,h1,h2,rfl⟩,(gn t).mpr h3⟩
theorem yH (t:Pr u u):(cl u d).length<=4/\∀c∈cl u d,c.length<=4:=by
 have u4:=t.v4
 constructor
 ·unfold cl
  rw [Rh]
  exact RS (Sa _ _) (by simpa using u4)
 ·intro c hc
  obtain ⟨a,_,_,rfl⟩:=(kZ t).mp hc
  exact RS (Sa _ _) (by simpa using u4)
theorem pL:∀(L:List (List Nat)),(∀c∈L,c.length<=4)->L.flatten.length<=4 * L.length
 | [],_=>RL _
 | c::L,h=>by
  have:=pL L λx hx=>h x (Rb _ hx)
  have:=h c Rf
  rw [List.flatten_cons,RI,SG]
  omega
theorem Fl (t:Pr u u):i6 [.bor ((cl u d).map tN),.d (.int u.m)]=.ok (.d (.bl true)):=by
 have u4:=t.v4
 obtain ⟨cl4,c4⟩:=yH (d:=d) t
 obtain ⟨fn,fm⟩:=I0 (d:=d) t
 have ne:∀c∈cl u d,∃a,a < u.m/\least u d a=true/\c=cls u d a:=λc hc=>(kZ t).mp hc
 refine cV (iD (pU (kB (b:=true) rfl) (kB (b:=true) (K23.zZ ((n1 (jD (xs:=cl u d) (h:=tN) (λ_=>.bl true) rfl (by omega) λc hc=>⟨.d (.bl true),?_,rfl⟩) (allM (λ_=>true) (cl u d))).trans (by simp))))) (cH (nu bQ (by decide)) rfl (lW (ds:=(cl u d).map tN) rfl (qp (λk env=>∃z,env=[some (.bor ((cl u d).map tN)),some (.d (.int u.m)),some (.own (((cl u d).take k).flatten.map dN)),z,none]) ((cl u d).map tN) ⟨none,rfl⟩ ?_ ?_))))
 ·show cY true (.d (tN c)) (.d (.tup []))=_
  rw [qC true (.d (tN c)) (.d (.tup [])) (uo c) (by decide)]
  obtain ⟨a,h1,h2,rfl⟩:=ne c hc
  obtain ⟨r,e⟩:=rJ t h1 h2
  rw [e]
  rfl
 ·rintro k hk _ ⟨z,rfl⟩
  have hk':k < (cl u d).length:=by simpa using hk
  have e:((cl u d).map tN)[k]=tN (cl u d)[k]:=V8 ..
  rw [e]
  have hc:(cl u d)[k]∈cl u d:=SH hk'
  have l1:=pL ((cl u d).take k) λc hc=>c4 c (List.mem_of_mem_take hc)
  have l2:=c4 _ hc
  rw [Th] at l1
  have hs:(Ra u.m).filter (λp=>decide (p∈(cl u d)[k]))=(cl u d)[k]:=by
   obtain ⟨a,_,_,e⟩:=ne _ hc
   rw [e]
   refine VQ λx hx=>?_
   rw [RY,decide_eq_true_eq,gn t]
  have hx:=kj (env:=[some (.bor ((cl u d).map tN)),some (.d (.int u.m)),some (.own ((((cl u d).take k).flatten++(cl u d)[k]).map dN)),some (.d (tN (cl u d)[k])),none]) (cap:=[3]) (ge:=af 0) (gts:=aT (g2 (gg false) (af 0) (af 1))) (gi:=bS (ao (af 1) av)) (xs:=Ra u.m) (h:=dN) (λp=>decide (p∈(cl u d)[k])) dN (iz (bW rfl) (by omega)) (by simp;omega) λp _=>⟨K23.cL rfl rfl ((Gb p (cl u d)[k]).trans (by rw [K55.inN])),λ_=>⟨_,rfl,rfl⟩⟩
  rw [hs] at hx
  refine ⟨_,rfl,cH (r:=.l .fresh ((((cl u d).take k).flatten++(cl u d)[k]).map dN)) (two rfl (n1 rfl rfl) ?_) rfl (oh (kB (b:=true) (K23.mR (c2 rfl (n1 hx rfl) (Kd 8 _ (by omega))))) (jl ⟨_,rfl,some (.d (tN (cl u d)[k])),?_⟩))⟩
  ·show (if _<=sizeLine then _ else M.bad)=_
   rw [if_pos (by rw [Sh,Rh,Rh];omega),RM]
  ·rw [VS,Rl hk',List.flatten_append]
   simp
 ·rintro _ ⟨z,rfl⟩
  rw [Rh,Vf]
  have l3:=pL (cl u d) c4
  have srt1:cg ((cl u d).flatten.map dN)=(Ra u.m).map dN:=E5 fn Sz fm
  have fu:((Ra u.m).filter (least u d)).Pairwise (· < ·):=Sz.filter _
  have srt2:=E5 (Tj.filter (least u d)) fu λ_=>Yx
  have fl4:((Ra u.m).filter (least u d)).length<=4:=RS (Sa _ _) (by simpa using u4)
  have dps:∀xs:List Nat,dep (.lst (xs.map dN))<=60:=λxs=>uo xs
  have eqx:∀(neg:Bool) (m m':Md) (xs:List Nat),cY neg (.l m (xs.map dN)) (.l m' (xs.map dN))=.ok (.d (.bl (!neg))):=λneg m m' xs=>by
   rw [qC neg (.l m (xs.map dN)) (.l m' (xs.map dN)) (dps xs) (dps xs),show bz (R.dat (.l m (xs.map dN))) (R.dat (.l m' (xs.map dN)))=true from fF _]
   cases neg <;> rfl
  have sA:∀(m:Md) (xs:List Nat),xs.length < 64->ni [.l m (xs.map dN)]=.ok (.l .fresh (cg (xs.map dN))):=λm xs h=>OB xs h
  refine iD (K23.cL (n1 rfl (sA .own _ (by omega))) (LL (bW rfl) (by omega)) (by rw [srt1];exact eqx true .fresh .fresh _)) (cH (r:=.l .fresh (((Ra u.m).filter (least u d)).map dN)) ?_ rfl (dg (r:=.d (.bl true)) (two rfl (n1 rfl (sA .own _ (by omega))) (by rw [srt2];exact eqx false .own .fresh _)) rfl rfl))
  refine (jD (xs:=(Ra u.m).filter (least u d)) (h:=λa=>tN (cls u d a)) dN (show M.ok ((((Ra u.m).filter (least u d)).map (cls u d)).map tN)=_ by rw [RT];rfl) (by omega) λa ha=>⟨_,two rfl rfl (z:=.d (dN a)) ?_,rfl⟩)
  obtain ⟨h1,h2⟩:=R1.mp ha
  obtain ⟨r,e⟩:=rJ t (Rk.mp h1) h2
  rw [e]
  exact cu _ _
end
theorem L5 {env:Ev}{a b:G Bool}{x:Bool}(h:a env=.ok x) (h2:∃y,b env=.ok y):∃y,bU a b env=.ok y:=by
 obtain ⟨y,h2⟩:=h2
 cases x with
 | true=>exact ⟨true,by unfold bU;rw [h];rfl⟩
 | false=>exact ⟨y,pU h h2⟩
theorem IF {env:Ev}{a b:G Bool}{x:Bool}(h:a env=.ok x) (h2:∃y,b env=.ok y):∃y,bK a b env=.ok y:=by
 obtain ⟨y,h2⟩:=h2
 cases x with
 | true=>exact ⟨y,qx h h2⟩
 | false=>exact ⟨false,sG h⟩
theorem Lm (i:Int) (xs:List Nat) (m:Md):∃b,gg false (.d (.int i)) (.l m (xs.map dN))=.ok (.d (.bl b)):=by
 refine ⟨inD (.int i) (xs.map dN),?_⟩
 unfold gg
 rw [show jg (.l m (xs.map dN))=.ok (xs.map dN) from rfl,aL,if_pos ⟨DS xs,RL _⟩]
 rfl
theorem KA (n:Int) (m:Nat) (h1:1<=m) (hm:m<=8):∃ps:List (Nat×Nat),iZ [.d (.int n),.d (.int m)]=.ok (.d (.tup (ps.map dP)))/\ps.length<=64:=by
 have key:Wp (iZ [.d (.int n),.d (.int m)]) λr=>∃ps:List (Nat×Nat),r=.d (.tup (ps.map dP))/\ps.length<=64:=by
  refine Dd (cH (kj (xs:=Ra m) (h:=dN) (λk:Nat=>WL (n / 2 ^ ((k:Int)).toNat) 1 == 1) dN (iz (bW rfl) (by omega)) (by simp;omega) λk _=>⟨K23.cL (two (two rfl rfl (nV (decide_eq_true (by omega)))) rfl rfl) rfl ((K01.eq_int ..).trans rfl),λ_=>⟨_,rfl,rfl⟩⟩) rfl ?_)
  generalize (Ra m).filter (λk:Nat=>WL (n / 2 ^ ((k:Int)).toNat) 1 == 1)=st
  refine cH (two (two rfl rfl (fL _ 16 (by decide) (by decide))) rfl (cX _ 2 (by decide))) rfl (cH (nu bQ (by decide)) rfl ?_)
  refine lW (vg (n:=m) (bW rfl) (by omega)) (xS (λk env=>∃(ps:List (Nat×Nat)) (a b c:Option S),env=[some (.d (.int n)),some (.d (.int m)),some (.own (st.map dN)),some (.d (.int (n / 16 % 2))),some (.own (ps.map dP)),a,b,c]/\ps.length<=8 * k) ⟨[],none,none,none,rfl,RL _⟩ ?_ ?_)
  ·rintro k hk _ ⟨ps,a,b,c,rfl,hl⟩
   refine ⟨_,rfl,qE (vg (n:=m) (bW rfl) (by omega)) (xS (λj env=>∃(ps:List (Nat×Nat)) (b c:Option S),env=[some (.d (.int n)),some (.d (.int m)),some (.own (st.map dN)),some (.d (.int (n / 16 % 2))),some (.own (ps.map dP)),some (.d (.int k)),b,c]/\ps.length<=8 * k + j) ⟨ps,b,c,rfl,by omega⟩ ?_ ?_)⟩
   ·rintro j hj _ ⟨ps,b,c,rfl,hl⟩
    refine ⟨_,rfl,cH (two (two rfl rfl rfl) rfl (cX _ _ (by omega))) rfl ?_⟩
    obtain ⟨y,hy⟩:=Lm (((j:Int) - k) % m) st .own
    obtain ⟨y',hy'⟩:=Lm (((k:Int) - j) % m) st .own
    obtain ⟨bb,hb⟩:=L5 (env:=[some (.d (.int n)),some (.d (.int m)),some (.own (st.map dN)),some (.d (.int (n / 16 % 2))),some (.own (ps.map dP)),some (.d (.int k)),some (.d (.int j)),some (.d (.int (((j:Int) - k) % m)))]) (a:=aT (g2 (gg false) (af 7) (af 2))) (b:=bK (aT (g2 (cY false) (af 3) (gC (.int 1)))) (aT (g2 (gg false) (g2 cQ (g2 mD (af 5) (af 6)) (af 1)) (af 2)))) (K23.cL rfl rfl hy) (IF (K23.cL rfl rfl (K01.eq_int ..)) ⟨_,K23.cL (two (two rfl rfl rfl) rfl (cX _ _ (by omega))) rfl hy'⟩)
    refine zc hb (λ_=>xK rfl (cI (bf rfl rfl (bf rfl rfl bQ)) t2) rfl (by rw [Rh];omega) ⟨_,rfl,ps++[(k,j)],_,_,by rw [RM];rfl,by simp;omega⟩) λ_=>jl ⟨_,rfl,ps,_,_,rfl,by omega⟩
   ·rintro _ ⟨ps,b,c,rfl,hl⟩
    exact ⟨_,rfl,ps,_,_,_,rfl,by omega⟩
  ·rintro _ ⟨ps,a,b,c,rfl,hl⟩
   exact dg (n1 rfl rfl) rfl ⟨_,rfl,ps,rfl,by omega⟩
 obtain ⟨_,h,ps,rfl,hl⟩:=key
 exact ⟨ps,h,hl⟩
abbrev eS (ns:List Int) (m:Nat) (A B:List Str) (ms:List (Str×List Nat)) (rs:List (Str×List (Nat×Nat))) (q:Int) (as:List (Str×List (Nat×Nat))) (a b:Option S):Ev:=[some (.bor (ns.map D.int)),some (.d (.int 2)),some (.d (.int m)),some (.d (.tup [.tup (A.map .str),.tup (B.map .str)])),some (.d (Wd.d ⟨m,ms,rs⟩)),some (.d (.int q)),some (.own (as.map p6)),a,b,none]
theorem NL {env:Ev}{g h:G R}{xs ys:List D}{j:Int}(hg:g env=.ok (.d (.tup xs))) (hh:h env=.ok (.d (.int j))) (e:cutD xs none (some j)=ys):vL rN g D0 (vK h) env=.ok (.d (.tup ys)):=by
 unfold vL vK
 rw [hg,aL,hh]
 show M.ok (R.d (.tup (cutD xs none (some j))))=_
 rw [e]
theorem or_val {env:Ev}{a b:G Bool}{x y:Bool}(h:a env=.ok x) (h2:b env=.ok y):bU a b env=.ok (x || y):=by
 cases x with
 | true=>unfold bU;rw [h];rfl
 | false=>exact pU h h2
theorem Fp (ns:List Int) (m:Nat) (h1:1<=m) (hm:m<=4) (A B:List Str) (hA:A.length<=3) (hB:B.length<=3):∃u:Wd,fD [.bor (ns.map D.int),.d (.int 2),.d (.int m),.d (.tup [.tup (A.map .str),.tup (B.map .str)])]=.ok (.d u.d)/\u.m=m/\u.ms.length<=3/\u.ar.length<=3:=by
 obtain ⟨ms,rs,hw,e1,e2,p1,p2⟩:=Iz ns 2 m (by omega) A B hA hB
 have lm:ms.length<=3:=by rw [<-e1] at hA;simpa using hA
 have lr:rs.length<=3:=by rw [<-e2] at hB;simpa using hB
 have c8:=K01.FH ns 8
 have c8':=K01.IS ns 8
 have key:Wp (fD [.bor (ns.map D.int),.d (.int 2),.d (.int m),.d (.tup [.tup (A.map .str),.tup (B.map .str)])]) λr=>∃u:Wd,r=.d u.d/\u.m=m/\u.ms.length<=3/\u.ar.length<=3:=by
  refine Dd (cH (c4 rfl rfl rfl rfl hw) rfl (cH (two (two (c2 rfl rfl (K01.o7 ns 8)) rfl (nI _ 1283 (by decide) (by decide))) rfl (cX _ 100003 (by decide))) rfl (cH (nu bQ (by decide)) rfl ?_)))
  generalize K01.fz ns 8 * 1283 % 100003=q
  refine lW (vg (n:=rs.length) (bW (n1 (two rfl rfl (dc _ _ _ _)) ((bg _).trans (by rw [Rh])))) (by omega)) (xS (λk env=>∃(as:List (Str×List (Nat×Nat))) (a b:Option S),env=eS ns m A B ms rs q as a b/\as.length=k) ⟨[],none,none,rfl,rfl⟩ ?_ ?_)
  ·rintro k hk _ ⟨as,a,b,rfl,hl⟩
   have ixr:bE (.d (.tup (rs.map p6))) (.d (.int k))=.ok (.d (p6 rs[k])):=jH (by rw [RD,Rl hk];rfl)
   refine ⟨_,rfl,cH (two (two (two rfl rfl (dc _ _ _ _)) rfl ixr) rfl (cW _ _ _)) rfl ?_⟩
   have app:∀ps:List (Nat×Nat),Wp (eE 6 (bP (ay (g2 bE (g2 bE (g2 bE (af 4) (gC (.int 2))) (af 7)) (gC (.int 0))) (ay (af 8) aK))) (eS ns m A B ms rs q as (some (.d (.int k))) (some (.d (.tup (ps.map dP))))))
     λo=>∃e,o=.nx e/\∃(as:List (Str×List (Nat×Nat))) (a b:Option S),e=eS ns m A B ms rs q as a b/\as.length=k + 1:=λps=>
    xK rfl (cI (bf (two (two (two rfl rfl (dc _ _ _ _)) rfl ixr) rfl (cu _ _)) rfl (bf rfl rfl bQ)) t2) rfl (by rw [Rh];omega) ⟨_,rfl,as++[(rs[k].1,ps)],some (.d (.int k)),some (.d (.tup (ps.map dP))),by unfold eS;rw [RM];rfl,by rw [RI,hl];rfl⟩
   have ev:=KA (q / 3 + 5 * k) m h1 (by omega)
   obtain ⟨pe,QN,lpe⟩:=ev
   refine fN (Wp.mono (P:=λo=>∃ps:List (Nat×Nat),ps.length<=64/\o=.nx (eS ns m A B ms rs q as (some (.d (.int k))) (some (.d (.tup (ps.map dP)))))) ?_ ?_)
   ·refine zc (K23.cL (two rfl rfl (cX _ 3 (by decide))) rfl (K01.eq_int ..)) (λ_=>qF (c2 (two (two rfl rfl (fL _ 3 (by decide) (by decide))) (two rfl rfl (zX _ _ (by decide) (by decide))) (jv _ _)) rfl QN) rfl ⟨pe,lpe,rfl⟩) λ_=>jl ⟨rs[k].2,(p2 _ (SH hk)).1,rfl⟩
   rintro _ ⟨ps,lps,rfl⟩
   refine fN (Wp.mono (P:=λo=>∃ps:List (Nat×Nat),ps.length<=64/\o=.nx (eS ns m A B ms rs q as (some (.d (.int k))) (some (.d (.tup (ps.map dP)))))) ?_ ?_)
   ·refine zc (K23.cL (two rfl rfl (cX _ 3 (by decide))) rfl (K01.eq_int ..)) (λ_=>qF (n1 (kj (xs:=ps) (h:=dP) (λp=>decide ((p.1:Int) < 2) || decide ((1:Int) < p.2)) dP rfl (by omega) λp _=>⟨or_val (K23.cL (two rfl rfl (cu _ _)) rfl rfl) (K23.cL (two rfl rfl (cW _ _ _)) rfl rfl),λ_=>⟨_,rfl,rfl⟩⟩) rfl) rfl ⟨_,RS (Sa _ _) lps,rfl⟩) λ_=>jl ⟨ps,lps,rfl⟩
   ·rintro _ ⟨ps,_,rfl⟩
    exact app ps
  ·rintro _ ⟨as,a,b,rfl,hl⟩
   have hq:=cX (q / 81) 5 (by decide)
   let cn:List Nat->List Nat:=λxs=>(qB dN xs none (some (q / 81 % 5))).choose
   have hcn:∀xs,cutD (xs.map dN) none (some (q / 81 % 5))=(cn xs).map dN:=λxs=>(qB dN xs none (some (q / 81 % 5))).choose_spec.1
   refine cH (qz (xs:=ms) (λr=>.str r.1) (λr=>.tup (r.2.map dN)) (λr=>oG (r.1,cn r.2)) ?_ (by omega) λr _=>⟨_,cI (bf rfl rfl (bf (r:=.d (.tup ((cn r.2).map dN))) ?_ rfl bQ)) t2,rfl⟩) rfl (dg (cI (bf rfl rfl (bf (n1 rfl rfl) rfl (bf (n1 rfl rfl) rfl bQ))) (by show 3<=1000;decide)) rfl ⟨_,rfl,⟨m,ms.map λr=>(r.1,cn r.2),as⟩,?_,rfl,by simpa using lm,by show as.length<=3;omega⟩)
   ·show (g2 _ _ _ _ >>= _)=_
    rw [two rfl rfl (cW _ _ _)]
    rfl
   ·exact NL rfl (two (two rfl rfl (fL _ 81 (by decide) (by decide))) rfl hq) (hcn r.2)
   ·unfold Wd.d
    rw [RT]
    rfl
 obtain ⟨_,h,u,rfl,hk⟩:=key
 exact ⟨u,h,hk⟩
abbrev eM (ns:List Int) (tg:D) (u:Wd) (d:Nat) (a5 a7 a8 a9 a10 a11:Option S):Ev:=[some (.bor (ns.map D.int)),some (.d (.int u.m)),some (.d tg),some (.d u.d),some (.d (.int d)),a5,some (.d (zd u u d)),a7,a8,a9,a10,a11]
theorem Ff (u:Wd):dep u.d<=60:=by
 have h1:deps (u.ms.map oG)<=2:=dQ λx hx=>by
  obtain ⟨r,_,rfl⟩:=Rg.mp hx
  have:deps (r.2.map dN)<=0:=dQ λx hx=>by obtain ⟨q,_,rfl⟩:=Rg.mp hx;exact Rj _
  simp only [dep,deps]
  omega
 have h2:deps (u.ar.map p6)<=3:=dQ λx hx=>by
  obtain ⟨r,_,rfl⟩:=Rg.mp hx
  have:deps (r.2.map dP)<=1:=dQ λx hx=>by obtain ⟨q,_,rfl⟩:=Rg.mp hx;exact Rj _
  simp only [dep,deps]
  omega
 unfold Wd.d
 simp only [dep,deps]
 omega
theorem Nf (a b:Option Nat):cY false (.d (dV a)) (.d (dV b))=.ok (.d (.bl (decide (a=b)))):=by
 cases a <;> cases b
 ·rfl
 ·rfl
 ·rfl
 ·show cY false (.d (.int _)) (.d (.int _))=_
  rw [K01.eq_int]
  congr 3
  rw [RY]
  simp
  omega
theorem Jt (ns:List Int) (h:ns.length<=63):uw [.bor (ns.map .int)]=.ok (.d (.bl true)):=by
 obtain ⟨m0,hm0,m4⟩:=Bf (K01.fz ns 0) 4 (by decide)
 obtain ⟨A,B,hT,tA,tB⟩:=nM (K01.fz ns 1)
 obtain ⟨u,hu,um,lm,lr⟩:=Fp ns (1 + m0) (by omega) (by omega) A B tA.1 tB.1
 have t:Pr u u:=⟨⟨by omega,by omega,lm,lr⟩,⟨by omega,by omega,lm,lr⟩,by omega,by omega,rfl,rfl⟩
 obtain ⟨d,hd,d7⟩:=Bf (K01.fz ns 9) 7 (by decide)
 rw [<-um] at hu
 obtain ⟨cl4,_⟩:=yH (d:=d) t
 refine cV (cH (r:=.d (.int (u.m:Int))) ((two rfl (two (c2 rfl rfl (K01.o7 ns 0)) rfl (cX _ 4 (by decide))) (jv _ _)).trans ?_) rfl (cH (c1 (c2 rfl rfl (K01.o7 ns 1)) hT) rfl (cH (c4 rfl rfl rfl rfl hu) rfl (cH (r:=.d (.int (d:Int))) ((two (c2 rfl rfl (K01.o7 ns 9)) rfl (cX _ 7 (by decide))).trans (by rw [<-hd];rfl)) rfl (cH (c2 rfl rfl (o8 t (by omega))) rfl (iD (kB (b:=true) (K23.mR (c2 rfl rfl (Fl (d:=d) t)))) (cH (r:=.d (zd u u d)) (two (c3 rfl rfl rfl (Fi t d (by omega))) rfl (xE (m:=.fresh) (by rw [RD,Vi (by omega)];rfl))) rfl ?_)))))))
 ·rw [um]
  show M.ok (R.d (.int (1 + K01.fz ns 0 % 4)))=_
  rw [show K01.fz ns 0 % 4=(m0:Int) from hm0]
  rfl
 have home:∀(d:Nat) (m:Md) (p:Nat),(cl u d).length<=4->gD [bR (.l m ((cl u d).map tN)),.d (dN p)]=.ok (.d (dV (hm (cl u d) p))):=λd m p h=>KC (cl u d) (by omega) p
 refine lW (iz (bW rfl) (by omega)) (Ac (h:=dN) (λenv=>∃a b,env=eM ns (.tup [.tup (A.map .str),.tup (B.map .str)]) u d (some (.own ((cl u d).map tN))) a b none none none) (Ra u.m) ⟨none,none,rfl⟩ ?_ ?_)
 ·rintro a ha _ ⟨_,b0,rfl⟩
  have ha:=Rk.mp ha
  refine ⟨_,rfl,qE (iz (bW rfl) (by omega)) (Ac (h:=dN) (λenv=>∃b,env=eM ns (.tup [.tup (A.map .str),.tup (B.map .str)]) u d (some (.own ((cl u d).map tN))) (some (.d (dN a))) b none none none) (Ra u.m) ⟨b0,rfl⟩ ?_ λ_ ⟨b,e⟩=>⟨_,rfl,_,b,e⟩)⟩
  rintro b hb _ ⟨_,rfl⟩
  have hb:=Rk.mp hb
  refine ⟨_,rfl,oh ?_ (jl ⟨_,rfl,_,rfl⟩)⟩
  have hin:=Lo (m:=.own) [(a,b)] ((T4 u u).filter (La u u d)) (.d (zd u u d)) rfl
  have e:decide ([(a,b)]∈(T4 u u).filter (La u u d))=sim u d a b:=by
   unfold sim
   rw [RY,decide_eq_true_eq,R1,Ri,decide_eq_true_eq]
  rw [e] at hin
  have e2:decide (hm (cl u d) a=hm (cl u d) b)=sim u d a b:=by rw [RY,decide_eq_true_eq,HQ t ha hb]
  refine K23.cL (two (c2 rfl rfl (home d .own a cl4)) (c2 rfl rfl (home d .own b cl4)) ((Nf _ _).trans (by rw [e2]))) (two (cI (bf (cI (bf rfl rfl (bf rfl rfl bQ)) t2) rfl bQ) (by show 1<=1000;decide)) rfl hin) ?_
  rw [K22.Nd]
  simp
 ·rintro _ ⟨a0,b0,rfl⟩
  have dpc:∀L:List (List Nat),dep (.lst (L.map tN))<=60:=λL=>by
   have:deps (L.map tN)<=1:=dQ λx hx=>by
    obtain ⟨q,_,rfl⟩:=Rg.mp hx
    have:deps (q.map dN)<=0:=dQ λx hx=>by obtain ⟨q,_,rfl⟩:=Rg.mp hx;exact Rj _
    show deps (q.map dN) + 1<=1
    omega
   show deps (L.map tN) + 1<=60
   omega
  refine cH (n1 (z:=.l .fresh ((cl u d).map tN)) rfl rfl) rfl (NI rfl (cI bQ (by decide)) rfl (by rw [Rh];omega) (iD ?_ ?_))
  ·have h2:aT (g2 (cY true) (gN (aE 2 K81.iI) (ao (af 3) (ao (af 4) av))) (af 9)) (eM ns (.tup [.tup (A.map .str),.tup (B.map .str)]) u d (some (.own ((cl u d).map tN++[.tup []]))) a0 b0 (some (.own ((cl u d).map tN))) none none)=.ok false:=by
    refine K23.cL (c2 rfl rfl (o8 t (by omega))) rfl ?_
    show cY true (.l .fresh ((cl u d).map tN)) (.l .own ((cl u d).map tN))=_
    rw [qC true (.l .fresh ((cl u d).map tN)) (.l .own ((cl u d).map tN)) (dpc _) (dpc _),show bz (R.dat (.l .fresh ((cl u d).map tN))) (R.dat (.l .own ((cl u d).map tN)))=true from fF _]
    rfl
   have h3:aT (g2 (cY true) (af 3) (gN (aE 4 K81.fD) (ao (af 0) (ao (gC (.int 2)) (ao (af 1) (ao (af 2) av)))))) (eM ns (.tup [.tup (A.map .str),.tup (B.map .str)]) u d (some (.own ((cl u d).map tN++[.tup []]))) a0 b0 (some (.own ((cl u d).map tN))) none none)=.ok false:=by
    refine K23.cL rfl (c4 rfl rfl rfl rfl hu) ?_
    show cY true (.d u.d) (.d u.d)=_
    rw [qC true (.d u.d) (.d u.d) (Ff u) (Ff u),show bz (R.dat (.d u.d)) (R.dat (.d u.d))=true from fF _]
    rfl
   refine pU ?_ h3
   cases q:decide ((u.m:Int) < 4) with
   | true=>exact qx (K23.cL rfl rfl (by rw [<-q];rfl)) h2
   | false=>exact sG (K23.cL rfl rfl (by rw [<-q];rfl))
  ·refine fN (Wp.mono (P:=λo=>∃e,o=.nx e) ?_ λo ⟨e,he⟩=>by subst he;exact dg rfl rfl rfl)
   refine zc (c:=decide ((0:Int) < d)) (K23.cL rfl rfl rfl) (λhd0=>?_) λ_=>jl ⟨_,rfl⟩
   obtain ⟨e,rfl⟩:∃e,d=e + 1:=⟨d - 1,by have:=of_decide_eq_true hd0;omega⟩
   obtain ⟨ce4,_⟩:=yH (d:=e) t
   refine cH (c2 rfl (y:=.d (.int (e:Int))) ?_ (o8 (d:=e) t (by omega))) rfl (De rfl (qE (ds:=(cl u (e + 1)).map tN) rfl (Ac (h:=tN) (λenv=>∃z,env=eM ns (.tup [.tup (A.map .str),.tup (B.map .str)]) u (e + 1) (some (.own ((cl u (e + 1)).map tN++[.tup []]))) a0 b0 (some (.d (.lst ((cl u (e + 1)).map tN)))) (some (.own ((cl u e).map tN))) z) (cl u (e + 1)) ⟨none,rfl⟩ ?_ λe _=>⟨e,rfl⟩)))
   ·refine two rfl rfl ?_
    show M.ok (R.d (.int (((e + 1:Nat):Int) - 1)))=_
    rw [show (((e + 1:Nat):Int) - 1)=e by omega]
   rintro c hc _ ⟨z,rfl⟩
   obtain ⟨a,h1,h2,rfl⟩:=(kZ t).mp hc
   obtain ⟨r,er⟩:=rJ t h1 h2
   refine ⟨_,rfl,oh ?_ (jl ⟨_,rfl,_,rfl⟩)⟩
   obtain ⟨k,hk,_⟩:=uV (d:=e) t h1
   have hall:∀p∈cls u (e + 1) a,hm (cl u e) p=some k:=λp hp=>by
    have hs:=G_ ((gn t).mp hp)
    rw [<-hk]
    exact ((HQ t h1 (zR t hs).2).mpr hs).symm
   have l4:(cls u (e + 1) a).length<=4:=RS (Sa _ _) (by simp;omega)
   refine K23.cL (n1 (x:=.l .fresh ((cls u (e + 1) a).map λ_=>dN k)) (jD (xs:=cls u (e + 1) a) (h:=dN) (λ_=>dN k) rfl (by omega) λp hp=>⟨_,c2 rfl rfl (home e .own p ce4),by rw [hall p hp];rfl⟩) (z:=.d (.int 1)) ?_) rfl rfl
   have e2:((cls u (e + 1) a).map λ_=>dN k)=((cls u (e + 1) a).map λ_=>k).map dN:=by rw [RT];rfl
   show (if pT _=true then M.ok (R.d (.int ((m_ _).length:Int))) else .bad)=_
   rw [e2,if_pos (HZ _ (by simp;omega))]
   have:∀xs:List Nat,xs≠[]->(m_ (((xs.map λ_=>k).map dN).map l_)).length=1:=by
    intro xs
    induction xs with
    | nil=>exact λh=>absurd rfl h
    | cons x xs ih=>
     intro _
     by_cases hx:xs=[]
     ·subst hx;rfl
     ·have i:=ih hx
      have hm1:(k:Int)∈m_ (((xs.map λ_=>k).map dN).map l_):=by
       rw [(yK _).2]
       cases xs with
       | nil=>exact absurd rfl hx
       | cons y ys=>exact Rf
      show (if (k:Int)∈m_ (((xs.map λ_=>k).map dN).map l_) then m_ (((xs.map λ_=>k).map dN).map l_) else _).length=1
      rw [if_pos hm1]
      exact i
   rw [this _ (by rw [er];exact List.cons_ne_nil _ _)]
   rfl
end K81
namespace K81
open PySem PySem.Spec PyProof.Rows L2 DL DX
theorem all_mk {l:XS}{w:RZ}{K:Q7}{h:SM}{mg:Str->Option Q8}{fa:Rq}(X:K.In h) (G:h.Ns RP mg) (QH:mg "law"=some (.ref fa))
  {f36:Rq}{o36 n36:Option Rq}{s36:Array (Option Q8)}{u36 v36 d36 p36 q36 r36:Q8}
  {t1:Tok}
  {t2:Tok}
  (e0:FA K "is_whole" qb)
  (e1:FA K "tongue_of" oV)
  (e2:FA K "need_tongue" lH)
  (e3:FA K "need_few_points" iO)
  (e4:FA K "need_small" mP)
  (e5:FA K "need_count" mO)
  (e6:FA K "rising" vn)
  (e7:FA K "view" CU)
  (e8:FA K "views" zV)
  (e9:FA K "agree" zH)
  (e10:FA K "goes_behind" lF)
  (e11:FA K "pairings" qi)
  (e12:FA K "added" zG)
  (e13:FA K "pairs_with" mQ)
  (e14:FA K "picks_of" ql)
  (e15:FA K "outcomes" qf)
  (e16:FA K "answered_still" jt)
  (e17:FA K "peeled" vm)
  (e18:FA K "pairings_with" jL)
  (e19:FA K "parting_depths" ju)
  (e20:FA K "in_layer" qa)
  (e21:FA K "layers_of" oS)
  (e22:FA K "layers" vj)
  (e23:FA K "each_once" oO)
  (e24:FA K "classes" rV)
  (e25:FA K "_law_cell" oH)
  (e26:FA K "_law_names" mJ)
  (e27:FA K "_law_some" oN)
  (e28:FA K "_law_pairs" mK)
  (e29:FA K "_law_tongue" lE)
  (e30:FA K "_law_world" mL)
  (e31:FA K "_law_even" oJ)
  (e32:FA K "_law_shaped" lD)
  (e33:FA K "_law_same" oM)
  (e34:FA K "_law_home" oK)
  (e35:FA K "_law_parted" lC)
  (a36:R_ K RP "law"=some (some (.ref f36)))
  (l36:K.lookup f36=some ⟨u36,o36,.func (Rw "law" "law" (a_ oR) (aW oR) (az oR) .none v36 d36 p36 n36 q36 r36),s36⟩)
  (c36:VR K q36 "law"=true)
  (k36:UK K (.ref f36)=true)
  (z0:R_ K RP "all"=some none)
  (z1:R_ K RP "any"=some none)
  (z2:R_ K RP "bool"=some none)
  (z3:R_ K RP "int"=some none)
  (z4:R_ K RP "isinstance"=some none)
  (z5:R_ K RP "len"=some none)
  (z6:R_ K RP "list"=some none)
  (z7:R_ K RP "range"=some none)
  (z8:R_ K RP "set"=some none)
  (z9:R_ K RP "sorted"=some none)
  (z10:R_ K RP "str"=some none)
  (z11:R_ K RP "tuple"=some none)
  (gMOST_DEPTH:R_ K RP "MOST_DEPTH"=some (some (.int 6 t1)))
  (gMOST_SMALL:R_ K RP "MOST_SMALL"=some (some (.int 4 t2))):
  ∃fd:RO,(∀(s:Q_) (v:Q8),ZJ s fd ⟨[v],[]⟩ [("_law_script",v)])/\∀base:SM,K.In base->base.Ns RP mg->jB l.prog w K mg base oW 12 fa fd ["_law_script"] (qh K 1 K81.uw):=by
 have e:=QH.symm.trans (RB X G a36)
 cases e
 obtain ⟨f0,d0,a0,F0⟩:=e0
 obtain ⟨f1,d1,a1,F1⟩:=e1
 obtain ⟨f2,d2,a2,F2⟩:=e2
 obtain ⟨f3,d3,a3,F3⟩:=e3
 obtain ⟨f4,d4,a4,F4⟩:=e4
 obtain ⟨f5,d5,a5,F5⟩:=e5
 obtain ⟨f6,d6,a6,F6⟩:=e6
 obtain ⟨f7,d7,a7,F7⟩:=e7
 obtain ⟨f8,d8,a8,F8⟩:=e8
 obtain ⟨f9,d9,a9,F9⟩:=e9
 obtain ⟨f10,d10,a10,F10⟩:=e10
 obtain ⟨f11,d11,a11,F11⟩:=e11
 obtain ⟨f12,d12,a12,F12⟩:=e12
 obtain ⟨f13,d13,a13,F13⟩:=e13
 obtain ⟨f14,d14,a14,F14⟩:=e14
 obtain ⟨f15,d15,a15,F15⟩:=e15
 obtain ⟨f16,d16,a16,F16⟩:=e16
 obtain ⟨f17,d17,a17,F17⟩:=e17
 obtain ⟨f18,d18,a18,F18⟩:=e18
 obtain ⟨f19,d19,a19,F19⟩:=e19
 obtain ⟨f20,d20,a20,F20⟩:=e20
 obtain ⟨f21,d21,a21,F21⟩:=e21
 obtain ⟨f22,d22,a22,F22⟩:=e22
 obtain ⟨f23,d23,a23,F23⟩:=e23
 obtain ⟨f24,d24,a24,F24⟩:=e24
 obtain ⟨f25,d25,a25,F25⟩:=e25
 obtain ⟨f26,d26,a26,F26⟩:=e26
 obtain ⟨f27,d27,a27,F27⟩:=e27
 obtain ⟨f28,d28,a28,F28⟩:=e28
 obtain ⟨f29,d29,a29,F29⟩:=e29
 obtain ⟨f30,d30,a30,F30⟩:=e30
 obtain ⟨f31,d31,a31,F31⟩:=e31
 obtain ⟨f32,d32,a32,F32⟩:=e32
 obtain ⟨f33,d33,a33,F33⟩:=e33
 obtain ⟨f34,d34,a34,F34⟩:=e34
 obtain ⟨f35,d35,a35,F35⟩:=e35
 have F36:=DY (st:=oR) l36 c36 k36
 have m:eu w K mg:=⟨Sg X G z0,
   Sg X G z1,
   Sg X G z2,
   Sg X G z3,
   Sg X G z4,
   Sg X G z5,
   Sg X G z6,
   Sg X G z7,
   Sg X G z8,
   Sg X G z9,
   Sg X G z10,
   Sg X G z11,
   ⟨_,(.int 6),RB X G gMOST_DEPTH,⟨_,rfl⟩,λ_=>(.int _)⟩,
   ⟨_,(.int 4),RB X G gMOST_SMALL,⟨_,rfl⟩,λ_=>(.int _)⟩,
   ⟨_,a16,RB X G a16⟩⟩
 refine ⟨Rw "law" "law" (a_ oR) (aW oR) (az oR) .none v36 d36 p36 n36 q36 r36,λs v=>.of_eq rfl,λbase _ _=>?_⟩
 have C0:=Ao (P:=l.prog) (base:=base) m F0 (RB X G a0)
 have C1:=yF (P:=l.prog) (base:=base) m F1 (RB X G a1)
 have C2:=uM (P:=l.prog) (base:=base) m C1 F2 (RB X G a2)
 have C3:=pH (P:=l.prog) (base:=base) m F3 (RB X G a3)
 have C4:=wW (P:=l.prog) (base:=base) m C2 C3 F4 (RB X G a4)
 have C5:=wV (P:=l.prog) (base:=base) m C0 F5 (RB X G a5)
 have C6:=DF (P:=l.prog) (base:=base) m F6 (RB X G a6)
 have C7:=IM (P:=l.prog) (base:=base) m F7 (RB X G a7)
 have C8:=FG (P:=l.prog) (base:=base) m C7 F8 (RB X G a8)
 have C9:=FE (P:=l.prog) (base:=base) m F9 (RB X G a9)
 have C10:=uL (P:=l.prog) (base:=base) m C9 F10 (RB X G a10)
 have C11:=Au (P:=l.prog) (base:=base) m C4 C5 C8 C9 C10 F11 (RB X G a11)
 have C12:=FD (P:=l.prog) (base:=base) m C6 F12 (RB X G a12)
 have C13:=wX (P:=l.prog) (base:=base) m F13 (RB X G a13)
 have C14:=Av (P:=l.prog) (base:=base) m F14 (RB X G a14)
 have C15:=As (P:=l.prog) (base:=base) m C13 C12 C14 F15 (RB X G a15)
 have C16:=qL (P:=l.prog) (base:=base) m F16 (RB X G a16)
 have C17:=DE (P:=l.prog) (base:=base) m C16 F17 (RB X G a17)
 have C18:=rH (P:=l.prog) (base:=base) m C11 F18 (RB X G a18)
 have C19:=qM (P:=l.prog) (base:=base) m C18 C15 C17 F19 (RB X G a19)
 have C20:=An (P:=l.prog) (base:=base) m F20 (RB X G a20)
 have C21:=yE (P:=l.prog) (base:=base) m C20 F21 (RB X G a21)
 have C22:=DC (P:=l.prog) (base:=base) m C4 C5 C19 C21 F22 (RB X G a22)
 have C23:=yu (P:=l.prog) (base:=base) m F23 (RB X G a23)
 have C24:=B7 (P:=l.prog) (base:=base) m C4 C5 C19 C20 C23 F24 (RB X G a24)
 have C25:=yp (P:=l.prog) (base:=base) m F25 (RB X G a25)
 have C26:=wN (P:=l.prog) (base:=base) m F26 (RB X G a26)
 have C27:=yt (P:=l.prog) (base:=base) m F27 (RB X G a27)
 have C28:=wO (P:=l.prog) (base:=base) m F28 (RB X G a28)
 have C29:=uK (P:=l.prog) (base:=base) m C26 F29 (RB X G a29)
 have C30:=wQ (P:=l.prog) (base:=base) m C25 C27 C28 F30 (RB X G a30)
 have C31:=yq (P:=l.prog) (base:=base) m F31 (RB X G a31)
 have C32:=uJ (P:=l.prog) (base:=base) m C30 C25 C31 F32 (RB X G a32)
 have C33:=pG (P:=l.prog) (base:=base) m F33 (RB X G a33) 10
 have C34:=yr (P:=l.prog) (base:=base) m F34 (RB X G a34)
 have C35:=uI (P:=l.prog) (base:=base) m C33 F35 (RB X G a35)
 exact Nt m C25 C29 C32 C24 C35 C22 C34 F36
theorem Km (K:Q7) (H:Hp) (a:Rq) (ns:List Int) (hl:ns.length<=63) (hO:BO H) (hS:dw K H a (ns.map V.int)):qh K 1 K81.uw [.ref a] H (λv _=>v=.bl true) λ_ _ _=>False:=by
 refine ⟨λ_=>none,[.bor (ns.map D.int)],λ_ _ z=>(by cases z),rfl,⟨_,[],rfl,⟨a,_,rfl,hS,?_⟩,rfl⟩,?_⟩
 ·exact K01.wg ns
 ·rw [Jt ns hl]
  intro v J H2 _ r
  cases r
  rfl
theorem walk {l:XS}{q:Rz}{loose:List Str}{XP:(Str->Option Q8)->SM->Prop}{YP:RZ->SM->Prop}{d:DefRec}{K:aba->Q7}(hn:l.most=some 63) (hdf:d.params.defaults=[])
  (hY:∀(w:RZ) (h:SM),YP w h->(K w.params).In h)
  (F:∀(w:RZ) (mg:Str->Option Q8) (fa:Rq) (h:SM),(K w.params).In h->h.Ns RP mg->mg d.name=some (.ref fa)->
   ∃fd:RO,(∀(s:Q_) (u:Q8),ZJ s fd ⟨[u],[]⟩ [("_law_script",u)])/\∀base:SM,(K w.params).In base->base.Ns RP mg->jB l.prog w (K w.params) mg base oW 12 fa fd ["_law_script"] (qh (K w.params) 1 K81.uw)):
  aaQ q loose XP YP l.row.toRowW d [] (λf vs=>aav f vs):=
 L2.Kv (n:=63) (k:=12) (x:="_law_script") (CX:=λ_=>oW) (sp:=λw=>qh (K w.params) 1 K81.uw) hn (by decide) hdf ⟨rfl,by decide,by decide⟩ hY F (λw H a ns hl hO hS=>Km _ H a ns hl hO hS) λ_ _ _ _ _ z=>z
end K81
open PySem PySem.W PyProof.Rows
set_option maxRecDepth 100000 in
set_option maxHeartbeats 0 in
theorem PySem.Challenge.cw_pickalike_k81_classes_of_points_holds : PySem.Challenge.rw_pickalike_k81_classes_of_points.Holds := by
 refine holds_law K81.look λsaid=>?_
 refine holds_open (q:=K81.VW) (XP:=XL K81.VW []) (YP:=Hook.says K81.HK) K81.left (Hook.of K81.HK) (Hook.keeps K81.HK) (λs e=>xl_of s (Yj.mp e).1) XL.keeps (by rfl) (by rfl) (by rfl) (λs e=>recFacts_of (Yj.mp e).2) (by rfl) said (by decide +kernel) ⟨rfl,rfl,rfl,rfl,rfl,by decide +kernel⟩ ?hw ?hc
 (case hw=>w_witness2)
 delta K81.HK
 k_fill
 refine K81.walk (l:=PySem.Challenge.rw_pickalike_k81_classes_of_points) rfl rfl (K:=K81.KF) (λw h Y=>PySem.W.kIn_of Y) ?F
 case F=>
  intro w mg fa h KX G hmg
  refine' K81.all_mk KX G hmg (DL.cB ?a0 ?l0 ?c0 ?k0) (DL.cB ?a1 ?l1 ?c1 ?k1) (DL.cB ?a2 ?l2 ?c2 ?k2) (DL.cB ?a3 ?l3 ?c3 ?k3) (DL.cB ?a4 ?l4 ?c4 ?k4) (DL.cB ?a5 ?l5 ?c5 ?k5) (DL.cB ?a6 ?l6 ?c6 ?k6) (DL.cB ?a7 ?l7 ?c7 ?k7) (DL.cB ?a8 ?l8 ?c8 ?k8) (DL.cB ?a9 ?l9 ?c9 ?k9) (DL.cB ?a10 ?l10 ?c10 ?k10) (DL.cB ?a11 ?l11 ?c11 ?k11) (DL.cB ?a12 ?l12 ?c12 ?k12) (DL.cB ?a13 ?l13 ?c13 ?k13) (DL.cB ?a14 ?l14 ?c14 ?k14) (DL.cB ?a15 ?l15 ?c15 ?k15) (DL.cB ?a16 ?l16 ?c16 ?k16) (DL.cB ?a17 ?l17 ?c17 ?k17) (DL.cB ?a18 ?l18 ?c18 ?k18) (DL.cB ?a19 ?l19 ?c19 ?k19) (DL.cB ?a20 ?l20 ?c20 ?k20) (DL.cB ?a21 ?l21 ?c21 ?k21) (DL.cB ?a22 ?l22 ?c22 ?k22) (DL.cB ?a23 ?l23 ?c23 ?k23) (DL.cB ?a24 ?l24 ?c24 ?k24) (DL.cB ?a25 ?l25 ?c25 ?k25) (DL.cB ?a26 ?l26 ?c26 ?k26) (DL.cB ?a27 ?l27 ?c27 ?k27) (DL.cB ?a28 ?l28 ?c28 ?k28) (DL.cB ?a29 ?l29 ?c29 ?k29) (DL.cB ?a30 ?l30 ?c30 ?k30) (DL.cB ?a31 ?l31 ?c31 ?k31) (DL.cB ?a32 ?l32 ?c32 ?k32) (DL.cB ?a33 ?l33 ?c33 ?k33) (DL.cB ?a34 ?l34 ?c34 ?k34) (DL.cB ?a35 ?l35 ?c35 ?k35) ?a36 ?l36 ?c36 ?k36 ?z0 ?z1 ?z2 ?z3 ?z4 ?z5 ?z6 ?z7 ?z8 ?z9 ?z10 ?z11 ?gMOST_DEPTH ?gMOST_SMALL
  case a0 | l0 | c0 | k0 | a1 | l1 | c1 | k1 | a2 | l2 | c2 | k2 | a3 | l3 | c3 | k3 | a4 | l4 | c4 | k4 | a5 | l5 | c5 | k5 | a6 | l6 | c6 | k6 | a7 | l7 | c7 | k7 | a8 | l8 | c8 | k8 | a9 | l9 | c9 | k9 | a10 | l10 | c10 | k10 | a11 | l11 | c11 | k11 | a12 | l12 | c12 | k12 | a13 | l13 | c13 | k13 | a14 | l14 | c14 | k14 | a15 | l15 | c15 | k15 | a16 | l16 | c16 | k16 | a17 | l17 | c17 | k17 | a18 | l18 | c18 | k18 | a19 | l19 | c19 | k19 | a20 | l20 | c20 | k20 | a21 | l21 | c21 | k21 | a22 | l22 | c22 | k22 | a23 | l23 | c23 | k23 | a24 | l24 | c24 | k24 | a25 | l25 | c25 | k25 | a26 | l26 | c26 | k26 | a27 | l27 | c27 | k27 | a28 | l28 | c28 | k28 | a29 | l29 | c29 | k29 | a30 | l30 | c30 | k30 | a31 | l31 | c31 | k31 | a32 | l32 | c32 | k32 | a33 | l33 | c33 | k33 | a34 | l34 | c34 | k34 | a35 | l35 | c35 | k35 | a36 | l36 | c36 | k36 | z0 | z1 | z2 | z3 | z4 | z5 | z6 | z7 | z8 | z9 | z10 | z11 | gMOST_DEPTH | gMOST_SMALL=>k_is
