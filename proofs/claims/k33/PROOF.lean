import PyProof.Rows.All
import Wide.All
import OpenK.AllK
import Wide.FinOn
import Lean
import PyProof.EqAt
import PyProof.EqKinds
import PyProof.TupleCall
import KE.KIsAll
import PyProof.ExcAttrAll.ValueError
import PyProof.NeKinds
import PyProof.InstStoreFacts
import KE.KUnpackStar
import KE.KSortTup
import PyProof.EnumFor
import PyProof.EnumStmt
import PyProof.ListRange
import PyProof.TupleKey
import PyProof.SetKind
import PyProof.Rows.SetFrom
import PyProof.SetRoads
import PyProof.CollectWalk
import PyProof.WalksMore
import PyProof.Rows.SortWalk
import PyProof.DictKinds
import PyProof.DictCompW
import PyProof.DictRoadsH
import PyProof.DictWalks
import PySem.Challenge.RW_pickalike_k33_answers_told
noncomputable section
open And renaming intro->Xj
open Array renaming length_toList->QN,getElem?_eq_some_iff->RQ,getElem?_toList->R4,getD->SD,getElem?_eq_getElem->Tw,mem_toList_iff->UB,forIn_toList->U8,getD_eq_getD_getElem?->VX,toList->W9,size_append->YH,toList_push->YO
open Array.Perm renaming mem_iff->Tn,refl->abA
open Bool renaming and_eq_true->QK,false_eq_true->QZ,false_ne_true->Rq,eq_iff_iff->RV,not_true->S4,or_eq_true->TN,and_false->Uc,true_and->Uw,not_false->Vo,and_eq_true_iff->XC,or_false->aao,and_self->aaq,false_or->aav
open Classical renaming byContradiction->Sb,propDecidable->aaD
open False renaming elim->Uo
open ForInStep renaming yield->Tc
open Function renaming comp_def->Ww
open Iff renaming rfl->abD
open Int renaming toNat_natCast->Sz,emod_lt_of_pos->SQ,emod_nonneg->TR
open List renaming length_map->QA,mem_map->QE,mem_cons_of_mem->QF,range->QG,mem_cons_self->QH,size_toArray->QO,getElem?_eq_getElem->QS,mem_cons->Q3,map_cons->Q5,mem_singleton->Q6,getElem?_map->Q_,mem_range->Ra,map_append->Rg,length_append->Rh,getElem?_eq_some_iff->Rj,map_map->Rk,mem_append->Rt,mem_filter->Rv,all_eq_true->Rw,mem_append_right->Ry,getElem?_set_ne->RA,pairwise_map->RC,getD_eq_getElem?_getD->RE,length_filter_le->RG,idxOf_lt_length_of_mem->RP,length_cons->RT,replicate->RX,getElem?_append_right->R8,mem_of_getElem?->R9,getElem?_set_self->R_,pairwise_iff_getElem->Sa,lookup_cons->Se,not_mem_nil->Sf,getElem_mem->Sg,length_range->Sk,nodup_cons->Ss,getElem?_append_left->SI,length_replicate->SJ,any_eq_true->SS,nodup_range->SV,mem_append_left->SX,mem_iff_getElem->S3,length_eq_zero_iff->S7,append_nil->S_,eq_nil_or_concat->Tq,concat_eq_append->Tr,nodup_nil->Tv,pairwise_append->Tz,range_succ->TU,eraseIdx_eq_take_drop_succ->TV,replicate_succ->TZ,pairwise_singleton->T5,map_congr_left->T6,length_take->T9,length_drop->T_,pairwise_lt_range->Ue,pairwise_cons->Ug,getElem_idxOf->Uh,map_nil->Uj,length_nil->Uk,take_append_drop->Ul,all_cons->Us,append_assoc->Uy,drop_eq_getElem_cons->UH,ext_getElem->UL,getElem?_range->UO,mem_filterMap->UW,getElem?_replicate->UY,getElem?_cons_zero->U4,getElem?_cons_succ->U5,range_succ_eq_map->Ve,getElem_cons_drop->Vf,length->Vg,nodup_append->Vl,singleton_append->Vu,eq_nil_of_length_eq_zero->Vx,mem_flatMap->VC,map_flatMap->VD,any_cons->VH,map_take->VJ,map_drop->VL,filterMap_cons->VO,foldl_cons->VT,filter_eq_self->V1,perm_ext_iff_of_nodup->V4,zip_cons_cons->V6,any_map->V7,getLast?_eq_none_iff->We,getElem?_zip_eq_some->Wf,getElem_append_left->Wo,filter_cons_of_pos->WE,filter_cons_of_neg->WG,pairwise_filterMap->WH,getElem_inj->WL,take_length->WS,getElem_map->WT,perm_middle->WU,drop_eq_nil_of_le->WY,take_of_length_le->W2,of_mem_zip->Xa,all_map->Xd,mem_iff_getElem?->Xe,getD->Xi,pairwise_flatMap->Xl,length_eraseIdx->Xx,getLast?_concat->Xy,mem_of_mem_take->Xz,mem_of_mem_drop->XA,take_succ->XH,getD_cons_zero->XU,filterMap_map->Yb,contains_cons->Yh,map_singleton->Ym,find?_eq_none->Yo,filter_append->Yv,take_sublist->Yz,eraseIdx_nil->YJ,getElem_drop->YM,idxOf_append->YN,filter_congr->YT,le_antisymm->Y9,filter_cons->Zd,filter_map->ZI,length_zip->ZJ,filter_nil->ZK,drop_zero->ZS,filterMap->ZW,lookup->aa7,map->abj
open List.Nodup renaming length_le_of_subset->Ri
open List.Pairwise renaming and_mem->Tp,nil->TM,imp->Vj,filter->Xw,of_map->aaT,and->abt,map->abu
open List.Perm renaming of_eq->Zx,append_left->aaO
open List.cons renaming inj->abH
open Nat renaming le_refl->QL,lt_of_lt_of_le->Rc,ne_of_lt->Rf,zero_le->Rl,le_trans->Rr,not_lt_zero->RU,le_succ->Sv,lt_succ_of_lt->SE,lt_irrefl->SG,lt_succ_self->Tg,le_of_succ_le->TQ,ne_of_gt->Ui,lt_trichotomy->Uu,pow_le_pow_right->UC,mul_le_mul_right->UD,le_add_right->UK,lt_trans->UR,le_of_lt_succ->Vk,mul_le_mul->Vn,mod_lt->Wn,div_div_eq_div_mul->W0,le_of_lt->W7,lt_of_le_of_lt->Yl,lt_or_eq_of_le->Yn,pow_succ->Y3,zero_add->Y4,div_add_mod->Zv,min_eq_left->ZC,add_mul->ZF,add_assoc->aax,le_of_eq->aaJ,not_lt->abr
open Ne renaming symm->S8
open Option renaming isSome_iff_exists->R3,bind_some->WQ,getD_none->Y7,map_some->Zn,none->aa6
open Option.some renaming inj->RS,injEq->SA
open Or renaming inr->Ua,inl->Vt
open Prod renaming fst->R7,snd->abl,ext->abF
open PyProof.Rows renaming slot_tuple_getitem->RO,seqObj->S0,IntsAre->UM,subscriptTail_builtinR->Vc,callWith_type1->VQ,entry_list_sort->VV,slot_list_sort->V9,args_list_sort->V_,listUpdate_at->WD,envOfC->WM,AllBare->W6,entry_tuple_getitem->XQ,seqEpoch_at->XX,args_tuple_getitem->Yc,sortedAll->Yj,sortedAll_old->Yk,callWith_builtin1->YU,sortedAll_at->YW,plain_sorted->YY,entry_sorted->YZ,args_sorted1->Y0,get?_update_seq->Zq,list_sort_plain->Zr,kind_sorted->Zs,slicePart_none->ZP,keyLt'_oneType->ZV,sortedHeap->aac,tupleItemsOf_->aal,subscriptTail->aan,SortKind->aas,keyKind'->aat,oneType'->aaw,sortedHeap_at->aaA,oneLt_int->aaN,IsTup->aaU,lt_int->aa9,lt_str->aa_,tuples'->aba,le_int->abf
open PyProof.Rows.F renaming plain_set_update_loop->Rm,entry_set_update_loop->Sd
open PyProof.Rows.IsTup renaming new->aaH
open PySem renaming wpAny_bind->Qw,Value->Qy,wpAny_pure->Qz,Shared->QC,mainGlobals->QM,starEach->QU,Addr->QW,foldedSetIterable->Q2,wpAny->Q7,Program->Q8,model->Rb,wpAny_holding->Rn,FuncData->Ro,Expr->Rp,World->Ru,Around->Rx,wpAny_newObj_type->Rz,wpAny_call_entry->RD,sizeLine_eq->RI,wpAny_mono->RJ,cellsFrom->RK,bootBuiltins->RL,SetTable->RM,wpAny_truthy_bool->RN,compareOp->R0,behindInMarks->R6,Heap->Sh,wpAny_setState_of->Sl,wpAny_standAt->Sq,wpAny_callSpecial?_slot->Su,cLine->Sy,NameKind->SH,codeAny_builtin->SM,wpAny_typeNameOfWhole_keyiter->SW,backTo->SY,letOwnedTupleGo->S9,wpAny_loadPart'->Td,Scope->Te,codeAny->Tf,wpAny_forIn_list->Th,wpAny_askSetting->Ti,codeAny_mono->Tj,assignEach->TH,wpAny_passesOwn->TJ,standAt->TX,mem_of_lookup->TY,Stmt->T7,swapsWith->T8,sysModules->Ub,binaryOp->Uq,plainId_quiet->Ux,hashInt->UA,Builtin->UN,wpAny_of_eq->UP,swapsWithSole->UU,wpAny_Call_Name_kw->UX,wpAny_attempt->U0,mem_of_lookup->U6,wpAny_specialOf->U7,codeAny_of_tree->U_,pyNext->Va,sliceBounds->Vh,wpAny_storeSet_of->Vm,compTurn->Vq,wpAny_typeOf->Vs,builtinLookup_eq_fast->Vv,wpAny_isInstance->VA,codeAny_call_builtin->VF,attributeBase->VG,wpAny_newList->VI,wpAny_execs_nil->VP,wpAny_updateSeq->VU,wpAny_setEntries_of->VY,wpAny_pyIter_tuple->V5,wpAny_setField_rec->V8,isSubtype_type->Wa,wpAny_fieldsOf->Wb,firstArgMember->Wc,Paired->Wg,pyIter->Wi,wpAny_pyIter_list->Wj,wpAny_rule->Wk,searchCouldBeSeen->Wq,wpAny_pyIter_slot->Ws,arm_evalThenUse_ListComp->Wu,wpAny_dictEntries->Wx,keywordEach->Wz,Keyword->WA,Comprehension->WI,wpAny_pyHash_int->WK,noFill_tuple_add->WN,checkBuiltinCall->WO,richCompare_meets_room->WZ,codeAny_compStart_list->W4,codeAny_compStart_dict->W5,wpAny_isTrue_Compare1->W8,inplaceOp->W_,setAddHashed->Xf,typeLookup_type->Xg,weight_type_call_type->Xh,arm_exec_Assign->Xk,wpAny_dictEpoch->Xn,wpAny_isOneOf_keyiter->Xo,wpAny_call->Xp,wpAny_loadName_local->Xr,isTrue->XD,wpAny_seqItems->XI,wpAny_runValue->XJ,wpAny_bindName->XM,wpAny_loadName_cell->XN,GenState->X3,Operator->X4,swappedStores->X5,seq_tuple_add->X8,IsPart->X_,seqIndex?->Yd,DictEntry->Yg,compPost->Ys,slot_dict_contains->Yt,intKind->Yy,getItem->YA,wpAny_sequenceKey->YB,slot_list_getitem->YC,call_meets->YD,callerA->YE,ofAClassStatement->YQ,concat_meets->YV,wpAny_execs_cons->Y6,check_set_init_1->Zb,backToKw->Zf,PassesOwn->Zh,Result->Zi,BindsTo->Zj,wpAny_field->Zk,pushCells->Zt,pushCells_keeps->Zu,pickOrder->Zy,noteFrame->ZD,theTreesLotGoes->ZE,compStart->ZG,theWindowsPlace->ZH,CmpOp->ZN,recursionLimit->ZO,wpAny_newTuple->ZT,newFunctionEnv->ZU,setAddHashedIn->ZY,entryFor_alias->ZZ,isSubtype_stop->Z0,wpAny_setField->Z2,entryOfKey->Z3,builtinsNs->Z4,wpAny_Name->Z5,rawInt->Z6,call->Z8,isInstance->Z_,reduceHash->aaa,checkCount->aad,setsByText->aae,intKind_is->aag,rangeSize_one->aai,intBits_le_64->aaj,bindArgs->aak,evalPart_none->aam,setSearchFrom->aay,wpAny_handled->aaz,wpAny_notedAt->aaB,eval_ListComp->aaC,atKey->aaE,storeName->aaG,Params->aaI,bindL->aaW,bindC->aaX,CellsOk->abb,entryFor->abk,bindName->abm,Model->abn,Fin->abB
open PySem.Around renaming under_plainId->Sx,under_plain->Yr
open PySem.AutoSeq1 renaming sub_tuple_tuple->US
open PySem.Builtin.Dict renaming showsAll->Xm,dictSlotNone->Z1
open PySem.Builtin.Dict_items renaming ownsTuple->VN
open PySem.Builtin.Frozenset renaming updateFrom->VM,sizeOf->Wt,newClass->ZM
open PySem.Builtin.List renaming listTooLong->SO,listLengthHint->VZ,listExtendWith->V0,listSameRef->aaf
open PySem.Builtin.Range renaming rangeSize->Wy
open PySem.Builtin.Slice renaming slicePlaces->Tt,sliceAdjust->UE,sliceApplied->V3,slicePartIndex->Ze,sliceFields->ZQ
open PySem.Builtin.Str renaming occurrences->WC,tooLong->XS
open PySem.Builtin.Tuple renaming tupleHashOf->RY,tupleExact->TL,tupleItemsOf->Uz,tupleCompareSizes->Vi,tupleIsExact->ZL
open PySem.Calls renaming call_function_entry->UI,Name_function_global->V2
open PySem.CmpOp renaming NotIn->aaV,In->abE
open PySem.Code renaming quiet_builtin->Yq
open PySem.Env renaming kindOf->abp
open PySem.Expr renaming Call->abC
open PySem.F renaming called_set->R5,slot_dict_keyiterator_next->So,plainAttrs_list->T3,slot_tuple_hash->Uv,args_tuple_add_2->UQ,entry_tuple_add->UZ,slot_tuple_add->Vb,args_dict_keyiterator_next_1->Vw,entry_dict_keyiterator_next->VE,attrBase_ValueError->VS,slot_list_append->Wl,type_list_append->Wm,typeCall_set_1->W3,args_list_extend_2->Xs,entry_list_extend->XR,slot_list_extend->Ye,plain_list_iadd->YR,entry_type_call->YS,entry_set_init->Za,slot_dict_iter->Zc,slot_set_iter->Zz,plain_set_new->ZA
open PySem.Heap renaming get?_push_of_some->QI,get?_push_size->QV,lt_size->QY,SameBut->RZ,get?_update_self->Sm,size_push->Ud,get?_update_other->Vd,size_update->WR,get?_update_ne->XW,get?_push_ne->YL,ExtBut->abd
open PySem.Heap.IsList renaming push->Y_
open PySem.Heap.IsSliceOf renaming new->abg
open PySem.Heap.SameBut renaming update->Si,refl->Wv
open PySem.IsL renaming update->abv
open PySem.Moved renaming trans->XY
open PySem.NameKind renaming free->R1,cell->U3
open PySem.Obj renaming mapSeq->Sj,putSet->Wr,data_mapFields->Yu,mapFields->aaF
open PySem.Paired renaming length->aah
open PySem.PassesOwn renaming leaving->YK,never->Zo
open PySem.SeqAt renaming EqAt->SN,ne_of_list_tuple->WX
open PySem.SeqAt.EqAt renaming same->Xb,int_str->XZ,str_int->X0,int_int->X7,of_refs->Yi,tuple_list->aaK,list_tuple->aaL,none_bool->aaP,bool_none->aaQ,bool_bool->aaR,none_int->aaY,none_str->aaZ,bool_int->aa0,bool_str->aa1,int_none->aa2,int_bool->aa3,str_none->aa4,str_bool->aa5,str_str->abh
open PySem.SeqAt.RcAt renaming tuples->YG,lists->Y8,lists_lengths->aab
open PySem.SeqAt.RcNeAt renaming tuples->aa8,lists->abi
open PySem.SetTable renaming insertAt->Sn,sizeAbove->Sw,below->UJ,grown->Vp,tooFull->VB,advance->WV,fill->Yp,runEnd->Zw,turns->ZX
open PySem.Shared renaming TypeIs->U9
open PySem.Str renaming ofString->Vr,length->Z7
open PySem.Value renaming none->RB,bool->TF,type->Um,ref->UT,builtin->WB,notImplemented->Xv,int->Zg,str->aby
open PySem.Value.ref renaming inj->abG
open PySem.W renaming Frag->Qx,fnOf->QJ,nsIn->QT,keepIn->QX,codeIn->Q4,mg_of->Q9,mg_none_of->RH,kia_one->SK,kas_desc->S5,kas_sort->S6,kas_place->To,findIn->Tu,mroIn->Ur,InstAt->UG,clsIn->U1,kas_rev->Vy,kas_asc->Vz,findObj->VR,methodObj->Wh,cellsFrom_some->WW,OpenLaw->Xc,looks_findIn->Xu,kitOne->XG,callWith_K->X6,specialIn->YF,kitx_dict->YI,kas_descPart->YX,takesIn->Zl,kitMeta->Zm,kas_count->Zp,notCls->ZR,WalkO->aap,kas_bin->aar,kat_cons->aau,kas_tail3->aaM
open PySem.W.Hook renaming obs->abw,val->abx
open PySem.W.OpenLaw renaming wellSaid->Z9
open PySem.W.RowW renaming records->aaS
open PySem.W.WData renaming int->abz
open PySem.W.WShape renaming has->abo
open PySem.Walks renaming tuple->abe,list->abq
open PySem.pickOrder renaming go->Y5
open Subtype renaming ext->WJ
open Sum renaming inl->Yw,inr->Yx
open True renaming intro->Xq
set_option Elab.async false
set_option linter.all false
set_option maxRecDepth 100000
namespace L2
open PySem PySem.Spec PyProof.Rows
abbrev Key:=Sum Int Str
def G9:Key->Qy->Bool
 | .inl k,v=>Value.isInt k v
 | .inr x,v=>Value.isStrOf x v
def Ny (w:Ru):Key->Int
 | .inl k=>UA k
 | .inr x=>hashStr w x
theorem dF:∀{k:Key}{v:Qy},G9 k v=true->(∃i t,k=Yw i/\v=Zg i t)\/(∃x t,k=Yx x/\v=aby x t)
 | .inl i,v,h=>by
  obtain ⟨t,e⟩:=Value.isInt_shape (k:=i) (v:=v) h
  exact .inl ⟨i,t,rfl,e⟩
 | .inr x,v,h=>by
  obtain ⟨t,e⟩:=Value.isStrOf_shape (x:=x) (v:=v) h
  exact .inr ⟨x,t,rfl,e⟩
theorem KL (a b:Int):decide ((Yw a:Key)=Yw b)=(a == b):=by
 by_cases e:a=b
 ·subst e;simp
 ·have h:¬(Yw a:Key)=Yw b:=λq=>e (Sum.inl.inj q)
  rw [decide_eq_false h]
  exact (beq_eq_false_iff_ne.mpr e).symm
theorem KQ (a b:Str):decide ((Yx a:Key)=Yx b)=decide (a=b):=by
 by_cases e:a=b
 ·subst e;simp
 ·have h:¬(Yx a:Key)=Yx b:=λq=>e (Sum.inr.inj q)
  rw [decide_eq_false h,decide_eq_false e]
theorem KN (a:Int) (b:Str):decide ((Yw a:Key)=Yx b)=false:=decide_eq_false (λq=>nomatch q)
theorem KP (a:Str) (b:Int):decide ((Yx a:Key)=Yw b)=false:=decide_eq_false (λq=>nomatch q)
def uP (prog:Q8) (w:Ru):PySem.KeyKind prog w Key where
 is:=G9
 hash:=Ny w
 inj:=λv a b ha hb=>by
  rcases dF ha with ⟨i,t,rfl,rfl⟩ | ⟨x,t,rfl,rfl⟩
  ·rcases dF hb with ⟨j,u,rfl,e⟩ | ⟨y,u,rfl,e⟩
   ·injection e with e1 _;rw [e1]
   ·exact nomatch e
  ·rcases dF hb with ⟨j,u,rfl,e⟩ | ⟨y,u,rfl,e⟩
   ·exact nomatch e
   ·injection e with e1 _;rw [e1]
 byValue:=λk v h=>by
  rcases dF h with ⟨i,t,rfl,rfl⟩ | ⟨x,t,rfl,rfl⟩ <;> rfl
 pyHash:=λhv h=>by
  rcases dF hv with ⟨i,t,rfl,rfl⟩ | ⟨x,t,rfl,rfl⟩
  ·exact WK h
  ·exact wpAny_pyHash_str h
 eqBool:=λhu hv h=>by
  rcases dF hu with ⟨i,t,rfl,rfl⟩ | ⟨x,t,rfl,rfl⟩
  ·rcases dF hv with ⟨j,u,rfl,rfl⟩ | ⟨y,u,rfl,rfl⟩
   ·rw [KL] at h;exact wpAny_eqBool_int h
   ·rw [KN] at h;exact XZ i t y u _ _ _ _ h
  ·rcases dF hv with ⟨j,u,rfl,rfl⟩ | ⟨y,u,rfl,rfl⟩
   ·rw [KP] at h;exact X0 x t j u _ _ _ _ h
   ·rw [KQ] at h;exact wpAny_eqBool_str h
 «strs»:=λk x t v h=>by
  rcases dF h with ⟨i,u,rfl,e⟩ | ⟨y,u,rfl,e⟩
  ·exact nomatch e
  ·injection e with e1 _
   subst e1
   cases v <;> rfl
inductive V where
 | non | bl (b:Bool) | int (i:Int) | str (x:Str) | byt (b:Array UInt8) | flt (b:UInt64) | ref (a:QW) | ty (n:String)
 deriving DecidableEq
def RelV:V->Qy->Prop
 | .non,u=>u=RB
 | .bl b,u=>u=TF b
 | .int i,u=>∃t,u=Zg i t
 | .str x,u=>∃t,u=aby x t
 | .byt b,u=>∃t,u=Value.bytes b t
 | .flt b,u=>∃t,u=Value.float b t
 | .ref a,u=>u=UT a
 | .ty n,u=>u=Um n
abbrev Vals:List V->List Qy->Prop:=Wg RelV
theorem Vals.length {xs:List V}{us:List Qy}(r:Vals xs us):xs.length=us.length:=aah r
theorem Vals.get:∀{xs:List V}{us:List Qy}{i:Nat}{x:V},Vals xs us->xs[i]?=some x->∃u,us[i]?=some u/\RelV x u
 | _,_,_,_,.nil,e=>by simp at e
 | _,_,0,_,.cons r _,e=>by simp at e;subst e;exact ⟨_,rfl,r⟩
 | _,_,i + 1,x,.cons _ t,e=>by
  obtain ⟨u,h1,h2⟩:=Vals.get (i:=i) (x:=x) t (by simpa using e)
  exact ⟨u,by simpa using h1,h2⟩
theorem Vals.set {x:V}{u:Qy}(r:RelV x u):∀{xs:List V}{us:List Qy}(i:Nat),Vals xs us->Vals (xs.set i x) (us.set i u)
 | _,_,_,.nil=>.nil
 | _,_,0,.cons _ t=>.cons r t
 | _,_,i + 1,.cons q t=>.cons q (Vals.set r i t)
theorem Vals.append:∀{xs ys:List V}{us ws:List Qy},Vals xs us->Vals ys ws->Vals (xs++ys) (us++ws)
 | _,_,_,_,.nil,s=>s
 | _,_,_,_,.cons r t,s=>.cons r (Vals.append t s)
theorem Vals.take:∀{xs:List V}{us:List Qy}(n:Nat),Vals xs us->Vals (xs.take n) (us.take n)
 | _,_,0,_=>.nil
 | _,_,_ + 1,.nil=>.nil
 | _,_,n + 1,.cons r t=>.cons r (Vals.take n t)
theorem Vals.drop:∀{xs:List V}{us:List Qy}(n:Nat),Vals xs us->Vals (xs.drop n) (us.drop n)
 | _,_,0,r=>r
 | _,_,_ + 1,.nil=>.nil
 | _,_,n + 1,.cons _ t=>Vals.drop n t
def JR:Option V->Option Qy->Prop
 | some v,some u=>RelV v u
 | none,none=>True
 | _,_=>False
def KV {κ:Type}:List (κ×V)->List (κ×Qy)->Prop:=Wg λ(p:κ×V) (q:κ×Qy)=>p.1=q.1/\RelV p.2 q.2
def kV:Key->V
 | .inl i=>.int i
 | .inr x=>.str x
inductive HO where
  | lst (xs:List V)
  | tup (xs:List V)
  | dK (kvs:List (Key×V)) | dT (kvs:List (List Key×V))
  | set (S:Int->Bool) (n:Nat)
  | ins (C dx:QW) (fs:List (Str×V))
  | own (x:QW)
  | xd (fs:List (Str×V))
  | met (f x:QW)
  | rng (lo hi:Int)
  | frz (o:Obj) (u:HO)
  | tbl (ps:Array Qy)
  | ext (φ:Sh->Prop)
abbrev Hp:=QW->Option HO
def upd (H:Hp) (a:QW) (o:HO):Hp:=λb=>if b=a then some o else H b
theorem bX {H:Hp}{a:QW}{o:HO}:upd H a o a=some o:=by unfold upd;rw [if_pos rfl]
theorem bD {H:Hp}{a b:QW}{o:HO}(h:b≠a):upd H a o b=H b:=by unfold upd;rw [if_neg h]
theorem fF {H:Hp}{a b:QW}{o:HO}(h:H a=some o) (h':H b=none):a≠b:=by
 intro e;subst e;rw [h] at h';cases h'
section
variable (P:Q8) (w:Ru)
def cg (H:Hp) (h:Sh) (a:QW):HO->Prop
 | .lst xs=>xs.length<=sizeLine/\∃(its:List Qy) (n:Nat),Vals xs its/\h.get? a=some {cls:=.type "list",data:=.seq its.toArray n}
 | .tup xs=>xs.length<=sizeLine/\∃its:List Qy,Vals xs its/\aaU h a its.toArray
 | .dK kvs=>kvs.length<=sizeLine/\(a == Ub)=false/\∃vs,KV kvs vs/\h.DictOf (uP P w) a vs
 | .dT kvs=>kvs.length<=sizeLine/\(a == Ub)=false/\∃xs:List (List Key×QW×Qy),
   Wg (λ(p:List Key×V) (q:List Key×QW×Qy)=>p.1=q.1/\H q.2.1=some (.tup (p.1.map kV))/\RelV p.2 q.2.2) kvs xs/\
   ∃o es ep,h.get? a=some o/\o.ExactDict/\o.data=.dict es ep/\es.toList=xs.map (Z3 (tupleKind (uP P w)))/\(xs.map (·.1)).Nodup
 | .set S n=>h.SetOf (Yy P w) a S n
 | .ins C dx fs=>H dx=some (.own a)/\fs.length<=1000/\dx≠a/\h.get? a=some (W.instObj C dx)/\
   ∃mA,h.Ns1 dx mA/\(∀f,JR (fs.lookup f) (mA f))/\PySem.Within mA (fs.map (·.1))
 | .own _=>∃o,h.get? a=some o
 | .xd fs=>∃mA,h.Ns1 a mA/\∀f,JR (fs.lookup f) (mA f)
 | .rng lo hi=>∃t u v,h.get? a=some {cls:=.type "range",data:=.fields #[.int lo t,.int hi u,.int 1 v]}
 | .frz o u=>h.get? a=some o/\cg H h a u
 | .tbl ps=>h.get? a=some {cls:=.none,data:=.fields ps}
 | .met f x=>h.get? a=some (Wh (.ref f) (.ref x))
 | .ext φ=>φ h/\(∃o,h.get? a=some o)/\∀h1 h2:Sh,φ h1->(∀o,h1.get? a=some o->h2.get? a=some o)->φ h2
def gn (H:Hp) (h:Sh):Prop:=∀a o,H a=some o->cg P w H h a o
end
section
variable {P:Q8}{w:Ru}{H H':Hp}{h h':Sh}{a:QW}{o:HO}
theorem cg.lt (x:cg P w H h a o):a < h.objs.size:=by
 cases o with
 | lst xs=>obtain ⟨_,_,_,_,e⟩:=x;exact QY e
 | tup xs=>obtain ⟨_,_,_,p⟩:=x;exact p.lt
 | dK kvs=>obtain ⟨_,_,_,_,o,_,_,e,_⟩:=x;exact QY e
 | dT kvs=>obtain ⟨_,_,_,_,o,_,_,e,_⟩:=x;exact QY e
 | set S n=>obtain ⟨o,_,_,_,e,_⟩:=x;exact QY e
 | ins C dx fs=>obtain ⟨_,_,_,e,_⟩:=x;exact QY e
 | own y=>obtain ⟨_,e⟩:=x;exact QY e
 | xd fs=>obtain ⟨_,⟨_,_,_,e,_⟩,_⟩:=x;exact QY e
 | rng lo hi=>obtain ⟨_,_,_,e⟩:=x;exact QY e
 | frz ob u=>obtain ⟨e,_⟩:=x;exact QY e
 | tbl ps=>exact QY (show h.get? a=some _ from x)
 | met f y=>exact QY (show h.get? a=some _ from x)
 | ext φ=>obtain ⟨_,⟨_,e⟩,_⟩:=x;exact QY e
theorem Wg.mapP {α β:Type}{F G:α->β->Prop}:∀{l₁:List α}{l₂:List β},Wg F l₁ l₂->(∀a b,F a b->G a b)->Wg G l₁ l₂
 | _,_,.nil,_=>.nil
 | _,_,.cons r t,f=>.cons (f _ _ r) (Wg.mapP t f)
theorem cg.stay (x:cg P w H h a o) (k:∀b u,(b=a\/H b=some (.own a))->h.get? b=some u->h'.get? b=some u)
  (ho:∀b,H b=some (.own a)->H' b=some (.own a)) (ht:∀b xs,H b=some (.tup xs)->H' b=some (.tup xs)):cg P w H' h' a o:=by
 induction o with
 | lst xs=>obtain ⟨z,its,n,r,e⟩:=x;exact ⟨z,its,n,r,k _ _ (.inl rfl) e⟩
 | tup xs=>obtain ⟨z,its,r,ob,e,c⟩:=x;exact ⟨z,its,r,ob,k _ _ (.inl rfl) e,c⟩
 | dK kvs=>obtain ⟨z,y,vs,r,ob,es,ep,e,c⟩:=x;exact ⟨z,y,vs,r,ob,es,ep,k _ _ (.inl rfl) e,c⟩
 | dT kvs=>
  obtain ⟨z,y,xs,r,ob,es,ep,e,c⟩:=x
  exact ⟨z,y,xs,Wg.mapP r λp q z=>⟨z.1,ht _ _ z.2.1,z.2.2⟩,ob,es,ep,k _ _ (.inl rfl) e,c⟩
 | set S n=>obtain ⟨ob,es,ep,t,e,c⟩:=x;exact ⟨ob,es,ep,t,k _ _ (.inl rfl) e,c⟩
 | ins C dx fs=>
  obtain ⟨d,z,ne,e,mA,⟨od,es,ep,e2,c⟩,r⟩:=x
  exact ⟨ho _ d,z,ne,k _ _ (.inl rfl) e,mA,⟨od,es,ep,k _ _ (.inr d) e2,c⟩,r⟩
 | own y=>obtain ⟨ob,e⟩:=x;exact ⟨ob,k _ _ (.inl rfl) e⟩
 | xd fs=>obtain ⟨mA,⟨od,es,ep,e,c⟩,r⟩:=x;exact ⟨mA,⟨od,es,ep,k _ _ (.inl rfl) e,c⟩,r⟩
 | rng lo hi=>obtain ⟨t,u,v,e⟩:=x;exact ⟨t,u,v,k _ _ (.inl rfl) e⟩
 | frz ob u ih=>obtain ⟨e,q⟩:=x;exact ⟨k _ _ (.inl rfl) e,ih q⟩
 | tbl ps=>
  have e:h.get? a=some {cls:=.none,data:=.fields ps}:=x
  show h'.get? a=some {cls:=.none,data:=.fields ps}
  exact k a _ (.inl rfl) e
 | met f y=>
  have e:h.get? a=some (Wh (.ref f) (.ref y)):=x
  show h'.get? a=some (Wh (.ref f) (.ref y))
  exact k a _ (.inl rfl) e
 | ext φ=>obtain ⟨p,⟨o,e⟩,st⟩:=x;exact ⟨st _ _ p λo q=>k _ _ (.inl rfl) q,⟨o,k _ _ (.inl rfl) e⟩,st⟩
theorem gn.lt (x:gn P w H h) (e:H a=some o):a < h.objs.size:=(x a o e).lt
theorem gn.fresh (x:gn P w H h) (e:h.objs.size<=a):H a=none:=by
 cases q:H a with
 | none=>rfl
 | some u=>exact absurd (Rc (x.lt q) e) (SG _)
theorem gn.kept (x:gn P w H h) (k:∀b u,h.get? b=some u->h'.get? b=some u):gn P w H h':=λa o e=>
 (x a o e).stay (λb u _ q=>k b u q) (λ_ q=>q) λ_ _ q=>q
theorem gn.laid (x:gn P w H h) (k:∀b u,h.get? b=some u->h'.get? b=some u) (hp:h.objs.size<=a) (new:cg P w (upd H a o) h' a o):gn P w (upd H a o) h':=λb u e=>by
 have hn:=x.fresh hp
 by_cases hb:b=a
 ·subst hb;rw [bX] at e;cases e;exact new
 ·rw [bD hb] at e
  exact (x b u e).stay (λc v _ q=>k c v q) (λc q=>by rw [bD (fF q hn)];exact q) λc xs q=>by rw [bD (fF q hn)];exact q
end
def Rd (H:Hp) (a:QW) (u:HO):Prop:=H a=some u\/∃o,H a=some (.frz o u)
theorem Rd.ok {P:Q8}{w:Ru}{H:Hp}{h:Sh}{a:QW}{u:HO}(r:Rd H a u) (x:gn P w H h):cg P w H h a u:=by
 rcases r with r | ⟨o,r⟩
 ·exact x a u r
 ·obtain ⟨_,q⟩:=x a _ r
  exact q
def GW:Option HO->Prop
 | some (.lst _)=>True
 | some (.dK _)=>True
 | some (.dT _)=>True
 | some (.set _ _)=>True
 | some (.ins _ _ _)=>True
 | some (.ext _)=>True
 | _=>False
section
variable {P:Q8}{w:Ru}{H:Hp}{h h':Sh}{x e:QW}{o':HO}
theorem gn.write (ok:gn P w H h) (mu:GW (H x)) (he:e=x\/H e=some (.own x)) (k:∀b u,b≠e->h.get? b=some u->h'.get? b=some u) (O4:∃u,h'.get? e=some u)
  (new:cg P w (upd H x o') h' x o'):gn P w (upd H x o') h':=λb u q=>by
 have nown:∀c y,H c=some (.own y)->c≠x:=λc y r z=>by subst z;rw [r] at mu;exact mu
 have ntup:∀c xs,H c=some (.tup xs)->c≠x:=λc xs r z=>by subst z;rw [r] at mu;exact mu
 by_cases hb:b=x
 ·subst hb;rw [bX] at q;cases q;exact new
 ·rw [bD hb] at q
  by_cases O0:b=e
  ·have q':H b=some (.own x):=by
    rcases he with z | z
    ·exact absurd (O0.trans z) hb
    ·rw [O0];exact z
   rw [q] at q';cases q'
   obtain ⟨v,hv⟩:=O4
   exact ⟨v,by rw [O0];exact hv⟩
  ·refine (ok b u q).stay (λc v hc r=>k c v ?_ r) (λc r=>by rw [bD (nown c b r)];exact r) λc xs r=>by rw [bD (ntup c xs r)];exact r
   rcases hc with rfl | hc
   ·exact O0
   ·rintro rfl
    rcases he with z | z
    ·exact nown c b hc z
    ·rw [hc] at z;cases z;exact hb rfl
end
structure Un (fs ex:List QW) (H H':Hp) (h h':Sh):Prop where
 keep:∀b o,h.get? b=some o->H b=none->b∉fs->b∉ex->h'.get? b=some o
 slot:∀b o,h.get? b=some o->H b=none->b∈fs->b∉ex->∃sl,h'.get? b=some {o with slots:=sl}
 free:∀b o,h.get? b=some o->H b=none->b∉ex->H' b=none
 there:∀b o,h.get? b=some o->b∉ex->∃o',h'.get? b=some o'
 tups:∀b xs,H b=some (.tup xs)->H' b=some (.tup xs)
 frzs:∀b o u,H b=some (.frz o u)->H' b=some (.frz o u)
 tbls:∀b ps,H b=some (.tbl ps)->∃more,H' b=some (.tbl (ps++more))
section
variable {fs fs' ex ex':List QW}{H H1 H2:Hp}{h h1 h2 h':Sh}{a x e:QW}{o:HO}
theorem Un.any (u:Un fs ex H H1 h h1){b:QW}{ob:Obj}(q:h.get? b=some ob) (n:H b=none) (hx:b∉ex):∃sl,h1.get? b=some {ob with slots:=sl}:=by
 by_cases hb:b∈fs
 ·exact u.slot b ob q n hb hx
 ·exact ⟨ob.slots,u.keep b ob q n hb hx⟩
theorem Un.kept (k:∀b u,h.get? b=some u->h'.get? b=some u):Un fs ex H H h h':=
 ⟨λb ob q _ _ _=>k b ob q,λb ob q _ _ _=>⟨ob.slots,k b ob q⟩,λ_ _ _ n _=>n,λb ob q _=>⟨ob,k b ob q⟩,λ_ _ q=>q,λ_ _ _ q=>q,λ_ ps q=>⟨#[],by rw [q];simp⟩⟩
theorem Un.refl:Un fs ex H H h h:=Un.kept λ_ _ q=>q
theorem Un.laid (k:∀b u,h.get? b=some u->h'.get? b=some u) (hp:h.objs.size<=a) (hn:H a=none):Un fs ex H (upd H a o) h h' where
 keep:=λb u q _ _ _=>k b u q
 slot:=λb u q _ _ _=>⟨u.slots,k b u q⟩
 free:=λb u q n _=>by rw [bD (Rf (Rc (QY q) hp))];exact n
 there:=λb u q _=>⟨u,k b u q⟩
 tups:=λb xs q=>by rw [bD (fF q hn)];exact q
 frzs:=λb u xs q=>by rw [bD (fF q hn)];exact q
 tbls:=λb ps q=>⟨#[],by rw [bD (fF q hn),q];simp⟩
theorem Un.write (mu:GW (H x)) (he:e=x\/H e=some (.own x)) (k:∀b u,b≠e->h.get? b=some u->h'.get? b=some u) (O4:∃u,h'.get? e=some u):Un fs ex H (upd H x o) h h':=by
 have hx:∀b,H b=none->b≠x:=λb n z=>by subst z;rw [n] at mu;exact mu
 have hb:∀b,H b=none->b≠e:=λb n z=>by
  subst z
  rcases he with r | r
  ·exact hx b n r
  ·rw [n] at r;cases r
 have hm:∀b u,H b=some u->¬GW (some u)->b≠x:=λb u q nm z=>by subst z;rw [q] at mu;exact nm mu
 refine ⟨λb u q n _ _=>k b u (hb b n) q,λb u q n _ _=>⟨u.slots,k b u (hb b n) q⟩,λb u q n _=>by rw [bD (hx b n)];exact n,λb u q _=>?_,
  λb xs q=>by rw [bD (hm b _ q λz=>z)];exact q,λb u xs q=>by rw [bD (hm b _ q λz=>z)];exact q,λb ps q=>⟨#[],by rw [bD (hm b _ q λz=>z),q];simp⟩⟩
 by_cases O0:b=e
 ·subst O0;exact O4
 ·exact ⟨u,k b u O0 q⟩
end
def Hy (h:Sh) (H:Hp):List QW:=(QG h.objs.size).filter λa=>(H a).isSome
def nU (h:Sh) (H:Hp):Sh:=W.hideAll h (Hy h H)
theorem DM (h:Sh) (H:Hp):(nU h H).objs.size=h.objs.size:=W.hideAll_size _ _
theorem Fe {h:Sh}{H:Hp}{b:QW}{o:Obj}(e:h.get? b=some o) (n:H b=none):(nU h H).get? b=some o:=
 W.hideAll_get _ e λhm=>by
  have q:(H b).isSome=true:=(Rv.mp hm).2
  rw [n] at q;simp at q
theorem IE {h:Sh}{H:Hp}{b:QW}{o:Obj}(e:(nU h H).get? b=some o):h.get? b=some o/\H b=none:=by
 have e':h.get? b=some o:=W.of_hideAll (Hy h H) e
 refine ⟨e',?_⟩
 cases q:H b with
 | none=>rfl
 | some x=>
  have hm:b∈Hy h H:=Rv.mpr ⟨Ra.mpr (QY e'),by simp [q]⟩
  have z:(nU h H).get? b=none:=W.hideAll_none (Hy h H) hm
  rw [z] at e;cases e
def HL (g h:Sh) (L:QW):List (QW×Obj):=(QG h.objs.size).filterMap λa=>if a=L\/(g.get? a).isSome=true then none else (h.get? a).map λo=>(a,o)
def rest (g h:Sh) (L d:QW):List (QW×Obj):=(HL g h L).filter λp=>decide (p.1≠d)
structure Mod (K:Qx) (mg:Str->Option Qy) (base:Sh):Prop where
 kin:K.In base
 glob:base.Ns QM mg
 blt:∃mb,base.Ns Z4 mb/\∀x:Str,x≠"__name__"->mb x=RL x
 nolimit:base.NoLimit
structure Cx where
 prog:Q8
 w:Ru
 K:Qx
 mg:Str->Option Qy
 base:Sh
 A:Rx
 N:List Str
 s₀:QC
 H₀:Hp
 env:Env
 outer:List Env
 stack:List Env
 ex:List QW
 fn:Str->Bool
 calm:Bool
 pn:List (QW×Obj)
 xe:Qy->QC->Prop
def frs (l:List Env):List QW:=l.filterMap (·.frame)
abbrev Cx.fs (X:Cx):List QW:=frs X.outer
def qL (sc:Te) (x:Str):Prop:=sc.names.lookup x=some .local\/sc.names.lookup x=some .cell\/sc.names.lookup x=some .free
def Loc (sc:Te) (x:Str):Prop:=sc.names.lookup x=some .local\/sc.names.lookup x=some .cell
def Look (env:Env) (h:Sh) (m:Str->Option Qy) (x:Str) (u:Qy):Prop:=
 (env.kindOf x=some .local/\m x=some u)\/((env.kindOf x=some .cell\/env.kindOf x=some .free)/\∃c,env.cells.lookup x=some c/\h.IsCell c (some u))
structure Cx.Ok (X:Cx):Prop where
 mod:Mod X.K X.mg X.base
 kind:X.env.scope.kind=.function
 glob:X.env.globals=QM
 blt:X.env.builtins=Z4
 above:X.s₀.heap.objs.size<=X.env.locals
 inj:∀x y c,X.env.cells.lookup x=some c->X.env.cells.lookup y=some c->x=y
 has:∀x,(X.env.kindOf x=some .cell\/X.env.kindOf x=some .free)->∃c,X.env.cells.lookup x=some c
 cab:∀x c,X.fn x=true->X.env.cells.lookup x=some c->X.s₀.heap.objs.size<=c
 hd:X.calm=true->X.A.handled=none
 frames:X.A.frames=some X.stack
 stk:X.stack=X.outer\/(X.stack=X.env::X.outer/\X.env.frame=some X.env.locals)
 exf:∀b∈X.ex,b≠X.env.locals/\∀x c,X.env.cells.lookup x=some c->c≠b
 bs:∀b o,X.base.get? b=some o->X.s₀.heap.get? b=some o/\X.H₀ b=none
 bsz:X.base.objs.size<=X.s₀.heap.objs.size
 noex:∀b o,X.base.get? b=some o->b∉X.ex
 exfs:∀b∈X.ex,b∉X.fs
 funs:X.s₀.heap.FunFrames X.base X.outer
 frf:∀b∈X.fs,X.H₀ b=none
structure Inv (X:Cx) (pins:List (QW×Obj)) (σ:List (Option V)) (H:Hp) (s:QC):Prop where
 ok:X.Ok
 os:s.os=X.s₀.os
 bare:W6 s.gens
 base:Un X.fs X.ex X.H₀ H X.s₀.heap s.heap
 loc:∃m,s.heap.Ns X.env.locals m/\∀(i:Nat) (x:Str) (v:V),X.N[i]?=some x->σ[i]?=some (some v)->qL X.env.scope x->∃u,RelV v u/\Look X.env s.heap m x u
 cell:∀x c,X.env.cells.lookup x=some c->∃v,s.heap.IsCell c v
 free:H X.env.locals=none
 freeC:∀x c,X.env.cells.lookup x=some c->H c=none
 pin:∀p∈X.pn++pins,s.heap.get? p.1=some p.2/\H p.1=none/\p.1≠X.env.locals/\p.1∉X.fs/\∀v,p.2.data≠.cell v
 hok:gn X.prog X.w H s.heap
 len:σ.length=X.N.length
section
variable {X:Cx}{pins:List (QW×Obj)}{σ:List (Option V)}{H H':Hp}{s:QC}{h':Sh}
theorem Cx.Ok.nofr (ok:X.Ok){b:QW}{o:Obj}(e:X.base.get? b=some o):b∉X.fs:=λhb=>by
 have:=(ok.funs.mem hb).1
 rw [e] at this;cases this
theorem Inv.bs (I:Inv X pins σ H s):∀b o,X.base.get? b=some o->s.heap.get? b=some o/\H b=none:=λb o e=>
 ⟨I.base.keep b o (I.ok.bs b o e).1 (I.ok.bs b o e).2 (I.ok.nofr e) (I.ok.noex b o e),I.base.free b o (I.ok.bs b o e).1 (I.ok.bs b o e).2 (I.ok.noex b o e)⟩
theorem Inv.bk (I:Inv X pins σ H s):∀b o,X.base.get? b=some o->s.heap.get? b=some o:=λb o e=>(I.bs b o e).1
theorem Inv.mod (I:Inv X pins σ H s):Mod X.K X.mg X.base:=I.ok.mod
theorem Inv.kIn (I:Inv X pins σ H s):X.K.In s.heap:=I.ok.mod.kin.keeps I.bk
theorem Inv.lt (I:Inv X pins σ H s):X.env.locals < s.heap.objs.size:=let ⟨_,hn,_⟩:=I.loc;hn.lt
theorem Inv.sz (I:Inv X pins σ H s):X.s₀.heap.objs.size<=s.heap.objs.size:=Rr I.ok.above (W7 I.lt)
theorem Inv.nofs (I:Inv X pins σ H s){a:QW}(h:s.heap.objs.size<=a):a∉X.fs:=λhb=>by
 obtain ⟨_,o,ho,_⟩:=I.ok.funs.mem hb
 exact absurd (Rc (QY ho) (Rr I.sz h)) (SG _)
theorem Inv.cne (I:Inv X pins σ H s):∀x c,X.env.cells.lookup x=some c->c≠X.env.locals:=λx c e z=>by
 obtain ⟨v,o,ho,hd⟩:=I.cell x c e
 obtain ⟨m,⟨o',es,ep,ho',hd',_⟩,_⟩:=I.loc
 rw [z,ho'] at ho;cases ho;rw [hd'] at hd;cases hd
theorem Inv.funs (I:Inv X pins σ H s):s.heap.FunFrames X.base X.outer:=by
 have all:∀(l:List Env),(∀b∈frs l,b∈X.fs)->X.s₀.heap.FunFrames X.base l->s.heap.FunFrames X.base l:=by
  intro l
  induction l with
  | nil=>intro _ _;trivial
  | cons env r ih=>
   intro hs hl
   obtain ⟨hk,⟨L,o,hf,hn,ho,hd⟩,hr⟩:=hl
   have hL:L∈X.fs:=hs L (by unfold frs;rw [VO,hf];exact QH)
   obtain ⟨sl,e⟩:=I.base.slot L o ho (I.ok.frf L hL) hL λz=>I.ok.exfs L z hL
   exact ⟨hk,⟨L,_,hf,hn,e,hd⟩,ih (λb hb=>hs b (by unfold frs;rw [VO,hf];exact QF _ hb)) hr⟩
 exact all X.outer (λ_ hb=>hb) I.ok.funs
theorem Inv.stack (I:Inv X pins σ H s):s.heap.FunFrames X.base X.stack:=by
 rcases I.ok.stk with e | ⟨e,hf⟩
 ·rw [e];exact I.funs
 ·rw [e]
  obtain ⟨m,hn,_⟩:=I.loc
  refine .cons (by rw [I.ok.kind];decide) hf hn ?_ I.funs
  exact Heap.get?_none_of_le (Rr I.ok.bsz I.ok.above)
theorem Inv.stkSub (I:Inv X pins σ H s):∀b∈frs X.stack,b∈X.env.locals::X.fs:=λb hb=>by
 rcases I.ok.stk with e | ⟨e,hf⟩
 ·rw [e] at hb;exact QF _ hb
 ·rw [e] at hb
  unfold frs at hb
  rw [VO,hf] at hb
  exact hb
theorem Inv.stkFree (I:Inv X pins σ H s):∀b∈frs X.stack,H b=none:=λb hb=>by
 rcases Q3.mp (I.stkSub b hb) with e | hb
 ·rw [e];exact I.free
 ·obtain ⟨_,o,ho,_⟩:=I.ok.funs.mem hb
  exact I.base.free b o ho (I.ok.frf b hb) λz=>I.ok.exfs b z hb
theorem Inv.step {g':Array X3}{t':Nat}{d':Drawn}{ch:List QW}(I:Inv X pins σ H s)
  (hch:∀b∈ch,(b∈X.ex\/X.s₀.heap.objs.size<=b)/\b≠X.env.locals/\(∀x c,X.env.cells.lookup x=some c->c≠b)/\∀p∈X.pn++pins,p.1≠b)
  (keep:∀b o,b≠X.env.locals->b∉X.fs->b∉ch->s.heap.get? b=some o->H b=none->h'.get? b=some o)
  (slot:∀b o,b≠X.env.locals->b∈X.fs->b∉ch->s.heap.get? b=some o->H b=none->∃sl,h'.get? b=some {o with slots:=sl}) (free:∀b o,b∉ch->s.heap.get? b=some o->H b=none->H' b=none)
  (there:∀b o,b∉ch->s.heap.get? b=some o->∃o',h'.get? b=some o')
  (tups:∀b xs,H b=some (.tup xs)->H' b=some (.tup xs)) (frzs:∀b o u,H b=some (.frz o u)->H' b=some (.frz o u)) (tbls:∀b ps,H b=some (.tbl ps)->∃more,H' b=some (.tbl (ps++more)))
  (ns:∀m,s.heap.Ns X.env.locals m->h'.Ns X.env.locals m) (hok:gn X.prog X.w H' h') (hg:W6 g'):
  Inv X pins σ H' {s with heap:=h',gens:=g',drawn:=d',toks:=t'}:=by
 have neL:∀b o,X.s₀.heap.get? b=some o->b≠X.env.locals:=λb o e=>Rf (Rc (QY e) I.ok.above)
 have neC:∀b o,X.s₀.heap.get? b=some o->b∉X.ex->b∉ch:=λb o e hx hb=>by
  rcases (hch b hb).1 with z | z
  ·exact hx z
  ·exact absurd (Rc (QY e) z) (SG _)
 have cellK:∀x c,X.env.cells.lookup x=some c->∀v,s.heap.IsCell c v->h'.IsCell c v:=λx c e v ⟨o,ho,hd⟩=>by
  have nch:c∉ch:=λz=>(hch c z).2.2.1 x c e rfl
  by_cases hc:c∈X.fs
  ·obtain ⟨sl,q⟩:=slot c o (I.cne x c e) hc nch ho (I.freeC x c e)
   exact ⟨_,q,hd⟩
  ·exact ⟨o,keep c o (I.cne x c e) hc nch ho (I.freeC x c e),hd⟩
 refine ⟨I.ok,I.os,hg,⟨λb o e n hb hx=>?_,λb o e n hb hx=>?_,λb o e n hx=>?_,λb o e hx=>?_,λb xs e=>tups b xs (I.base.tups b xs e),λb o xs e=>frzs b o xs (I.base.frzs b o xs e),λb ps e=>?_⟩,?_,λx c e=>?_,?_,λx c e=>?_,λp hp=>?_,hok,I.len⟩
 ·exact keep b o (neL b o e) hb (neC b o e hx) (I.base.keep b o e n hb hx) (I.base.free b o e n hx)
 ·obtain ⟨sl,e1⟩:=I.base.slot b o e n hb hx
  obtain ⟨sl',e2⟩:=slot b _ (neL b o e) hb (neC b o e hx) e1 (I.base.free b o e n hx)
  exact ⟨sl',e2⟩
 ·obtain ⟨o',e1⟩:=I.base.there b o e hx
  exact free b o' (neC b o e hx) e1 (I.base.free b o e n hx)
 ·obtain ⟨o',e1⟩:=I.base.there b o e hx
  exact there b o' (neC b o e hx) e1
 ·obtain ⟨m1,e1⟩:=I.base.tbls b ps e
  obtain ⟨m2,e2⟩:=tbls b _ e1
  exact ⟨m1++m2,by rw [e2,Array.append_assoc]⟩
 ·obtain ⟨m,hn,hl⟩:=I.loc
  refine ⟨m,ns m hn,λi x v e1 e2 e3=>?_⟩
  obtain ⟨u,r,l⟩:=hl i x v e1 e2 e3
  refine ⟨u,r,?_⟩
  rcases l with l | ⟨k,c,e,z⟩
  ·exact .inl l
  ·exact .inr ⟨k,c,e,cellK x c e _ z⟩
 ·obtain ⟨v,z⟩:=I.cell x c e
  exact ⟨v,cellK x c e v z⟩
 ·obtain ⟨m,⟨o,_,_,ho,_⟩,_⟩:=I.loc
  exact free _ o (λz=>(hch _ z).2.1 rfl) ho I.free
 ·obtain ⟨v,o,ho,hd⟩:=I.cell x c e
  exact free c o (λz=>(hch c z).2.2.1 x c e rfl) ho (I.freeC x c e)
 ·obtain ⟨e,n,ne,nf,d⟩:=I.pin p hp
  have nch:p.1∉ch:=λz=>(hch p.1 z).2.2.2 p hp rfl
  exact ⟨keep p.1 p.2 ne nf nch e n,free p.1 p.2 nch e n,ne,nf,d⟩
theorem Inv.un {t':Nat}(I:Inv X pins σ H s) (u:Un X.fs [] H H' s.heap h') (hok:gn X.prog X.w H' h'):Inv X pins σ H' {s with heap:=h',toks:=t'}:=by
 obtain ⟨m,⟨o,es,ep,ho,r⟩,_⟩:=id I.loc
 obtain ⟨sl,hL⟩:=u.any ho I.free (by simp)
 exact I.step (g':=s.gens) (d':=s.drawn) (ch:=[]) (λ_ z=>nomatch z) (λb o _ hb _ e n=>u.keep b o e n hb (by simp)) (λb o _ hb _ e n=>u.slot b o e n hb (by simp)) (λb o _ e n=>u.free b o e n (by simp)) (λb o _ e=>u.there b o e (by simp)) u.tups u.frzs u.tbls (λm' hm=>by
  obtain ⟨o',es',ep',ho',r'⟩:=hm
  rw [ho] at ho';cases ho'
  exact ⟨_,es',ep',hL,r'⟩) hok I.bare
theorem Inv.call {g':Array X3}{t':Nat}{d':Drawn}{ch:List QW}(I:Inv X pins σ H s) (u:Un (frs X.stack) ch H H' s.heap h') (hok:gn X.prog X.w H' h') (hg:W6 g')
  (hch:∀b∈ch,(b∈X.ex\/X.s₀.heap.objs.size<=b)/\b≠X.env.locals/\(∀x c,X.env.cells.lookup x=some c->c≠b)/\∀p∈X.pn++pins,p.1≠b):
  Inv X pins σ H' {s with heap:=h',gens:=g',drawn:=d',toks:=t'}:=by
 obtain ⟨m,⟨o,es,ep,ho,r⟩,_⟩:=id I.loc
 obtain ⟨sl,hL⟩:=u.any ho I.free λz=>(hch _ z).2.1 rfl
 exact I.step (ch:=ch) hch (λb o hL hb hc e n=>u.keep b o e n (λz=>(Q3.mp (I.stkSub b z)).elim hL hb) hc) (λb o _ _ hc e n=>u.any e n hc) (λb o hc e n=>u.free b o e n hc) (λb o hc e=>u.there b o e hc) u.tups u.frzs u.tbls (λm' hm=>by
  obtain ⟨o',es',ep',ho',r'⟩:=hm
  rw [ho] at ho';cases ho'
  exact ⟨_,es',ep',hL,r'⟩) hok hg
theorem Inv.turned {t':Nat}{it:QW}(I:Inv X pins σ H s) (k:∀b o,b≠it->s.heap.get? b=some o->h'.get? b=some o) (hn:H it=none) (hL:it≠X.env.locals)
  (h1:it∈X.ex\/X.s₀.heap.objs.size<=it) (h2:∀x c,X.env.cells.lookup x=some c->c≠it) (h3:∀p∈X.pn++pins,p.1≠it):Inv X pins σ H {s with heap:=h',toks:=t'}:=by
 have nit:∀b u,H b=some u->b≠it:=λb u e z=>by rw [z,hn] at e;cases e
 refine I.step (g':=s.gens) (d':=s.drawn) (ch:=[it]) (λb hb=>?_) (λb o _ _ hc e _=>k b o (λz=>hc (by simp [z])) e) (λb o _ _ hc e _=>⟨o.slots,k b o (λz=>hc (by simp [z])) e⟩) (λ_ _ _ _ n=>n)
  (λb o hc e=>⟨o,k b o (λz=>hc (by simp [z])) e⟩) (λ_ _ e=>e) (λ_ _ _ e=>e) (λb ps e=>⟨#[],by rw [e];simp⟩) (λm hm=>?_) (λb u e=>?_) I.bare
 ·have e:b=it:=by simpa using hb
  subst e
  exact ⟨h1,hL,h2,h3⟩
 ·obtain ⟨o,es,ep,ho,r⟩:=hm
  exact ⟨o,es,ep,k _ o (S8 hL) ho,r⟩
 ·refine (I.hok b u e).stay (λc v hc q=>k c v ?_ q) (λ_ q=>q) λ_ _ q=>q
  rcases hc with z | z
  ·rw [z];exact nit b u e
  ·exact nit c _ z
theorem Inv.tok (I:Inv X pins σ H s) (t:Nat):Inv X pins σ H {s with toks:=t}:=I.un (h':=s.heap) (t':=t) Un.refl I.hok
theorem Inv.kept {t':Nat}(I:Inv X pins σ H s) (k:∀b u,s.heap.get? b=some u->h'.get? b=some u):Inv X pins σ H {s with heap:=h',toks:=t'}:=I.un (Un.kept k) (I.hok.kept k)
theorem Inv.laid {a:QW}{o:HO}{t':Nat}(I:Inv X pins σ H s) (k:∀b u,s.heap.get? b=some u->h'.get? b=some u) (hp:s.heap.objs.size<=a) (new:cg X.prog X.w (upd H a o) h' a o):
  Inv X pins σ (upd H a o) {s with heap:=h',toks:=t'}:=I.un (Un.laid k hp (I.hok.fresh hp)) (I.hok.laid k hp new)
theorem Inv.write {x e:QW}{o:HO}{t':Nat}(I:Inv X pins σ H s) (mu:GW (H x)) (he:e=x\/H e=some (.own x)) (k:∀b u,b≠e->s.heap.get? b=some u->h'.get? b=some u) (O4:∃u,h'.get? e=some u)
  (new:cg X.prog X.w (upd H x o) h' x o):Inv X pins σ (upd H x o) {s with heap:=h',toks:=t'}:=I.un (Un.write mu he k O4) (I.hok.write mu he k O4 new)
theorem Inv.pins_of {pins':List (QW×Obj)}(I:Inv X pins σ H s) (h:∀p∈pins',s.heap.get? p.1=some p.2/\H p.1=none/\p.1≠X.env.locals/\p.1∉X.fs/\∀v,p.2.data≠.cell v):Inv X pins' σ H s:=
 ⟨I.ok,I.os,I.bare,I.base,I.loc,I.cell,I.free,I.freeC,λp hp=>(Rt.mp hp).elim (λz=>I.pin p (SX _ z)) (h p),I.hok,I.len⟩
theorem yJ {N:List Str}(hN:N.Nodup){i j:Nat}{x:Str}(a:N[i]?=some x) (b:N[j]?=some x):i=j:=by
 obtain ⟨h1,e1⟩:=Rj.mp a
 obtain ⟨h2,e2⟩:=Rj.mp b
 exact (WL hN).mp (e1.trans e2.symm)
theorem mC {M:abn}{A:Rx}{E:Qy->QC->Prop}{i:Nat}{x:Str}{v:V}{u:Qy}{Q:Unit->QC->Prop}(I:Inv X pins σ H s) (hN:X.N.Nodup) (hi:X.N[i]?=some x) (hx:Loc X.env.scope x) (r:RelV v u)
  (h:∀s',Inv X pins (σ.set i (some v)) H s'->(∃a,RZ a s.heap s'.heap/\(a=X.env.locals\/X.env.cells.lookup x=some a))->Q () s') (hf:X.fn x=true\/X.env.scope.names.lookup x=some .local:=by first | exact .inl rfl | exact .inr rfl | assumption):Q7 M A (aaG X.env x u) Q E s:=by
 obtain ⟨m,hn,hl⟩:=id I.loc
 have hcls:(X.env.scope.kind == .class || (X.env.scope.kind == .module && X.env.locals != X.env.globals))=false:=by rw [I.ok.kind];rfl
 have hiσ:i < σ.length:=by rw [I.len];exact (Rj.mp hi).1
 have cne:=I.cne
 have tracked:∀{a:QW}{h':Sh},(∃o,s.heap.get? a=some o/\H a=none)->RZ a s.heap h'->gn X.prog X.w H h':=fun {a h'} ha hs b ob e=>by
  obtain ⟨_,_,hfree⟩:=ha
  refine (I.hok b ob e).stay (λc w' hc q=>(hs.2 c ?_).trans q) (λ_ q=>q) λ_ _ q=>q
  rintro rfl
  rcases hc with rfl | hc
  ·rw [hfree] at e;cases e
  ·rw [hfree] at hc;cases hc
 rcases hx with hk | hk
 ·refine wpAny_storeName_local hk hn (λh' hn' hs=>?_) hcls
  obtain ⟨oL,_,_,Ql,_⟩:=id hn
  refine h _ ⟨I.ok,I.os,I.bare,⟨λb o e n hb hx=>?_,λb o e n hb hx=>?_,I.base.free,λb o e hx=>?_,I.base.tups,I.base.frzs,I.base.tbls⟩,⟨_,hn',λj y v' e1 e2 e3=>?_⟩,λy c e=>?_,I.free,I.freeC,λp hp=>?_,tracked ⟨oL,Ql,I.free⟩ hs,by simpa using I.len⟩ ⟨_,hs,.inl rfl⟩
  ·exact (hs.2 b (Rf (Rc (QY e) I.ok.above))).trans (I.base.keep b o e n hb hx)
  ·obtain ⟨sl,e1⟩:=I.base.slot b o e n hb hx
   exact ⟨sl,(hs.2 b (Rf (Rc (QY e) I.ok.above))).trans e1⟩
  ·obtain ⟨o',e1⟩:=I.base.there b o e hx
   exact ⟨o',(hs.2 b (Rf (Rc (QY e) I.ok.above))).trans e1⟩
  ·by_cases hj:j=i
   ·subst hj
    rw [hi] at e1;cases e1
    rw [R_ hiσ] at e2
    cases e2
    exact ⟨u,r,.inl ⟨hk,by simp⟩⟩
   ·rw [RA (S8 hj)] at e2
    obtain ⟨u',r',q⟩:=hl j y v' e1 e2 e3
    refine ⟨u',r',?_⟩
    rcases q with ⟨k,e⟩ | ⟨k,c,e,z⟩
    ·refine .inl ⟨k,?_⟩
     have:y≠x:=λe=>hj (yJ hN e1 (e▸hi))
     simp [this,e]
    ·exact .inr ⟨k,c,e,z.sameBut hs (cne y c e)⟩
  ·obtain ⟨w',z⟩:=I.cell y c e
   exact ⟨w',z.sameBut hs (cne y c e)⟩
  ·obtain ⟨e,n,ne,nf,d⟩:=I.pin p hp
   exact ⟨(hs.2 p.1 ne).trans e,n,ne,nf,d⟩
 ·have hfn:X.fn x=true:=by
   rcases hf with z | z
   ·exact z
   ·rw [z] at hk;cases hk
  obtain ⟨c,hc⟩:=I.ok.has x (.inl hk)
  obtain ⟨w',z⟩:=I.cell x c hc
  refine wpAny_storeName_cell I.ok.kind hk hc z (λh' hc' hs=>?_)
  obtain ⟨oc,hoc,PK⟩:=id z
  refine h {s with heap:=h'} ⟨I.ok,I.os,I.bare,⟨λb o e n hb hx=>?_,λb o e n hb hx=>?_,I.base.free,λb o e hx=>?_,I.base.tups,I.base.frzs,I.base.tbls⟩,⟨m,hn.sameBut hs (S8 (cne x c hc)),λj y v' e1 e2 e3=>?_⟩,λy c' e=>?_,I.free,I.freeC,λp hp=>?_,tracked ⟨oc,hoc,I.freeC x c hc⟩ hs,by simpa using I.len⟩ ⟨c,hs,.inr hc⟩
  ·exact (hs.2 b (Rf (Rc (QY e) (I.ok.cab x c hfn hc)))).trans (I.base.keep b o e n hb hx)
  ·obtain ⟨sl,e1⟩:=I.base.slot b o e n hb hx
   exact ⟨sl,(hs.2 b (Rf (Rc (QY e) (I.ok.cab x c hfn hc)))).trans e1⟩
  ·obtain ⟨o',e1⟩:=I.base.there b o e hx
   exact ⟨o',(hs.2 b (Rf (Rc (QY e) (I.ok.cab x c hfn hc)))).trans e1⟩
  ·by_cases hj:j=i
   ·subst hj
    rw [hi] at e1;cases e1
    rw [R_ hiσ] at e2
    cases e2
    exact ⟨u,r,.inr ⟨.inl hk,c,hc,hc'⟩⟩
   ·rw [RA (S8 hj)] at e2
    obtain ⟨u',r',q⟩:=hl j y v' e1 e2 e3
    refine ⟨u',r',?_⟩
    rcases q with q | ⟨k,c',e,z'⟩
    ·exact .inl q
    ·refine .inr ⟨k,c',e,z'.sameBut hs ?_⟩
     rintro rfl
     exact hj (yJ hN e1 (I.ok.inj _ _ _ e hc▸hi))
  ·by_cases hcc:c'=c
   ·subst hcc;exact ⟨_,hc'⟩
   ·obtain ⟨w2,z2⟩:=I.cell y c' e
    exact ⟨w2,z2.sameBut hs hcc⟩
  ·obtain ⟨e,n,ne,nf,d⟩:=I.pin p hp
   refine ⟨(hs.2 p.1 ?_).trans e,n,ne,nf,d⟩
   intro q
   rw [q,hoc] at e
   have q':oc=p.2:=RS e
   exact d w' (by rw [<-q'];exact PK)
theorem rR {M:abn}{A:Rx}{E:Qy->QC->Prop}{i:Nat}{x:Str}{v:V}{u:Qy}{Q:Unit->QC->Prop}(I:Inv X pins σ H s) (hN:X.N.Nodup) (hi:X.N[i]?=some x) (hx:Loc X.env.scope x) (r:RelV v u)
  (h:∀s',Inv X pins (σ.set i (some v)) H s'->Q () s') (hf:X.fn x=true\/X.env.scope.names.lookup x=some .local:=by first | exact .inl rfl | exact .inr rfl | assumption):Q7 M A (aaG X.env x u) Q E s:=
 mC I hN hi hx r (λs' I' _=>h s' I') hf
theorem Inv.call' {s':QC}{ch:List QW}(I:Inv X pins σ H s) (ho:s'.os=s.os) (u:Un (frs X.stack) ch H H' s.heap s'.heap) (hok:gn X.prog X.w H' s'.heap) (hg:W6 s'.gens)
  (hch:∀b∈ch,(b∈X.ex\/X.s₀.heap.objs.size<=b)/\b≠X.env.locals/\(∀x c,X.env.cells.lookup x=some c->c≠b)/\∀p∈X.pn++pins,p.1≠b):Inv X pins σ H' s':=by
 obtain ⟨h',g',d',t',o'⟩:=s'
 have e:o'=s.os:=ho
 subst e
 exact I.call (g':=g') (t':=t') (d':=d') u hok hg hch
end
abbrev XK:=Qy->Option QW->Hp->Prop
abbrev St:=List (Option V)
abbrev VK:=V->Hp->Prop
abbrev TE:=St->Hp->VK->Prop
abbrev TT:=St->Hp->(Bool->Hp->Prop)->Prop
abbrev TA:=St->Hp->(List V->Hp->Prop)->Prop
structure Ends where
 nx:St->Hp->Prop
 rt:VK
 bk:St->Hp->Prop:=λ_ _=>False
 ct:St->Hp->Prop:=λ_ _=>False
abbrev TS:=Ends->St->Hp->Prop
def EP (X:Cx) (pins:List (QW×Obj)) (σ:St) (Q:VK) (u:Qy) (s':QC):Prop:=∃v H',Inv X pins σ H' s'/\RelV v u/\Q v H'
def TP (X:Cx) (pins:List (QW×Obj)) (σ:St) (Q:Bool->Hp->Prop) (b:Bool) (s':QC):Prop:=∃H',Inv X pins σ H' s'/\Q b H'
def AP (X:Cx) (pins:List (QW×Obj)) (σ:St) (Q:List V->Hp->Prop) (us:List Qy) (s':QC):Prop:=∃vs H',Inv X pins σ H' s'/\Vals vs us/\Q vs H'
def SP (X:Cx) (pins:List (QW×Obj)) (D:Ends) (f:Flow) (s':QC):Prop:=
 match f with
 | .next=>∃σ' H',Inv X pins σ' H' s'/\D.nx σ' H'
 | .brk=>∃σ' H',Inv X pins σ' H' s'/\D.bk σ' H'
 | .cont=>∃σ' H',Inv X pins σ' H' s'/\D.ct σ' H'
 | .ret u=>∃v σ' H',Inv X pins σ' H' s'/\RelV v u/\D.rt v H'
def PE (X:Cx) (e:Rp) (t:TE):Prop:=
 ∀(pins:List (QW×Obj)) (s:QC) (σ:St) (H:Hp) (Q:VK),Inv X pins σ H s->t σ H Q->Q7 (Rb X.prog X.w) X.A (eval e X.env) (EP X pins σ Q) X.xe s
def PT (X:Cx) (e:Rp) (t:TT):Prop:=
 ∀(pins:List (QW×Obj)) (s:QC) (σ:St) (H:Hp) (Q:Bool->Hp->Prop),Inv X pins σ H s->t σ H Q->Q7 (Rb X.prog X.w) X.A (XD e X.env (eval e X.env)) (TP X pins σ Q) X.xe s
def PW (X:Cx) (e:Rp) (t:TT):Prop:=
 ∀(whole:Sem Qy) (pins:List (QW×Obj)) (s:QC) (σ:St) (H:Hp) (Q:Bool->Hp->Prop),Inv X pins σ H s->t σ H Q->Q7 (Rb X.prog X.w) X.A (XD e X.env whole) (TP X pins σ Q) X.xe s
theorem PW.pt {X:Cx}{e:Rp}{t:TT}(h:PW X e t):PT X e t:=h _
def PA (X:Cx) (es:List Rp) (t:TA):Prop:=
 ∀(pos:Pos) (pins:List (QW×Obj)) (s:QC) (σ:St) (H:Hp) (Q:List V->Hp->Prop),Inv X pins σ H s->t σ H Q->Q7 (Rb X.prog X.w) X.A (spliced (SY pos (QU es X.env))) (AP X pins σ Q) X.xe s
def PS (X:Cx) (st:T7) (t:TS):Prop:=
 ∀(pins:List (QW×Obj)) (s:QC) (σ:St) (H:Hp) (D:Ends),Inv X pins σ H s->t D σ H->Q7 (Rb X.prog X.w) X.A (exec st X.env) (SP X pins D) X.xe s
def j5 (X:Cx) (st:List T7) (t:TS):Prop:=
 ∀(pins:List (QW×Obj)) (s:QC) (σ:St) (H:Hp) (D:Ends),Inv X pins σ H s->t D σ H->Q7 (Rb X.prog X.w) X.A (execs st X.env) (SP X pins D) X.xe s
theorem bP {α:Type}{t:Sem α}{Q Q':α->QC->Prop}{M:abn}{A:Rx}{E:Qy->QC->Prop}{s:QC}(h:Q7 M A t Q E s) (hQ:∀a s,Q a s->Q' a s):Q7 M A t Q' E s:=RJ h hQ λ_ _ x=>x
section
variable {X:Cx}
theorem bin {a b:Rp}{ta tb:TE}(ha:PE X a ta) (hb:PE X b tb){pins:List (QW×Obj)}{s:QC}{σ:St}{H:Hp}{R:V->V->Hp->Prop}(I:Inv X pins σ H s) (h:ta σ H λx H1=>tb σ H1 λy H2=>R x y H2)
  {α:Type}{Q:α->QC->Prop}{f:Qy->Qy->Sem α}
  (hf:∀v u s2 x y H2,Inv X pins σ H2 s2->RelV x v->RelV y u->R x y H2->Q7 (Rb X.prog X.w) X.A (f v u) Q X.xe s2):
  Q7 (Rb X.prog X.w) X.A (eval a X.env) (λv s₁=>Q7 (Rb X.prog X.w) X.A (eval b X.env) (λu s₂=>Q7 (Rb X.prog X.w) X.A (f v u) Q X.xe s₂) X.xe s₁) X.xe s:=by
 refine bP (ha pins s σ H _ I h) λv s1 ⟨x,H1,I1,r1,q1⟩=>?_
 refine bP (hb pins s1 σ H1 _ I1 q1) λu s2 ⟨y,H2,I2,r2,q2⟩=>?_
 exact hf v u s2 x y H2 I2 r1 r2 q2
def LV (i:Nat):TE:=λσ H Q=>∃v,σ[i]?=some (some v)/\Q v H
def tC (v:V):TE:=λ_ H Q=>Q v H
theorem lg {i:Nat}{x:Str}{pos:Pos}(hN:X.N[i]?=some x) (hv:qL X.env.scope x) (hd:(x == ("__debug__":Str))=false:=by decide) (hcd:(x == ("__classdict__":Str))=false:=by decide):PE X (.Name x pos) (LV i):=by
 intro pins s σ H Q I h
 obtain ⟨v,e,h⟩:=h
 obtain ⟨m,hn,hl⟩:=I.loc
 obtain ⟨u,r,l⟩:=hl i x v hN e hv
 have fin:EP X pins σ Q u s:=⟨v,H,I,r,h⟩
 rcases l with ⟨hk,hm⟩ | ⟨hk,c,hc,hcell⟩
 ·exact Z5 (Xr I.ok.kind hk hn hm fin) hd
 ·rcases hk with hk | hk
  ·exact Z5 (XN I.ok.kind hk hc hcell fin) hd
  ·exact Z5 (wpAny_loadName_free I.ok.kind hk hc hcell fin hcd) hd
theorem Lb {i j pos}:PE X (.Constant (.int i) j pos) (tC (.int i)):=λ_ _ _ H _ I h=>wpAny_Constant_int ⟨.int i,H,I.tok _,⟨_,rfl⟩,h⟩
theorem ME {b j pos}:PE X (.Constant (.bool b) j pos) (tC (.bl b)):=λ_ _ _ H _ I h=>Constant_bool ⟨.bl b,H,I,rfl,h⟩
theorem Ld {j pos}:PE X (.Constant .none j pos) (tC .non):=λ_ _ _ H _ I h=>Constant_none ⟨.non,H,I,rfl,h⟩
theorem Lg {x j pos}:PE X (.Constant (.str x) j pos) (tC (.str x)):=λ_ _ _ H _ I h=>Calls.Constant_str ⟨.str x,H,I.tok _,⟨_,rfl⟩,h⟩
def Gl (X:Cx) (x:Str):Prop:=X.env.kindOf x=some .globalImplicit
theorem AK {E:Qy->QC->Prop}{pins:List (QW×Obj)}{s:QC}{σ:St}{H:Hp}{x:Str}{u:Qy}{pos:Pos}{Q:Qy->QC->Prop}(I:Inv X pins σ H s) (hg:Gl X x) (hm:X.mg x=some u) (h:Q u s)
  (hd:(x == ("__debug__":Str))=false:=by decide):Q7 (Rb X.prog X.w) X.A (eval (.Name x pos) X.env) Q E s:=
 V2 I.ok.kind hg (Calls.loadGlobal_global (by rw [I.ok.glob];exact I.mod.glob.keeps I.bk) hm h) hd
theorem tE {E:Qy->QC->Prop}{pins:List (QW×Obj)}{s:QC}{σ:St}{H:Hp}{x:Str}{u:Qy}{pos:Pos}{Q:Qy->QC->Prop}(I:Inv X pins σ H s) (hg:Gl X x) (hm:X.mg x=none) (hv:RL x=some u) (h:Q u s)
  (hn:x≠"__name__":=by decide) (hd:(x == ("__debug__":Str))=false:=by decide):Q7 (Rb X.prog X.w) X.A (eval (.Name x pos) X.env) Q E s:=by
 obtain ⟨mb,h1,h2⟩:=I.mod.blt
 exact V2 I.ok.kind hg (Calls.loadGlobal_builtin (by rw [I.ok.glob];exact I.mod.glob.keeps I.bk) hm (by rw [I.ok.blt];exact h1.keeps I.bk) ((h2 x hn).trans hv) h) hd
theorem AU {x:Str}{v:V}{u:Qy}{pos:Pos}(hg:Gl X x) (hm:X.mg x=some u) (r:RelV v u) (hd:(x == ("__debug__":Str))=false:=by decide):PE X (.Name x pos) (tC v):=
 λ_ _ _ H _ I h=>AK I hg hm ⟨v,H,I,r,h⟩ hd
theorem IS {x:Str}{v:V}{u:Qy}{pos:Pos}(hg:Gl X x) (hm:X.mg x=none) (hv:RL x=some u) (r:RelV v u) (hn:x≠"__name__":=by decide) (hd:(x == ("__debug__":Str))=false:=by decide):PE X (.Name x pos) (tC v):=
 λ_ _ _ H _ I h=>tE I hg hm hv ⟨v,H,I,r,h⟩ hn hd
variable {a b:Rp}{ta tb:TE}{pos:Pos}
def PC (X:Cx) (op:ZN) (a b:Rp) (t:TE):Prop:=
 ∀(pins:List (QW×Obj)) (s:QC) (σ:St) (H:Hp) (Q:VK),Inv X pins σ H s->t σ H Q->
  Q7 (Rb X.prog X.w) X.A (eval a X.env) (λv s₁=>Q7 (Rb X.prog X.w) X.A (eval b X.env) (λu s₂=>Q7 (Rb X.prog X.w) X.A (R0 op v u) (EP X pins σ Q) X.xe s₂) X.xe s₁) X.xe s
theorem FI (b:Rp){op:ZN}(h:op≠.In) (h2:op≠.NotIn):R6 op b=false:=by
 have e1:(op == abE)=false:=by cases op <;> first | rfl | exact absurd rfl h
 have e2:(op == aaV)=false:=by cases op <;> first | rfl | exact absurd rfl h2
 cases b <;> simp [R6,e1,e2]
def tB (t:TE):TT:=λσ H Q=>t σ H λx H1=>∃c,x=.bl c/\Q c H1
theorem Oc {op:ZN}{t:TE}(h:PC X op a b t) (h1:R6 op b=false:=by first | exact FI _ (by decide) (by decide) | rfl):PT X (.Compare a [op] [b] pos) (tB t):=by
 intro pins s σ H Q I hw
 refine W8 (bP (h pins s σ H _ I hw) λv s1 h1=>bP h1 λu s2 h2=>bP h2 λc s3 ⟨x,H1,I1,r1,q1⟩=>?_) h1
 obtain ⟨d,rfl,q⟩:=q1
 cases r1
 exact RN ⟨H1,I1,q⟩
theorem Ls {e:Rp}{t:TE}(h:PE X e t) (he:∀whole,XD e X.env whole=(do let v <-whole;TX e.pos;holding [v] (truthy v)):=by intro _;rfl):PT X e (tB t):=by
 intro pins s σ H Q I hw
 refine isTrue_plain (bP (h pins s σ H _ I hw) λv s1 ⟨x,H1,I1,r1,q1⟩=>?_) (he _)
 obtain ⟨d,rfl,q⟩:=q1
 cases r1
 exact RN ⟨H1,I1,q⟩
variable {tA tB':TT}{rest:List Rp}
def NT (t u:TT):TT:=λσ H Q=>t σ H λc H1=>if c=true then u σ H1 Q else Q false H1
def Oi (t u:TT):TT:=λσ H Q=>t σ H λc H1=>if c=true then Q true H1 else u σ H1 Q
def NY (t:TT):TT:=λσ H Q=>t σ H λc H1=>Q (!c) H1
theorem I_ (ha:PT X a tA):PW X (.BoolOp .And [a] pos) tA:=by
 intro wh pins s σ H Q I h
 refine isTrue_and (bP (ha pins s σ H Q I h) λc s1 e=>?_)
 cases c with
 | true=>exact isTrue_and_nil e
 | false=>exact e
theorem Lw (ha:PT X a tA):PW X (.BoolOp .Or [a] pos) tA:=by
 intro wh pins s σ H Q I h
 refine isTrue_or (bP (ha pins s σ H Q I h) λc s1 e=>?_)
 cases c with
 | false=>exact isTrue_or_nil e
 | true=>exact e
theorem Lv (ha:PT X a tA) (hb:PW X (.BoolOp .And (b::rest) pos) tB'):PW X (.BoolOp .And (a::b::rest) pos) (NT tA tB'):=by
 intro wh pins s σ H Q I h
 refine isTrue_and (bP (ha pins s σ H _ I h) λc s1 ⟨H1,I1,q1⟩=>?_)
 cases c with
 | true=>exact hb wh pins s1 σ H1 Q I1 q1
 | false=>exact ⟨H1,I1,q1⟩
theorem MK (ha:PT X a tA) (hb:PW X (.BoolOp .Or (b::rest) pos) tB'):PW X (.BoolOp .Or (a::b::rest) pos) (Oi tA tB'):=by
 intro wh pins s σ H Q I h
 refine isTrue_or (bP (ha pins s σ H _ I h) λc s1 ⟨H1,I1,q1⟩=>?_)
 cases c with
 | true=>exact ⟨H1,I1,q1⟩
 | false=>exact hb wh pins s1 σ H1 Q I1 q1
theorem Lr (ha:PT X a tA):PT X (.UnaryOp .Not a pos) (NY tA):=by
 intro pins s σ H Q I h
 exact isTrue_not (ha pins s σ H (λc H1=>Q (!c) H1) I h)
def MT (ta tb:TE):TE:=λσ H Q=>ta σ H λx H1=>∃c,x=.bl c/\if c=true then tb σ H1 Q else Q (.bl false) H1
def NZ (ta tb:TE):TE:=λσ H Q=>ta σ H λx H1=>∃c,x=.bl c/\if c=true then Q (.bl true) H1 else tb σ H1 Q
def MX (ta:TE):TE:=λσ H Q=>ta σ H λx H1=>∃c,x=.bl c/\Q (.bl (!c)) H1
theorem Lf {op}{t:TE}(h:PE X a t):PE X (.BoolOp op [a] pos) t:=λpins s σ H Q I hw=>BoolOp_one (h pins s σ H Q I hw)
theorem K_ (ha:PE X a ta) (hb:PE X (.BoolOp .And (b::rest) pos) tb):PE X (.BoolOp .And (a::b::rest) pos) (MT ta tb):=by
 intro pins s σ H Q I h
 refine BoolOp_and (bP (ha pins s σ H _ I h) λv s1 ⟨x,H1,I1,r1,q1⟩=>?_)
 obtain ⟨c,rfl,q1⟩:=q1
 cases r1
 refine RN ?_
 cases c with
 | true=>exact hb pins s1 σ H1 Q I1 q1
 | false=>exact ⟨.bl false,H1,I1,rfl,q1⟩
theorem MH (ha:PE X a ta) (hb:PE X (.BoolOp .Or (b::rest) pos) tb):PE X (.BoolOp .Or (a::b::rest) pos) (NZ ta tb):=by
 intro pins s σ H Q I h
 refine BoolOp_or (bP (ha pins s σ H _ I h) λv s1 ⟨x,H1,I1,r1,q1⟩=>?_)
 obtain ⟨c,rfl,q1⟩:=q1
 cases r1
 refine RN ?_
 cases c with
 | false=>exact hb pins s1 σ H1 Q I1 q1
 | true=>exact ⟨.bl true,H1,I1,rfl,q1⟩
theorem Le (ha:PE X a ta):PE X (.UnaryOp .Not a pos) (MX ta):=by
 intro pins s σ H Q I h
 refine UnaryOp_ (bP (ha pins s σ H _ I h) λv s1 ⟨x,H1,I1,r1,q1⟩=>?_)
 obtain ⟨c,rfl,q1⟩:=q1
 cases r1
 exact not_of (RN ⟨.bl (!c),H1,I1,rfl,q1⟩)
def Oh (t:TT) (ta tb:TE):TE:=λσ H Q=>t σ H λc H1=>if c=true then ta σ H1 Q else tb σ H1 Q
theorem Gb {c:Rp}(hc:PT X c tA) (ha:PE X a ta) (hb:PE X b tb):PE X (.IfExp c a b pos) (Oh tA ta tb):=by
 intro pins s σ H Q I h
 refine wpAny_IfExp (bP (hc pins s σ H _ I h) λd s1 ⟨H1,I1,q1⟩=>?_)
 cases d with
 | true=>exact ha pins s1 σ H1 Q I1 q1
 | false=>exact hb pins s1 σ H1 Q I1 q1
end
def cC (K:Qx) (H:Hp) (a:QW) (xs:List V):Prop:=
 Rd H a (.lst xs)\/
  ∃(o:Obj) (its:Array Qy) (n:Nat),K.lookup a=some o/\o.cls=.type "list"/\o.dict=none/\o.data=.seq its n/\its.size<=sizeLine/\Vals xs its.toList
def cY (K:Qx) (H:Hp) (a:QW) (xs:List V):Prop:=
 Rd H a (.tup xs)\/
  ∃(o:Obj) (its:Array Qy) (n:Nat),K.lookup a=some o/\o.cls=.type "tuple"/\o.data=.seq its n/\its.size<=sizeLine/\Vals xs its.toList
def Np:Qy->Option V
 | .none=>some .non
 | .bool b=>some (.bl b)
 | .int i _=>some (.int i)
 | .str x _=>some (.str x)
 | .bytes b _=>some (.byt b)
 | .float b _=>some (.flt b)
 | .ref a=>some (.ref a)
 | .type n=>some (.ty n)
 | _=>none
theorem RelV.abs {x:V}{u:Qy}(r:RelV x u):Np u=some x:=by
 cases x with
 | non=>cases r;rfl
 | bl _=>cases r;rfl
 | int _=>obtain ⟨t,rfl⟩:=r;rfl
 | str _=>obtain ⟨t,rfl⟩:=r;rfl
 | byt _=>obtain ⟨t,rfl⟩:=r;rfl
 | flt _=>obtain ⟨t,rfl⟩:=r;rfl
 | ref _=>cases r;rfl
 | ty _=>cases r;rfl
theorem RelV.inj {x y:V}{u:Qy}(r:RelV x u) (q:RelV y u):x=y:=RS (r.abs.symm.trans q.abs)
theorem Vals.inj:∀{xs ys:List V}{us:List Qy},Vals xs us->Vals ys us->xs=ys
 | _,_,_,.nil,.nil=>rfl
 | _,_,_,.cons r t,.cons r' t'=>by rw [r.inj r',Vals.inj t t']
section
variable {X:Cx}{pins:List (QW×Obj)}{σ:St}{H:Hp}{s:QC}{a:QW}{xs ys:List V}
theorem cC.of {K:Qx}(h:H a=some (.lst xs)):cC K H a xs:=.inl (.inl h)
theorem Inv.list (I:Inv X pins σ H s) (h:cC X.K H a xs):∃its:List Qy,Vals xs its/\PlainL s.heap a its.toArray/\xs.length<=sizeLine:=by
 rcases h with h | ⟨o,its,n,hk,hc,hd,hs,hz,r⟩
 ·obtain ⟨z,its,n,r,e⟩:=h.ok I.hok
  exact ⟨its,r,⟨_,n,e,rfl,rfl,rfl⟩,z⟩
 ·refine ⟨its.toList,r,⟨o,n,I.kIn a o hk,hc,hd,by simpa using hs⟩,?_⟩
  have e:=r.length
  simp only [QN] at e
  omega
theorem Inv.tuple (I:Inv X pins σ H s) (h:cY X.K H a xs):∃its:List Qy,Vals xs its/\aaU s.heap a its.toArray/\xs.length<=sizeLine:=by
 rcases h with h | ⟨o,its,n,hk,hc,hs,hz,r⟩
 ·obtain ⟨z,its,r,p⟩:=h.ok I.hok
  exact ⟨its,r,p,z⟩
 ·refine ⟨its.toList,r,⟨o,I.kIn a o hk,hc,n,by simpa using hs⟩,?_⟩
  have e:=r.length
  simp only [QN] at e
  omega
theorem Inv.list_inj (I:Inv X pins σ H s) (h:cC X.K H a xs) (h':cC X.K H a ys):xs=ys:=by
 obtain ⟨its,r,⟨o,n,e,_,_,d⟩,_⟩:=I.list h
 obtain ⟨its',r',⟨o',n',e',_,_,d'⟩,_⟩:=I.list h'
 rw [e] at e';cases e'
 rw [d] at d'
 injection d' with d1 _
 have:its=its':=by simpa using congrArg W9 d1
 subst this
 exact r.inj r'
theorem Inv.tuple_inj (I:Inv X pins σ H s) (h:cY X.K H a xs) (h':cY X.K H a ys):xs=ys:=by
 obtain ⟨its,r,⟨o,e,_,n,d⟩,_⟩:=I.tuple h
 obtain ⟨its',r',⟨o',e',_,n',d'⟩,_⟩:=I.tuple h'
 rw [e] at e';cases e'
 rw [d] at d'
 injection d' with d1 _
 have:its=its':=by simpa using congrArg W9 d1
 subst this
 exact r.inj r'
end
abbrev Cx.wish (X:Cx) (E:Qy->QC->Prop):Cx:={X with xe:=E}
abbrev Cx.nox (X:Cx):Cx:=X.wish λ_ _=>False
theorem Cx.Ok.wish {X:Cx}(ok:X.Ok) (E:Qy->QC->Prop):(X.wish E).Ok:=
 ⟨ok.mod,ok.kind,ok.glob,ok.blt,ok.above,ok.inj,ok.has,ok.cab,ok.hd,ok.frames,ok.stk,ok.exf,ok.bs,ok.bsz,ok.noex,ok.exfs,ok.funs,ok.frf⟩
theorem Cx.Ok.unwish {X:Cx}{E:Qy->QC->Prop}(ok:(X.wish E).Ok):X.Ok:=
 ⟨ok.mod,ok.kind,ok.glob,ok.blt,ok.above,ok.inj,ok.has,ok.cab,ok.hd,ok.frames,ok.stk,ok.exf,ok.bs,ok.bsz,ok.noex,ok.exfs,ok.funs,ok.frf⟩
section
variable {X:Cx}{pins:List (QW×Obj)}{σ:St}{H:Hp}{s:QC}{E:Qy->QC->Prop}
theorem Inv.wish (I:Inv X pins σ H s) (E:Qy->QC->Prop):Inv (X.wish E) pins σ H s:=⟨I.ok.wish E,I.os,I.bare,I.base,I.loc,I.cell,I.free,I.freeC,I.pin,I.hok,I.len⟩
theorem Inv.unwish (I:Inv (X.wish E) pins σ H s):Inv X pins σ H s:=⟨I.ok.unwish,I.os,I.bare,I.base,I.loc,I.cell,I.free,I.freeC,I.pin,I.hok,I.len⟩
theorem SP.unwish {D:Ends}{f:Flow}{s':QC}(h:SP (X.wish E) pins D f s'):SP X pins D f s':=by
 cases f with
 | next=>obtain ⟨σ',H',I,q⟩:=h;exact ⟨σ',H',I.unwish,q⟩
 | brk=>obtain ⟨σ',H',I,q⟩:=h;exact ⟨σ',H',I.unwish,q⟩
 | cont=>obtain ⟨σ',H',I,q⟩:=h;exact ⟨σ',H',I.unwish,q⟩
 | ret u=>obtain ⟨v,σ',H',I,r,q⟩:=h;exact ⟨v,σ',H',I.unwish,r,q⟩
theorem j5.nox {st:List T7}{t:TS}(h:j5 X.nox st t):j5 X st t:=λpins s σ H D I hw=>
 RJ (h pins s σ H D (I.wish _) hw) (λ_ _ q=>q.unwish) λ_ _ z=>Uo z
end
section
variable {X:Cx}{st:T7}{rest:List T7}{t u:TS}{e:Rp}{te:TE}{pos:Pos}
def MW:TS:=λD σ H=>D.nx σ H
def N2 (t u:TS):TS:=λD σ H=>t {D with nx:=u D} σ H
theorem IY:j5 X [] MW:=λ_ _ σ H _ I h=>VP ⟨σ,H,I,h⟩
theorem Gh (h1:PS X st t) (h2:j5 X rest u):j5 X (st::rest) (N2 t u):=by
 intro pins s σ H D I h
 refine Y6 (bP (h1 pins s σ H {D with nx:=u D} I h) λf s1 q=>?_)
 cases f with
 | next=>
  obtain ⟨σ',H',I',q⟩:=q
  exact h2 pins s1 σ' H' D I' q
 | ret v=>exact q
 | brk=>exact q
 | cont=>exact q
theorem IZ (h1:PS X st t):j5 X [st] t:=by
 intro pins s σ H D I h
 refine Y6 (bP (h1 pins s σ H D I h) λf s1 q=>?_)
 cases f with
 | next=>exact VP q
 | ret v=>exact q
 | brk=>exact q
 | cont=>exact q
theorem Inv.quiet {pins:List (QW×Obj)}{σ:St}{H:Hp}{s:QC}(I:Inv X pins σ H s):interactive X.env=false:=by simp [interactive,I.ok.kind]
def MV (te:TE):TS:=λD σ H=>te σ H λ_ H1=>D.nx σ H1
theorem qx (he:PE X e te) (hs:T8 e none pos.line X.env=pure false:=by rfl):PS X (.Expr e pos) (MV te):=by
 intro pins s σ H D I h
 exact wpAny_Expr_any (bP (he pins s σ H _ I h) λv s1 ⟨x,H1,I1,r1,q1⟩=>⟨σ,H1,I1,q1⟩) I.quiet hs
def N1 (te:TE):TS:=λD σ H=>te σ H D.rt
theorem Lo (he:PE X e te):PS X (.Return (some e) pos) (N1 te):=by
 intro pins s σ H D I h
 exact wpAny_Return_some (bP (he pins s σ H _ I h) λv s1 ⟨x,H1,I1,r1,q1⟩=>⟨x,σ,H1,I1,r1,q1⟩)
def NW (c:TT) (t u:TS):TS:=λD σ H=>c σ H λb H1=>if b=true then t D σ H1 else u D σ H1
theorem MJ {c:Rp}{a b:List T7}{tc:TT}(hc:PT X c tc) (ha:j5 X a t) (hb:j5 X b u):PS X (.If c a b pos) (NW tc t u):=by
 intro pins s σ H D I h
 refine wpAny_If (bP (hc pins s σ H _ I h) λd s1 ⟨H1,I1,q1⟩=>?_)
 cases d with
 | true=>exact ha pins s1 σ H1 D I1 q1
 | false=>exact hb pins s1 σ H1 D I1 q1
end
abbrev TG:=V->St->Hp->(St->Hp->Prop)->Prop
abbrev sA:=List V->St->Hp->(St->Hp->Prop)->Prop
def PG (X:Cx) (target:Rp) (t:TG):Prop:=
 ∀(pins:List (QW×Obj)) (s:QC) (σ:St) (H:Hp) (v:V) (u:Qy) (Q:St->Hp->Prop),Inv X pins σ H s->RelV v u->t v σ H Q->
  Q7 (Rb X.prog X.w) X.A (assign target X.env u) (λ_ s'=>∃σ' H',Inv X pins σ' H' s'/\Q σ' H') X.xe s
def xH (X:Cx) (ts:List Rp) (t:sA):Prop:=
 ∀(pins:List (QW×Obj)) (s:QC) (σ:St) (H:Hp) (vs:List V) (us:List Qy) (Q:St->Hp->Prop),Inv X pins σ H s->Vals vs us->t vs σ H Q->
  Q7 (Rb X.prog X.w) X.A (assignInOrder ((TH ts X.env).map (·.2)) us) (λ_ s'=>∃σ' H',Inv X pins σ' H' s'/\Q σ' H') X.xe s
abbrev Bq:=V->V->V->Hp->(Hp->Prop)->Prop
def JQ (X:Cx) (t:Bq):Prop:=
 ∀(pins:List (QW×Obj)) (s:QC) (σ:St) (H:Hp) (o i v:V) (ov iv u:Qy) (Q:Hp->Prop),Inv X pins σ H s->RelV o ov->RelV i iv->RelV v u->t o i v H Q->
  Q7 (Rb X.prog X.w) X.A (setItem ov iv u) (λ_ s'=>∃H',Inv X pins σ H' s'/\Q H') X.xe s
abbrev JS:=V->V->Hp->VK->Prop
def N9 (X:Cx) (op:X4) (t:JS):Prop:=
 ∀(pins:List (QW×Obj)) (s:QC) (σ:St) (H:Hp) (x y:V) (v u:Qy) (Q:VK),Inv X pins σ H s->RelV x v->RelV y u->t x y H Q->
  Q7 (Rb X.prog X.w) X.A (W_ op v u) (EP X pins σ Q) X.xe s
section
variable {X:Cx}{pos:Pos}
def G6 (i:Nat):TG:=λv σ H Q=>Q (σ.set i (some v)) H
theorem IU {i:Nat}{x:Str}(hN:X.N.Nodup) (hi:X.N[i]?=some x) (hx:Loc X.env.scope x) (hf:X.fn x=true\/X.env.scope.names.lookup x=some .local:=by first | exact .inl rfl | exact .inr rfl | assumption):PG X (.Name x pos) (G6 i):=by
 intro pins s σ H v u Q I r h
 exact wpAny_assign_Name (rR I hN hi hx r (λs' I'=>⟨_,H,I',h⟩) hf)
def aC:sA:=λvs σ H Q=>vs=[]/\Q σ H
def ao (t:TG) (u:sA):sA:=λvs σ H Q=>∃v r,vs=v::r/\t v σ H λσ' H'=>u r σ' H' Q
theorem IV:xH X [] aC:=by
 intro pins s σ H vs us Q I r h
 obtain ⟨e,h⟩:=h
 subst e
 cases r
 exact assignInOrder_nil ⟨σ,H,I,h⟩
theorem Ge {e:Rp}{es:List Rp}{t:TG}{u:sA}(h1:PG X e t) (h2:xH X es u)
  (hs:(TH (e::es) X.env).map (·.2)=assign e X.env::(TH es X.env).map (·.2):=by rfl):xH X (e::es) (ao t u):=by
 intro pins s σ H vs us Q I r h
 obtain ⟨v,vr,e1,h⟩:=h
 subst e1
 cases r with
 | cons r rr=>
  rw [hs]
  refine assignInOrder_cons (bP (h1 pins s σ H _ _ _ I r h) λ_ s1 ⟨σ1,H1,I1,q1⟩=>?_)
  exact h2 pins s1 σ1 H1 _ _ Q I1 rr q1
def bz (K:Qx) (n:Nat) (t:sA):TG:=λv σ H Q=>∃a xs,v=.ref a/\cY K H a xs/\xs.length=n/\t xs σ H Q
theorem Lj {es:List Rp}{k:Nat}{t:sA}{n:Nat}(hc:X.calm=true) (h:xH X es t)
  (hn:(TH es X.env).length=n:=by rfl) (hst:(TH es X.env).findIdx? (·.1)=none:=by rfl):PG X (.Tuple es k pos) (bz X.K n t):=by
 intro pins s σ H v u Q I r hw
 obtain ⟨a,xs,e1,hq,hl,hw⟩:=hw
 subst e1
 cases r
 obtain ⟨its,rv,ht,hz⟩:=I.tuple hq
 refine assign_Tuple_tuple (I.ok.hd hc) ht (by simp [hn,<-hl,rv.length]) hst λh' hx=>?_
 have I1:Inv X pins σ H {s with heap:=h'}:=I.kept (t':=s.toks) λb o e=>hx b o (Rf (QY e)) e
 exact h pins _ σ H xs _ Q I1 (by simpa using rv) hw
def Nu (to ti:TE) (t:Bq):TG:=λv σ H Q=>to σ H λo H1=>ti σ H1 λi H2=>t o i v H2 λH3=>Q σ H3
theorem Li {o i:Rp}{to ti:TE}{t:Bq}(ho:PE X o to) (hi:PE X i ti) (hs:JQ X t)
  (ha:∀v,assign (.Subscript o i pos) X.env v=(do
   let ov <-holding [v] (eval o X.env)
   let iv <-holding [v,ov] (eval i X.env)
   TX pos
   holding [v,ov,iv] (setItem ov iv v)
   release [v,ov,iv] []):=by intro _;rfl):PG X (.Subscript o i pos) (Nu to ti t):=by
 intro pins s σ H v u Q I r h
 rw [ha]
 refine Qw (Rn (bP (ho pins s σ H _ I h) λov s1 ⟨x,H1,I1,r1,q1⟩=>?_))
 refine Qw (Rn (bP (hi pins s1 σ H1 _ I1 q1) λiv s2 ⟨y,H2,I2,r2,q2⟩=>?_))
 refine Qw (Sq (Qw (Rn (bP (hs pins s2 σ H2 x y v ov iv u _ I2 r1 r2 r q2) λ_ s3 ⟨H3,I3,q3⟩=>?_))))
 exact wpAny_release ⟨σ,H3,I3,q3⟩
def GH (te:TE) (g:TG):TS:=λD σ H=>te σ H λx H1=>g x σ H1 D.nx
theorem Ei {tg e:Rp}{te:TE}{g:TG}(he:PE X e te) (hg:PG X tg g) (hs:UU [tg] e pos.line X.env=pure false:=by rfl) (hw:X5 [tg] e X.env=pure none:=by rfl)
  (h1:(TH [tg] X.env).map (·.2)=[assign tg X.env]:=by rfl):PS X (.Assign [tg] e pos) (GH te g):=by
 intro pins s σ H D I h
 refine wpAny_Assign_stores (bP (he pins s σ H _ I h) λv s1 ⟨x,H1,I1,r1,q1⟩=>?_) hs hw
 rw [h1]
 exact bP (hg pins s1 σ H1 x v _ I1 r1 q1) λ_ s2 q=>q
theorem Lp {i:Nat}{x:Str}{e:Rp}{te:TE}{pos':Pos}(hN:X.N.Nodup) (hi:X.N[i]?=some x) (hx:Loc X.env.scope x) (he:PE X e te) (hs:T8 e (some (.Name x pos')) pos.line X.env=pure false:=by rfl) (hf:X.fn x=true\/X.env.scope.names.lookup x=some .local:=by first | exact .inl rfl | exact .inr rfl | assumption):
  PS X (.Assign [.Name x pos'] e pos) (GH te (G6 i)):=by
 intro pins s σ H D I h
 refine wpAny_Assign_Name (bP (he pins s σ H _ I h) λv s1 ⟨y,H1,I1,r1,q1⟩=>?_) hs
 exact rR I1 hN hi hx r1 (λs2 I2=>⟨_,H1,I2,q1⟩) hf
def NU (i:Nat) (te:TE) (ti:JS):TS:=λD σ H=>∃x,σ[i]?=some (some x)/\te σ H λy H1=>ti x y H1 λz H2=>D.nx (σ.set i (some z)) H2
theorem Lm {i:Nat}{x:Str}{e:Rp}{te:TE}{op:X4}{ti:JS}{pos':Pos}(hN:X.N.Nodup) (hi:X.N[i]?=some x) (hx:Loc X.env.scope x) (he:PE X e te) (ho:N9 X op ti) (hf:X.fn x=true\/X.env.scope.names.lookup x=some .local:=by first | exact .inl rfl | exact .inr rfl | assumption):
  PS X (.AugAssign (.Name x pos') op e pos) (NU i te ti):=by
 intro pins s σ H D I h
 obtain ⟨v,e1,h⟩:=h
 obtain ⟨m,hn,hl⟩:=I.loc
 have vis:qL X.env.scope x:=by rcases hx with k | k;exact .inl k;exact .inr (.inl k)
 obtain ⟨u,r,l⟩:=hl i x v hi e1 vis
 refine wpAny_AugAssign_Name ?_
 have go:Q7 (Rb X.prog X.w) X.A (eval e X.env) (λw s₂=>Q7 (Rb X.prog X.w) X.A (W_ op u w) (λr s₃=>Q7 (Rb X.prog X.w) X.A (aaG X.env x r) (λ_=>SP X pins D .next) X.xe s₃) X.xe s₂) X.xe s:=by
  refine bP (he pins s σ H _ I h) λw s1 ⟨y,H1,I1,r1,q1⟩=>?_
  refine bP (ho pins s1 σ H1 v y u w _ I1 r r1 q1) λz s2 ⟨zv,H2,I2,r2,q2⟩=>?_
  exact rR I2 hN hi hx r2 (λs3 I3=>⟨_,H2,I3,q2⟩) hf
 rcases l with ⟨hk,hm⟩ | ⟨hk,c,hc,hcell⟩
 ·exact Xr I.ok.kind hk hn hm go
 ·rcases hk with hk | hk
  ·exact XN I.ok.kind hk hc hcell go
  ·rcases hx with k | k
   ·have:X.env.scope.names.lookup x=some .free:=hk
    rw [k] at this;cases this
   ·have:X.env.scope.names.lookup x=some .free:=hk
    rw [k] at this;cases this
def LW (c:TT) (tb:TS):TS:=λD σ H=>∃W:Nat->St->Hp->Prop,(∃m,W m σ H)/\∀m σ H,W m σ H->
 c σ H λb H1=>if b=true then ∃N:St->Hp->Prop,(∀σ' H',N σ' H'->∃m',m' < m/\W m' σ' H')/\tb {D with nx:=N,ct:=N,bk:=D.nx} σ H1 else D.nx σ H1
theorem Gg {c:Rp}{body:List T7}{tc:TT}{tb:TS}(hp:Zh (Rb X.prog X.w) X.A X.env X.xe) (hc:PT X c tc) (hb:j5 X body tb):PS X (.While c body [] pos) (LW tc tb):=by
 intro pins s σ H D I h
 obtain ⟨W,⟨m0,w0⟩,turn⟩:=h
 refine wpAny_While (codeAny_whileLoop (λn s'=>∃σ' H',Inv X pins σ' H' s'/\W n σ' H') ?_ m0 ⟨σ,H,I,w0⟩)
 rintro n s1 ⟨σ1,H1,I1,w1⟩
 refine TJ hp (bP (hc pins s1 σ1 H1 _ I1 (turn n σ1 H1 w1)) λb s2 ⟨H2,I2,q2⟩=>?_)
 cases b with
 | true=>
  obtain ⟨N,hN,q2⟩:=q2
  rw [if_pos rfl]
  refine TJ hp (bP (hb pins s2 σ1 H2 _ I2 q2) λf s3 q3=>?_)
  cases f with
  | next=>
   obtain ⟨σ3,H3,I3,n3⟩:=q3
   obtain ⟨m',hm,w3⟩:=hN σ3 H3 n3
   exact ⟨m',hm,σ3,H3,I3,w3⟩
  | cont=>
   obtain ⟨σ3,H3,I3,n3⟩:=q3
   obtain ⟨m',hm,w3⟩:=hN σ3 H3 n3
   exact ⟨m',hm,σ3,H3,I3,w3⟩
  | brk=>exact q3
  | ret v=>exact q3
 | false=>
  rw [if_neg Rq]
  exact VP ⟨σ1,H2,I2,q2⟩
end
structure It where
 go:Nat->Hp->Prop
 yld:Nat->Hp->V->Hp->Prop
 stop:Nat->Hp->Prop
def jW (X:Cx) (pins:List (QW×Obj)) (H:Hp) (b:QW):Prop:=
 H b=none/\b≠X.env.locals/\b∉X.fs/\(b∈X.ex\/X.s₀.heap.objs.size<=b)/\(∀x c,X.env.cells.lookup x=some c->c≠b)/\∀p∈X.pn++pins,p.1≠b
theorem Inv.fpOk {X:Cx}{pins:List (QW×Obj)}{σ:St}{H H':Hp}{s:QC}{b:QW}(I:Inv X pins σ H s) (hb:s.heap.objs.size<=b) (hn:H' b=none):jW X pins H' b:=by
 refine ⟨hn,Ui (Rc I.lt hb),I.nofs hb,.inr (Rr I.sz hb),λx c e z=>?_,λp hp z=>?_⟩
 ·obtain ⟨v,q⟩:=I.cell x c e
  exact absurd (Rc q.lt (by rw [z];exact hb)) (SG _)
 ·exact absurd (Rc (QY (I.pin p hp).1) (by rw [z];exact hb)) (SG _)
structure Turn (P:Q8) (w:Ru) (K:Qx) (tg:Rp) (J:It) (fp:List QW) (it:QW) (tn:Nat->Sh->Prop):Prop where
 mem:it∈fp
 obj:∀i h,tn i h->∀b∈fp,∃o,h.get? b=some o/\∀v,o.data≠.cell v
 keep:∀i h h',tn i h->(∀b∈fp,∀o,h.get? b=some o->h'.get? b=some o)->tn i h'
 item:∀(X:Cx),X.prog=P->X.w=w->X.K=K->X.calm=true->∀(i:Nat) (pins:List (QW×Obj)) (s:QC) (σ:St) (H:Hp) (E:Qy->QC->Prop),Inv X pins σ H s->(∀b∈fp,jW X pins H b)->tn i s.heap->J.go i H->
  Q7 (Rb P w) X.A (Va (.ref it)) (λr s1=>∃u,r=some u/\
   Q7 (Rb P w) X.A (S9 tg (.ref it) u) (λ_ s2=>∃x H',Inv X pins σ H' s2/\RelV x u/\J.yld i H x H'/\tn (i + 1) s2.heap/\∀b∈fp,H' b=none) E s1) E s
 done:∀(X:Cx),X.prog=P->X.w=w->X.K=K->X.calm=true->∀(i:Nat) (pins:List (QW×Obj)) (s:QC) (σ:St) (H:Hp) (E:Qy->QC->Prop),Inv X pins σ H s->(∀b∈fp,jW X pins H b)->tn i s.heap->J.stop i H->
  Q7 (Rb P w) X.A (Va (.ref it)) (λr s1=>r=none/\Inv X pins σ H s1) E s
 self:∀(A:Rx) (i:Nat) (s:QC) (Q:Qy->QC->Prop) (E:Qy->QC->Prop),tn i s.heap->Q (.ref it) s->Q7 (Rb P w) A (Wi (.ref it)) Q E s
abbrev TI:=St->Hp->(It->Hp->Prop)->Prop
def M9 (X:Cx) (pins:List (QW×Obj)) (σ:St) (tg:Rp) (R:It->Hp->Prop) (itv:Qy) (s2:QC):Prop:=
 ∃(it:QW) (fp:List QW) (tn:Nat->Sh->Prop) (J:It) (H':Hp),itv=.ref it/\Inv X pins σ H' s2/\Turn X.prog X.w X.K tg J fp it tn/\tn 0 s2.heap/\(∀b∈fp,jW X pins H' b)/\R J H'
def PI (X:Cx) (tg iter:Rp) (wi:TI):Prop:=
 ∀(pins:List (QW×Obj)) (s:QC) (σ:St) (H:Hp) (R:It->Hp->Prop),Inv X pins σ H s->wi σ H R->
  Q7 (Rb X.prog X.w) X.A (eval iter X.env) (λv s1=>Q7 (Rb X.prog X.w) X.A (Wi v) (M9 X pins σ tg R) X.xe s1) X.xe s
theorem w_ {M:abn}{A:Rx}{E:Qy->QC->Prop}{s:QC}{tg:Rp}{it:QW}{u:Qy}{o:Obj}{n:String}{vs:Array Qy}{Q:Unit->QC->Prop}(ho:s.heap.get? it=some o) (hc:o.cls=.type n) (hd:o.data=.fields vs)
  (hn:["enumerate","zip","dict_itemiterator","dict_reverseitemiterator","odict_iterator","itertools.zip_longest","itertools.pairwise"].contains n=false) (hQ:Q () s):Q7 M A (S9 tg (.ref it) u) Q E s:=by
 unfold S9
 cases tg <;> first
  | exact Qz hQ
  | (cases u <;> first
    | exact Qz hQ
    | (refine Qw (wpAny_load ho ?_);rw [hc,hd];show Q7 M A (if (["enumerate","zip","dict_itemiterator","dict_reverseitemiterator","odict_iterator","itertools.zip_longest","itertools.pairwise"].contains n && vs[0]? == some (Z6 _))=true then _ else _) Q E s;rw [if_neg (by intro h;rw [hn,Bool.false_and] at h;cases h)];exact Qz hQ))
def GP (K:Qx) (a:QW):It:=
 ⟨λi H=>∃xs x,cC K H a xs/\xs[i]?=some x,λi H x H'=>H'=H/\∀xs,cC K H a xs->xs[i]?=some x,λi H=>∃xs,cC K H a xs/\xs.length<=i⟩
def GR (K:Qx) (a:QW):It:=
 ⟨λi H=>∃xs x,cY K H a xs/\xs[i]?=some x,λi H x H'=>H'=H/\∀xs,cY K H a xs->xs[i]?=some x,λi H=>∃xs,cY K H a xs/\xs.length<=i⟩
def GQ (lo:Int) (n:Nat):It:=⟨λi _=>i < n,λi H x H'=>H'=H/\x=.int (lo + i),λi _=>n<=i⟩
theorem ED {P:Q8}{w:Ru}{K:Qx}{tg:Rp}(a it:QW):Turn P w K tg (GP K a) [it] it (λi h=>h.IsListIter it a i) where
 mem:=by simp
 obj:=λi h st b hb=>by
  have e:b=it:=by simpa using hb
  subst e
  obtain ⟨o,e,c,d⟩:=st
  exact ⟨o,e,λv z=>by rw [d] at z;cases z⟩
 keep:=λi h h' st k=>st.at λo e=>k it (by simp) o e
 item:=by
  intro X hP hw hK hc i pins s σ H E I hf st hg
  subst hP hw hK
  obtain ⟨xs,x,hq,hx⟩:=hg
  obtain ⟨its,rv,p,hz⟩:=I.list hq
  obtain ⟨u,hu,ru⟩:=rv.get hx
  obtain ⟨f0,f1,f2,f3,f4,f5⟩:=hf it (by simp)
  refine wpAny_pyNext_list_item st p.isList (x:=u) (by simpa using hu) λh' st' sb=>?_
  have I1:Inv X pins σ H {s with heap:=h'}:=I.turned (t':=s.toks) (λb o hb e=>(sb.2 b hb).trans e) f0 f1 f3 f4 f5
  obtain ⟨o,e,c,d⟩:=id st'
  exact ⟨u,rfl,w_ (s:={s with heap:=h'}) e c d (by decide) ⟨x,H,I1,ru,⟨rfl,λys hy=>by rw [I.list_inj hy hq];exact hx⟩,st',λb hb=>(hf b hb).1⟩⟩
 done:=by
  intro X hP hw hK hc i pins s σ H E I hf st hg
  subst hP hw hK
  obtain ⟨xs,hq,hx⟩:=hg
  obtain ⟨its,rv,p,hz⟩:=I.list hq
  obtain ⟨f0,f1,f2,f3,f4,f5⟩:=hf it (by simp)
  have hl:=rv.length
  exact wpAny_pyNext_list_end (I.ok.hd hc) st p.isList (by simp;omega) λh' eb=>⟨rfl,I.turned (t':=s.toks) (λb o hb e=>eb b o hb e) f0 f1 f3 f4 f5⟩
 self:=λ_ _ _ _ _ st h=>wpAny_pyIter_listiter st h
theorem CB {P:Q8}{w:Ru}{K:Qx}{tg:Rp}(a it:QW):Turn P w K tg (GR K a) [it] it (λi h=>h.IsTupleIter it a i) where
 mem:=by simp
 obj:=λi h st b hb=>by
  have e:b=it:=by simpa using hb
  subst e
  obtain ⟨o,e,c,d⟩:=st
  exact ⟨o,e,λv z=>by rw [d] at z;cases z⟩
 keep:=λi h h' st k=>st.at λo e=>k it (by simp) o e
 item:=by
  intro X hP hw hK hc i pins s σ H E I hf st hg
  subst hP hw hK
  obtain ⟨xs,x,hq,hx⟩:=hg
  obtain ⟨its,rv,p,hz⟩:=I.tuple hq
  obtain ⟨u,hu,ru⟩:=rv.get hx
  obtain ⟨f0,f1,f2,f3,f4,f5⟩:=hf it (by simp)
  refine wpAny_pyNext_tuple_item st (show s.heap.IsTuple a its.toArray from p) (x:=u) (by simpa using hu) λh' st' sb=>?_
  have I1:Inv X pins σ H {s with heap:=h'}:=I.turned (t':=s.toks) (λb o hb e=>(sb.2 b hb).trans e) f0 f1 f3 f4 f5
  obtain ⟨o,e,c,d⟩:=id st'
  exact ⟨u,rfl,w_ (s:={s with heap:=h'}) e c d (by decide) ⟨x,H,I1,ru,⟨rfl,λys hy=>by rw [I.tuple_inj hy hq];exact hx⟩,st',λb hb=>(hf b hb).1⟩⟩
 done:=by
  intro X hP hw hK hc i pins s σ H E I hf st hg
  subst hP hw hK
  obtain ⟨xs,hq,hx⟩:=hg
  obtain ⟨its,rv,p,hz⟩:=I.tuple hq
  obtain ⟨f0,f1,f2,f3,f4,f5⟩:=hf it (by simp)
  have hl:=rv.length
  exact wpAny_pyNext_tuple_end (I.ok.hd hc) st (show s.heap.IsTuple a its.toArray from p) (by simp;omega) λh' eb=>⟨rfl,I.turned (t':=s.toks) (λb o hb e=>eb b o hb e) f0 f1 f3 f4 f5⟩
 self:=λ_ _ _ _ _ st h=>wpAny_pyIter_tupleiter st h
theorem CA {P:Q8}{w:Ru}{K:Qx}{tg:Rp}(it:QW) (lo:Int) (n:Nat):Turn P w K tg (GQ lo n) [it] it (λi h=>IsRangeIter h it (lo + (i:Nat) * 1) ((n:Int) - (i:Nat)) 1) where
 mem:=by simp
 obj:=λi h st b hb=>by
  have e:b=it:=by simpa using hb
  subst e
  exact ⟨_,st,λv z=>by
   have z':Data.fields _=Data.cell v:=z
   cases z'⟩
 keep:=λi h h' st k=>k it (by simp) _ st
 item:=by
  intro X hP hw hK hc i pins s σ H E I hf st hg
  subst hP hw hK
  obtain ⟨f0,f1,f2,f3,f4,f5⟩:=hf it (by simp)
  have W:=Walks.range (prog:=X.prog) (w:=X.w) (I.ok.hd hc) it lo 1 n
  refine W.item i s _ _ hg st λv h' tk hv st' kk=>?_
  obtain ⟨t,rfl⟩:=hv
  have I1:Inv X pins σ H {s with heap:=h',toks:=tk}:=I.turned (λb o hb e=>kk b o (by simpa using hb) e) f0 f1 f3 f4 f5
  refine ⟨_,rfl,w_ (s:={s with heap:=h',toks:=tk}) (n:="range_iterator") st' rfl rfl (by decide) ⟨.int (lo + i),H,I1,⟨t,?_⟩,⟨rfl,rfl⟩,st',λb hb=>(hf b hb).1⟩⟩
  rw [Int.mul_one]
 done:=by
  intro X hP hw hK hc i pins s σ H E I hf st hg
  subst hP hw hK
  obtain ⟨f0,f1,f2,f3,f4,f5⟩:=hf it (by simp)
  exact wpAny_pyNext_range_end (I.ok.hd hc) st (by have:n<=i:=hg;omega) λh' eb=>⟨rfl,I.turned (t':=s.toks) (λb o hb e=>eb b o hb e) f0 f1 f3 f4 f5⟩
 self:=λ_ _ _ _ _ st h=>wpAny_pyIter_rangeiter st h
section
variable {X:Cx}{tg:Rp}
theorem Gr {pins:List (QW×Obj)}{σ:St}{H:Hp}{s:QC}{R:It->Hp->Prop}{E:Qy->QC->Prop}{lo hi:Int}{t u v:Tok}{tk:Nat}(I:Inv X pins σ H s) (h1:-(2 ^ 62)<=lo) (h2:lo < 2 ^ 62) (h3:-(2 ^ 62)<=hi) (h4:hi < 2 ^ 62)
  (q:R (GQ lo (hi - lo).toNat) H):Q7 (Rb X.prog X.w) X.A (Wi (.ref s.heap.objs.size)) (M9 X pins σ tg R) E {s with heap:=s.heap.push {cls:=.type "range",data:=.fields #[.int lo t,.int hi u,.int 1 v]},toks:=tk}:=by
 refine wpAny_pyIter_range (IsRange.new ..) (small_one h1 h2 h3 h4) ?_
 have I1:Inv X pins σ H {s with heap:=s.heap.push {cls:=.type "range",data:=.fields #[.int lo t,.int hi u,.int 1 v]},toks:=tk}:=I.kept λb o e=>QI _ e
 refine ⟨(s.heap.push {cls:=.type "range",data:=.fields #[.int lo t,.int hi u,.int 1 v]}).objs.size,[(s.heap.push {cls:=.type "range",data:=.fields #[.int lo t,.int hi u,.int 1 v]}).objs.size],_,_,H,rfl,
  I1.kept (t':=tk) λb o e=>QI _ e,CA _ lo (hi - lo).toNat,?_,λb hb=>?_,q⟩
 ·have e1:lo + ((0:Nat):Int) * 1=lo:=by simp
  have e2:(((hi - lo).toNat:Nat):Int) - ((0:Nat):Int)=Wy lo hi 1:=by rw [aai];split <;> omega
  show IsRangeIter _ _ (lo + ((0:Nat):Int) * 1) ((((hi - lo).toNat:Nat):Int) - ((0:Nat):Int)) 1
  rw [e1,e2]
  exact QV _ rfl
 ·have e:b=(s.heap.push {cls:=.type "range",data:=.fields #[.int lo t,.int hi u,.int 1 v]}).objs.size:=by simpa using hb
  subst e
  exact I1.fpOk (QL _) (I1.hok.fresh (QL _))
def Mq (ta:TA):TI:=λσ H R=>ta σ H λvs H1=>∃j:Int,vs=[.int j]/\-(2 ^ 62)<=j/\j < 2 ^ 62/\R (GQ 0 j.toNat) H1
theorem Ed {a:Rp}{ta:TA}{p pos:Pos}(hg:Gl X "range") (hm:X.mg "range"=none) (ha:PA X [a] ta) (hs:QU [a] X.env=[(false,eval a X.env)]:=by rfl):PI X tg (.Call (.Name "range" p) [a] [] pos) (Mq ta):=by
 intro pins s σ H R I h
 refine Call_ (tE I hg hm boot_range (VQ (bP (ha pos pins s σ H _ I h) λus s1 ⟨vs,H1,I1,r1,q1⟩=>?_) hs rfl))
 obtain ⟨j,e,q1,q2,q⟩:=q1
 subst e
 cases r1 with
 | cons r rr=>
  cases rr
  obtain ⟨t,rfl⟩:=r
  exact call_range_1 (Gr I1 (by omega) (by omega) q1 q2 (by simpa using q))
def NV (wi:TI) (g:TG) (tb:TS):TS:=λD σ H=>wi σ H λJ H1=>∃W:Nat->Nat->St->Hp->Prop,(∃m,W 0 m σ H1)/\∀i m σ H,W i m σ H->
 (J.stop i H/\D.nx σ H)\/(J.go i H/\∃N:St->Hp->Prop,(∀σ' H',N σ' H'->∃m',m' < m/\W (i + 1) m' σ' H')/\∀x H',J.yld i H x H'->g x σ H' λσ2 H2=>tb {D with nx:=N,ct:=N,bk:=D.nx} σ2 H2)
def pP (fp:List QW) (h:Sh):List (QW×Obj):=fp.filterMap λb=>(h.get? b).map λo=>(b,o)
theorem ku {fp:List QW}{h:Sh}{b:QW}{o:Obj}(hb:b∈fp) (e:h.get? b=some o):(b,o)∈pP fp h:=UW.mpr ⟨b,hb,by rw [e];rfl⟩
theorem DV {fp:List QW}{h:Sh}{p:QW×Obj}(hp:p∈pP fp h):p.1∈fp/\h.get? p.1=some p.2:=by
 obtain ⟨b,hb,e⟩:=UW.mp hp
 cases q:h.get? b with
 | none=>rw [q] at e;cases e
 | some o=>
  rw [q] at e
  have e':(b,o)=p:=RS e
  subst e'
  exact ⟨hb,q⟩
theorem Inv.pinned {pins:List (QW×Obj)}{σ:St}{H:Hp}{s:QC}{fp:List QW}(I:Inv X pins σ H s) (hf:∀b∈fp,jW X pins H b) (ho:∀b∈fp,∃o,s.heap.get? b=some o/\∀v,o.data≠.cell v):Inv X (pins++pP fp s.heap) σ H s:=
 I.pins_of λp hp=>(Rt.mp hp).elim (λz=>I.pin p (Ry _ z)) λz=>by
  obtain ⟨hb,e⟩:=DV z
  obtain ⟨f0,f1,f2,_⟩:=hf p.1 hb
  obtain ⟨o,e',d⟩:=ho p.1 hb
  rw [e] at e';cases e'
  exact ⟨e,f0,f1,f2,d⟩
theorem Inv.unpinned {pins pl:List (QW×Obj)}{σ:St}{H:Hp}{s:QC}(I:Inv X (pins++pl) σ H s):Inv X pins σ H s:=I.pins_of λp hp=>I.pin p (Ry _ (SX _ hp))
theorem Ln {iter:Rp}{body:List T7}{wi:TI}{g:TG}{tb:TS}{pos:Pos}(hp:Zh (Rb X.prog X.w) X.A X.env X.xe) (hc:X.calm=true) (hi:PI X tg iter wi) (hg:PG X tg g) (hb:j5 X body tb)
  (hs:∀x,Q2 iter X.env x=pure x:=by intro _;rfl):PS X (.For tg iter body [] pos) (NV wi g tb):=by
 intro pins s σ H D I h
 refine wpAny_For (bP (hi pins s σ H _ I h) λv s1 h1=>bP h1 λitv s2 h2=>?_) hs
 obtain ⟨it,fp,tn,J,H2,e,I2,T,st2,f2,W,⟨m0,w0⟩,turn⟩:=h2
 subst e
 have stat:∀{H':Hp},(∀b∈fp,H' b=none)->∀b∈fp,jW X pins H' b:=λhn b hb=>⟨hn b hb,(f2 b hb).2⟩
 refine codeAny_forLoop_any (λn s'=>∃i σ' H',Inv X pins σ' H' s'/\tn i s'.heap/\(∀b∈fp,H' b=none)/\W i n σ' H') ?_ m0 ⟨0,σ,H2,I2,st2,λb hb=>(f2 b hb).1,w0⟩
 rintro n s3 ⟨i,σ3,H3,I3,st3,fr3,w3⟩
 rcases turn i n σ3 H3 w3 with ⟨stop,qn⟩ | ⟨go,N,hN,step⟩
 ·refine TJ hp (bP (T.done X rfl rfl rfl hc i pins s3 σ3 H3 X.xe I3 (stat fr3) st3 stop) λr s4 ⟨hr,I4⟩=>?_)
  subst hr
  exact VP ⟨σ3,H3,I4,qn⟩
 ·refine TJ hp (bP (T.item X rfl rfl rfl hc i pins s3 σ3 H3 X.xe I3 (stat fr3) st3 go) λr s4 ⟨u,hr,h4⟩=>?_)
  subst hr
  refine TJ hp (bP h4 λ_ s5 ⟨x,H5,I5,r5,y5,st5,fr5⟩=>?_)
  have I5':=I5.pinned (stat fr5) (T.obj _ _ st5)
  refine TJ hp (bP (hg _ s5 σ3 H5 x u _ I5' r5 (step x H5 y5)) λ_ s6 ⟨σ6,H6,I6,q6⟩=>?_)
  refine TJ hp (bP (hb _ s6 σ6 H6 _ I6 q6) λf s7 q7=>?_)
  have again:∀{σ7:St}{H7:Hp},Inv X (pins++pP fp s5.heap) σ7 H7 s7->N σ7 H7->∃m,m < n/\∃i σ' H',Inv X pins σ' H' s7/\tn i s7.heap/\(∀b∈fp,H' b=none)/\W i m σ' H':=fun {σ7 H7} I7 n7=>by
   obtain ⟨m',hm,w7⟩:=hN σ7 H7 n7
   refine ⟨m',hm,i + 1,σ7,H7,I7.unpinned,T.keep _ _ _ st5 λb hb o e=>(I7.pin (b,o) (Ry _ (Ry _ (ku hb e)))).1,λb hb=>?_,w7⟩
   obtain ⟨o,e,d⟩:=T.obj _ _ st5 b hb
   exact (I7.pin (b,o) (Ry _ (Ry _ (ku hb e)))).2.1
  cases f with
  | next=>obtain ⟨σ7,H7,I7,n7⟩:=q7;exact again I7 n7
  | cont=>obtain ⟨σ7,H7,I7,n7⟩:=q7;exact again I7 n7
  | brk=>obtain ⟨σ7,H7,I7,q7⟩:=q7;exact ⟨σ7,H7,I7.unpinned,q7⟩
  | ret v=>obtain ⟨x7,σ7,H7,I7,r7,q7⟩:=q7;exact ⟨x7,σ7,H7,I7.unpinned,r7,q7⟩
end
abbrev R2:=V->V->Hp->VK->Prop
def cT (X:Cx) (f:Qy->Qy->Sem Qy) (r:R2):Prop:=
 ∀(pins:List (QW×Obj)) (s:QC) (σ:St) (H:Hp) (x y:V) (v u:Qy) (Q:VK),Inv X pins σ H s->RelV x v->RelV y u->r x y H Q->
  Q7 (Rb X.prog X.w) X.A (f v u) (EP X pins σ Q) X.xe s
def JT (X:Cx) (f:Qy->Sem Qy) (r:V->Hp->VK->Prop):Prop:=
 ∀(pins:List (QW×Obj)) (s:QC) (σ:St) (H:Hp) (x:V) (v:Qy) (Q:VK),Inv X pins σ H s->RelV x v->r x H Q->
  Q7 (Rb X.prog X.w) X.A (f v) (EP X pins σ Q) X.xe s
def bU (X:Cx) (f:Qy) (r:List V->Hp->VK->Prop):Prop:=
 ∀(pins:List (QW×Obj)) (s:QC) (σ:St) (H:Hp) (xs:List V) (us:List Qy) (Q:VK),Inv X pins σ H s->Vals xs us->r xs H Q->
  Q7 (Rb X.prog X.w) X.A (call f us) (EP X pins σ Q) X.xe s
def Nn (X:Cx) (r:V->Hp->(Bool->Hp->Prop)->Prop):Prop:=
 ∀(pins:List (QW×Obj)) (s:QC) (σ:St) (H:Hp) (x:V) (v:Qy) (Q:Bool->Hp->Prop),Inv X pins σ H s->RelV x v->r x H Q->
  Q7 (Rb X.prog X.w) X.A (truthy v) (TP X pins σ Q) X.xe s
def EA (r:R2) (ta tb:TE):TE:=λσ H Q=>ta σ H λx H1=>tb σ H1 λy H2=>r x y H2 Q
def Om (r:V->Hp->VK->Prop) (ta:TE):TE:=λσ H Q=>ta σ H λx H1=>r x H1 Q
def rI (C:Int->Int->Prop) (g:Int->Int->V):R2:=λx y H Q=>∃i j,x=.int i/\y=.int j/\C i j/\Q (g i j) H
def mq (g:Int->Int->V):R2:=λx y H Q=>∃i j,x=.int i/\y=.int j/\Q (g i j) H
def rU (g:Int->V):V->Hp->VK->Prop:=λx H Q=>∃i,x=.int i/\Q (g i) H
section
variable {X:Cx}{a b c:Rp}{ta tb tc:TE}{pos:Pos}
theorem EV (ha:PE X a ta) (hb:PE X b tb){pins:List (QW×Obj)}{s:QC}{σ:St}{H:Hp}{R:V->V->Hp->Prop}(I:Inv X pins σ H s)
  (h:ta σ H λx H1=>tb σ H1 λy H2=>R x y H2){Q:Qy->QC->Prop}{f:Qy->Qy->Sem Qy}
  (hf:∀v u s2 x y H2,Inv X pins σ H2 s2->RelV x v->RelV y u->R x y H2->Q7 (Rb X.prog X.w) X.A (f v u) Q X.xe s2):
  Q7 (Rb X.prog X.w) X.A (eval a X.env) (λv s₁=>Q7 (Rb X.prog X.w) X.A (eval b X.env) (λu s₂=>Q7 (Rb X.prog X.w) X.A (f v u) Q X.xe s₂) X.xe s₁) X.xe s:=by
 refine bP (ha pins s σ H _ I h) λv s1 ⟨x,H1,I1,r1,q1⟩=>?_
 refine bP (hb pins s1 σ H1 _ I1 q1) λu s2 ⟨y,H2,I2,r2,q2⟩=>?_
 exact hf v u s2 x y H2 I2 r1 r2 q2
theorem MG {op:X4}{r:R2}(ho:cT X (Uq op) r) (ha:PE X a ta) (hb:PE X b tb):PE X (.BinOp a op b pos) (EA r ta tb):=by
 intro pins s σ H Q I h
 exact wpAny_BinOp (EV ha hb I h λv u s2 x y H2 I2 rx ry q=>ho pins s2 σ H2 x y v u Q I2 rx ry q)
theorem MI {op:UnaryOp}{r:V->Hp->VK->Prop}(ho:JT X (unaryOp op) r) (ha:PE X a ta):PE X (.UnaryOp op a pos) (Om r ta):=by
 intro pins s σ H Q I h
 exact UnaryOp_ (bP (ha pins s σ H _ I h) λv s1 ⟨x,H1,I1,r1,q1⟩=>ho pins s1 σ H1 x v Q I1 r1 q1)
theorem Nq {op:X4}{r:R2}(ho:cT X (W_ op) r){pins:List (QW×Obj)}{s:QC}{σ:St}{H:Hp}{x y:V}{v u:Qy}{Q:VK}(I:Inv X pins σ H s)
  (rx:RelV x v) (ry:RelV y u) (q:r x y H Q):Q7 (Rb X.prog X.w) X.A (W_ op v u) (EP X pins σ Q) X.xe s:=ho pins s σ H x y v u Q I rx ry q
theorem Hg {f:Qy->Qy->Sem Qy}{C:Int->Int->Prop}{g:Int->Int->Int}
  (rule:∀(i j:Int) (t u:Tok) (s:QC) (Q:Qy->QC->Prop) (E:Qy->QC->Prop),C i j->Q (.int (g i j) s.toks) {s with toks:=s.toks + 1}->Q7 (Rb X.prog X.w) X.A (f (.int i t) (.int j u)) Q E s):
  cT X f (rI C λi j=>.int (g i j)):=by
 intro pins s σ H x y v u Q I rx ry h
 obtain ⟨i,j,rfl,rfl,hc,q⟩:=h
 obtain ⟨t,rfl⟩:=rx
 obtain ⟨t',rfl⟩:=ry
 exact rule i j t t' s _ _ hc ⟨.int (g i j),H,I.tok _,⟨_,rfl⟩,q⟩
theorem FQ {f:Qy->Qy->Sem Qy}{g:Int->Int->Int}
  (rule:∀(i j:Int) (t u:Tok) (s:QC) (Q:Qy->QC->Prop) (E:Qy->QC->Prop),Q (.int (g i j) s.toks) {s with toks:=s.toks + 1}->Q7 (Rb X.prog X.w) X.A (f (.int i t) (.int j u)) Q E s):
  cT X f (mq λi j=>.int (g i j)):=by
 intro pins s σ H x y v u Q I rx ry h
 obtain ⟨i,j,rfl,rfl,q⟩:=h
 obtain ⟨t,rfl⟩:=rx
 obtain ⟨t',rfl⟩:=ry
 exact rule i j t t' s _ _ ⟨.int (g i j),H,I.tok _,⟨_,rfl⟩,q⟩
theorem B5 {f:Qy->Qy->Sem Qy}{g:Int->Int->Bool}
  (rule:∀(i j:Int) (t u:Tok) (s:QC) (Q:Qy->QC->Prop) (E:Qy->QC->Prop),Q (.bool (g i j)) s->Q7 (Rb X.prog X.w) X.A (f (.int i t) (.int j u)) Q E s):
  cT X f (mq λi j=>.bl (g i j)):=by
 intro pins s σ H x y v u Q I rx ry h
 obtain ⟨i,j,rfl,rfl,q⟩:=h
 obtain ⟨t,rfl⟩:=rx
 obtain ⟨t',rfl⟩:=ry
 exact rule i j t t' s _ _ ⟨.bl (g i j),H,I,rfl,q⟩
def Nh (i j:Int):Prop:=0 < j/\j < 1073741824
def Ni (i j:Int):Prop:=0<=j/\j<=1000000/\i.natAbs < 2 ^ 64
def Bc (i j:Int):Prop:=(-(2 ^ 64) < i/\i < 2 ^ 64)\/(-(2 ^ 64) < j/\j < 2 ^ 64)
theorem Bc.ok {i j:Int}(h:Bc i j):IntMulOk i j:=by
 rcases h with ⟨h1,h2⟩ | ⟨h1,h2⟩
 ·exact .of_left (aaj h1 h2)
 ·exact .of_right (aaj h1 h2)
theorem DW:cT X (Uq .Add) (mq λi j=>.int (i + j)):=FQ λ_ _ _ _ _ _ _ q=>add_int q
theorem K6:cT X (Uq .Sub) (mq λi j=>.int (i - j)):=FQ λ_ _ _ _ _ _ _ q=>sub_int q
theorem K3:cT X (Uq .Mult) (rI Bc λi j=>.int (i * j)):=Hg λ_ _ _ _ _ _ _ hc q=>mul_int q hc.ok
theorem IG:cT X (Uq .FloorDiv) (rI Nh λi j=>.int (i / j)):=Hg λi j _ _ _ _ _ hc q=>by
 have h1:(0:Int) < j:=hc.1
 have h2:j < 1073741824:=hc.2
 exact floordiv_int (by omega) (by rw [Int.fdiv_eq_ediv_of_nonneg i (by omega)];exact q) (.inl (PyProof.noPylong_small (by omega)))
theorem K2:cT X (Uq .Mod) (rI (λ_ j=>0 < j) λi j=>.int (i % j)):=Hg λi j _ _ _ _ _ hc q=>by
 have h1:(0:Int) < j:=hc
 exact mod_int' (by omega) (by rw [Int.fmod_eq_emod_of_nonneg i (by omega)];exact q)
theorem K5:cT X (Uq .Pow) (rI Ni λi j=>.int (i ^ j.toNat)):=Hg λ_ _ _ _ _ _ _ hc q=>pow_int_small hc.1 hc.2.1 hc.2.2 q
theorem Ih:cT X (W_ .Add) (mq λi j=>.int (i + j)):=FQ λ_ _ _ _ _ _ _ q=>iadd_int q
theorem Ba {f:Qy->Sem Qy}{g:Int->Int}
  (rule:∀(i:Int) (t:Tok) (s:QC) (Q:Qy->QC->Prop) (E:Qy->QC->Prop),Q (.int (g i) s.toks) {s with toks:=s.toks + 1}->Q7 (Rb X.prog X.w) X.A (f (.int i t)) Q E s):
  JT X f (rU λi=>.int (g i)):=by
 intro pins s σ H x v Q I rx h
 obtain ⟨i,rfl,q⟩:=h
 obtain ⟨t,rfl⟩:=rx
 exact rule i t s _ _ ⟨.int (g i),H,I.tok _,⟨_,rfl⟩,q⟩
theorem L_:JT X (unaryOp .USub) (rU λi=>.int (-i)):=Ba λ_ _ _ _ _ q=>neg_int q
theorem B6:cT X (R0 .Lt) (mq λi j=>.bl (decide (i < j))):=B5 λ_ _ _ _ _ _ _ q=>lt_int q
theorem MC:cT X (R0 .LtE) (mq λi j=>.bl (decide (i<=j))):=B5 λ_ _ _ _ _ _ _ q=>le_int q
theorem qv:cT X (R0 .Gt) (mq λi j=>.bl (decide (j < i))):=B5 λ_ _ _ _ _ _ _ q=>gt_int q
theorem MB:cT X (R0 .GtE) (mq λi j=>.bl (decide (j<=i))):=B5 λ_ _ _ _ _ _ _ q=>ge_int q
theorem cT.or {f:Qy->Qy->Sem Qy}{r r':R2}(h:cT X f r) (h':cT X f r'):cT X f (λx y H Q=>r x y H Q\/r' x y H Q):=by
 intro pins s σ H x y v u Q I rx ry q
 rcases q with q | q
 ·exact h pins s σ H x y v u Q I rx ry q
 ·exact h' pins s σ H x y v u Q I rx ry q
theorem yK (b:Rp){op:ZN}(h:op≠.In:=by decide) (h2:op≠.NotIn:=by decide):R6 op b=false:=by
 have e1:(op == abE)=false:=by cases op <;> first | rfl | exact absurd rfl h
 have e2:(op == aaV)=false:=by cases op <;> first | rfl | exact absurd rfl h2
 cases b <;> simp [R6,e1,e2]
theorem IT {op:ZN}{r:R2}(ho:cT X (R0 op) r) (ha:PE X a ta) (hb:PE X b tb) (hm:R6 op b=false):PE X (.Compare a [op] [b] pos) (EA r ta tb):=by
 intro pins s σ H Q I h
 exact wpAny_Compare1 (EV ha hb I h λv u s2 x y H2 I2 rx ry q=>ho pins s2 σ H2 x y v u Q I2 rx ry q) hm
def MZ (t:TE):TT:=λσ H Q=>t σ H λx H'=>∃k,x=.bl k/\Q k H'
theorem I0 {op:ZN}{r:R2}(ho:cT X (R0 op) r) (ha:PE X a ta) (hb:PE X b tb) (hm:R6 op b=false):PT X (.Compare a [op] [b] pos) (MZ (EA r ta tb)):=by
 intro pins s σ H Q I h
 refine W8 (bP (ha pins s σ H _ I h) λv s1 ⟨x,H1,I1,r1,q1⟩=>bP (hb pins s1 σ H1 _ I1 q1) λu s2 ⟨y,H2,I2,r2,q2⟩=>
  bP (ho pins s2 σ H2 x y v u _ I2 r1 r2 q2) λc s3 ⟨z,H3,I3,r3,k,e,q3⟩=>?_) hm
 subst e
 cases r3
 exact RN ⟨H3,I3,q3⟩
def LU (r r':R2) (ta tb tc:TE):TE:=λσ H Q=>ta σ H λx H1=>tb σ H1 λy H2=>r x y H2 λz H3=>∃k,z=.bl k/\
 (if k=true then tc σ H3 λw' H4=>r' y w' H4 Q else Q (.bl false) H3)
theorem Ga {op op':ZN}{r r':R2}(ho:cT X (R0 op) r) (ho':cT X (R0 op') r') (ha:PE X a ta) (hb:PE X b tb) (hc:PE X c tc)
  (hm:lastMarks [op,op'] [b,c]=false:=by with_unfolding_all rfl):PE X (.Compare a [op,op'] [b,c] pos) (LU r r' ta tb tc):=by
 intro pins s σ H Q I h
 refine Compare_chain (bP (ha pins s σ H _ I h) λv s1 ⟨x,H1,I1,r1,q1⟩=>chain_link (bP (hb pins s1 σ H1 _ I1 q1) λu s2 ⟨y,H2,I2,r2,q2⟩=>
  bP (ho pins s2 σ H2 x y v u _ I2 r1 r2 q2) λd s3 ⟨z,H3,I3,r3,k,e,q3⟩=>?_)) hm
 subst e
 cases r3
 refine RN ?_
 cases k with
 | false=>exact ite_ff ⟨.bl false,H3,I3,rfl,q3⟩
 | true=>exact ite_tt (chain_last (bP (hc pins s3 σ H3 _ I3 q3) λw' s4 ⟨z',H4,I4,r4,q4⟩=>ho' pins s4 σ H4 y z' u w' Q I4 r2 r4 q4))
def EU (K:Qx) (x:V) (H:Hp) (k:Bool):Prop:=
 match x with
 | .non=>k=false
 | .bl b=>k=b
 | .int i=>k=(i != 0)
 | .str y=>y.length<=sizeLine/\k=((y.length:Int) != 0)
 | .byt y=>y.size<=sizeLine/\k=((y.size:Int) != 0)
 | .ref p=>(∃xs,cC K H p xs/\k=!xs.isEmpty)\/(∃xs,cY K H p xs/\k=!xs.isEmpty)\/∃kvs,H p=some (.dK kvs)/\k=!kvs.isEmpty
 | _=>False
theorem BR {κ:Type}{kvs:List (κ×V)}{vs:List (κ×Qy)}(r:KV kvs vs):(!vs.isEmpty)=!kvs.isEmpty:=by
 cases r <;> rfl
theorem tw {xs:List V}{its:List Qy}(r:Vals xs its):(!its.toArray.isEmpty)=!xs.isEmpty:=by
 cases r <;> simp
theorem nh:(sizeLine:Nat) < 2 ^ 63:=by rw [RI];decide
theorem LX:Nn X (λx H Q=>∃k,EU X.K x H k/\Q k H):=by
 intro pins s σ H x v Q I rx h
 obtain ⟨k,e,q⟩:=h
 have hl:=nh
 have hs:sizeLine=16777216:=RI
 cases x with
 | non=>
  cases rx
  have e':k=false:=e
  subst e'
  exact truthy_none ⟨H,I,q⟩
 | bl b=>
  cases rx
  have e':k=b:=e
  subst e'
  exact RN ⟨H,I,q⟩
 | int i=>
  obtain ⟨t,rfl⟩:=rx
  have e':k=(i != 0):=e
  subst e'
  exact PySem.P.truthy_int ⟨H,I,q⟩
 | str y=>
  obtain ⟨t,rfl⟩:=rx
  obtain ⟨hy,e'⟩:y.length<=sizeLine/\k=((y.length:Int) != 0):=e
  subst e'
  exact PySem.P.truthy_str (by omega) ⟨H,I.tok _,q⟩
 | byt y=>
  obtain ⟨t,rfl⟩:=rx
  obtain ⟨hy,e'⟩:y.size<=sizeLine/\k=((y.size:Int) != 0):=e
  subst e'
  exact W.truthy_bytes (by omega) ⟨H,I.tok _,q⟩
 | ref p=>
  cases rx
  have e':(∃xs,cC X.K H p xs/\k=!xs.isEmpty)\/(∃xs,cY X.K H p xs/\k=!xs.isEmpty)\/∃kvs,H p=some (.dK kvs)/\k=!kvs.isEmpty:=e
  rcases e' with ⟨xs,hx,e'⟩ | ⟨xs,hx,e'⟩ | ⟨kvs,hx,e'⟩
  ·subst e'
   obtain ⟨its,r,pl,hz⟩:=I.list hx
   have hlen:=r.length
   exact wpAny_truthy_list pl.isList (by simp only [QO];omega) ⟨H,I.tok _,by rw [tw r];exact q⟩
  ·subst e'
   obtain ⟨its,r,pl,hz⟩:=I.tuple hx
   have hlen:=r.length
   exact truthy_tuple pl (by simp only [QO];omega) ⟨H,I.tok _,by rw [tw r];exact q⟩
  ·subst e'
   obtain ⟨hz,hS,vs,r,m⟩:kvs.length<=sizeLine/\(p == Ub)=false/\∃vs,KV kvs vs/\s.heap.DictOf (uP X.prog X.w) p vs:=I.hok p _ hx
   have hlen:kvs.length=vs.length:=aah r
   exact wpAny_truthy_dict hS m (by omega) ⟨H,I.tok _,by rw [BR r];exact q⟩
 | _=>exact (show False from e).elim
theorem Gi (ha:PE X a ta) (he:∀whole,XD a X.env whole=(do let v <-whole;TX a.pos;holding [v] (truthy v))):
  PT X a (λσ H Q=>ta σ H λx H'=>∃k,EU X.K x H' k/\Q k H'):=by
 intro pins s σ H Q I h
 exact isTrue_plain (bP (ha pins s σ H _ I h) λv s1 ⟨x,H1,I1,r1,q1⟩=>LX pins s1 σ H1 x v Q I1 r1 q1) (he _)
theorem tM:cT X (Uq .Add) (λx y H Q=>∃i j,x=.str i/\y=.str j/\i.length + j.length<=sizeLine/\Q (.str (i++j)) H):=by
 intro pins s σ H x y v u Q I rx ry h
 obtain ⟨i,j,rfl,rfl,hz,q⟩:=h
 obtain ⟨t,rfl⟩:=rx
 obtain ⟨t',rfl⟩:=ry
 exact add_str (λt' tk=>⟨.str (i++j),H,I.tok _,⟨_,rfl⟩,q⟩) hz
theorem vals1 {x:V}{us:List Qy}(r:Vals [x] us):∃u,us=[u]/\RelV x u:=by
 cases r with
 | cons r1 r2=>cases r2;exact ⟨_,rfl,r1⟩
theorem vals2 {x y:V}{us:List Qy}(r:Vals [x,y] us):∃u w',us=[u,w']/\RelV x u/\RelV y w':=by
 cases r with
 | cons r1 r2=>
  cases r2 with
  | cons r3 r4=>cases r4;exact ⟨_,_,rfl,r1,r3⟩
theorem Df (hc:X.calm=true):bU X (.builtin "min") (λxs H Q=>∃i j,xs=[.int i,.int j]/\Q (.int (if j < i then j else i)) H):=by
 intro pins s σ H xs us Q I r h
 obtain ⟨i,j,rfl,q⟩:=h
 obtain ⟨u,w',rfl,⟨t,rfl⟩,⟨t',rfl⟩⟩:=vals2 r
 refine min_two_ints (I.ok.hd hc) λh' tk k=>⟨_,H,I.kept k,?_,q⟩
 by_cases hj:j < i
 ·rw [if_pos hj,if_pos hj];exact ⟨_,rfl⟩
 ·rw [if_neg hj,if_neg hj];exact ⟨_,rfl⟩
end
structure dY (k:Nat) (A:Rx):Prop where
 hd:A.handled=none
 dp:A.depth + 3 * k + 5 < ZO
 un:A.units + 16 * k + 200 < Sy
theorem dY.mono {j k:Nat}{A:Rx}(r:dY k A) (h:j<=k):dY j A:=⟨r.hd,by have:=r.dp;omega,by have:=r.un;omega⟩
theorem dY.deeper {k:Nat}{A:Rx}(r:dY (k + 1) A) (env:Env):dY k (A.deeper env):=
 ⟨r.hd,by have:=r.dp;show A.depth + 1 + 3 * k + 5 < _;omega,by have:=r.un;show A.units + 3 + 16 * k + 200 < _;omega⟩
theorem dY.depth {k:Nat}{A:Rx}(r:dY k A):A.depth < ZO:=by have:=r.dp;omega
theorem dY.units {k:Nat}{A:Rx}(r:dY k A):A.units + 64 < Sy:=by have:=r.un;omega
def Cy:TA:=λ_ H Q=>Q [] H
def MU (ta:TE) (tr:TA):TA:=λσ H Q=>ta σ H λx H1=>tr σ H1 λxs H2=>Q (x::xs) H2
section
variable {X:Cx}{e:Rp}{es:List Rp}{te:TE}{t:TA}{pos:Pos}
theorem iD:PA X [] Cy:=λ_ _ _ _ H Q I h=>Calls.spliced_nil ⟨[],H,I,.nil,h⟩
theorem fk (ha:PE X e te) (hr:PA X es t) (hs:QU (e::es) X.env=(false,eval e X.env)::QU es X.env:=by rfl):PA X (e::es) (MU te t):=by
 intro pos pins s σ H Q I h
 rw [hs]
 show Q7 _ _ (spliced ((false,eval e X.env)::SY pos (QU es X.env))) _ _ s
 refine Calls.spliced_cons (bP (ha pins s σ H _ I h) λu s1 ⟨x,H1,I1,r1,q1⟩=>?_)
 exact bP (hr pos pins s1 σ H1 _ I1 q1) λus s2 ⟨xs,H2,I2,r2,q2⟩=>⟨x::xs,H2,I2,.cons r1 r2,q2⟩
def N3 (t:TA):TE:=λσ H Q=>t σ H λxs H1=>xs.length<=sizeLine/\∀p,H1 p=none->Q (.ref p) (upd H1 p (.tup xs))
def NX (t:TA):TE:=λσ H Q=>t σ H λxs H1=>xs.length<=sizeLine/\∀p,H1 p=none->Q (.ref p) (upd H1 p (.lst xs))
theorem Lh {x1}(h:PA X es t):PE X (.Tuple es x1 pos) (N3 t):=by
 intro pins s σ H Q I hq
 refine wpAny_Tuple_spliced (bP (h pos pins s σ H _ I hq) λus s1 ⟨xs,H1,I1,r,z,q⟩=>⟨by rw [<-r.length];exact z,?_⟩)
 have hf:H1 s1.heap.objs.size=none:=I1.hok.fresh (QL _)
 refine ⟨.ref s1.heap.objs.size,upd H1 s1.heap.objs.size (.tup xs),I1.laid (t':=s1.toks) (λb u e=>QI _ e) (QL _) ?_,rfl,q _ hf⟩
 exact ⟨z,us,r,⟨_,QV _ rfl,rfl,_,rfl⟩⟩
theorem Lc (h:PA X es t):PE X (.List es pos) (NX t):=by
 intro pins s σ H Q I hq
 refine wpAny_List_spliced (bP (h pos pins s σ H _ I hq) λus s1 ⟨xs,H1,I1,r,z,q⟩=>⟨by rw [<-r.length];exact z,?_⟩)
 have hf:H1 s1.heap.objs.size=none:=I1.hok.fresh (QL _)
 refine ⟨.ref s1.heap.objs.size,upd H1 s1.heap.objs.size (.lst xs),I1.laid (t':=s1.toks) (λb u e=>QI _ e) (QL _) ?_,rfl,q _ hf⟩
 exact ⟨z,us,0,r,QV _ rfl⟩
end
abbrev Sp:=List V->Hp->VK->XK->Prop
abbrev qH:=List Env->Hp->QC->XK->Qy->QC->Prop
structure Be (P:Q8) (w:Ru) (K:Qx) (mg:Str->Option Qy) (base:Sh) (A:Rx) (outer:List Env) (s:QC) (H:Hp):Prop where
 frames:A.frames=some outer
 mod:Mod K mg base
 bs:∀b o,base.get? b=some o->s.heap.get? b=some o/\H b=none
 bsz:base.objs.size<=s.heap.objs.size
 funs:s.heap.FunFrames base outer
 frf:∀b∈frs outer,H b=none
 hok:gn P w H s.heap
 bare:W6 s.gens
def CE (outer:List Env) (P:Q8) (w:Ru) (H:Hp) (s:QC) (Q:VK) (u:Qy) (s':QC):Prop:=
 ∃v H',s'.os=s.os/\W6 s'.gens/\Un (frs outer) [] H H' s.heap s'.heap/\gn P w H' s'.heap/\RelV v u/\Q v H'
def CR (CX:qH) (outer:List Env) (P:Q8) (w:Ru) (H:Hp) (s:QC) (Q:VK) (E:XK) (r:Zi) (s':QC):Prop:=
 match r with
 | .ok (.ret u)=>CE outer P w H s Q u s'
 | .ok _=>False
 | .error e=>CX outer H s E e s'
structure jw (P:Q8) (w:Ru) (K:Qx) (mg:Str->Option Qy) (base:Sh) (CX:qH) (k:Nat) (f:QW) (fd:Ro) (ps:List Str) (sp:Sp):Prop where
 len:∀vs H Q E,sp vs H Q E->vs.length=ps.length
 run:∀(A:Rx) (outer:List Env) (s:QC) (H:Hp) (args:Args) (us:List Qy) (vs:List V) (Q:VK) (E:XK),dY k A->Be P w K mg base A outer s H->Zj s fd args (ps.zip us)->Vals vs us->sp vs H Q E->
  Tf (Rb P w) A (.call (.ref f) args) (CR CX outer P w H s Q E) s
section
variable {X:Cx}{pins:List (QW×Obj)}{σ:St}{H:Hp}{s s':QC}
theorem Inv.env0 (I:Inv X pins σ H s):Be X.prog X.w X.K X.mg X.base X.A X.stack s H:=
 ⟨I.ok.frames,I.ok.mod,I.bs,Rr I.ok.bsz I.sz,I.stack,I.stkFree,I.hok,I.bare⟩
theorem Inv.after {Q:VK}{u:Qy}(I:Inv X pins σ H s) (h:CE X.stack X.prog X.w H s Q u s'):EP X pins σ Q u s':=by
 obtain ⟨v,H',os,bare,un,hok,r,q⟩:=h
 obtain ⟨hh,g,d,t,os'⟩:=s'
 obtain rfl:os'=s.os:=os
 exact ⟨v,H',I.call (h':=hh) (g':=g) (d':=d) (t':=t) (ch:=[]) un hok bare (λb z=>absurd z (by simp)),r,q⟩
end
def Hv (sp:Sp) (dvs:List V) (E:XK) (t:TA):TE:=λσ H Q=>t σ H λvs H1=>sp (vs++dvs) H1 Q E
def Binds (K:Qx) (fd:Ro) (ps:List Str) (ds:List Qy):Prop:=
 ∀(s:QC) (us:List Qy),K.In s.heap->(us++ds).length=ps.length->Zj s fd ⟨us,[]⟩ (ps.zip (us++ds))
theorem Binds.all {K:Qx}{fd:Ro}{ps:List Str}(h:∀us:List Qy,us.length=ps.length->aak fd ⟨us,[]⟩=pure (ps.zip us)):Binds K fd ps []:=λs us _ hl=>by
 rw [S_] at hl ⊢
 exact .of_eq (h us hl)
def Passes (CX:qH) (X:Cx) (E:XK):Prop:=∀(pins:List (QW×Obj)) (σ:St) (H:Hp) (s:QC) (e:Qy) (s':QC),Inv X pins σ H s->CX X.stack H s E e s'->X.xe e s'
section
variable {X:Cx}{CX:qH}{k:Nat}{f C:QW}{fd:Ro}{ps:List Str}{sp:Sp}{dvs:List V}{ds:List Qy}{E:XK}{x m:Str}{p pos apos:Pos}{e o:Rp}{es:List Rp}{ta:TE}{t:TA}
theorem Eu {pins:List (QW×Obj)}{σ:St}{H:Hp}{s:QC}{Q:VK}{us:List Qy}{vs:List V}(F:jw X.prog X.w X.K X.mg X.base CX k f fd ps sp) (hr:dY k X.A) (hb:Binds X.K fd ps ds) (hd:Vals dvs ds) (hx:Passes CX X E)
  (I:Inv X pins σ H s) (r:Vals vs us) (h:sp (vs++dvs) H Q E):Q7 (Rb X.prog X.w) X.A (call (.ref f) us) (EP X pins σ Q) X.xe s:=by
 have r2:Vals (vs++dvs) (us++ds):=r.append hd
 have hl:(us++ds).length=ps.length:=by rw [<-r2.length];exact F.len _ _ _ _ h
 refine Xp (Tj (F.run X.A X.stack s H ⟨us,[]⟩ (us++ds) (vs++dvs) Q E hr I.env0 (hb s us I.kIn hl) r2 h) λr s' hq=>?_)
 cases r with
 | error e=>exact hx pins σ H s e s' I hq
 | ok fl=>
  cases fl with
  | ret u=>exact I.after hq
  | next=>exact Uo hq
  | brk=>exact Uo hq
  | cont=>exact Uo hq
theorem AS (F:jw X.prog X.w X.K X.mg X.base CX k f fd ps sp) (hr:dY k X.A) (hg:Gl X x) (hm:X.mg x=some (.ref f)) (hk:QX X.K (.ref f)=true) (hb:Binds X.K fd ps ds) (hd:Vals dvs ds) (hx:Passes CX X E)
  (ha:PA X (e::es) t) (hdb:(x == ("__debug__":Str))=false:=by decide) (he:QU (e::es) X.env=(false,eval e X.env)::QU es X.env:=by rfl) (hpl:(SY pos (QU es X.env)).any (·.1)=false:=by rfl):
  PE X (.Call (.Name x p) (e::es) [] pos) (Hv sp dvs E t):=by
 intro pins s σ H Q I h
 refine UX (AK I hg hm ?_ hdb)
 refine X6 (h₀:=X.base) I.ok.mod.kin hk (bP (ha pos pins s σ H _ I h) λus s1 ⟨vs,H1,I1,r,q⟩=>⟨I1.kIn,?_⟩) he hpl
 exact Eu F hr hb hd hx I1 r q
end
structure bh (N P:List Str) (sc:Te):Prop where
 kind:sc.kind=.function
 co:sc.isCoroutine=false
 gen:sc.isGenerator=false
 nd:N.Nodup
 pre:N.take P.length=P
 par:∀x∈P,sc.names.lookup x=some .local\/sc.names.lookup x=some .cell
 nofree:∀y∈sc.names,y.2≠.free
theorem ve {kindOf:Str->Option SH}{x:Str}:∀{binds:List (Str×Qy)}{m:Str->Option Qy},(∀v,(x,v)∉binds)->aaW kindOf binds m x=m x
 | [],_,_=>rfl
 | (n,v)::r,m,h=>by
  unfold aaW
  rw [ve λw hw=>h w (QF _ hw)]
  split
  ·have:x≠n:=by rintro rfl;exact h v QH
   simp [this]
  ·rfl
theorem vc {kindOf:Str->Option SH}{x:Str}:∀{binds:List (Str×Qy)}{m:Str->Option Qy},(∀v,(x,v)∉binds)->aaX kindOf binds m x=m x
 | [],_,_=>rfl
 | (n,v)::r,m,h=>by
  unfold aaX
  rw [vc λw hw=>h w (QF _ hw)]
  split
  ·rfl
  ·have:x≠n:=by rintro rfl;exact h v QH
   simp [this]
theorem vd {kindOf:Str->Option SH}{x:Str}{v:Qy}:∀{P:List Str}{vs:List Qy}{i:Nat}{m:Str->Option Qy},P.Nodup->P[i]?=some x->vs[i]?=some v->kindOf x=some .local->
  aaW kindOf (P.zip vs) m x=some v
 | [],_,_,_,_,h,_,_=>by simp at h
 | _::_,[],_,_,_,_,h,_=>by simp at h
 | p::P,w::vs,0,m,nd,h1,h2,hk=>by
  simp at h1 h2;subst h1;subst h2
  show aaW kindOf ((p,w)::P.zip vs) m p=_
  unfold aaW
  rw [ve λv hv=>(Ss.mp nd).1 (Xa hv).1,if_pos hk]
  simp
 | p::P,w::vs,i + 1,m,nd,h1,h2,hk=>by
  show aaW kindOf ((p,w)::P.zip vs) m x=_
  unfold aaW
  exact vd (i:=i) (Ss.mp nd).2 (by simpa using h1) (by simpa using h2) hk
theorem u_ {kindOf:Str->Option SH}{x:Str}{v:Qy}:∀{P:List Str}{vs:List Qy}{i:Nat}{m:Str->Option Qy},P.Nodup->P[i]?=some x->vs[i]?=some v->kindOf x≠some .local->
  aaX kindOf (P.zip vs) m x=some v
 | [],_,_,_,_,h,_,_=>by simp at h
 | _::_,[],_,_,_,_,h,_=>by simp at h
 | p::P,w::vs,0,m,nd,h1,h2,hk=>by
  simp at h1 h2;subst h1;subst h2
  show aaX kindOf ((p,w)::P.zip vs) m p=_
  unfold aaX
  rw [vc λv hv=>(Ss.mp nd).1 (Xa hv).1,if_neg hk]
  simp
 | p::P,w::vs,i + 1,m,nd,h1,h2,hk=>by
  show aaX kindOf ((p,w)::P.zip vs) m x=_
  unfold aaX
  exact u_ (i:=i) (Ss.mp nd).2 (by simpa using h1) (by simpa using h2) hk
def start (N:List Str) (vs:List V):St:=vs.map some++RX (N.length - vs.length) none
def rD (CX:qH) (P:Q8) (w:Ru) (K:Qx) (mg:Str->Option Qy) (base:Sh) (N:List Str) (qual:Str) (scope:Te) (f:QW) (cd:Qy) (A:Rx) (outer:List Env) (s:QC) (H:Hp) (E:XK):Cx where
 prog:=P
 w:=w
 K:=K
 mg:=mg
 base:=base
 A:=A.deeper (WM qual scope s.heap.objs.size f cd)
 N:=N
 s₀:=s
 H₀:=H
 env:=WM qual scope s.heap.objs.size f cd
 outer:=outer
 stack:=WM qual scope s.heap.objs.size f cd::outer
 ex:=[]
 calm:=true
 fn:=λ_=>true
 pn:=[]
 xe:=λe s'=>Q7 (Rb P w) (A.deeper (WM qual scope s.heap.objs.size f cd)) (leaving (WM qual scope s.heap.objs.size f cd) e) (λ_ s''=>CX outer H s E e s'') (λe' s''=>CX outer H s E e' s'') s'
theorem yd {sc:Te}{n:Nat}{x:Str}(h:sc.names.lookup x=some .cell):∃c,(RK n sc.names []).lookup x=some c:=by
 have q:=WW sc.names n [] (.inl h)
 exact R3.mp q
theorem DN {CX:qH}{P:Q8}{w:Ru}{K:Qx}{mg:Str->Option Qy}{base:Sh}{N ps:List Str}{qual:Str}{scope:Te}{f:QW}{cd:Qy}{A:Rx}{outer:List Env}{s s1:QC}{H:Hp}{E:XK}{us:List Qy}{vs:List V}
  (S:bh N ps scope) (hd:A.handled=none) (e0:Be P w K mg base A outer s H) (hl:vs.length=ps.length) (r:Vals vs us)
  (x:InCallC s s.heap.objs.size (aaW (WM qual scope s.heap.objs.size f cd).kindOf (ps.zip us) λ_=>none) (RK (s.heap.objs.size + 1) scope.names []) (aaX (WM qual scope s.heap.objs.size f cd).kindOf (ps.zip us) λ_=>none) s1):
  Inv (rD CX P w K mg base N qual scope f cd A outer s H E) [] (start N vs) H s1:=by
 have hpl:ps.length<=N.length:=by have:=congrArg Vg S.pre;rw [T9] at this;omega
 obtain ⟨h1,tk,rfl,hk⟩:=x.done
 have noA:∀b:QW,b∉(rD CX P w K mg base N qual scope f cd A outer s H E).ex:=λb z=>absurd (show b∈([]:List QW) from z) (by simp)
 refine ⟨⟨e0.mod,S.kind,rfl,rfl,QL _,λy z c h1 h2=>?_,λy hy=>?_,λy c _ h=>?_,λ_=>hd,Around.frames_deeper e0.frames,.inr ⟨rfl,rfl⟩,λb z=>absurd z (noA b),e0.bs,e0.bsz,λb _ _=>noA b,λb z=>absurd z (noA b),e0.funs,e0.frf⟩,
  rfl,e0.bare,Un.kept hk,⟨_,x.toInCall.ns,λi y v h1 h2 h3=>?_⟩,λy c h=>⟨_,x.cell y c h⟩,e0.hok.fresh (QL _),λy c h=>?_,λp hp=>absurd (show p∈([]:List (QW×Obj)) from hp) (by simp),e0.hok.kept hk,?_⟩
 ·exact name_of_addr x.apart (TY h1) (TY h2)
 ·have hy:scope.names.lookup y=some .cell\/scope.names.lookup y=some .free:=hy
  rcases hy with hy | hy
  ·exact yd hy
  ·exact absurd rfl (S.nofree _ (TY hy))
 ·exact W7 (x.above y c (TY h))
 ·have hi:i < vs.length:=by
   unfold start at h2
   by_cases hi:i < vs.length
   ·exact hi
   ·rw [R8 (by simpa using hi)] at h2
    rw [UY] at h2
    split at h2 <;> cases h2
  have ha:vs[i]?=some v:=by
   unfold start at h2
   rw [SI (by simpa using hi),Q_] at h2
   cases e:vs[i]? with
   | none=>rw [e] at h2;cases h2
   | some a=>rw [e] at h2;cases h2;rfl
  obtain ⟨u,hu,rv⟩:=r.get ha
  have hp:ps[i]?=some y:=by
   rw [<-S.pre,List.getElem?_take_of_lt (by omega)];exact h1
  have ndP:ps.Nodup:=by rw [<-S.pre];exact S.nd.sublist (Yz _ _)
  refine ⟨u,rv,?_⟩
  rcases S.par y (R9 hp) with k | k
  ·exact .inl ⟨k,vd ndP hp hu k⟩
  ·obtain ⟨c,e⟩:=yd (n:=s.heap.objs.size + 1) k
   refine .inr ⟨.inl k,c,e,?_⟩
   have q:=x.cell y c e
   rw [u_ ndP hp hu (by show scope.names.lookup y≠_;rw [k];decide)] at q
   exact q
 ·exact e0.hok.fresh (W7 (x.above y c (TY h)))
 ·unfold start
  show _=N.length
  rw [Rh,QA,SJ]
  omega
theorem Mp {CX:qH}{P:Q8}{w:Ru}{K:Qx}{mg:Str->Option Qy}{base:Sh}{k:Nat}{f:QW}{name qual:Str}{params:Arguments}{body:List T7}{scope:Te}{dV kV doc pm cdv ct oc:Qy}{an od:Option QW}
  {osl:Array (Option Qy)}{N ps:List Str}{sp:Sp}(lk:K.lookup f=some ⟨oc,od,.func (QJ name qual params body scope dV kV doc pm an cdv ct),osl⟩) (hcd:Q4 K cdv qual=true) (S:bh N ps scope)
  (len:∀vs H Q E,sp vs H Q E->vs.length=ps.length)
  (hbody:∀(A:Rx) (outer:List Env) (s:QC) (H:Hp) (vs:List V) (Q:VK) (E:XK),dY k (A.deeper (WM qual scope s.heap.objs.size f cdv))->sp vs H Q E->
   ∃t,j5 (rD CX P w K mg base N qual scope f cdv A outer s H E) body t/\t {nx:=λ_ H'=>Q .non H',rt:=Q} (start N vs) H):
  jw P w K mg base CX (k + 1) f (QJ name qual params body scope dV kV doc pm an cdv ct) ps sp:=by
 refine ⟨len,λA outer s H args us vs Q E hr e0 hb r OS=>?_⟩
 have hl:=len _ _ _ _ OS
 have KX:K.In s.heap:=e0.mod.kin.keeps λb o e=>(e0.bs b o e).1
 have lim:s.heap.NoLimit:=e0.mod.nolimit.keeps λb o e=>(e0.bs b o e).1
 have hkind:∀y∈ps.zip us,scope.names.lookup y.1=some .local\/(scope.names.lookup y.1=some .cell/\((RK (s.heap.objs.size + 1) scope.names []).lookup y.1).isSome=true):=λ⟨n,v⟩ hy=>by
  rcases S.par n (Xa hy).1 with q | q
  ·exact .inl q
  ·exact .inr ⟨q,WW _ _ _ (.inl q)⟩
 refine codeAny_call_function hr.depth (KX _ _ lk) rfl S.co S.gen rfl (W.codeRec_of KX hcd) (hb _ _ _ _ ?_)
 refine wpAny_newFunctionEnv_cells S.kind hkind λenv he s1 x=>?_
 subst he
 refine ⟨lim.keeps x.toInCall.keep,codeAny_func ?_⟩
 obtain ⟨t,ht,hq⟩:=hbody A outer s H vs Q E (hr.deeper _) OS
 have I:Inv (rD CX P w K mg base N qual scope f cdv A outer s H E) [] (start N vs) H s1:=DN S hr.hd e0 hl r x
 refine RJ (ht [] s1 (start N vs) H _ I hq) (λfl s' hs=>?_) λe s' hs=>hs
 have fin:∀{σ':St}{H':Hp}{v:V}{u:Qy},Inv (rD CX P w K mg base N qual scope f cdv A outer s H E) [] σ' H' s'->RelV v u->Q v H'->CE outer P w H s Q u s':=
  fun {σ' H' v u} J rv q=>⟨v,H',J.os,J.bare,J.base,J.hok,rv,q⟩
 cases fl with
 | ret u=>
  obtain ⟨v,σ',H',J,rv,q⟩:=hs
  exact fin J rv q
 | next=>
  obtain ⟨σ',H',J,q⟩:=hs
  exact fin (v:=V.non) (u:=RB) J rfl q
 | brk=>
  obtain ⟨_,_,_,q⟩:=hs
  exact Uo q
 | cont=>
  obtain ⟨_,_,_,q⟩:=hs
  exact Uo q
section
variable {X:Cx}{x:Str}{p pos:Pos}{e:Rp}{es:List Rp}{t:TA}{id T:String}{r:List V->Hp->VK->Prop}
def Nd (r:List V->Hp->VK->Prop) (t:TA):TE:=λσ H Q=>t σ H λvs H1=>r vs H1 Q
theorem rL (hc:bU X (.builtin id) r) (hg:Gl X x) (hm:X.mg x=none) (hv:RL x=some (.builtin id)) (ha:PA X (e::es) t) (hn:x≠"__name__":=by decide) (hdb:(x == ("__debug__":Str))=false:=by decide)
  (he:QU (e::es) X.env=(false,eval e X.env)::QU es X.env:=by rfl) (hpl:(SY pos (QU es X.env)).any (·.1)=false:=by rfl):PE X (.Call (.Name x p) (e::es) [] pos) (Nd r t):=by
 intro pins s σ H Q I h
 refine UX (tE I hg hm hv ?_ hn hdb)
 exact YU (bP (ha pos pins s σ H _ I h) λus s1 ⟨vs,H1,I1,r1,q1⟩=>hc pins s1 σ H1 vs us Q I1 r1 q1) he hpl
theorem l_ (hc:bU X (.type T) r) (hg:Gl X x) (hm:X.mg x=none) (hv:RL x=some (.type T)) (ha:PA X (e::es) t) (hn:x≠"__name__":=by decide) (hdb:(x == ("__debug__":Str))=false:=by decide)
  (he:QU (e::es) X.env=(false,eval e X.env)::QU es X.env:=by rfl) (hpl:(SY pos (QU es X.env)).any (·.1)=false:=by rfl):PE X (.Call (.Name x p) (e::es) [] pos) (Nd r t):=by
 intro pins s σ H Q I h
 refine UX (tE I hg hm hv ?_ hn hdb)
 exact VQ (bP (ha pos pins s σ H _ I h) λus s1 ⟨vs,H1,I1,r1,q1⟩=>hc pins s1 σ H1 vs us Q I1 r1 q1) he hpl
end
end L2
namespace HT
open PySem PyProof.Rows
theorem E7 (A:Rx) (s:QC) (a:Int) (t:Tok) (c:Int) (u:Tok):∃e,SN A s (.int a t) (.int c u) e/\(e=true↔a=c):=
 ⟨(a == c),X7 a t c u,by simp⟩
section
open PySem.SeqAt
open PySem.AutoSeq1 (wpAny_loadPart')
open PySem.MeetsSeq PySem.MeetsSeq2 PySem.MeetsSeq3
end
section
variable {prog:Q8}{w:Ru}{A:Rx}{E:Qy->QC->Prop}{s:QC}
theorem HR {t b:QW}{vs ws:List Qy}{Q:Qy->QC->Prop}(ht:aaU s.heap t vs.toArray) (hb:aaU s.heap b ws.toArray) (hv:vs≠[])
  (h1:ws=[]->Q (.ref t) s) (h2:ws≠[]->Q (.ref s.heap.objs.size) {s with heap:=s.heap.push {cls:=.type "tuple",data:=.seq (vs++ws).toArray}})
  (hsz:vs.length + ws.length<=sizeLine):Q7 (Rb prog w) A (Uq .Add (.ref t) (.ref b)) Q E s:=by
 obtain ⟨⟨cls,dd,data,sl⟩,ho,hc,n,hd⟩:=id ht
 obtain ⟨⟨cls2,dd2,data2,sl2⟩,ho2,hc2,n2,hd2⟩:=id hb
 simp only at hc hd hc2 hd2
 subst hc hd hc2 hd2
 have e:vs.toArray++ws.toArray=(vs++ws).toArray:=by simp
 by_cases hw:ws=[]
 ·exact YV ⟨_,ho,rfl⟩ ⟨_,ho2,rfl⟩ WN X8 Vb UZ (UQ _ _)
   (tuple_addW1 t b vs.toArray ws.toArray n n2 dd dd2 sl sl2 (by simpa using hv) (by simp [hw])) ⟨ho,ho2,h1 hw⟩
 ·refine YV ⟨_,ho,rfl⟩ ⟨_,ho2,rfl⟩ WN X8 Vb UZ (UQ _ _)
   (tuple_addW2 t b vs.toArray ws.toArray n n2 dd dd2 sl sl2 (by simpa using hv) (by simpa using hw) (by rw [QO,QO];exact hsz)) ⟨ho,ho2,?_⟩
  rw [e]
  exact h2 hw
def bM (n d:Nat):Option Int->Nat
 | none=>d
 | some v=>if v < 0 then (v + (n:Int)).toNat else min v.toNat n
theorem yY (n d:Nat):bM n d none=d:=rfl
theorem A3 (n d k:Nat):bM n d (some (k:Int))=min k n:=by
 show (if (k:Int) < 0 then ((k:Int) + (n:Int)).toNat else min (k:Int).toNat n)=min k n
 rw [if_neg (by omega),Sz]
theorem LM (n d:Nat) (hd:d<=n) (o:Option Int):bM n d o<=n:=by
 cases o with
 | none=>exact hd
 | some v=>
  show (if v < 0 then (v + (n:Int)).toNat else min v.toNat n)<=n
  by_cases hv:v < 0
  ·rw [if_pos hv];omega
  ·rw [if_neg hv];exact Nat.min_le_right _ _
theorem Aw (v:Int) (n d:Nat):(if v < 0 then max (v + (n:Int)) 0 else min v (n:Int))=((bM n d (some v):Nat):Int):=by
 show (if v < 0 then max (v + (n:Int)) 0 else min v (n:Int))=(((if v < 0 then (v + (n:Int)).toNat else min v.toNat n):Nat):Int)
 by_cases hv:v < 0
 ·simp only [if_pos hv];omega
 ·simp only [if_neg hv];omega
theorem Bu (lo hi:Option Int) (n:Nat):UE lo hi 1 (n:Int)=(((bM n 0 lo:Nat):Int),((bM n n hi:Nat):Int)):=by
 have h1:¬((1:Int) < 0):=by omega
 unfold UE
 simp only [h1,if_false]
 refine abF ?_ ?_
 ·cases lo with
  | none=>rfl
  | some v=>exact Aw v n 0
 ·cases hi with
  | none=>rfl
  | some v=>exact Aw v n n
theorem B9 (i j:Nat):Tt (i:Int) (j:Int) 1=j - i:=by
 unfold Tt
 have h1:(1:Int) > 0:=by omega
 simp only [h1,if_true,Int.ediv_one]
 split <;> omega
theorem t6 {v:Qy}{o:Option Int}{Q:Option Int->QC->Prop}(p:X_ v o) (h:Q o s):Q7 (Rb prog w) A (Ze v) Q E s:=by
 cases p with
 | none=>exact ZP h
 | int i t=>exact slicePart_int h
theorem lG {sl:QW}{vl vu:Qy}{lo hi:Option Int}{n:Nat}{Q:Int×Int×Nat->QC->Prop}(hs:s.heap.IsSliceOf sl vl vu .none) (pl:X_ vl lo) (pu:X_ vu hi)
  (h:Q (((bM n 0 lo:Nat):Int),1,bM n n hi - bM n 0 lo) s):Q7 (Rb prog w) A (V3 (.ref sl) (pure (n:Int))) Q E s:=by
 obtain ⟨os,hos,hcs,hds⟩:=id hs
 unfold V3 ZQ
 refine Qw (Qw (Zk hos hds (x:=vl) rfl (Qw (Zk hos hds (x:=vu) rfl (Qw (Zk hos hds (x:=.none) rfl (Qz ?_)))))))
 refine Qw (ZP ?_)
 show Q7 _ _ (if ((1:Int) == 0)=true then _ else _) _ _ s
 rw [if_neg (by decide)]
 refine Qw (t6 pl (Qw (t6 pu (Qw (Qz ?_)))))
 show Q7 _ _ (match UE lo hi 1 (n:Int) with | (lo,hi)=>pure (lo,(1:Int),Tt lo hi 1)) _ _ s
 rw [Bu lo hi n]
 show Q7 _ _ (pure (((bM n 0 lo:Nat):Int),(1:Int),Tt ((bM n 0 lo:Nat):Int) ((bM n n hi:Nat):Int) 1)) _ _ s
 rw [B9]
 exact Qz h
theorem Gf (xs:Array Qy) (i k:Nat):((QG k).filterMap λ(m:Nat)=>xs[((i:Int) + (m:Int) * 1).toNat]?).toArray=((xs.toList.drop i).take k).toArray:=by
 have e:(λ(m:Nat)=>xs[((i:Int) + (m:Int) * 1).toNat]?)=λm=>xs[i + m]?:=by
  funext m
  have:((i:Int) + (m:Int) * 1).toNat=i + m:=by omega
  rw [this]
 rw [e]
 have:=pick_run xs i k
 rw [Yb] at this
 have e2:((λx=>xs[x]?) ∘ λx=>i + x)=λm=>xs[i + m]?:=rfl
 rw [e2] at this
 rw [this]
theorem qF {t sl:QW}{items:Array Qy}{vl vu:Qy}{lo hi:Option Int}{Q:Qy->QC->Prop}(ht:aaU s.heap t items) (hs:s.heap.IsSliceOf sl vl vu .none) (pl:X_ vl lo) (pu:X_ vu hi)
  (hw:¬(bM items.size 0 lo=0/\bM items.size items.size hi=items.size))
  (h:Q (.ref s.heap.objs.size) {s with heap:=s.heap.push {cls:=.type "tuple",data:=.seq ((items.toList.drop (bM items.size 0 lo)).take (bM items.size items.size hi - bM items.size 0 lo)).toArray}})
  (hsz:items.size<=sizeLine):Q7 (Rb prog w) A (YA (.ref t) (.ref sl)) Q E s:=by
 have OI:sizeOk (.seq ((items.toList.drop (bM items.size 0 lo)).take (bM items.size items.size hi - bM items.size 0 lo)).toArray):=by
  show ((items.toList.drop (bM items.size 0 lo)).take (bM items.size items.size hi - bM items.size 0 lo)).toArray.size<=sizeLine
  rw [QO,T9,T_,QN]
  omega
 have hj:bM items.size items.size hi<=items.size:=LM _ _ (QL _) hi
 obtain ⟨os,hos,hcs,hds⟩:=id hs
 have Po:s.TypeIs (.ref sl) "slice":=⟨os,hos,hcs⟩
 unfold YA
 try with_reducible refine Rn ?_
 first | refine Qw (Qz ?_) | skip
 refine Qw (YB ht.typeIs (by decide) ?_)
 refine Qw (Su (name:=Vr "__getitem__") ht.typeIs RO
  (RD RO ht.typeIs XQ ?_ (Yc _ _)))
 show Q7 _ _ (Uz (.ref t) >>= _) _ _ s
 refine Qw (aal ht ?_)
 refine Qw (Vs Po ?_)
 rw [if_pos (by decide)]
 refine Qw (lG hs pl pu ?_)
 have hno:¬((((bM items.size 0 lo:Nat):Int) == 0 && (1:Int) == 1 && (bM items.size items.size hi - bM items.size 0 lo) == items.size)=true):=by
  intro q
  rw [QK,QK] at q
  have q1:((bM items.size 0 lo:Nat):Int)=0:=eq_of_beq q.1.1
  have q2:bM items.size items.size hi - bM items.size 0 lo=items.size:=eq_of_beq q.2
  exact hw ⟨by omega,by omega⟩
 show Q7 _ _ (if (((bM items.size 0 lo:Nat):Int) == 0 && (1:Int) == 1 && (bM items.size items.size hi - bM items.size 0 lo) == items.size)=true then _ else _) _ _ s
 rw [if_neg hno,Gf]
 first
  | exact Qw (m:=TL _) (Rz (Qz ⟨_,rfl,Qz h⟩) OI)
  | exact Qw (m:=TL _) (Rz (Qw (Qz (Qz ⟨_,rfl,Qz h⟩))) OI)
  | exact Qw (Qw (m:=TL _) (Rz (Qz (Qz ⟨_,rfl,Qz h⟩)) OI))
  | exact Qw (Qw (m:=TL _) (Rz (Qz ⟨_,rfl,Qz h⟩) OI))
end
end HT
namespace L2
open PySem PySem.Spec PyProof.Rows
abbrev TO:=St->Hp->(Option Int->Hp->Prop)->Prop
def PO (X:Cx) (e:Option Rp) (t:TO):Prop:=
 ∀(pins:List (QW×Obj)) (s:QC) (σ:St) (H:Hp) (Q:Option Int->Hp->Prop),Inv X pins σ H s->t σ H Q->
  Q7 (Rb X.prog X.w) X.A (evalPart e X.env) (λu s'=>∃o H',Inv X pins σ H' s'/\X_ u o/\Q o H') X.xe s
def Jx:TO:=λ_ H Q=>Q none H
def MY (t:TE):TO:=λσ H Q=>t σ H λx H1=>∃i,x=.int i/\Q (some i) H1
theorem intsAre_of {ns:List Int}:∀{us:List Qy},Vals (ns.map V.int) us->UM us ns:=by
 induction ns with
 | nil=>intro us r;rw [Uj] at r;cases r;exact .nil
 | cons n ns ih=>
  intro us r
  rw [Q5] at r
  cases r with
  | cons r1 r2=>
   obtain ⟨t,e⟩:=r1
   subst e
   exact .cons n t (ih r2)
section
variable {X:Cx}{e:Rp}{te:TE}{lo hi:Option Rp}{tl th:TO}{pos p2:Pos}
theorem IW:PO X none Jx:=by
 intro pins s σ H Q I h
 rw [aam]
 exact Qz ⟨none,H,I,.none,h⟩
theorem IX (h:PE X e te):PO X (some e) (MY te):=by
 intro pins s σ H Q I hw
 rw [evalPart_some]
 refine bP (h pins s σ H _ I hw) λu s1 ⟨x,H1,I1,r1,q1⟩=>?_
 obtain ⟨i,rfl,q⟩:=q1
 obtain ⟨t,rfl⟩:=r1
 exact ⟨some i,H1,I1,.int i t,q⟩
def su (X:Cx) (r:V->Option Int->Option Int->Hp->VK->Prop):Prop:=
 ∀(pins:List (QW×Obj)) (s:QC) (σ:St) (H:Hp) (x:V) (v vl vu:Qy) (lo hi:Option Int) (sl:QW) (Q:VK),Inv X pins σ H s->RelV x v->s.heap.IsSliceOf sl vl vu .none->X_ vl lo->X_ vu hi->r x lo hi H Q->
  ∃T id,typeLookup (.type T) "__getitem__"=pure (some (.builtin id))/\s.TypeIs v T/\Q7 (Rb X.prog X.w) X.A (YA v (.ref sl)) (EP X pins σ Q) X.xe s
theorem su.or {r r':V->Option Int->Option Int->Hp->VK->Prop}(h:su X r) (h':su X r'):su X (λx lo hi H Q=>r x lo hi H Q\/r' x lo hi H Q):=by
 intro pins s σ H x v vl vu lo hi sl Q I rx hs pl pu q
 rcases q with q | q
 ·exact h pins s σ H x v vl vu lo hi sl Q I rx hs pl pu q
 ·exact h' pins s σ H x v vl vu lo hi sl Q I rx hs pl pu q
def Oj (r:V->Option Int->Option Int->Hp->VK->Prop) (te:TE) (tl th:TO):TE:=λσ H Q=>te σ H λx H1=>tl σ H1 λl H2=>th σ H2 λu H3=>r x l u H3 Q
theorem Gd {r:V->Option Int->Option Int->Hp->VK->Prop}(hr:su X r) (he:PE X e te) (hl:PO X lo tl) (hu:PO X hi th):PE X (.Subscript e (.Slice lo hi none p2) pos) (Oj r te tl th):=by
 intro pins s σ H Q I h
 refine Subscript_ (bP (he pins s σ H _ I h) λv s1 ⟨x,H1,I1,r1,q1⟩=>?_)
 refine wpAny_Slice (bP (hl pins s1 σ H1 _ I1 q1) λvl s2 ⟨l,H2,I2,pl,q2⟩=>bP (hu pins s2 σ H2 _ I2 q2) λvu s3 ⟨u,H3,I3,pu,q3⟩=>?_)
 rw [aam]
 refine Qz ?_
 have I4:Inv X pins σ H3 {s3 with heap:=s3.heap.push {cls:=.type "slice",data:=.fields #[vl,vu,.none]}}:=I3.kept (t':=s3.toks) λb ob q=>QI _ q
 obtain ⟨T,id,hT,ht,hg⟩:=hr pins {s3 with heap:=s3.heap.push {cls:=.type "slice",data:=.fields #[vl,vu,.none]}} σ H3 x v vl vu l u s3.heap.objs.size Q I4 r1 (abg ..) pl pu q3
 show Q7 (Rb X.prog X.w) X.A (aan e (.Slice lo hi none p2) v (.ref s3.heap.objs.size)) (EP X pins σ Q) X.xe {s3 with heap:=s3.heap.push {cls:=.type "slice",data:=.fields #[vl,vu,.none]}}
 exact tail_any (ops:=[.ref s3.heap.objs.size,v]) ht hT hg (by with_unfolding_all rfl)
def mH (xs:List V) (lo hi:Option Int):List V:=(xs.drop (HT.bM xs.length 0 lo)).take (HT.bM xs.length xs.length hi - HT.bM xs.length 0 lo)
theorem qO (xs:List V) (lo hi:Option Int):(mH xs lo hi).length<=xs.length:=by
 unfold mH
 rw [T9,T_]
 omega
def NG (K:Qx):V->Option Int->Option Int->Hp->VK->Prop:=λx lo hi H Q=>∃a xs,x=.ref a/\cY K H a xs/\
 ¬(HT.bM xs.length 0 lo=0/\HT.bM xs.length xs.length hi=xs.length)/\∀p,H p=none->Q (.ref p) (upd H p (.tup (mH xs lo hi)))
theorem LO:su X (NG X.K):=by
 intro pins s σ H x v vl vu lo hi sl Q I rx hs pl pu h
 obtain ⟨a,xs,rfl,hx,hw,q⟩:=h
 cases rx
 obtain ⟨its,r,ht,hz⟩:=I.tuple hx
 have hlen:its.toArray.size=xs.length:=by rw [QO];exact r.length.symm
 refine ⟨"tuple",_,RO.lookup,ht.typeIs,?_⟩
 refine HT.qF ht hs pl pu (by rw [hlen];exact hw) ?_ (by rw [hlen];exact hz)
 rw [hlen]
 refine ⟨.ref s.heap.objs.size,_,I.laid (t':=s.toks) (o:=.tup (mH xs lo hi)) (λb ob q=>QI _ q) (QL _) ?_,rfl,q _ (I.hok.fresh (QL _))⟩
 exact ⟨Rr (qO xs lo hi) hz,_,(r.drop (HT.bM xs.length 0 lo)).take (HT.bM xs.length xs.length hi - HT.bM xs.length 0 lo),aaH _ _⟩
def ML (K:Qx):R2:=λx y H Q=>∃a b xs ys,x=.ref a/\y=.ref b/\cY K H a xs/\cY K H b ys/\xs≠[]/\xs.length + ys.length<=sizeLine/\
 (ys=[]->Q (.ref a) H)/\(ys≠[]->∀p,H p=none->Q (.ref p) (upd H p (.tup (xs++ys))))
theorem Vals.nil_iff {xs:List V}{us:List Qy}(r:Vals xs us):us=[]↔xs=[]:=by
 cases r with
 | nil=>simp
 | cons _ _=>simp
theorem IF:cT X (Uq .Add) (ML X.K):=by
 intro pins s σ H x y v u Q I rx ry h
 obtain ⟨a,b,xs,ys,rfl,rfl,ha,hb,hx,hz,q1,q2⟩:=h
 cases rx
 cases ry
 obtain ⟨its,r1,p1,_⟩:=I.tuple ha
 obtain ⟨its2,r2,p2,_⟩:=I.tuple hb
 refine HT.HR p1 p2 (λz=>hx (r1.nil_iff.mp z)) (λz=>⟨.ref a,H,I,rfl,q1 (r2.nil_iff.mp z)⟩) (λz=>?_) (by rw [<-r1.length,<-r2.length];exact hz)
 refine ⟨.ref s.heap.objs.size,_,I.laid (t':=s.toks) (o:=.tup (xs++ys)) (λb ob q=>QI _ q) (QL _) ?_,rfl,q2 (λw=>z (r2.nil_iff.mpr w)) _ (I.hok.fresh (QL _))⟩
 exact ⟨by rw [Rh];exact hz,_,r1.append r2,aaH _ _⟩
end
def yx (n:Nat) (i:Int):Option Nat:=if 0<=i then (if i < n then some i.toNat else none) else if -(n:Int)<=i then some (i + n).toNat else none
def lS {α:Type}(xs:List α) (i:Int):Option α:=(yx xs.length i).bind λj=>xs[j]?
theorem Ii {n:Nat}{i:Int}{j:Nat}(h:yx n i=some j):Yd i n=some j/\j < n/\-(n:Int)<=i/\i < n:=by
 unfold yx at h
 by_cases h0:0<=i
 ·rw [if_pos h0] at h
  by_cases h1:i < n
  ·rw [if_pos h1] at h
   have e:i.toNat=j:=RS h
   exact ⟨by rw [seqIndex_of h0 h1,e],by omega,by omega,h1⟩
  ·rw [if_neg h1] at h;cases h
 ·rw [if_neg h0] at h
  by_cases h1:-(n:Int)<=i
  ·rw [if_pos h1] at h
   have e:(i + n).toNat=j:=RS h
   exact ⟨by rw [seqIndex_neg (by omega) h1,e],by omega,h1,by omega⟩
  ·rw [if_neg h1] at h;cases h
theorem uw {α:Type}{xs:List α}{i:Int}{v:α}(h:lS xs i=some v):∃j,Yd i xs.length=some j/\xs[j]?=some v/\j < xs.length/\-(xs.length:Int)<=i/\i < xs.length:=by
 unfold lS at h
 cases e:yx xs.length i with
 | none=>rw [e] at h;cases h
 | some j=>
  rw [e] at h
  obtain ⟨h1,h2,h3,h4⟩:=Ii e
  exact ⟨j,h1,h,h2,h3,h4⟩
def qc (b:Rp):Prop:=∀o i,subscripted b false o i=operate [o,i] (YA o i)
def oV (X:Cx) (r:R2):Prop:=
 ∀(value slice:Rp) (pins:List (QW×Obj)) (s:QC) (σ:St) (H:Hp) (x y:V) (v u:Qy) (Q:VK),Inv X pins σ H s->RelV x v->RelV y u->r x y H Q->
  subscripted slice false v u=operate [v,u] (YA v u)->Q7 (Rb X.prog X.w) X.A (aan value slice v u) (EP X pins σ Q) X.xe s
def N6 (X:Cx) (id:String) (r:V->List V->Hp->VK->Prop):Prop:=
 ∀(pins:List (QW×Obj)) (s:QC) (σ:St) (H:Hp) (x:V) (xs:List V) (v:Qy) (us:List Qy) (Q:VK),Inv X pins σ H s->RelV x v->Vals xs us->r x xs H Q->
  Q7 (Rb X.prog X.w) X.A (call (.builtin id) (v::us)) (EP X pins σ Q) X.xe s
section
variable {X:Cx}{a b:Rp}{ta tb:TE}{pos:Pos}
theorem oV.or {r r':R2}(h:oV X r) (h':oV X r'):oV X (λx y H Q=>r x y H Q\/r' x y H Q):=by
 intro value slice pins s σ H x y v u Q I rx ry q hs
 rcases q with q | q
 ·exact h value slice pins s σ H x y v u Q I rx ry q hs
 ·exact h' value slice pins s σ H x y v u Q I rx ry q hs
theorem MF {r:R2}(hr:oV X r) (ha:PE X a ta) (hb:PE X b tb) (hs:qc b):PE X (.Subscript a b pos) (EA r ta tb):=by
 intro pins s σ H Q I h
 exact Subscript_ (EV ha hb I h λv u s2 x y H2 I2 rx ry q=>hr a b pins s2 σ H2 x y v u Q I2 rx ry q (hs _ _))
def Lz (K:Qx):R2:=λx y H Q=>∃p xs i v,x=.ref p/\y=.int i/\cC K H p xs/\lS xs i=some v/\Q v H
def LB (K:Qx):R2:=λx y H Q=>∃p xs i v,x=.ref p/\y=.int i/\cY K H p xs/\lS xs i=some v/\Q v H
def LA:R2:=λx y H Q=>∃z i c,x=.str z/\y=.int i/\z.length<=sizeLine/\lS z.cps.toList i=some c/\Q (.str ⟨#[c]⟩) H
theorem Ij:oV X (Lz X.K):=by
 intro value slice pins s σ H x y v u Q I rx ry h hs
 obtain ⟨p,xs,i,z,rfl,rfl,hq,he,q⟩:=h
 cases rx
 obtain ⟨t,rfl⟩:=ry
 obtain ⟨its,r,pl,hz⟩:=I.list hq
 obtain ⟨j,h1,h2,h3,h4,h5⟩:=uw he
 obtain ⟨w,ew,rw'⟩:=r.get h2
 have hl:=r.length
 have hn:=nh
 have fin:EP X pins σ Q w s:=⟨z,H,I,rw',q⟩
 by_cases h0:0<=i
 ·have hj:i.toNat=j:=by
   rw [seqIndex_of h0 h5] at h1
   exact RS h1
  exact item_listR pl.isList h0 (by omega) (by rw [hj];simpa using ew) fin hs
 ·have hj:(i + (its.toArray.size:Int)).toNat=j:=by
   rw [seqIndex_neg (by omega) h4] at h1
   rw [QO,<-hl]
   exact RS h1
  exact Vc (x:=w) pl.isList.typeIs YC.lookup
   (wpAny_getItem_list_neg (Q:=λr s'=>r=w/\EP X pins σ Q r s') pl.isList (by omega) (by rw [QO] <;> omega) (by omega) (by rw [hj];simpa using ew) ⟨rfl,fin⟩) hs
theorem KI:oV X (LB X.K):=by
 intro value slice pins s σ H x y v u Q I rx ry h hs
 obtain ⟨p,xs,i,z,rfl,rfl,hq,he,q⟩:=h
 cases rx
 obtain ⟨t,rfl⟩:=ry
 obtain ⟨its,r,pl,hz⟩:=I.tuple hq
 obtain ⟨j,h1,h2,h3,h4,h5⟩:=uw he
 obtain ⟨w,ew,rw'⟩:=r.get h2
 have hl:=r.length
 have hn:=nh
 have fin:EP X pins σ Q w s:=⟨z,H,I,rw',q⟩
 exact Vc (x:=w) pl.typeIs slot_tuple_getitem.lookup
  (getItem_tuple (j:=j) (Q:=λr s'=>r=w/\EP X pins σ Q r s') pl (by omega) (by omega) (by rw [QO,<-hl];exact h1) (by simpa using ew) ⟨rfl,fin⟩) hs
theorem KH:oV X LA:=by
 intro value slice pins s σ H x y v u Q I rx ry h hs
 obtain ⟨z,i,c,rfl,rfl,hz,he,q⟩:=h
 obtain ⟨t,rfl⟩:=rx
 obtain ⟨t',rfl⟩:=ry
 obtain ⟨j,h1,h2,h3,h4,h5⟩:=uw he
 have hl:z.cps.toList.length=z.length:=by simp [Z7]
 rw [hl] at h1 h4 h5
 have hn:=nh
 exact tail_any (typeIs_str s z t) slot_str_getitem.lookup (getItem_str (c:=c) (by
  have e1:decide (i < -(2 ^ 63:Int))=false:=decide_eq_false (by omega)
  have e2:decide (i ≥ 2 ^ 63)=false:=decide_eq_false (by omega)
  rw [e1,e2,aao]) (by rw [h1];simpa using h2) ⟨.str ⟨#[c]⟩,H,I.tok _,⟨_,rfl⟩,q⟩) hs
def Od (K:Qx):R2:=λx y H Q=>Lz K x y H Q\/LB K x y H Q\/LA x y H Q
theorem KG:oV X (Od X.K):=Ij.or (KI.or KH)
theorem Inv.lst {pins:List (QW×Obj)}{σ:St}{H:Hp}{s:QC}{p:QW}{xs:List V}(I:Inv X pins σ H s) (h:H p=some (.lst xs)):
  ∃(its:List Qy) (n:Nat),Vals xs its/\s.heap.get? p=some {cls:=.type "list",data:=.seq its.toArray n}/\xs.length<=sizeLine:=by
 obtain ⟨z,its,n,r,e⟩:=I.hok p _ h
 exact ⟨its,n,r,e,z⟩
theorem zh (lo hi:Option Int) (n:Nat):(Vh lo hi none n).1=((HT.bM n 0 lo:Nat):Int)/\(Vh lo hi none n).2.1=((HT.bM n n hi:Nat):Int)/\(Vh lo hi none n).2.2=1:=by
 refine ⟨?_,?_,rfl⟩
 ·cases lo with
  | none=>simp [Vh,HT.bM]
  | some i=>
   simp only [Vh,HT.bM,Y7,show (1:Int) > 0 by decide,if_true]
   by_cases h:i < 0
   ·simp only [h,if_true] <;> omega
   ·simp only [h,if_false] <;> omega
 ·cases hi with
  | none=>simp [Vh,HT.bM]
  | some i=>
   simp only [Vh,HT.bM,Y7,show (1:Int) > 0 by decide,if_true]
   by_cases h:i < 0
   ·simp only [h,if_true] <;> omega
   ·simp only [h,if_false] <;> omega
theorem wQ (its:List Qy) (lo hi:Option Int):slicePick its.toArray lo hi none=((its.drop (HT.bM its.length 0 lo)).take (HT.bM its.length its.length hi - HT.bM its.length 0 lo)).toArray:=by
 obtain ⟨h1,h2,h3⟩:=zh lo hi its.toArray.size
 unfold slicePick
 rw [h1,h2,h3]
 simp only [sliceRange_one,pick_run,QO] <;> rfl
def NF (K:Qx):V->Option Int->Option Int->Hp->VK->Prop:=λx lo hi H Q=>∃a xs,x=.ref a/\cC K H a xs/\∀p,H p=none->Q (.ref p) (upd H p (.lst (mH xs lo hi)))
theorem Jt:su X (NF X.K):=by
 intro pins s σ H x v vl vu lo hi sl Q I rx hs pl pu h
 obtain ⟨a,xs,rfl,hx,q⟩:=h
 cases rx
 obtain ⟨its,r,ht,hz⟩:=I.list hx
 have hlen:=r.length
 refine ⟨"list",_,YC.lookup,ht.isList.typeIs,?_⟩
 refine wpAny_getItem_list_slice ht.isList hs pl pu .none (by simp) ?_ (by rw [QO] <;> omega)
 rw [wQ,<-hlen]
 refine ⟨.ref s.heap.objs.size,_,I.laid (t':=s.toks) (o:=.lst (mH xs lo hi)) (λb ob q=>QI _ q) (QL _) ?_,rfl,q _ (I.hok.fresh (QL _))⟩
 exact ⟨Rr (qO xs lo hi) hz,_,0,(r.drop (HT.bM xs.length 0 lo)).take (HT.bM xs.length xs.length hi - HT.bM xs.length 0 lo),QV _ rfl⟩
def sP:V->Bool
 | .non=>true
 | .bl _=>true
 | .int _=>true
 | .str _=>true
 | _=>false
def Kg:V->V->Bool
 | .non,.non=>true
 | .bl a,.bl b=>a == b
 | .bl a,.int b=>(if a then 1 else 0) == b
 | .int a,.bl b=>a == (if b then 1 else 0)
 | .int a,.int b=>a == b
 | .str a,.str b=>a == b
 | _,_=>false
theorem Kf {A:Rx}{s:QC}{y x:V}{u v:Qy}(ry:RelV y u) (rx:RelV x v) (fy:sP y=true) (fx:sP x=true):SN A s u v (Kg y x):=by
 cases y with
 | non=>
  cases ry
  cases x with
  | non=>cases rx;exact Xb _
  | bl b=>cases rx;exact aaP b
  | int b=>obtain ⟨t,rfl⟩:=rx;exact aaY b t
  | str b=>obtain ⟨t,rfl⟩:=rx;exact aaZ b t
  | _=>exact absurd (show false=true from fx) Rq
 | bl a=>
  cases ry
  cases x with
  | non=>cases rx;exact aaQ a
  | bl b=>cases rx;exact aaR a b
  | int b=>obtain ⟨t,rfl⟩:=rx;exact aa0 a b t
  | str b=>obtain ⟨t,rfl⟩:=rx;exact aa1 a b t
  | _=>exact absurd (show false=true from fx) Rq
 | int a=>
  obtain ⟨t',rfl⟩:=ry
  cases x with
  | non=>cases rx;exact aa2 a t'
  | bl b=>cases rx;exact aa3 a t' b
  | int b=>obtain ⟨t,rfl⟩:=rx;exact X7 a t' b t
  | str b=>obtain ⟨t,rfl⟩:=rx;exact XZ a t' b t
  | _=>exact absurd (show false=true from fx) Rq
 | str a=>
  obtain ⟨t',rfl⟩:=ry
  cases x with
  | non=>cases rx;exact aa4 a t'
  | bl b=>cases rx;exact aa5 a t' b
  | int b=>obtain ⟨t,rfl⟩:=rx;exact X0 a t' b t
  | str b=>obtain ⟨t,rfl⟩:=rx;exact abh a t' b t
  | _=>exact absurd (show false=true from fx) Rq
 | _=>exact absurd (show false=true from fy) Rq
theorem xW:bU X (.builtin "len") (λxs H Q=>∃p ys,xs=[.ref p]/\(cC X.K H p ys\/cY X.K H p ys)/\Q (.int ys.length) H):=by
 intro pins s σ H xs us Q I r h
 obtain ⟨p,ys,rfl,hq,q⟩:=h
 obtain ⟨u,rfl,rx⟩:=vals1 r
 cases rx
 have hn:=nh
 rcases hq with hq | hq
 ·obtain ⟨its,r',pl,hz⟩:=I.list hq
  have hlen:=r'.length
  exact Calls.call_len_list pl.isList (by simp only [QO] <;> omega) ⟨.int ys.length,H,I.tok _,⟨s.toks + 1,by rw [QO,hlen]⟩,q⟩
 ·obtain ⟨its,r',pl,hz⟩:=I.tuple hq
  have hlen:=r'.length
  exact len_tuple pl (by simp only [QO] <;> omega) ⟨.int ys.length,H,I.tok _,⟨s.toks + 1,by rw [QO,hlen]⟩,q⟩
theorem xX:bU X (.builtin "len") (λxs H Q=>∃z,xs=[.str z]/\z.length<=sizeLine/\Q (.int z.length) H):=by
 intro pins s σ H xs us Q I r h
 obtain ⟨z,rfl,hz,q⟩:=h
 obtain ⟨u,rfl,t,rfl⟩:=vals1 r
 have hn:=nh
 exact len_str (by omega) ⟨.int z.length,H,I.tok _,⟨_,rfl⟩,q⟩
theorem bU.or {f:Qy}{r r':List V->Hp->VK->Prop}(h:bU X f r) (h':bU X f r'):bU X f (λxs H Q=>r xs H Q\/r' xs H Q):=by
 intro pins s σ H xs us Q I rs q
 rcases q with q | q
 ·exact h pins s σ H xs us Q I rs q
 ·exact h' pins s σ H xs us Q I rs q
theorem wC:bU X (.type "tuple") (λxs H Q=>∃p ys,xs=[.ref p]/\((cC X.K H p ys/\∀l,H l=none->Q (.ref l) (upd H l (.tup ys)))\/(cY X.K H p ys/\Q (.ref p) H))):=by
 intro pins s σ H xs us Q I r h
 obtain ⟨p,ys,rfl,h⟩:=h
 obtain ⟨u,rfl,rx⟩:=vals1 r
 cases rx
 rcases h with ⟨hq,q⟩ | ⟨hq,q⟩
 ·obtain ⟨its,r',pl,hz⟩:=I.list hq
  have hlen:=r'.length
  refine call_tuple_list pl.isList (λh' kp=>?_) (by simp only [QO] <;> omega)
  have I1:Inv X pins σ H {s with heap:=h'}:=I.kept (t':=s.toks) kp
  have I2:Inv X pins σ (upd H h'.objs.size (.tup ys)) {s with heap:=h'.push {cls:=.type "tuple",data:=.seq its.toArray}}:=
   I1.laid (t':=s.toks) (λb o e=>QI _ e) (QL _) (show cg X.prog X.w _ _ _ (.tup ys) from ⟨hz,its,r',aaH _ _⟩)
  exact ⟨.ref h'.objs.size,_,I2,rfl,q _ (I1.hok.fresh (QL _))⟩
 ·obtain ⟨its,r',pl,hz⟩:=I.tuple hq
  exact call_tuple_same pl ⟨.ref p,H,I,rfl,q⟩
def Nf (K:Qx) (T:String) (x:V) (H:Hp):Prop:=match x with
 | .str _=>T="str"
 | .int _=>T="int"
 | .ref p=>(T="list"/\∃xs,cC K H p xs)\/(T="tuple"/\∃o,K.lookup p=some o/\o.cls=.type "tuple"/\o.dict=none)\/
   (T="dict"/\((∃kvs,H p=some (.dK kvs))\/∃kvs,H p=some (.dT kvs)))\/(T="set"/\∃S n,H p=some (.set S n))
 | _=>False
theorem L7 {pins:List (QW×Obj)}{σ:St}{H:Hp}{s:QC}{T:String}{x:V}{v:Qy}(I:Inv X pins σ H s) (r:RelV x v) (ty:Nf X.K T x H):
  s.TypeIs v T/\∀a,v=.ref a->∃ob,s.heap.get? a=some ob/\ob.dict=none:=by
 cases x with
 | str z=>
  obtain ⟨t,rfl⟩:=r
  cases (show T="str" from ty)
  exact ⟨typeIs_str s z t,λ_ e=>nomatch e⟩
 | int i=>
  obtain ⟨t,rfl⟩:=r
  cases (show T="int" from ty)
  exact ⟨typeIs_int s i t,λ_ e=>nomatch e⟩
 | ref p=>
  cases r
  rcases ty with ⟨rfl,xs,hq⟩ | ⟨rfl,o,hk,hc,hd⟩ | ⟨rfl,hk⟩ | ⟨rfl,S,n,hk⟩
  ·obtain ⟨its,_,pl,_⟩:=I.list hq
   refine ⟨pl.isList.typeIs,λa e=>?_⟩
   cases e
   obtain ⟨o,n,e,c,hd,_⟩:=pl
   exact ⟨o,e,hd⟩
  ·refine ⟨⟨o,I.kIn p o hk,hc⟩,λa e=>?_⟩
   cases e
   exact ⟨o,I.kIn _ o hk,hd⟩
  ·have z:∃o,s.heap.get? p=some o/\o.ExactDict:=by
    rcases hk with ⟨kvs,hk⟩ | ⟨kvs,hk⟩
    ·obtain ⟨_,_,_,_,o,_,_,e,ex,_⟩:=I.hok p _ hk
     exact ⟨o,e,ex⟩
    ·obtain ⟨_,_,_,_,o,_,_,e,ex,_⟩:=I.hok p _ hk
     exact ⟨o,e,ex⟩
   obtain ⟨o,e,ex⟩:=z
   refine ⟨⟨o,e,ex.1⟩,λa e2=>?_⟩
   cases e2
   exact ⟨o,e,ex.2.1⟩
  ·obtain ⟨o,_,_,_,e,ex,_⟩:=I.hok p _ hk
   refine ⟨⟨o,e,ex.1⟩,λa e2=>?_⟩
   cases e2
   exact ⟨o,e,ex.2.1⟩
 | _=>exact Uo ty
def Of (K:Qx) (T:String) (r:V->List V->Hp->VK->Prop) (to:TE) (t:TA):TE:=λσ H Q=>to σ H λx H1=>Nf K T x H1/\t σ H1 λxs H2=>r x xs H2 Q
variable {o e:Rp}{es:List Rp}{to:TE}{t:TA}{name:Str}{apos cpos:Pos}{T id:String}{r:V->List V->Hp->VK->Prop}
theorem xq (pa:PlainAttrs T) (slot:Slot T name id) (hty:typeOf (.builtin id)=pure (.type "method_descriptor")) (hm:N6 X id r) (ho:PE X o to) (ha:PA X (e::es) t)
  (hbase:VG o name X.env (eval o X.env)=eval o X.env:=by rfl)
  (hfew:((SY cpos (QU (e::es) X.env)).all (λx=>!x.1) && (Zf cpos (Wz [] X.env)).all (λx=>x.1.isSome)
   && decide ((e::es).length + ([]:List WA).length + (if ([]:List WA).isEmpty then 0 else 1) < 30))=true:=by rfl)
  (hline:(apos.endLine == cpos.line)=true:=by rfl) (hs:QU (e::es) X.env=(false,eval e X.env)::QU es X.env:=by rfl) (hplain:(SY cpos (QU es X.env)).any (·.1)=false:=by rfl):
  PE X (.Call (.Attribute o name apos) (e::es) [] cpos) (Of X.K T r to t):=by
 intro pins s σ H Q I h
 refine wpAny_Call_method_late hbase hfew hline rfl (bP (ho pins s σ H _ I h) λv s1 ⟨x,H1,I1,r1,ty,q1⟩=>?_)
 obtain ⟨h1,h2⟩:=L7 I1 r1 ty
 refine ⟨T,id,pa,slot,hty,h1,h2,?_⟩
 have hA:=ha cpos pins s1 σ H1 _ I1 q1
 rw [hs] at hA ⊢
 refine Calls.callWith_builtin (by show (false || (SY cpos (QU es X.env)).any (·.1))=false;rw [hplain] <;> rfl) (Calls.evalArgs_plain ?_)
 exact bP hA λus s2 ⟨vs,H2,I2,r2,q2⟩=>hm pins s2 σ H2 x vs v us Q I2 r1 r2 q2
end
def GV (X:Cx) (id:String) (r:V->List V->Hp->VK->Prop):Prop:=
 ∀(pins:List (QW×Obj)) (s:QC) (σ:St) (H:Hp) (x:V) (xs:List V) (v:Qy) (us:List Qy) (Q:VK),Inv X pins σ H s->RelV x v->Vals xs us->r x xs H Q->
  Q7 (Rb X.prog X.w) X.A (call (.builtin id) (v::us)) (EP X pins σ Q) X.xe s
theorem Vals.one:∀{x:V}{us:List Qy},Vals [x] us->∃u,us=[u]/\RelV x u
 | _,_,.cons r .nil=>⟨_,rfl,r⟩
theorem Vals.eraseIdx:∀{xs:List V}{us:List Qy}(i:Nat),Vals xs us->Vals (xs.eraseIdx i) (us.eraseIdx i)
 | _,_,_,.nil=>.nil
 | _,_,0,.cons _ t=>t
 | _,_,i + 1,.cons r t=>.cons r (Vals.eraseIdx i t)
theorem vF {α:Type}:∀(l:List α) (i:Nat),(l.eraseIdx i).length<=l.length
 | [],_=>QL _
 | _::_,0=>Sv _
 | _::r,i + 1=>Nat.succ_le_succ (vF r i)
section
variable {X:Cx}{pins:List (QW×Obj)}{σ:St}{H:Hp}{s:QC}{l b:QW}{xs ys zs:List V}
theorem Inv.lset {its its':List Qy}{n:Nat}{f:Array Qy->Array Qy}{t':Nat}(I:Inv X pins σ H s) (hH:H l=some (.lst xs))
  (e:s.heap.get? l=some {cls:=.type "list",data:=.seq its.toArray n}) (hf:f its.toArray=its'.toArray) (hv:Vals ys its') (hz:ys.length<=sizeLine):
  Inv X pins σ (upd H l (.lst ys)) {s with heap:=s.heap.update l (Sj f),toks:=t'}:=by
 have q:=abv e f
 rw [hf] at q
 refine I.write (x:=l) (e:=l) (by rw [hH];exact trivial) (.inl rfl) (λb' u hb hu=>(Vd s.heap (Sj f) (S8 hb)).trans hu) ⟨_,q⟩ ?_
 exact ⟨hz,its',_,hv,q⟩
theorem Inv.lnew {its:List Qy}{t':Nat}(I:Inv X pins σ H s) (hv:Vals ys its) (hz:ys.length<=sizeLine):
  Inv X pins σ (upd H s.heap.objs.size (.lst ys)) {s with heap:=s.heap.push {cls:=.type "list",data:=.seq its.toArray},toks:=t'}:=
 I.laid (λ_ _ q=>QI _ q) (QL _) ⟨hz,its,0,hv,QV _ rfl⟩
theorem Inv.fresh (I:Inv X pins σ H s):H s.heap.objs.size=none:=I.hok.fresh (QL _)
theorem Inv.lstM (I:Inv X pins σ H s) (hH:H l=some (.lst xs)):xs.length<=sizeLine/\∃(its:List Qy) (n:Nat),Vals xs its/\xs.length=its.length/\s.heap.get? l=some {cls:=.type "list",data:=.seq its.toArray n}:=by
 obtain ⟨z,its,n,r,e⟩:=I.hok l _ hH
 exact ⟨z,its,n,r,r.length,e⟩
theorem yL {n:Nat}(h:n<=sizeLine):SO n=false:=by
 unfold SO
 exact decide_eq_false (by omega)
end
section
variable {X:Cx}
def Jj:V->List V->Hp->VK->Prop:=λx vs H Q=>∃l xs y,x=.ref l/\vs=[y]/\H l=some (.lst xs)/\xs.length < sizeLine/\Q .non (upd H l (.lst (xs++[y])))
theorem pK:GV X "list.append" Jj:=by
 intro pins s σ H x vs v us Q I rx rv h
 obtain ⟨l,xs,y,rfl,rfl,hH,hz,q⟩:=h
 cases rx
 obtain ⟨u,rfl,ru⟩:=rv.one
 obtain ⟨z,its,n,r,hl,e⟩:=I.lstM hH
 refine YD F.slot_list_append ⟨_,e,rfl⟩ F.entry_list_append (F.args_list_append_2 _ _) (PySem.list_append l its.toArray n u (by rw [QO];omega)) ⟨e,?_⟩
 refine ⟨.non,_,I.lset (its':=its++[u]) hH e (by simp) (r.append (.cons ru .nil)) ?_,rfl,q⟩
 rw [Rh,List.length_singleton]
 omega
def Jk:V->List V->Hp->VK->Prop:=λx vs H Q=>∃l b xs zs,x=.ref l/\vs=[.ref b]/\H l=some (.lst xs)/\H b=some (.lst zs)/\xs.length + zs.length<=sizeLine/\Q .non (upd H l (.lst (xs++zs)))
theorem Nc:GV X "list.extend" Jk:=by
 intro pins s σ H x vs v us Q I rx rv h
 obtain ⟨l,b,xs,zs,rfl,rfl,hH,hB,hz,q⟩:=h
 cases rx
 obtain ⟨u,rfl,ru⟩:=rv.one
 cases ru
 obtain ⟨z,its,n,r,hl,e⟩:=I.lstM hH
 obtain ⟨z2,its2,n2,r2,hl2,e2⟩:=I.lstM hB
 have hsz:its.toArray.size + its2.toArray.size<=sizeLine:=by rw [QO,QO];omega
 have ON:¬(!its.toArray.isEmpty && SO (its.toArray.size + its2.toArray.size))=true:=by
  rw [yL hsz,Uc]
  exact Rq
 refine YD Ye ⟨_,e,rfl⟩ XR (Xs _ _)
  (AutoSeq1.list_extend_list_list_0 l its.toArray n b its2.toArray n2 ON (by rw [QO];omega) (by omega)) ⟨e,e2,?_⟩
 refine ⟨.non,_,I.lset (its':=its++its2) hH e (by simp) (r.append r2) ?_,rfl,q⟩
 rw [Rh]
 omega
def LC:V->List V->Hp->VK->Prop:=λx vs H Q=>∃l xs i k y,x=.ref l/\vs=[.int i]/\H l=some (.lst xs)/\-(2 ^ 63)<=i/\i < 2 ^ 63/\Yd i xs.length=some k/\xs[k]?=some y/\Q y (upd H l (.lst (xs.eraseIdx k)))
theorem FF:GV X "list.pop" LC:=by
 intro pins s σ H x vs v us Q I rx rv h
 obtain ⟨l,xs,i,k,y,rfl,rfl,hH,h1,h2,hk,hy,q⟩:=h
 cases rx
 obtain ⟨u,rfl,ru⟩:=rv.one
 obtain ⟨t,rfl⟩:=ru
 obtain ⟨z,its,n,r,hl,e⟩:=I.lstM hH
 obtain ⟨w,hw,rw'⟩:=r.get hy
 refine YD F.slot_list_pop ⟨_,e,rfl⟩ F.entry_list_pop (F.args_list_pop_2 _ _)
  (MeetsSeq.list_pop_at l its.toArray n i t k w (fitsIndex_both h1 h2) (by rw [QO,<-hl];exact hk) (by rw [<-R4];exact hw) (by rw [QO];omega)) ⟨e,?_⟩
 refine ⟨y,_,I.lset (its':=its.eraseIdx k) hH e ?_ (r.eraseIdx k) ?_,rw',q⟩
 ·show its.toArray.eraseIdxIfInBounds k=(its.eraseIdx k).toArray
  rw [List.eraseIdxIfInBounds_toArray]
 ·have:=vF xs k
  omega
def NC:R2:=λx y H Q=>∃l b xs zs,x=.ref l/\y=.ref b/\H l=some (.lst xs)/\H b=some (.lst zs)/\xs.length + zs.length<=sizeLine/\∀p,H p=none->Q (.ref p) (upd H p (.lst (xs++zs)))
theorem DY:cT X (Uq .Add) NC:=by
 intro pins s σ H x y v u Q I rx ry h
 obtain ⟨l,b,xs,zs,rfl,rfl,hH,hB,hz,q⟩:=h
 cases rx
 cases ry
 obtain ⟨z,its,n,r,hl,e⟩:=I.lstM hH
 obtain ⟨z2,its2,n2,r2,hl2,e2⟩:=I.lstM hB
 refine PySem.P.add_list e e2 ?_ (by rw [QO,QO];omega)
 have ea:its.toArray++its2.toArray=(its++its2).toArray:=by simp
 rw [ea]
 exact ⟨.ref _,_,I.lnew (t':=s.toks) (r.append r2) (by rw [Rh];omega),rfl,q _ I.fresh⟩
end
end L2
namespace Att
open PySem PySem.W PySem.Calls PyProof.Rows
theorem tu {P:aaI}{h:Sh}:∀(ns:List Int) (vs:List Qy),WellAll P h vs (ns.map abz)->UM vs ns:=by
 intro ns
 induction ns with
 | nil=>
  intro vs w
  rw [Uj] at w
  cases w
  exact .nil
 | cons n ns ih=>
  intro vs w
  rw [Q5] at w
  cases w with
  | cons a b=>
   cases a
   exact .cons _ _ (ih _ b)
theorem Ex {l:OpenLaw}{n:Nat}(hn:l.most=some n){P:aaI}{h:Sh}{args:List WData}{vals:List Qy}
  (hpre:l.row.toRowW.claim.pre args=true) (hwl:WellAll P h vals args):
  ∃a vs ns,vals=[UT a]/\args=[WData.list (ns.map abz)]/\h.get? a=some {cls:=.type "list",data:=.seq vs.toArray}/\UM vs ns/\ns.length<=n:=by
 have hsh:WShape.hasAll [] args [.list .int]=true:=(pre_splitW hpre).1
 have hc:l.pre.holds [] {args:=args}=true:=(pre_splitW hpre).2
 obtain ⟨d,r,rfl,h1,h2⟩:=hasAllW_cons hsh
 obtain rfl:=hasAllW_nil h2
 obtain ⟨xs,rfl,h3⟩:=hasW_list h1
 obtain ⟨ns,rfl⟩:=items_int h3
 have hlen:ns.length<=n:=by
  unfold OpenLaw.pre at hc
  have h4:(WTm.not (.lt (.lit (.int (n:Int))) (.len (.arg 0)))).holds [] {args:=[.list (ns.map .int)]}=true:=by
   have h4:=(holds_andW hc).1
   rw [hn] at h4
   exact h4
  have h5:=condW_of h4 (w_not (w_lt w_lit (w_len_list (w_arg rfl))))
  rw [QA] at h5
  refine Nat.le_of_not_lt λq=>?_
  have q':(n:Int) < ((ns.length:Nat):Int):=by omega
  first
   | (rw [decide_eq_true q'] at h5;exact absurd h5 (by decide))
   | (simp at h5;omega)
 cases hwl with
 | cons w1 w2=>
  cases w2
  cases w1 with
  | list ho hall=>exact ⟨_,_,ns,rfl,rfl,ho,tu ns _ hall,hlen⟩
theorem Eg (l:OpenLaw) (args:List WData):l.row.toRowW.claim.post args (.bool true) args=true:=
 postW_of (r:=l.row.toRowW) (X:=(true == true))
  (show abo [] (.bool true) .bool=true by first | rfl | decide | simp [abo,WShape.arms,WShape.armsAll])
  (show (WTm.eq .res (.lit (.bool true))).value [] {args:=args,res:=some (.bool true),after:=args}=some (.bool (true == true)) from w_eq_bool (w_res rfl) w_lit) rfl
theorem zH {l:OpenLaw}{n:Nat}{q:Q8}{loose:List Str}{XP:(Str->Option Qy)->Sh->Prop}{YP:Ru->Sh->Prop}{d:DefRec}
  (hn:l.most=some n) (hdf:d.params.defaults=[])
  (call:∀(w:Ru) (s₀ s₁:QC) (mg mb:Str->Option Qy) (fa:QW) (o:Obj) (pm cd doc:Qy) (a:QW) (vs:List Qy) (ns:List Int),
   Ground q loose [] XP w s₀ mg mb s₁.heap->YP w s₁.heap->
   s₁.heap.get? fa=some o->o.data=.func (docDef d.name d.params d.body d.scope pm cd doc)->s₁.heap.CodeRec cd d.name->mg d.name=some (.ref fa)->
   s₁.heap.get? a=some {cls:=.type "list",data:=.seq vs.toArray}->UM vs ns->ns.length<=n->s₁.gens=#[]->
   Tf (Rb l.prog w) YE (.call (.ref fa) ⟨[.ref a],[]⟩) (λr s'=>r=.ok (.ret (.bool true))/\OldK s₁.heap s'.heap/\s'.os=s₁.os/\W6 s'.gens) s₁):
  WalkO q loose XP YP l.row.toRowW d [] (λf vs=>Z8 f vs):=by
 intro w s₀ s₁ mg mb G Y fa o pm cd doc dV kV ho hd hcd hD hmg hg args vals as hpre hlay hrd hwl hlo
 obtain rfl:dV=.none:=Dflts.none hD hdf
 obtain rfl:kV=.none:=Dflts.noKw hD
 obtain ⟨a,vs,ns,rfl,rfl,hobj,hints,hlen⟩:=Ex hn hpre hwl
 refine enter_call (Tj (call w s₀ s₁ mg mb fa o pm cd doc a vs ns G Y ho (fd_plain hd) hcd hmg hobj hints hlen hg) λr s' hq=>?_)
 obtain ⟨rfl,h2,h3,h4⟩:=hq
 exact ⟨.inl ⟨.bool true,.bool true,[],rfl,λ_=>rfl,.bool true,Eg l _,λ_=>⟨TM,λ_ hm=>(nomatch hm)⟩⟩,h2,h3,h4⟩
end Att
namespace L2
open PySem PySem.Spec PyProof.Rows
theorem vY:∀{vs:List Qy}{ns:List Int},UM vs ns->Vals (ns.map V.int) vs
 | _,_,.nil=>.nil
 | _,_,.cons n t h=>.cons ⟨t,rfl⟩ (vY h)
def Bm (H:Hp):Prop:=∀b,H b=none\/∃o xs,H b=some (.frz o (.lst xs))
theorem Fx {P:Q8}{w:Ru}{K:Qx}{mg mb:Str->Option Qy}{CX:qH}{k:Nat}{fa a:QW}{fd:Ro}{x:Str}{sp:Sp}{s₁:QC}{vs:List Qy}{ns:List Int}
  (KX:K.In s₁.heap) (hns:s₁.heap.Ns QM mg) (hb:s₁.heap.Ns Z4 mb) (P9:∀x:Str,x≠"__name__"->mb x=RL x) (hlim:s₁.heap.NoLimit) (hg:s₁.gens=#[])
  (ha:s₁.heap.get? a=some {cls:=.type "list",data:=.seq vs.toArray}) (hi:UM vs ns) (hl:ns.length<=sizeLine) (hr:dY k YE)
  (F:∀base:Sh,K.In base->base.Ns QM mg->jw P w K mg base CX k fa fd [x] sp) (hbind:∀(s:QC) (u:Qy),Zj s fd ⟨[u],[]⟩ [(x,u)])
  (OS:∀H:Hp,Bm H->cC K H a (ns.map V.int)->sp [.ref a] H (λv _=>v=.bl true) λ_ _ _=>False)
  (Ph:∀H e s',CX [] H s₁ (λ_ _ _=>False) e s'->False):
  Tf (Rb P w) YE (.call (.ref fa) ⟨[.ref a],[]⟩) (λr s'=>r=.ok (.ret (.bool true))/\OldK s₁.heap s'.heap/\s'.os=s₁.os/\W6 s'.gens) s₁:=by
 have rv:=vY hi
 have lenV:=hi.length
 have core:∀H:Hp,Bm H->cC K H a (ns.map V.int)->gn P w H s₁.heap->(∀b,H b≠none->b=a)->(H a≠none->K.lookup a=none)->
   Tf (Rb P w) YE (.call (.ref fa) ⟨[.ref a],[]⟩) (λr s'=>r=.ok (.ret (.bool true))/\OldK s₁.heap s'.heap/\s'.os=s₁.os/\W6 s'.gens) s₁:=by
  intro H hO hS hok hA hK
  have base_of:∀{b:QW}{o:Obj},s₁.heap.get? b=some o->H b=none->(nU s₁.heap H).get? b=some o:=λe n=>Fe e n
  have noA:∀{b:QW}{o:Obj}{es:Array Yg}{ep:Nat},s₁.heap.get? b=some o->o.data=.dict es ep->H b=none:=fun {b o es ep} e d=>by
   cases q:H b with
   | none=>rfl
   | some u=>
    have e':b=a:=hA b (by rw [q];simp)
    subst e'
    rw [ha] at e;cases e
    have d':Data.seq vs.toArray _=Data.dict es ep:=d
    cases d'
  have nsK:∀{b:QW}{m:Str->Option Qy},s₁.heap.Ns b m->(nU s₁.heap H).Ns b m:=fun {b m} ⟨o,es,ep,e,d,r⟩=>⟨o,es,ep,base_of e (noA e d),d,r⟩
  have P1:K.In (nU s₁.heap H):=λb o e=>base_of (KX b o e) (by
   cases q:H b with
   | none=>rfl
   | some u=>
    have e':b=a:=hA b (by rw [q];simp)
    subst e'
    rw [hK (by rw [q];simp)] at e;cases e)
  have hM:Mod K mg (nU s₁.heap H):=⟨P1,nsK hns,⟨mb,nsK hb,P9⟩,let ⟨mc,h1,h2⟩:=hlim;⟨mc,nsK h1,h2⟩⟩
  have e0:Be P w K mg (nU s₁.heap H) YE [] s₁ H:=⟨rfl,hM,λb o e=>IE e,aaJ (DM _ _),trivial,λb hb=>absurd (show b∈([]:List QW) from hb) (by simp),hok,.of_eq hg⟩
  refine Tj ((F _ P1 (nsK hns)).run YE [] s₁ H ⟨[.ref a],[]⟩ [.ref a] [.ref a] _ _ hr e0 (hbind s₁ (.ref a)) (.cons rfl .nil) (OS H hO hS)) λr s' h=>?_
  cases r with
  | error e=>exact (Ph H e s' h).elim
  | ok fl=>
   cases fl with
   | next=>exact Uo h
   | brk=>exact Uo h
   | cont=>exact Uo h
   | ret u=>
    obtain ⟨v,H',os,bare,un,PL,r',q⟩:=h
    have q':v=.bl true:=q
    subst q'
    obtain rfl:u=TF true:=r'
    refine ⟨rfl,OldK.of_keep λb o e=>?_,os,bare⟩
    cases q:H b with
    | none=>exact un.keep b o e q (by intro z;exact absurd (show b∈([]:List QW) from z) (by simp)) (by simp)
    | some u=>
     rcases hO b with z | ⟨ob,xs,z⟩
     ·rw [q] at z;cases z
     ·have z2:=un.frzs b ob _ z
      obtain ⟨e1,_⟩:=hok b _ z
      obtain ⟨e2,_⟩:=PL b _ z2
      rw [e] at e1;cases e1
      exact e2
 cases hk:K.lookup a with
 | some o=>
  have e:=KX a o hk
  rw [ha] at e
  cases e
  refine core (λ_=>none) (λ_=>.inl rfl) (.inr ⟨_,vs.toArray,_,hk,rfl,rfl,rfl,by rw [QO,lenV];exact hl,by simpa using rv⟩) (λb u z=>by have z':(none:Option HO)=some u:=z;cases z') (λb z=>absurd rfl z) λz=>absurd rfl z
 | none=>
  refine core (λb=>if b=a then some (.frz {cls:=.type "list",data:=.seq vs.toArray} (.lst (ns.map V.int))) else none) (λb=>?_) (.inl (.inr ⟨{cls:=.type "list",data:=.seq vs.toArray},if_pos rfl⟩)) (λb u z=>?_) (λb z=>?_) λ_=>hk
  ·by_cases hb:b=a
   ·exact .inr ⟨_,_,if_pos hb⟩
   ·exact .inl (if_neg hb)
  ·by_cases hb:b=a
   ·have z':=(if_pos hb).symm.trans z
    cases z'
    subst hb
    exact ⟨ha,by rw [QA];exact hl,vs,_,rv,ha⟩
   ·have z':=(if_neg hb).symm.trans z
    cases z'
  ·by_cases hb:b=a
   ·exact hb
   ·exact absurd (if_neg hb) z
abbrev Ox {K:Qx}{h:Sh}(_:K.In h):Qx:=K
theorem JD {l:Xc}{n k:Nat}{q:Q8}{loose:List Str}{XP:(Str->Option Qy)->Sh->Prop}{YP:Ru->Sh->Prop}{d:DefRec}{K:aaI->Qx}{CX:Ru->qH}{sp:Ru->Sp}{x:Str}
  (hn:l.most=some n) (hn2:n<=sizeLine) (hdf:d.params.defaults=[]) (hr:dY k YE)
  (hY:∀(w:Ru) (h:Sh),YP w h->(K w.params).In h)
  (F:∀(w:Ru) (mg:Str->Option Qy) (fa:QW) (h:Sh),(K w.params).In h->h.Ns QM mg->mg d.name=some (.ref fa)->
   ∃fd:Ro,(∀(s:QC) (u:Qy),Zj s fd ⟨[u],[]⟩ [(x,u)])/\
    ∀base:Sh,(K w.params).In base->base.Ns QM mg->jw l.prog w (K w.params) mg base (CX w) k fa fd [x] (sp w))
  (OS:∀(w:Ru) (H:Hp) (a:QW) (ns:List Int),ns.length<=n->Bm H->cC (K w.params) H a (ns.map V.int)->sp w [.ref a] H (λv _=>v=.bl true) λ_ _ _=>False)
  (Ph:∀(w:Ru) (H:Hp) (s:QC) (e:Qy) (s':QC),CX w [] H s (λ_ _ _=>False) e s'->False):
  aap q loose XP YP l.row.toRowW d [] (λf vs=>Z8 f vs):=by
 refine Att.zH hn hdf λw s₀ s₁ mg mb fa o pm cd doc a vs ns G Y ho hd hcd hmg hobj hints hlen hg=>?_
 have KX:=hY w _ Y
 obtain ⟨fd,hb,hF⟩:=F w mg fa _ KX G.T.g hmg
 exact Fx KX G.T.g G.T.b G.T.builtins G.T.nolimit hg hobj hints (Rr hlen hn2) hr hF hb (λH hO hS=>OS w H a ns hlen hO hS) λH e s'=>Ph w H s₁ e s'
def aH (s:T7):Arguments:=match s with
 | .FunctionDef _ a _ _ _ _ _ _ _ _=>a
 | _=>{posonlyargs:=[],args:=[],vararg:=none,kwonlyargs:=[],kw_defaults:=[],kwarg:=none,defaults:=[]}
def aG (s:T7):List T7:=match s with
 | .FunctionDef _ _ b _ _ _ _ _ _ _=>b
 | _=>[]
def aq (s:T7):Te:=match s with
 | .FunctionDef _ _ _ _ _ _ sc _ _ _=>sc
 | _=>{kind:=.function,names:=[],isGenerator:=false,isCoroutine:=false}
abbrev oH:qH:=λ_ _ _ _ _ _=>False
abbrev E0:XK:=λ_ _ _=>False
theorem B8 {X:Cx}:Passes oH X E0:=λ_ _ _ _ _ _ _ h=>h.elim
structure cH (K:Qx) (x qual:Str) (st:T7) (f:QW) (fd:Ro):Prop where
 ex:∃(oc:Qy) (od:Option QW) (kV doc pm:Qy) (an:Option QW) (cdv ct:Qy) (osl:Array (Option Qy)),
  fd=QJ x qual (aH st) (aG st) (aq st) .none kV doc pm an cdv ct/\K.lookup f=some ⟨oc,od,.func fd,osl⟩/\Q4 K cdv qual=true
 kp:QX K (.ref f)=true
section
variable {P:Q8}{w:Ru}{K:Qx}{mg:Str->Option Qy}{base:Sh}
theorem cH.ok {x qual:Str}{st:T7}{f:QW}{fd:Ro}{N ps:List Str}{k:Nat}{sp:Sp}(F:cH K x qual st f fd) (S:bh N ps (aq st)) (len:∀vs H Q E,sp vs H Q E->vs.length=ps.length)
  (hbody:∀(cdv:Qy) (A:Rx) (outer:List Env) (s:QC) (H:Hp) (vs:List V) (Q:VK) (E:XK),dY k (A.deeper (WM qual (aq st) s.heap.objs.size f cdv))->sp vs H Q E->
   ∃t,j5 (rD oH P w K mg base N qual (aq st) f cdv A outer s H E).nox (aG st) t/\t {nx:=λ_ H'=>Q .non H',rt:=Q} (start N vs) H):jw P w K mg base oH (k + 1) f fd ps sp:=by
 obtain ⟨oc,od,kV,doc,pm,an,cdv,ct,osl,rfl,lk,hcd⟩:=F.ex
 refine Mp lk hcd S len λA outer s H vs Q E hr OS=>?_
 obtain ⟨t,h,q⟩:=hbody cdv A outer s H vs Q E hr OS
 exact ⟨t,h.nox,q⟩
theorem cH.binds {x qual:Str}{st:T7}{f:QW}{fd:Ro}{ps:List Str}(F:cH K x qual st f fd)
  (h:∀(kV doc pm:Qy) (an:Option QW) (cdv ct:Qy) (us:List Qy),us.length=ps.length->aak (QJ x qual (aH st) (aG st) (aq st) .none kV doc pm an cdv ct) ⟨us,[]⟩=pure (ps.zip us)):Binds K fd ps []:=by
 obtain ⟨oc,od,kV,doc,pm,an,cdv,ct,osl,rfl,lk,hcd⟩:=F.ex
 exact .all (h kV doc pm an cdv ct)
theorem bK {x qual:Str}{st:T7}{f:QW}{oc:Qy}{od an:Option QW}{osl:Array (Option Qy)}{kV doc pm cdv ct:Qy}(l:K.lookup f=some ⟨oc,od,.func (QJ x qual (aH st) (aG st) (aq st) .none kV doc pm an cdv ct),osl⟩)
  (c:Q4 K cdv qual=true) (k:QX K (.ref f)=true):cH K x qual st f (QJ x qual (aH st) (aG st) (aq st) .none kV doc pm an cdv ct):=⟨⟨oc,od,kV,doc,pm,an,cdv,ct,osl,rfl,l,c⟩,k⟩
end
theorem Fg {A B:Prop}(h:B):if false=true then A else B:=by
 rw [if_neg Rq]
 exact h
theorem Fi {A B:Prop}(h:A):if true=true then A else B:=by
 rw [if_pos rfl]
 exact h
def aU (H H':Hp):Prop:=∀b o,H b=some o->H' b=some o
theorem aU.refl (H:Hp):aU H H:=λ_ _ h=>h
theorem aU.trans {H H1 H2:Hp}(a:aU H H1) (b:aU H1 H2):aU H H2:=λc o h=>b c o (a c o h)
theorem aU.free {H H':Hp}(e:aU H H'){l:QW}(h:H' l=aa6):H l=aa6:=by
 cases q:H l with
 | none=>rfl
 | some o=>
  rw [e l o q] at h
  cases h
theorem aU.seq {K:Qx}{H H':Hp}{a:QW}{xs:List V}(e:aU H H') (h:cC K H a xs):cC K H' a xs:=by
 rcases h with (h | ⟨o,h⟩) | h
 ·exact .inl (.inl (e _ _ h))
 ·exact .inl (.inr ⟨o,e _ _ h⟩)
 ·exact .inr h
end L2
set_option maxHeartbeats 4000000
namespace K33
open PySem
def top (i:Nat):T7:=PySem.Challenge.pw_pickalike_k33_answers_told.main.body.getD i (.Pass ⟨0,0,0,0⟩)
def topC (i j:Nat):T7:=match top i with
 | .ClassDef (body:=b) ..=>b.getD j (.Pass ⟨0,0,0,0⟩)
 | _=>.Pass ⟨0,0,0,0⟩
end K33
namespace K33
open PySem PySem.Spec PyProof.Rows L2
abbrev E (P:aaI) (k:Str) (t:Nat) (v:Qy):Yg:=⟨PyData.keyHash P k,.str k t,v⟩
def KF (P:aaI):Qx:=
(nat_lit 2,⟨.none,none,(.dict #[] 0),#[]⟩)::
(nat_lit 3,⟨(.type "dict"),none,(.dict #[E P "__name__" 165 (.str "law_pickalike_k33_answers_told" 498),E P "__doc__" 166 .none,E P "__package__" 167 .none,E P "__loader__" 168 (.builtin "__main__.__loader__#opaque"),E P "__spec__" 169 .none,E P "__annotations__" 170 (.ref 6),E P "__builtins__" 171 (.ref 4),E P "__file__" 173 (.str "/claim/cut.py" 172),E P "__cached__" 174 .none,E P "PickError" 206 (.ref 24),E P "NoTongue" 222 (.ref 37),E P "TooMany" 247 (.ref 56),E P "NoCount" 272 (.ref 75),E P "NoPoint" 297 (.ref 94),E P "is_whole" 306 (.ref 103),E P "is_point" 314 (.ref 110),E P "tongue_of" 320 (.ref 115),E P "need_tongue" 328 (.ref 122),E P "MOST_SMALL" 332 (.int 4 331),E P "need_few_points" 340 (.ref 129),E P "need_small" 348 (.ref 136),E P "need_count" 357 (.ref 143),E P "need_point" 365 (.ref 150),E P "rising" 374 (.ref 157),E P "view" 380 (.ref 162),E P "views" 386 (.ref 167),E P "agree" 396 (.ref 174),E P "goes_behind" 407 (.ref 181),E P "pairings" 413 (.ref 186),E P "MOST_DEPTH" 417 (.int 6 416),E P "added" 425 (.ref 193),E P "pairs_with" 431 (.ref 198),E P "picks_of" 437 (.ref 203),E P "outcomes" 443 (.ref 208),E P "answered_still" 449 (.ref 213),E P "peeled" 455 (.ref 218),E P "pairings_with" 461 (.ref 223),E P "parting_depths" 467 (.ref 228),E P "in_layer" 476 (.ref 235),E P "layers_of" 482 (.ref 240),E P "layers" 491 (.ref 247),E P "answers" 497 (.ref 252),E P "_law_cell" 507 (.ref 259),E P "_law_names" 522 (.ref 266),E P "_law_bits" 532 (.ref 273),E P "_law_world" 538 (.ref 278),E P "_law_order" 549 (.ref 285),E P "_law_turned" 555 (.ref 290),E P "_law_flipped" 561 (.ref 295),E P "_law_two" 567 (.ref 300),E P "_law_with" 575 (.ref 307),E P "law" 581 (.ref 312)] 52),#[]⟩)::
(nat_lit 15,⟨(.type "tuple"),none,(.seq #[(.type "ValueError")] 0),#[]⟩)::
(nat_lit 22,⟨(.type "tuple"),none,(.seq #[] 0),#[]⟩)::
(nat_lit 23,⟨(.type "dict"),none,(.dict #[E P "__module__" 196 (.str "pickalike.errors" 187),E P "__firstlineno__" 200 (.int 2 199),E P "__static_attributes__" 201 (.ref 22),E P "__weakref__" 203 (.ref 25),E P "__doc__" 204 .none] 3),#[]⟩)::
(nat_lit 24,⟨(.type "type"),none,(.cls ⟨"PickError",[(.type "ValueError")],[(.ref 24),(.type "ValueError"),(.type "Exception"),(.type "BaseException"),(.type "object")],23,"PickError",true,[],[(.ref 37),(.ref 56),(.ref 75),(.ref 94)],false,none,false⟩),#[(some (.ref 15)),none,(some (.str "PickError" 189)),(some (.str "PickError" 197)),(some (.builtin "ValueError.__new__")),(some (.bool true))]⟩)::
(nat_lit 25,⟨(.type "getset_descriptor"),none,(.fields #[(.str "__weakref__" 202),(.ref 24),(.builtin "ExceptionGroup.__weakref__"),.none]),#[]⟩)::
(nat_lit 28,⟨(.type "tuple"),none,(.seq #[(.ref 24)] 0),#[]⟩)::
(nat_lit 35,⟨(.type "tuple"),none,(.seq #[] 0),#[]⟩)::
(nat_lit 36,⟨(.type "dict"),none,(.dict #[E P "__module__" 214 (.str "pickalike.errors" 187),E P "__firstlineno__" 218 (.int 4 217),E P "__static_attributes__" 219 (.ref 35),E P "__doc__" 220 .none] 2),#[]⟩)::
(nat_lit 37,⟨(.type "type"),none,(.cls ⟨"NoTongue",[(.ref 24)],[(.ref 37),(.ref 24),(.type "ValueError"),(.type "Exception"),(.type "BaseException"),(.type "object")],36,"NoTongue",true,[],[],false,none,false⟩),#[(some (.ref 28)),none,(some (.str "NoTongue" 207)),(some (.str "NoTongue" 215)),(some (.builtin "ValueError.__new__")),(some (.bool true))]⟩)::
(nat_lit 40,⟨(.type "tuple"),none,(.seq #[(.ref 24)] 0),#[]⟩)::
(nat_lit 47,⟨(.type "tuple"),none,(.seq #[] 0),#[]⟩)::
(nat_lit 49,⟨(.type "tuple"),none,(.seq #[(.str "self" 238),(.str "many" 239)] 0),#[]⟩)::
(nat_lit 50,⟨(.type "tuple"),none,(.seq #[] 0),#[]⟩)::
(nat_lit 52,⟨(.type "code"),none,(.fields #[(.str "__init__" 235),(.str "TooMany.__init__" 236),(.str "/claim/cut.py" 237),(.int 8 0),(.int 2 0),(.int 0 0),(.int 0 0),(.int 3 0),(.ref 47),(.bool true),(.int 181 0),(.ref 48),.none,(.ref 49),(.ref 50),(.ref 51),(.int 240 0),(.int 8 0),(.str "/claim/cut.py" 241)]),#[]⟩)::
(nat_lit 53,⟨(.type "function"),none,(.func (QJ "__init__" "TooMany.__init__" (aH (topC 3 0)) (aG (topC 3 0)) (aq (topC 3 0)) .none .none .none (.str "pickalike.errors" 187) none (.ref 52) .none)),#[]⟩)::
(nat_lit 54,⟨(.type "tuple"),none,(.seq #[(.str "many" 243)] 0),#[]⟩)::
(nat_lit 55,⟨(.type "dict"),none,(.dict #[E P "__module__" 230 (.str "pickalike.errors" 187),E P "__firstlineno__" 234 (.int 6 233),E P "__init__" 242 (.ref 53),E P "__static_attributes__" 244 (.ref 54),E P "__doc__" 245 .none] 2),#[]⟩)::
(nat_lit 56,⟨(.type "type"),none,(.cls ⟨"TooMany",[(.ref 24)],[(.ref 56),(.ref 24),(.type "ValueError"),(.type "Exception"),(.type "BaseException"),(.type "object")],55,"TooMany",true,[],[],false,none,false⟩),#[(some (.ref 40)),none,(some (.str "TooMany" 223)),(some (.str "TooMany" 231)),(some (.builtin "ValueError.__new__")),(some (.bool true))]⟩)::
(nat_lit 59,⟨(.type "tuple"),none,(.seq #[(.ref 24)] 0),#[]⟩)::
(nat_lit 66,⟨(.type "tuple"),none,(.seq #[] 0),#[]⟩)::
(nat_lit 68,⟨(.type "tuple"),none,(.seq #[(.str "self" 263),(.str "told" 264)] 0),#[]⟩)::
(nat_lit 69,⟨(.type "tuple"),none,(.seq #[] 0),#[]⟩)::
(nat_lit 71,⟨(.type "code"),none,(.fields #[(.str "__init__" 260),(.str "NoCount.__init__" 261),(.str "/claim/cut.py" 262),(.int 13 0),(.int 2 0),(.int 0 0),(.int 0 0),(.int 3 0),(.ref 66),(.bool true),(.int 181 0),(.ref 67),.none,(.ref 68),(.ref 69),(.ref 70),(.int 265 0),(.int 13 0),(.str "/claim/cut.py" 266)]),#[]⟩)::
(nat_lit 72,⟨(.type "function"),none,(.func (QJ "__init__" "NoCount.__init__" (aH (topC 4 0)) (aG (topC 4 0)) (aq (topC 4 0)) .none .none .none (.str "pickalike.errors" 187) none (.ref 71) .none)),#[]⟩)::
(nat_lit 73,⟨(.type "tuple"),none,(.seq #[(.str "told" 268)] 0),#[]⟩)::
(nat_lit 74,⟨(.type "dict"),none,(.dict #[E P "__module__" 255 (.str "pickalike.errors" 187),E P "__firstlineno__" 259 (.int 11 258),E P "__init__" 267 (.ref 72),E P "__static_attributes__" 269 (.ref 73),E P "__doc__" 270 .none] 2),#[]⟩)::
(nat_lit 75,⟨(.type "type"),none,(.cls ⟨"NoCount",[(.ref 24)],[(.ref 75),(.ref 24),(.type "ValueError"),(.type "Exception"),(.type "BaseException"),(.type "object")],74,"NoCount",true,[],[],false,none,false⟩),#[(some (.ref 59)),none,(some (.str "NoCount" 248)),(some (.str "NoCount" 256)),(some (.builtin "ValueError.__new__")),(some (.bool true))]⟩)::
(nat_lit 78,⟨(.type "tuple"),none,(.seq #[(.ref 24)] 0),#[]⟩)::
(nat_lit 85,⟨(.type "tuple"),none,(.seq #[] 0),#[]⟩)::
(nat_lit 87,⟨(.type "tuple"),none,(.seq #[(.str "self" 288),(.str "point" 289)] 0),#[]⟩)::
(nat_lit 88,⟨(.type "tuple"),none,(.seq #[] 0),#[]⟩)::
(nat_lit 90,⟨(.type "code"),none,(.fields #[(.str "__init__" 285),(.str "NoPoint.__init__" 286),(.str "/claim/cut.py" 287),(.int 18 0),(.int 2 0),(.int 0 0),(.int 0 0),(.int 3 0),(.ref 85),(.bool true),(.int 181 0),(.ref 86),.none,(.ref 87),(.ref 88),(.ref 89),(.int 290 0),(.int 18 0),(.str "/claim/cut.py" 291)]),#[]⟩)::
(nat_lit 91,⟨(.type "function"),none,(.func (QJ "__init__" "NoPoint.__init__" (aH (topC 5 0)) (aG (topC 5 0)) (aq (topC 5 0)) .none .none .none (.str "pickalike.errors" 187) none (.ref 90) .none)),#[]⟩)::
(nat_lit 92,⟨(.type "tuple"),none,(.seq #[(.str "point" 293)] 0),#[]⟩)::
(nat_lit 93,⟨(.type "dict"),none,(.dict #[E P "__module__" 280 (.str "pickalike.errors" 187),E P "__firstlineno__" 284 (.int 16 283),E P "__init__" 292 (.ref 91),E P "__static_attributes__" 294 (.ref 92),E P "__doc__" 295 .none] 2),#[]⟩)::
(nat_lit 94,⟨(.type "type"),none,(.cls ⟨"NoPoint",[(.ref 24)],[(.ref 94),(.ref 24),(.type "ValueError"),(.type "Exception"),(.type "BaseException"),(.type "object")],93,"NoPoint",true,[],[],false,none,false⟩),#[(some (.ref 78)),none,(some (.str "NoPoint" 273)),(some (.str "NoPoint" 281)),(some (.builtin "ValueError.__new__")),(some (.bool true))]⟩)::
(nat_lit 97,⟨(.type "tuple"),none,(.seq #[] 0),#[]⟩)::
(nat_lit 99,⟨(.type "tuple"),none,(.seq #[(.str "thing" 303)] 0),#[]⟩)::
(nat_lit 100,⟨(.type "tuple"),none,(.seq #[] 0),#[]⟩)::
(nat_lit 102,⟨(.type "code"),none,(.fields #[(.str "is_whole" 300),(.str "is_whole" 301),(.str "/claim/cut.py" 302),(.int 22 0),(.int 1 0),(.int 0 0),(.int 0 0),(.int 3 0),(.ref 97),(.bool true),(.int 181 0),(.ref 98),.none,(.ref 99),(.ref 100),(.ref 101),(.int 304 0),(.int 22 0),(.str "/claim/cut.py" 305)]),#[]⟩)::
(nat_lit 103,⟨(.type "function"),none,(.func (QJ "is_whole" "is_whole" (aH (top 7)) (aG (top 7)) (aq (top 7)) .none .none .none (.str "pickalike.worlds" 298) none (.ref 102) .none)),#[]⟩)::
(nat_lit 104,⟨(.type "tuple"),none,(.seq #[] 0),#[]⟩)::
(nat_lit 106,⟨(.type "tuple"),none,(.seq #[(.str "thing" 310),(.str "many" 311)] 0),#[]⟩)::
(nat_lit 107,⟨(.type "tuple"),none,(.seq #[] 0),#[]⟩)::
(nat_lit 109,⟨(.type "code"),none,(.fields #[(.str "is_point" 307),(.str "is_point" 308),(.str "/claim/cut.py" 309),(.int 24 0),(.int 2 0),(.int 0 0),(.int 0 0),(.int 3 0),(.ref 104),(.bool true),(.int 181 0),(.ref 105),.none,(.ref 106),(.ref 107),(.ref 108),(.int 312 0),(.int 24 0),(.str "/claim/cut.py" 313)]),#[]⟩)::
(nat_lit 110,⟨(.type "function"),none,(.func (QJ "is_point" "is_point" (aH (top 8)) (aG (top 8)) (aq (top 8)) .none .none .none (.str "pickalike.worlds" 298) none (.ref 109) .none)),#[]⟩)::
(nat_lit 111,⟨(.type "tuple"),none,(.seq #[] 0),#[]⟩)::
(nat_lit 114,⟨(.type "code"),none,(.fields #[(.str "tongue_of" 315),(.str "tongue_of" 316),(.str "/claim/cut.py" 317),(.int 26 0),(.int 1 0),(.int 0 0),(.int 0 0),(.int 3 0),(.ref 111),(.bool true),(.int 181 0),(.ref 112),.none,.none,.none,(.ref 113),(.int 318 0),(.int 26 0),(.str "/claim/cut.py" 319)]),#[]⟩)::
(nat_lit 115,⟨(.type "function"),none,(.func (QJ "tongue_of" "tongue_of" (aH (top 9)) (aG (top 9)) (aq (top 9)) .none .none .none (.str "pickalike.worlds" 298) none (.ref 114) .none)),#[]⟩)::
(nat_lit 116,⟨(.type "tuple"),none,(.seq #[] 0),#[]⟩)::
(nat_lit 118,⟨(.type "tuple"),none,(.seq #[(.str "one" 324),(.str "other" 325)] 0),#[]⟩)::
(nat_lit 119,⟨(.type "tuple"),none,(.seq #[] 0),#[]⟩)::
(nat_lit 121,⟨(.type "code"),none,(.fields #[(.str "need_tongue" 321),(.str "need_tongue" 322),(.str "/claim/cut.py" 323),(.int 29 0),(.int 2 0),(.int 0 0),(.int 0 0),(.int 3 0),(.ref 116),(.bool true),(.int 181 0),(.ref 117),.none,(.ref 118),(.ref 119),(.ref 120),(.int 326 0),(.int 29 0),(.str "/claim/cut.py" 327)]),#[]⟩)::
(nat_lit 122,⟨(.type "function"),none,(.func (QJ "need_tongue" "need_tongue" (aH (top 10)) (aG (top 10)) (aq (top 10)) .none .none .none (.str "pickalike.worlds" 298) none (.ref 121) .none)),#[]⟩)::
(nat_lit 123,⟨(.type "tuple"),none,(.seq #[] 0),#[]⟩)::
(nat_lit 125,⟨(.type "tuple"),none,(.seq #[(.str "worlds" 336),(.str "world" 337)] 0),#[]⟩)::
(nat_lit 126,⟨(.type "tuple"),none,(.seq #[] 0),#[]⟩)::
(nat_lit 128,⟨(.type "code"),none,(.fields #[(.str "need_few_points" 333),(.str "need_few_points" 334),(.str "/claim/cut.py" 335),(.int 34 0),(.int 1 0),(.int 0 0),(.int 0 0),(.int 3 0),(.ref 123),(.bool true),(.int 181 0),(.ref 124),.none,(.ref 125),(.ref 126),(.ref 127),(.int 338 0),(.int 34 0),(.str "/claim/cut.py" 339)]),#[]⟩)::
(nat_lit 129,⟨(.type "function"),none,(.func (QJ "need_few_points" "need_few_points" (aH (top 13)) (aG (top 13)) (aq (top 13)) .none .none .none (.str "pickalike.checks" 329) none (.ref 128) .none)),#[]⟩)::
(nat_lit 130,⟨(.type "tuple"),none,(.seq #[] 0),#[]⟩)::
(nat_lit 132,⟨(.type "tuple"),none,(.seq #[(.str "one" 344),(.str "other" 345)] 0),#[]⟩)::
(nat_lit 133,⟨(.type "tuple"),none,(.seq #[] 0),#[]⟩)::
(nat_lit 135,⟨(.type "code"),none,(.fields #[(.str "need_small" 341),(.str "need_small" 342),(.str "/claim/cut.py" 343),(.int 38 0),(.int 2 0),(.int 0 0),(.int 0 0),(.int 3 0),(.ref 130),(.bool true),(.int 181 0),(.ref 131),.none,(.ref 132),(.ref 133),(.ref 134),(.int 346 0),(.int 38 0),(.str "/claim/cut.py" 347)]),#[]⟩)::
(nat_lit 136,⟨(.type "function"),none,(.func (QJ "need_small" "need_small" (aH (top 14)) (aG (top 14)) (aq (top 14)) .none .none .none (.str "pickalike.checks" 329) none (.ref 135) .none)),#[]⟩)::
(nat_lit 137,⟨(.type "tuple"),none,(.seq #[] 0),#[]⟩)::
(nat_lit 139,⟨(.type "tuple"),none,(.seq #[(.str "told" 352),(.str "least" 353),(.str "most" 354)] 0),#[]⟩)::
(nat_lit 140,⟨(.type "tuple"),none,(.seq #[] 0),#[]⟩)::
(nat_lit 142,⟨(.type "code"),none,(.fields #[(.str "need_count" 349),(.str "need_count" 350),(.str "/claim/cut.py" 351),(.int 41 0),(.int 3 0),(.int 0 0),(.int 0 0),(.int 3 0),(.ref 137),(.bool true),(.int 181 0),(.ref 138),.none,(.ref 139),(.ref 140),(.ref 141),(.int 355 0),(.int 41 0),(.str "/claim/cut.py" 356)]),#[]⟩)::
(nat_lit 143,⟨(.type "function"),none,(.func (QJ "need_count" "need_count" (aH (top 15)) (aG (top 15)) (aq (top 15)) .none .none .none (.str "pickalike.checks" 329) none (.ref 142) .none)),#[]⟩)::
(nat_lit 144,⟨(.type "tuple"),none,(.seq #[] 0),#[]⟩)::
(nat_lit 146,⟨(.type "tuple"),none,(.seq #[(.str "point" 361),(.str "many" 362)] 0),#[]⟩)::
(nat_lit 147,⟨(.type "tuple"),none,(.seq #[] 0),#[]⟩)::
(nat_lit 149,⟨(.type "code"),none,(.fields #[(.str "need_point" 358),(.str "need_point" 359),(.str "/claim/cut.py" 360),(.int 44 0),(.int 2 0),(.int 0 0),(.int 0 0),(.int 3 0),(.ref 144),(.bool true),(.int 181 0),(.ref 145),.none,(.ref 146),(.ref 147),(.ref 148),(.int 363 0),(.int 44 0),(.str "/claim/cut.py" 364)]),#[]⟩)::
(nat_lit 150,⟨(.type "function"),none,(.func (QJ "need_point" "need_point" (aH (top 16)) (aG (top 16)) (aq (top 16)) .none .none .none (.str "pickalike.checks" 329) none (.ref 149) .none)),#[]⟩)::
(nat_lit 151,⟨(.type "tuple"),none,(.seq #[] 0),#[]⟩)::
(nat_lit 153,⟨(.type "tuple"),none,(.seq #[(.str "pairs" 371)] 0),#[]⟩)::
(nat_lit 154,⟨(.type "tuple"),none,(.seq #[] 0),#[]⟩)::
(nat_lit 156,⟨(.type "code"),none,(.fields #[(.str "rising" 368),(.str "rising" 369),(.str "/claim/cut.py" 370),(.int 48 0),(.int 1 0),(.int 0 0),(.int 0 0),(.int 3 0),(.ref 151),(.bool true),(.int 181 0),(.ref 152),.none,(.ref 153),(.ref 154),(.ref 155),(.int 372 0),(.int 48 0),(.str "/claim/cut.py" 373)]),#[]⟩)::
(nat_lit 157,⟨(.type "function"),none,(.func (QJ "rising" "rising" (aH (top 18)) (aG (top 18)) (aq (top 18)) .none .none .none (.str "pickalike.pairings" 366) none (.ref 156) .none)),#[]⟩)::
(nat_lit 158,⟨(.type "tuple"),none,(.seq #[] 0),#[]⟩)::
(nat_lit 161,⟨(.type "code"),none,(.fields #[(.str "view" 375),(.str "view" 376),(.str "/claim/cut.py" 377),(.int 52 0),(.int 3 0),(.int 0 0),(.int 0 0),(.int 3 0),(.ref 158),(.bool true),(.int 181 0),(.ref 159),.none,.none,.none,(.ref 160),(.int 378 0),(.int 52 0),(.str "/claim/cut.py" 379)]),#[]⟩)::
(nat_lit 162,⟨(.type "function"),none,(.func (QJ "view" "view" (aH (top 19)) (aG (top 19)) (aq (top 19)) .none .none .none (.str "pickalike.pairings" 366) none (.ref 161) .none)),#[]⟩)::
(nat_lit 163,⟨(.type "tuple"),none,(.seq #[] 0),#[]⟩)::
(nat_lit 166,⟨(.type "code"),none,(.fields #[(.str "views" 381),(.str "views" 382),(.str "/claim/cut.py" 383),(.int 57 0),(.int 1 0),(.int 0 0),(.int 0 0),(.int 3 0),(.ref 163),(.bool true),(.int 181 0),(.ref 164),.none,.none,.none,(.ref 165),(.int 384 0),(.int 57 0),(.str "/claim/cut.py" 385)]),#[]⟩)::
(nat_lit 167,⟨(.type "function"),none,(.func (QJ "views" "views" (aH (top 20)) (aG (top 20)) (aq (top 20)) .none .none .none (.str "pickalike.pairings" 366) none (.ref 166) .none)),#[]⟩)::
(nat_lit 168,⟨(.type "tuple"),none,(.seq #[] 0),#[]⟩)::
(nat_lit 170,⟨(.type "tuple"),none,(.seq #[(.str "first" 390),(.str "second" 391),(.str "pair" 392),(.str "again" 393)] 0),#[]⟩)::
(nat_lit 171,⟨(.type "tuple"),none,(.seq #[] 0),#[]⟩)::
(nat_lit 173,⟨(.type "code"),none,(.fields #[(.str "agree" 387),(.str "agree" 388),(.str "/claim/cut.py" 389),(.int 59 0),(.int 4 0),(.int 0 0),(.int 0 0),(.int 3 0),(.ref 168),(.bool true),(.int 181 0),(.ref 169),.none,(.ref 170),(.ref 171),(.ref 172),(.int 394 0),(.int 59 0),(.str "/claim/cut.py" 395)]),#[]⟩)::
(nat_lit 174,⟨(.type "function"),none,(.func (QJ "agree" "agree" (aH (top 21)) (aG (top 21)) (aq (top 21)) .none .none .none (.str "pickalike.pairings" 366) none (.ref 173) .none)),#[]⟩)::
(nat_lit 175,⟨(.type "tuple"),none,(.seq #[] 0),#[]⟩)::
(nat_lit 177,⟨(.type "tuple"),none,(.seq #[(.str "first" 400),(.str "second" 401),(.str "pairing" 402),(.str "pair" 403),(.str "again" 404)] 0),#[]⟩)::
(nat_lit 178,⟨(.type "tuple"),none,(.seq #[] 0),#[]⟩)::
(nat_lit 180,⟨(.type "code"),none,(.fields #[(.str "goes_behind" 397),(.str "goes_behind" 398),(.str "/claim/cut.py" 399),(.int 61 0),(.int 4 0),(.int 0 0),(.int 0 0),(.int 3 0),(.ref 175),(.bool true),(.int 181 0),(.ref 176),.none,(.ref 177),(.ref 178),(.ref 179),(.int 405 0),(.int 61 0),(.str "/claim/cut.py" 406)]),#[]⟩)::
(nat_lit 181,⟨(.type "function"),none,(.func (QJ "goes_behind" "goes_behind" (aH (top 22)) (aG (top 22)) (aq (top 22)) .none .none .none (.str "pickalike.pairings" 366) none (.ref 180) .none)),#[]⟩)::
(nat_lit 182,⟨(.type "tuple"),none,(.seq #[] 0),#[]⟩)::
(nat_lit 185,⟨(.type "code"),none,(.fields #[(.str "pairings" 408),(.str "pairings" 409),(.str "/claim/cut.py" 410),(.int 68 0),(.int 3 0),(.int 0 0),(.int 0 0),(.int 3 0),(.ref 182),(.bool true),(.int 181 0),(.ref 183),.none,.none,.none,(.ref 184),(.int 411 0),(.int 68 0),(.str "/claim/cut.py" 412)]),#[]⟩)::
(nat_lit 186,⟨(.type "function"),none,(.func (QJ "pairings" "pairings" (aH (top 23)) (aG (top 23)) (aq (top 23)) .none .none .none (.str "pickalike.pairings" 366) none (.ref 185) .none)),#[]⟩)::
(nat_lit 187,⟨(.type "tuple"),none,(.seq #[] 0),#[]⟩)::
(nat_lit 189,⟨(.type "tuple"),none,(.seq #[(.str "pairing" 421),(.str "pair" 422)] 0),#[]⟩)::
(nat_lit 190,⟨(.type "tuple"),none,(.seq #[] 0),#[]⟩)::
(nat_lit 192,⟨(.type "code"),none,(.fields #[(.str "added" 418),(.str "added" 419),(.str "/claim/cut.py" 420),(.int 82 0),(.int 2 0),(.int 0 0),(.int 0 0),(.int 3 0),(.ref 187),(.bool true),(.int 181 0),(.ref 188),.none,(.ref 189),(.ref 190),(.ref 191),(.int 423 0),(.int 82 0),(.str "/claim/cut.py" 424)]),#[]⟩)::
(nat_lit 193,⟨(.type "function"),none,(.func (QJ "added" "added" (aH (top 26)) (aG (top 26)) (aq (top 26)) .none .none .none (.str "pickalike.layers" 414) none (.ref 192) .none)),#[]⟩)::
(nat_lit 194,⟨(.type "tuple"),none,(.seq #[] 0),#[]⟩)::
(nat_lit 197,⟨(.type "code"),none,(.fields #[(.str "pairs_with" 426),(.str "pairs_with" 427),(.str "/claim/cut.py" 428),(.int 84 0),(.int 4 0),(.int 0 0),(.int 0 0),(.int 3 0),(.ref 194),(.bool true),(.int 181 0),(.ref 195),.none,.none,.none,(.ref 196),(.int 429 0),(.int 84 0),(.str "/claim/cut.py" 430)]),#[]⟩)::
(nat_lit 198,⟨(.type "function"),none,(.func (QJ "pairs_with" "pairs_with" (aH (top 27)) (aG (top 27)) (aq (top 27)) .none .none .none (.str "pickalike.layers" 414) none (.ref 197) .none)),#[]⟩)::
(nat_lit 199,⟨(.type "tuple"),none,(.seq #[] 0),#[]⟩)::
(nat_lit 202,⟨(.type "code"),none,(.fields #[(.str "picks_of" 432),(.str "picks_of" 433),(.str "/claim/cut.py" 434),(.int 88 0),(.int 2 0),(.int 0 0),(.int 0 0),(.int 3 0),(.ref 199),(.bool true),(.int 181 0),(.ref 200),.none,.none,.none,(.ref 201),(.int 435 0),(.int 88 0),(.str "/claim/cut.py" 436)]),#[]⟩)::
(nat_lit 203,⟨(.type "function"),none,(.func (QJ "picks_of" "picks_of" (aH (top 28)) (aG (top 28)) (aq (top 28)) .none .none .none (.str "pickalike.layers" 414) none (.ref 202) .none)),#[]⟩)::
(nat_lit 204,⟨(.type "tuple"),none,(.seq #[] 0),#[]⟩)::
(nat_lit 207,⟨(.type "code"),none,(.fields #[(.str "outcomes" 438),(.str "outcomes" 439),(.str "/claim/cut.py" 440),(.int 90 0),(.int 4 0),(.int 0 0),(.int 0 0),(.int 3 0),(.ref 204),(.bool true),(.int 181 0),(.ref 205),.none,.none,.none,(.ref 206),(.int 441 0),(.int 90 0),(.str "/claim/cut.py" 442)]),#[]⟩)::
(nat_lit 208,⟨(.type "function"),none,(.func (QJ "outcomes" "outcomes" (aH (top 29)) (aG (top 29)) (aq (top 29)) .none .none .none (.str "pickalike.layers" 414) none (.ref 207) .none)),#[]⟩)::
(nat_lit 209,⟨(.type "tuple"),none,(.seq #[] 0),#[]⟩)::
(nat_lit 212,⟨(.type "code"),none,(.fields #[(.str "answered_still" 444),(.str "answered_still" 445),(.str "/claim/cut.py" 446),(.int 93 0),(.int 2 0),(.int 0 0),(.int 0 0),(.int 3 0),(.ref 209),(.bool true),(.int 181 0),(.ref 210),.none,.none,.none,(.ref 211),(.int 447 0),(.int 93 0),(.str "/claim/cut.py" 448)]),#[]⟩)::
(nat_lit 213,⟨(.type "function"),none,(.func (QJ "answered_still" "answered_still" (aH (top 30)) (aG (top 30)) (aq (top 30)) .none .none .none (.str "pickalike.layers" 414) none (.ref 212) .none)),#[]⟩)::
(nat_lit 214,⟨(.type "tuple"),none,(.seq #[] 0),#[]⟩)::
(nat_lit 217,⟨(.type "code"),none,(.fields #[(.str "peeled" 450),(.str "peeled" 451),(.str "/claim/cut.py" 452),(.int 95 0),(.int 2 0),(.int 0 0),(.int 0 0),(.int 3 0),(.ref 214),(.bool true),(.int 181 0),(.ref 215),.none,.none,.none,(.ref 216),(.int 453 0),(.int 95 0),(.str "/claim/cut.py" 454)]),#[]⟩)::
(nat_lit 218,⟨(.type "function"),none,(.func (QJ "peeled" "peeled" (aH (top 31)) (aG (top 31)) (aq (top 31)) .none .none .none (.str "pickalike.layers" 414) none (.ref 217) .none)),#[]⟩)::
(nat_lit 219,⟨(.type "tuple"),none,(.seq #[] 0),#[]⟩)::
(nat_lit 222,⟨(.type "code"),none,(.fields #[(.str "pairings_with" 456),(.str "pairings_with" 457),(.str "/claim/cut.py" 458),(.int 105 0),(.int 3 0),(.int 0 0),(.int 0 0),(.int 3 0),(.ref 219),(.bool true),(.int 181 0),(.ref 220),.none,.none,.none,(.ref 221),(.int 459 0),(.int 105 0),(.str "/claim/cut.py" 460)]),#[]⟩)::
(nat_lit 223,⟨(.type "function"),none,(.func (QJ "pairings_with" "pairings_with" (aH (top 32)) (aG (top 32)) (aq (top 32)) .none .none .none (.str "pickalike.layers" 414) none (.ref 222) .none)),#[]⟩)::
(nat_lit 224,⟨(.type "tuple"),none,(.seq #[] 0),#[]⟩)::
(nat_lit 227,⟨(.type "code"),none,(.fields #[(.str "parting_depths" 462),(.str "parting_depths" 463),(.str "/claim/cut.py" 464),(.int 107 0),(.int 3 0),(.int 0 0),(.int 0 0),(.int 3 0),(.ref 224),(.bool true),(.int 181 0),(.ref 225),.none,.none,.none,(.ref 226),(.int 465 0),(.int 107 0),(.str "/claim/cut.py" 466)]),#[]⟩)::
(nat_lit 228,⟨(.type "function"),none,(.func (QJ "parting_depths" "parting_depths" (aH (top 33)) (aG (top 33)) (aq (top 33)) .none .none .none (.str "pickalike.layers" 414) none (.ref 227) .none)),#[]⟩)::
(nat_lit 229,⟨(.type "tuple"),none,(.seq #[] 0),#[]⟩)::
(nat_lit 231,⟨(.type "tuple"),none,(.seq #[(.str "depths" 471),(.str "pairing" 472),(.str "depth" 473)] 0),#[]⟩)::
(nat_lit 232,⟨(.type "tuple"),none,(.seq #[] 0),#[]⟩)::
(nat_lit 234,⟨(.type "code"),none,(.fields #[(.str "in_layer" 468),(.str "in_layer" 469),(.str "/claim/cut.py" 470),(.int 111 0),(.int 3 0),(.int 0 0),(.int 0 0),(.int 3 0),(.ref 229),(.bool true),(.int 181 0),(.ref 230),.none,(.ref 231),(.ref 232),(.ref 233),(.int 474 0),(.int 111 0),(.str "/claim/cut.py" 475)]),#[]⟩)::
(nat_lit 235,⟨(.type "function"),none,(.func (QJ "in_layer" "in_layer" (aH (top 34)) (aG (top 34)) (aq (top 34)) .none .none .none (.str "pickalike.layers" 414) none (.ref 234) .none)),#[]⟩)::
(nat_lit 236,⟨(.type "tuple"),none,(.seq #[] 0),#[]⟩)::
(nat_lit 239,⟨(.type "code"),none,(.fields #[(.str "layers_of" 477),(.str "layers_of" 478),(.str "/claim/cut.py" 479),(.int 113 0),(.int 2 0),(.int 0 0),(.int 0 0),(.int 3 0),(.ref 236),(.bool true),(.int 181 0),(.ref 237),.none,.none,.none,(.ref 238),(.int 480 0),(.int 113 0),(.str "/claim/cut.py" 481)]),#[]⟩)::
(nat_lit 240,⟨(.type "function"),none,(.func (QJ "layers_of" "layers_of" (aH (top 35)) (aG (top 35)) (aq (top 35)) .none .none .none (.str "pickalike.layers" 414) none (.ref 239) .none)),#[]⟩)::
(nat_lit 241,⟨(.type "tuple"),none,(.seq #[] 0),#[]⟩)::
(nat_lit 243,⟨(.type "tuple"),none,(.seq #[(.str "one" 486),(.str "other" 487),(.str "depth" 488)] 0),#[]⟩)::
(nat_lit 244,⟨(.type "tuple"),none,(.seq #[] 0),#[]⟩)::
(nat_lit 246,⟨(.type "code"),none,(.fields #[(.str "layers" 483),(.str "layers" 484),(.str "/claim/cut.py" 485),(.int 115 0),(.int 3 0),(.int 0 0),(.int 0 0),(.int 3 0),(.ref 241),(.bool true),(.int 181 0),(.ref 242),.none,(.ref 243),(.ref 244),(.ref 245),(.int 489 0),(.int 115 0),(.str "/claim/cut.py" 490)]),#[]⟩)::
(nat_lit 247,⟨(.type "function"),none,(.func (QJ "layers" "layers" (aH (top 36)) (aG (top 36)) (aq (top 36)) .none .none .none (.str "pickalike.layers" 414) none (.ref 246) .none)),#[]⟩)::
(nat_lit 248,⟨(.type "tuple"),none,(.seq #[] 0),#[]⟩)::
(nat_lit 251,⟨(.type "code"),none,(.fields #[(.str "answers" 492),(.str "answers" 493),(.str "/claim/cut.py" 494),(.int 119 0),(.int 6 0),(.int 0 0),(.int 0 0),(.int 3 0),(.ref 248),(.bool true),(.int 181 0),(.ref 249),.none,.none,.none,(.ref 250),(.int 495 0),(.int 119 0),(.str "/claim/cut.py" 496)]),#[]⟩)::
(nat_lit 252,⟨(.type "function"),none,(.func (QJ "answers" "answers" (aH (top 37)) (aG (top 37)) (aq (top 37)) .none .none .none (.str "pickalike.layers" 414) none (.ref 251) .none)),#[]⟩)::
(nat_lit 253,⟨(.type "tuple"),none,(.seq #[] 0),#[]⟩)::
(nat_lit 255,⟨(.type "tuple"),none,(.seq #[(.str "_law_script" 503),(.str "_law_k" 504)] 0),#[]⟩)::
(nat_lit 256,⟨(.type "tuple"),none,(.seq #[] 0),#[]⟩)::
(nat_lit 258,⟨(.type "code"),none,(.fields #[(.str "_law_cell" 500),(.str "_law_cell" 501),(.str "/claim/cut.py" 502),(.int 129 0),(.int 2 0),(.int 0 0),(.int 0 0),(.int 3 0),(.ref 253),(.bool true),(.int 181 0),(.ref 254),.none,(.ref 255),(.ref 256),(.ref 257),(.int 505 0),(.int 129 0),(.str "/claim/cut.py" 506)]),#[]⟩)::
(nat_lit 259,⟨(.type "function"),none,(.func (QJ "_law_cell" "_law_cell" (aH (top 39)) (aG (top 39)) (aq (top 39)) .none .none .none (.str "law_pickalike_k33_answers_told" 498) none (.ref 258) .none)),#[]⟩)::
(nat_lit 260,⟨(.type "tuple"),none,(.seq #[] 0),#[]⟩)::
(nat_lit 262,⟨(.type "tuple"),none,(.seq #[(.str "_law_cell_here" 511),(.str "_law_many" 512),(.str "_law_letters" 513),(.str "_law_sign" 514),(.str "_law_stem" 515),(.str "_law_found" 516),(.str "_law_k" 517),(.str "_law_other" 518),(.str "_law_name" 519)] 0),#[]⟩)::
(nat_lit 263,⟨(.type "tuple"),none,(.seq #[] 0),#[]⟩)::
(nat_lit 265,⟨(.type "code"),none,(.fields #[(.str "_law_names" 508),(.str "_law_names" 509),(.str "/claim/cut.py" 510),(.int 133 0),(.int 2 0),(.int 0 0),(.int 0 0),(.int 3 0),(.ref 260),(.bool true),(.int 181 0),(.ref 261),.none,(.ref 262),(.ref 263),(.ref 264),(.int 520 0),(.int 133 0),(.str "/claim/cut.py" 521)]),#[]⟩)::
(nat_lit 266,⟨(.type "function"),none,(.func (QJ "_law_names" "_law_names" (aH (top 40)) (aG (top 40)) (aq (top 40)) .none .none .none (.str "law_pickalike_k33_answers_told" 498) none (.ref 265) .none)),#[]⟩)::
(nat_lit 267,⟨(.type "tuple"),none,(.seq #[] 0),#[]⟩)::
(nat_lit 269,⟨(.type "tuple"),none,(.seq #[(.str "_law_cell_here" 526),(.str "_law_size" 527),(.str "_law_found" 528),(.str "_law_k" 529)] 0),#[]⟩)::
(nat_lit 270,⟨(.type "tuple"),none,(.seq #[] 0),#[]⟩)::
(nat_lit 272,⟨(.type "code"),none,(.fields #[(.str "_law_bits" 523),(.str "_law_bits" 524),(.str "/claim/cut.py" 525),(.int 145 0),(.int 2 0),(.int 0 0),(.int 0 0),(.int 3 0),(.ref 267),(.bool true),(.int 181 0),(.ref 268),.none,(.ref 269),(.ref 270),(.ref 271),(.int 530 0),(.int 145 0),(.str "/claim/cut.py" 531)]),#[]⟩)::
(nat_lit 273,⟨(.type "function"),none,(.func (QJ "_law_bits" "_law_bits" (aH (top 41)) (aG (top 41)) (aq (top 41)) .none .none .none (.str "law_pickalike_k33_answers_told" 498) none (.ref 272) .none)),#[]⟩)::
(nat_lit 274,⟨(.type "tuple"),none,(.seq #[] 0),#[]⟩)::
(nat_lit 277,⟨(.type "code"),none,(.fields #[(.str "_law_world" 533),(.str "_law_world" 534),(.str "/claim/cut.py" 535),(.int 151 0),(.int 3 0),(.int 0 0),(.int 0 0),(.int 3 0),(.ref 274),(.bool true),(.int 181 0),(.ref 275),.none,.none,.none,(.ref 276),(.int 536 0),(.int 151 0),(.str "/claim/cut.py" 537)]),#[]⟩)::
(nat_lit 278,⟨(.type "function"),none,(.func (QJ "_law_world" "_law_world" (aH (top 42)) (aG (top 42)) (aq (top 42)) .none .none .none (.str "law_pickalike_k33_answers_told" 498) none (.ref 277) .none)),#[]⟩)::
(nat_lit 279,⟨(.type "tuple"),none,(.seq #[] 0),#[]⟩)::
(nat_lit 281,⟨(.type "tuple"),none,(.seq #[(.str "_law_cell_here" 542),(.str "_law_many" 543),(.str "_law_left" 544),(.str "_law_found" 545),(.str "_law_k" 546)] 0),#[]⟩)::
(nat_lit 282,⟨(.type "tuple"),none,(.seq #[] 0),#[]⟩)::
(nat_lit 284,⟨(.type "code"),none,(.fields #[(.str "_law_order" 539),(.str "_law_order" 540),(.str "/claim/cut.py" 541),(.int 161 0),(.int 2 0),(.int 0 0),(.int 0 0),(.int 3 0),(.ref 279),(.bool true),(.int 181 0),(.ref 280),.none,(.ref 281),(.ref 282),(.ref 283),(.int 547 0),(.int 161 0),(.str "/claim/cut.py" 548)]),#[]⟩)::
(nat_lit 285,⟨(.type "function"),none,(.func (QJ "_law_order" "_law_order" (aH (top 43)) (aG (top 43)) (aq (top 43)) .none .none .none (.str "law_pickalike_k33_answers_told" 498) none (.ref 284) .none)),#[]⟩)::
(nat_lit 286,⟨(.type "tuple"),none,(.seq #[] 0),#[]⟩)::
(nat_lit 289,⟨(.type "code"),none,(.fields #[(.str "_law_turned" 550),(.str "_law_turned" 551),(.str "/claim/cut.py" 552),(.int 168 0),(.int 2 0),(.int 0 0),(.int 0 0),(.int 3 0),(.ref 286),(.bool true),(.int 181 0),(.ref 287),.none,.none,.none,(.ref 288),(.int 553 0),(.int 168 0),(.str "/claim/cut.py" 554)]),#[]⟩)::
(nat_lit 290,⟨(.type "function"),none,(.func (QJ "_law_turned" "_law_turned" (aH (top 44)) (aG (top 44)) (aq (top 44)) .none .none .none (.str "law_pickalike_k33_answers_told" 498) none (.ref 289) .none)),#[]⟩)::
(nat_lit 291,⟨(.type "tuple"),none,(.seq #[] 0),#[]⟩)::
(nat_lit 294,⟨(.type "code"),none,(.fields #[(.str "_law_flipped" 556),(.str "_law_flipped" 557),(.str "/claim/cut.py" 558),(.int 172 0),(.int 2 0),(.int 0 0),(.int 0 0),(.int 3 0),(.ref 291),(.bool true),(.int 181 0),(.ref 292),.none,.none,.none,(.ref 293),(.int 559 0),(.int 172 0),(.str "/claim/cut.py" 560)]),#[]⟩)::
(nat_lit 295,⟨(.type "function"),none,(.func (QJ "_law_flipped" "_law_flipped" (aH (top 45)) (aG (top 45)) (aq (top 45)) .none .none .none (.str "law_pickalike_k33_answers_told" 498) none (.ref 294) .none)),#[]⟩)::
(nat_lit 296,⟨(.type "tuple"),none,(.seq #[] 0),#[]⟩)::
(nat_lit 299,⟨(.type "code"),none,(.fields #[(.str "_law_two" 562),(.str "_law_two" 563),(.str "/claim/cut.py" 564),(.int 191 0),(.int 2 0),(.int 0 0),(.int 0 0),(.int 3 0),(.ref 296),(.bool true),(.int 181 0),(.ref 297),.none,.none,.none,(.ref 298),(.int 565 0),(.int 191 0),(.str "/claim/cut.py" 566)]),#[]⟩)::
(nat_lit 300,⟨(.type "function"),none,(.func (QJ "_law_two" "_law_two" (aH (top 46)) (aG (top 46)) (aq (top 46)) .none .none .none (.str "law_pickalike_k33_answers_told" 498) none (.ref 299) .none)),#[]⟩)::
(nat_lit 301,⟨(.type "tuple"),none,(.seq #[] 0),#[]⟩)::
(nat_lit 303,⟨(.type "tuple"),none,(.seq #[(.str "_law_pairs" 571),(.str "_law_pair" 572)] 0),#[]⟩)::
(nat_lit 304,⟨(.type "tuple"),none,(.seq #[] 0),#[]⟩)::
(nat_lit 306,⟨(.type "code"),none,(.fields #[(.str "_law_with" 568),(.str "_law_with" 569),(.str "/claim/cut.py" 570),(.int 206 0),(.int 2 0),(.int 0 0),(.int 0 0),(.int 3 0),(.ref 301),(.bool true),(.int 181 0),(.ref 302),.none,(.ref 303),(.ref 304),(.ref 305),(.int 573 0),(.int 206 0),(.str "/claim/cut.py" 574)]),#[]⟩)::
(nat_lit 307,⟨(.type "function"),none,(.func (QJ "_law_with" "_law_with" (aH (top 47)) (aG (top 47)) (aq (top 47)) .none .none .none (.str "law_pickalike_k33_answers_told" 498) none (.ref 306) .none)),#[]⟩)::
(nat_lit 308,⟨(.type "tuple"),none,(.seq #[] 0),#[]⟩)::
(nat_lit 311,⟨(.type "code"),none,(.fields #[(.str "law" 576),(.str "law" 577),(.str "/claim/cut.py" 578),(.int 208 0),(.int 1 0),(.int 0 0),(.int 0 0),(.int 3 0),(.ref 308),(.bool true),(.int 181 0),(.ref 309),.none,.none,.none,(.ref 310),(.int 579 0),(.int 208 0),(.str "/claim/cut.py" 580)]),#[]⟩)::
(nat_lit 312,⟨(.type "function"),none,(.func (QJ "law" "law" (aH (top 48)) (aG (top 48)) (aq (top 48)) .none .none .none (.str "law_pickalike_k33_answers_told" 498) none (.ref 311) .none)),#[]⟩)::[]
def VW:Q8:={PySem.Challenge.pw_pickalike_k33_answers_told with main:={PySem.Challenge.pw_pickalike_k33_answers_told.main with body:=[top 1,top 2,top 3,top 4,top 5,top 7,top 8,top 9,top 10,top 12,top 13,top 14,top 15,top 16,top 18,top 19,top 20,top 21,top 22,top 23,top 25,top 26,top 27,top 28,top 29,top 30,top 31,top 32,top 33,top 34,top 35,top 36,top 37,top 39,top 40,top 41,top 42,top 43,top 44,top 45,top 46,top 47,top 48]}}
def HK:W.Hook:=W.kHook KF [2,3,15,22,23,24,25,28,35,36,37,40,47,49,50,52,53,54,55,56,59,66,68,69,71,72,73,74,75,78,85,87,88,90,91,92,93,94,97,99,100,102,103,104,106,107,109,110,111,114,115,116,118,119,121,122,123,125,126,128,129,130,132,133,135,136,137,139,140,142,143,144,146,147,149,150,151,153,154,156,157,158,161,162,163,166,167,168,170,171,173,174,175,177,178,180,181,182,185,186,187,189,190,192,193,194,197,198,199,202,203,204,207,208,209,212,213,214,217,218,219,222,223,224,227,228,229,231,232,234,235,236,239,240,241,243,244,246,247,248,251,252,253,255,256,258,259,260,262,263,265,266,267,269,270,272,273,274,277,278,279,281,282,284,285,286,289,290,291,294,295,296,299,300,301,303,304,306,307,308,311,312] (λ_=>by kernel_rfl)
def XT:QC->Bool:=λs=>W.xlAt VW [] s && W.recOk (aaS PySem.Challenge.rw_pickalike_k33_answers_told.row.toRowW) s
theorem look:Z9 PySem.Challenge.rw_pickalike_k33_answers_told=true:=by decide +kernel
theorem left:W.LeftO PySem.Challenge.rw_pickalike_k33_answers_told.row.prog VW [] XT (abw HK) (abx HK) 4590:=λw=>by kernel_rfl
end K33
namespace DX
open PySem PySem.Spec
open Sem (wp)
end DX
namespace DX
open PySem PySem.Spec
end DX
namespace DX
open PySem PySem.Spec PyProof.Rows L2
def Mg (a C:QW) (dx:Option QW):Sh->Prop:=λh=>∃oe vs,h.get? a=some oe/\oe.cls=.ref C/\oe.dict=dx/\oe.data=.fields vs
abbrev XO (a C:QW) (dx:Option QW):HO:=.ext (Mg a C dx)
end DX
namespace DX
open PySem PySem.Spec PyProof.Rows
open Sem (wp)
section
variable {prog:Q8}{w:Ru}{A:Rx}{E:Qy->QC->Prop}{s:QC}{K:Qx}{x C:QW}{ox:Obj}{od:Option Obj}{name:Str}
theorem E1 {M:abn}{nameV:Qy}{Q:Unit->QC->Prop}(X:K.In s.heap) (I:UG s.heap x ox C od) (hm:Ur K C (.type "BaseException")=some true) (hq:Q () s):Q7 M A (WO "BaseException.__getattribute__" ⟨[.ref x,nameV],[]⟩) Q E s:=by
 have hk:builtinKind "BaseException.__getattribute__"=some .slot:=by decide +kernel
 have OS:splitId "BaseException.__getattribute__"=some ("BaseException","__getattribute__"):=by decide +kernel
 have ha:=F.args_bexc_ga (.ref x) nameV
 have L1:=I.type (M:=M)
 have L2:=W.looks_mroIn (M:=M) X hm
 simp only [WO,hk,OS]
 have L:W.Looks M s.heap (Z_ (.ref x) (.type "BaseException")) true:=L1.andThen L2
 refine Qw (L.here ?_)
 obtain ⟨h,g,d,t,os⟩:=s
 repeat (any_goals (first | assumption | wp_step))
theorem entry_class {tk:Tok}{Q:Fin->QC->Prop}(X:K.In s.heap) (I:UG s.heap x ox C od) (hf:VR K C od "__class__"=some (.bind (.builtin "getset_descriptor.__get__") (.builtin "object.__class__"))) (hm:Ur K C (.type "object")=some true) (h:Q (.done (.ret (.ref C))) s):
  Q7 (Rb prog w) A (UN.«object.__getattribute__» ⟨[.ref x,.str "__class__" tk],[]⟩) Q E s:=by
 obtain ⟨hh,g,d,t,os⟩:=s
 have L0:=I.type (M:=Rb prog w)
 have L1:=W.looks_find (M:=Rb prog w) X I hf
 refine Qw (Qz (Qw (Qz (Qw (L0.at (Qw (L1.at ?_)))))))
 show Q7 _ _ (holding [_] (call _ [_,.ref x,.ref C]) >>= ret) _ _ _
 exact Qw (Rn (Xp (W.class_get (ox:=ox) (od:=od) X I hm (Qz h))))
theorem Kp {tk:Tok}{fill expr:Bool}{Q:Qy->QC->Prop}(X:K.In s.heap) (I:UG s.heap x ox C od) (hga:Tu K (.ref C) "__getattribute__"=some (some (.builtin "BaseException.__getattribute__"))) (hgt:Tu K (.ref C) "__getattr__"=some none)
  (h:Tf (Rb prog w) A (.call (.builtin "BaseException.__getattribute__") ⟨[.ref x,.str name tk],[]⟩) (λr s'=>match r with | .ok (.ret v)=>Q7 (Rb prog w) A (handedOut v) Q E s' | _=>False) s):Q7 (Rb prog w) A (getAttrBy (.ref x) (.str name tk) fill expr) Q E s:=by
 obtain ⟨hh,g,d,t,os⟩:=s
 have L0:=I.type (M:=Rb prog w)
 have L1:=Xu (M:=Rb prog w) X hga
 have L2:=Xu (M:=Rb prog w) X hgt
 have Qu:(WB "BaseException.__getattribute__" == WB "object.__getattribute__")=false:=by decide +kernel
 unfold getAttrBy
 refine Rn (Qw (L0.at (Qw (L1.at ?_))))
 dsimp only
 rw [Qu,Uc,if_neg (by decide)]
 unfold getAttrByItsOwn
 refine Qw (L2.at ?_)
 have h0:(expr && onTheHeap (WB "BaseException.__getattribute__"))=false:=by cases expr <;> rfl
 refine Qw (U0 (Rn ?_))
 unfold callGetattribute
 rw [h0,if_neg (by decide)]
 unfold boundAndCalled
 rw [VS.ga.bind (.ref x)]
 refine Qw (Qz (Xp (Tj h λr s' q=>?_)))
 match r,q with
 | .ok (.ret v),q=>exact q
theorem get_class {Q:Option Qy->QC->Prop}(X:K.In s.heap) (I:UG s.heap x ox C od) (hga:Tu K (.ref C) "__getattribute__"=some (some (.builtin "BaseException.__getattribute__"))) (hgt:Tu K (.ref C) "__getattr__"=some none)
  (hm:Ur K C (.type "BaseException")=some true) (hf:VR K C od "__class__"=some (.bind (.builtin "getset_descriptor.__get__") (.builtin "object.__class__"))) (ho:Ur K C (.type "object")=some true) (h:Q (some (.ref C)) {s with toks:=s.toks + 1}):
  Q7 (Rb prog w) A (getAttr? (.ref x) "__class__") Q E s:=by
 obtain ⟨hp,g,d,t,os⟩:=s
 unfold getAttr? getAttrBy?
 refine Qw (wpAny_mkText (Qw (U0 (Kp (s:=⟨hp,g,d,t + 1,os⟩) X I hga hgt ?_))))
 refine VF VS.ga.plain F.entry_bexc_ga (E1 (s:=⟨hp,g,d,t + 1,os⟩) X I hm (entry_class (s:=⟨hp,g,d,t + 1,os⟩) X I hf ho ?_))
 exact Qz (Qz h)
end
end DX
namespace DX
open PySem PySem.Spec PyProof.Rows L2
abbrev zw:List Qy:=[.type "ValueError",.type "Exception",.type "BaseException",.type "object"]
def quiet:List Str:=["__init__","__setattr__","name","letter","many","told","point","row"]
structure GX (K:Qx) (P:QW):Prop where
 gt:YF K (.builtin "object.__class__") "__get__"=some (some (.builtin "getset_descriptor.__get__"))
 tk:Zl K (.builtin "object.__class__")=some true
 lk:∃nm q N bs sn sub ab col dd k0 k1 k2 k3 k5,K.lookup P=some (excClassObj nm q P N bs zw true sn sub ab col dd k0 k1 k2 k3 k5 "ValueError.__new__")/\∀h,K.In h->∃m,h.Ns N m/\∀n∈quiet,m n=none
structure XE (K:Qx) (P C:QW):Prop where
 lk:∃nm q N bs sn sub ab col dd k0 k1 k2 k3 k5,K.lookup C=some (excClassObj nm q C N bs (.ref P::zw) true sn sub ab col dd k0 k1 k2 k3 k5 "ValueError.__new__")
 ga:Tu K (.ref C) "__getattribute__"=some (some (.builtin "BaseException.__getattribute__"))
 gt:Tu K (.ref C) "__getattr__"=some none
 cl:Tu K (.ref C) "__class__"=some (some (.builtin "object.__class__"))
section
variable {K:Qx}{P C:QW}
theorem Dp (X:XE K P C):∃cd,U1 K C=some cd/\cd.mro=.ref C::.ref P::zw/\cd.hasDict=true/\W.typeIn K (.ref C)=some (.type "type"):=by
 obtain ⟨nm,q,N,bs,sn,sub,ab,col,dd,k0,k1,k2,k3,k5,l⟩:=X.lk
 have h1:U1 K C=some {name:=nm,bases:=bs,mro:=.ref C::.ref P::zw,ns:=N,qualname:=q,hasDict:=true,slotNames:=sn,subclasses:=sub,abstract:=ab,collection:=col,hasDel:=false}:=by
  unfold U1
  rw [l]
 refine ⟨_,h1,rfl,rfl,?_⟩
 show (K.lookup C).map (·.cls)=_
 rw [l]
 rfl
theorem yI (X:XE K P C) (b:Qy):Ur K C b=some ((UT C::.ref P::zw).contains b):=by
 obtain ⟨cd,h1,h2,_⟩:=Dp X
 unfold Ur
 rw [h1,WQ,h2]
 rfl
end
theorem KR {K:Qx}{P C:QW}(X:XE K P C){T:String}(h1:Zm T=true) (h2:zw.contains (.type T)=false):XG K (.ref C) (.type T)=some false:=by
 unfold XG W.kitCls
 rw [if_neg (by simp)]
 simp only [h1,if_true]
 show Ur K C _=_
 rw [yI X,Yh,Yh,h2]
 rfl
theorem Ib {K:Qx}{C:QW}{od:Option Obj}{name:Str}{a g:Qy}(hc:(U1 K C).isSome=true) (ha:Tu K (.ref C) name=some (some a)) (hg:YF K a "__get__"=some (some g)) (ht:Zl K a=some true):VR K C od name=some (.bind g a):=by
 obtain ⟨cd,hc⟩:=R3.mp hc
 unfold VR
 rw [hc,WQ,ha,WQ]
 simp [hg,ht]
theorem Ft {K:Qx}{e P C:QW}(G:GX K P) (E:XE K P C):W.KitX K (.ref e) (.ref C) (λh=>∃ox od,UG h e ox C od):=by
 obtain ⟨cd,hc,hm,hd,ht⟩:=Dp E
 refine ⟨λM h _ ⟨ox,od,I⟩=>I.type,λM h X _=>?_,λh tp dd its n sl X htp=>?_,λX ⟨ox,od,I⟩ k=>?_⟩
 ·unfold U1 at hc
  split at hc
  ·rename_i ho
   intro A' Q' E' s' k q
   unfold isType loadHead
   exact Qw (wpAny_loadPart (k _ _ (X _ _ ho)) (Qz q))
  ·cases hc
 ·refine Bool.eq_false_iff.mpr λq=>?_
  obtain rfl:C=tp:=abG (beq_iff_eq.mp q)
  unfold U1 at hc
  split at hc
  ·rename_i ho
   have z:=(X _ _ ho).symm.trans htp
   cases z
  ·cases hc
 ·exact get_class X I E.ga E.gt (by rw [yI E];simp) (Ib (by rw [hc];rfl) E.cl G.gt G.tk) (by rw [yI E];simp) k
end DX
namespace DL
open PySem PySem.Spec PyProof.Rows L2
inductive D where
 | non | bl (b:Bool) | int (i:Int) | str (x:Str) | tup (xs:List D) | lst (xs:List D) | emp
 | exn (cls:Str) (ns:List Str) (ds:List D)
  | dct (ks vs:List D)
mutual
def isKey:D->Bool
 | .int _=>true
 | .tup xs=>areKeys xs
 | _=>false
def areKeys:List D->Bool
 | []=>true
 | x::xs=>isKey x && areKeys xs
end
mutual
def bS:D->Int
 | .int i=>UA i
 | .tup xs=>aaa (RY (cB xs))
 | _=>0
def cB:List D->List Int
 | []=>[]
 | x::xs=>bS x::cB xs
end
mutual
def dep:D->Nat
 | .tup xs=>deps xs + 1
 | .lst xs=>deps xs + 1
 | .emp=>5000
 | .exn _ _ _=>5000
 | .dct _ _=>5000
 | _=>0
def deps:List D->Nat
 | []=>0
 | x::xs=>max (dep x) (deps xs)
end
structure JJ (ks:List D):Prop where
 key:areKeys ks=true
 nd:ks.Nodup
 dp:deps ks<=8
 tp:∀k∈ks,∃xs,k=.tup xs
def xB (p:Int×V×V) (e:Yg):Prop:=e.hash=p.1/\RelV p.2.1 e.key/\RelV p.2.2 e.val
abbrev kW (a:QW) (ep:Nat) (kvs:List (Int×V×V)):HO:=.ext λh=>∃o es,h.get? a=some o/\o.ExactDict/\o.data=.dict es ep/\Wg xB kvs es.toList
def XF (J:Hp) (dx:Option QW) (ns:List Str) (vs:List V):Prop:=(dx=none/\ns=[]/\vs=[])\/∃d,dx=some d/\ns.length=vs.length/\J d=some (.xd (ns.zip vs))
theorem XF.mono {J J':Hp}(e:aU J J'){dx:Option QW}{ns:List Str}{vs:List V}(h:XF J dx ns vs):XF J' dx ns vs:=by
 rcases h with h | ⟨d,h1,h2,h3⟩
 ·exact .inl h
 ·exact .inr ⟨d,h1,h2,e _ _ h3⟩
mutual
inductive Rep (K:Qx) (J:Hp):D->V->Prop
 | non:Rep K J .non .non
 | bl (b:Bool):Rep K J (.bl b) (.bl b)
 | int (i:Int):Rep K J (.int i) (.int i)
 | str (x:Str):Rep K J (.str x) (.str x)
 | emp {a:QW}:J a=some (.dK [])->Rep K J .emp (.ref a)
 | tup {a:QW}{vs:List V}{ds:List D}:cY K J a vs->aI K J ds vs->Rep K J (.tup ds) (.ref a)
 | lst {a:QW}{vs:List V}{ds:List D}:cC K J a vs->aI K J ds vs->Rep K J (.lst ds) (.ref a)
 | exn {a C:QW}{dx:Option QW}{cls:Str}{ns:List Str}{vs:List V}{ds:List D}:J a=some (DX.XO a C dx)->QT K QM cls=some (some (.ref C))->XF J dx ns vs->aI K J ds vs->(∃P,DX.GX K P/\DX.XE K P C)->Rep K J (.exn cls ns ds) (.ref a)
 | dct {a:QW}{ep:Nat}{ks vs:List D}{us ws:List V}:J a=some (kW a ep ((cB ks).zip (us.zip ws)))->aI K J ks us->aI K J vs ws->JJ ks->(a == Ub)=false/\ks.length=vs.length->Rep K J (.dct ks vs) (.ref a)
inductive aI (K:Qx) (J:Hp):List D->List V->Prop
 | nil:aI K J [] []
 | cons {d:D}{v:V}{ds:List D}{vs:List V}:Rep K J d v->aI K J ds vs->aI K J (d::ds) (v::vs)
end
theorem fP {K:Qx}{H H':Hp}{a:QW}{xs:List V}(e:aU H H') (h:cY K H a xs):cY K H' a xs:=by
 rcases h with (h | ⟨o,h⟩) | h
 ·exact .inl (.inl (e _ _ h))
 ·exact .inl (.inr ⟨o,e _ _ h⟩)
 ·exact .inr h
mutual
theorem Rep.mono {K:Qx}{J J':Hp}(e:aU J J'):∀{d:D}{v:V},Rep K J d v->Rep K J' d v
 | _,_,.non=>.non
 | _,_,.bl b=>.bl b
 | _,_,.int i=>.int i
 | _,_,.str x=>.str x
 | _,_,.emp h=>.emp (e _ _ h)
 | _,_,.tup h hs=>.tup (fP e h) (aI.mono e hs)
 | _,_,.lst h hs=>.lst (e.seq h) (aI.mono e hs)
 | _,_,.exn h1 h2 h3 hs hx=>.exn (e _ _ h1) h2 (h3.mono e) (aI.mono e hs) hx
 | _,_,.dct h h1 h2 h3 h4=>.dct (e _ _ h) (aI.mono e h1) (aI.mono e h2) h3 h4
theorem aI.mono {K:Qx}{J J':Hp}(e:aU J J'):∀{ds:List D}{vs:List V},aI K J ds vs->aI K J' ds vs
 | _,_,.nil=>.nil
 | _,_,.cons h hs=>.cons (Rep.mono e h) (aI.mono e hs)
end
section
variable {K:Qx}{J:Hp}
theorem aI.length:∀{ds:List D}{vs:List V},aI K J ds vs->ds.length=vs.length
 | _,_,.nil=>rfl
 | _,_,.cons _ hs=>congrArg (· + 1) (aI.length hs)
theorem aI.get:∀{ds:List D}{vs:List V}{i:Nat}{d:D},aI K J ds vs->ds[i]?=some d->∃v,vs[i]?=some v/\Rep K J d v
 | _,_,_,_,.nil,e=>by simp at e
 | _,_,0,_,.cons r _,e=>by simp at e;subst e;exact ⟨_,rfl,r⟩
 | _,_,i + 1,d,.cons _ t,e=>by
  obtain ⟨v,h1,h2⟩:=aI.get (i:=i) (d:=d) t (by simpa using e)
  exact ⟨v,by simpa using h1,h2⟩
theorem aI.append:∀{ds es:List D}{vs us:List V},aI K J ds vs->aI K J es us->aI K J (ds++es) (vs++us)
 | _,_,_,_,.nil,s=>s
 | _,_,_,_,.cons r t,s=>.cons r (aI.append t s)
theorem aI.take:∀{ds:List D}{vs:List V}(n:Nat),aI K J ds vs->aI K J (ds.take n) (vs.take n)
 | _,_,0,_=>.nil
 | _,_,_ + 1,.nil=>.nil
 | _,_,n + 1,.cons r t=>.cons r (aI.take n t)
theorem aI.drop:∀{ds:List D}{vs:List V}(n:Nat),aI K J ds vs->aI K J (ds.drop n) (vs.drop n)
 | _,_,0,r=>r
 | _,_,_ + 1,.nil=>.nil
 | _,_,n + 1,.cons _ t=>aI.drop n t
end
def dX (K:Qx) (J H:Hp) (a:QW) (ks vs:List D):Prop:=∃us ws ep,H a=some (kW a ep ((cB ks).zip (us.zip ws)))/\aI K J ks us/\aI K J vs ws/\JJ ks/\(a == Ub)=false/\ks.length=vs.length
theorem dX.mono {K:Qx}{J J' H H':Hp}{a:QW}{ks vs:List D}(e:aU J J') (e':aU H H'):dX K J H a ks vs->dX K J' H' a ks vs
 | ⟨us,ws,ep,h1,h2,h3,h4⟩=>⟨us,ws,ep,e' _ _ h1,h2.mono e,h3.mono e,h4⟩
theorem dX.ne {K:Qx}{J H:Hp}{a:QW}{ks vs:List D}:dX K J H a ks vs->H a≠none
 | ⟨us,ws,ep,h1,_⟩=>by rw [h1];intro z;cases z
theorem dX.rep {K:Qx}{J H:Hp}{a:QW}{ks vs:List D}(e:aU J H):dX K J H a ks vs->Rep K H (.dct ks vs) (.ref a)
 | ⟨us,ws,ep,h1,h2,h3,h4,h5⟩=>.dct h1 (h2.mono e) (h3.mono e) h4 h5
structure Exc where
 cls:Str
 ns:List Str
 ds:List D
inductive M (α:Type) where
 | bad | ok (a:α) | exc (x:Exc)
def M.bind {α β:Type}:M α->(α->M β)->M β
 | .bad,_=>.bad
 | .ok a,f=>f a
 | .exc x,_=>.exc x
instance:Monad M where
 pure:=M.ok
 bind:=M.bind
@[simp] theorem aQ {α β:Type}(a:α) (f:α->M β):(M.ok a >>= f)=f a:=rfl
def cJ {α:Type}(m:M α) (Q:α->Prop) (T:Exc->Prop):Prop:=match m with
 | .bad=>False
 | .ok a=>Q a
 | .exc x=>T x
theorem aK {α β:Type}{m:M α}{f:α->M β}{Q:β->Prop}{T:Exc->Prop}(h:cJ (m >>= f) Q T):cJ m (λa=>cJ (f a) Q T) T:=by
 cases m with
 | bad=>exact h
 | ok a=>exact h
 | exc x=>exact h
theorem aB {α:Type}{m:M α}{Q Q':α->Prop}{T:Exc->Prop}(h:cJ m Q T) (k:∀a,Q a->Q' a):cJ m Q' T:=by
 cases m with
 | bad=>exact h
 | ok a=>exact k a h
 | exc x=>exact h
inductive Md where
 | fresh | own | bor
inductive R where
 | d (x:D) | l (m:Md) (xs:List D)
  | mo (ks vs:List D) | mb (ks vs:List D) | mf (ks vs:List D)
inductive S where
 | d (x:D) | own (xs:List D) | bor (xs:List D) | dk (ks vs:List D) | db (ks vs:List D)
  | fn (x:Str)
abbrev Ev:=List (Option S)
abbrev Mn:=List D ⊕ (List D×List D)
def mS:Mn->S
 | .inl xs=>.own xs
 | .inr p=>.dk p.1 p.2
structure C where
 K:Qx
 H0:Hp
 J0:Hp
 T:Exc->Prop
structure HI (c:C) (J H:Hp):Prop where
 sub:aU J H
 ent:aU c.H0 H
 entJ:aU c.J0 J
 frz:∀a,c.H0 a≠none->c.J0 a=none->J a=none
structure Ext (J H J' H':Hp):Prop where
 h:aU H H'
 j:aU J J'
 sub:aU J' H'
 frz:∀a,H a≠none->J a=none->J' a=none
theorem aU.ne {H H':Hp}(e:aU H H'){a:QW}(h:H a≠none):H' a≠none:=by
 cases q:H a with
 | none=>exact absurd q h
 | some o=>rw [e a o q];intro z;cases z
theorem Ext.refl {J H:Hp}(h:aU J H):Ext J H J H:=⟨aU.refl H,aU.refl J,h,λ_ _ q=>q⟩
theorem Ext.trans {J H J1 H1 J2 H2:Hp}(a:Ext J H J1 H1) (b:Ext J1 H1 J2 H2):Ext J H J2 H2:=
 ⟨a.h.trans b.h,a.j.trans b.j,b.sub,λp h q=>b.frz p (aU.ne a.h h) (a.frz p h q)⟩
theorem HI.ext {c:C}{J H J' H':Hp}(h:HI c J H) (e:Ext J H J' H'):HI c J' H':=
 ⟨e.sub,h.ent.trans e.h,h.entJ.trans e.j,λa h0 j0=>e.frz a (aU.ne h.ent h0) (h.frz a h0 j0)⟩
theorem cL {H:Hp}{p:QW}(h:H p=none) (o:HO):aU H (upd H p o):=λb u q=>by rw [bD (fF q h)];exact q
theorem Ext.new {J H:Hp}(h:aU J H){p:QW}(e:H p=none) (o:HO):Ext J H J (upd H p o):=
 ⟨cL e o,aU.refl J,λb u q=>cL e o b u (h b u q),λ_ _ q=>q⟩
theorem Ext.newJ {J H:Hp}(h:aU J H){p:QW}(e:H p=none) (o:HO):Ext J H (upd J p o) (upd H p o):=
 ⟨cL e o,cL (h.free e) o,λb u q=>by
  by_cases hb:b=p
  ·subst hb;rw [bX] at q ⊢;exact q
  ·rw [bD hb] at q ⊢;exact h b u q,λa ha q=>by
  have:a≠p:=λz=>ha (z▸e)
  rw [bD this];exact q⟩
def q_ (c:C) (J H:Hp):S->V->Prop
 | .d x,v=>Rep c.K J x v
 | .own xs,v=>∃a vs,v=.ref a/\H a=some (.lst vs)/\J a=none/\c.H0 a=none/\aI c.K J xs vs
 | .bor xs,v=>∃a vs,v=.ref a/\cC c.K c.H0 a vs/\aI c.K J xs vs
 | .dk ks vs,v=>∃a,v=.ref a/\dX c.K J H a ks vs/\J a=none/\c.H0 a=none
 | .db ks vs,v=>∃a,v=.ref a/\dX c.K J c.H0 a ks vs
 | .fn x,v=>∃f,v=.ref f/\QT c.K QM x=some (some (.ref f))
theorem q_.ext {c:C}{J H J' H':Hp}(e:Ext J H J' H'):∀{x:S}{v:V},q_ c J H x v->q_ c J' H' x v
 | .d x,v,h=>Rep.mono e.j h
 | .own xs,v,⟨a,vs,h1,h2,h3,h4,h5⟩=>⟨a,vs,h1,e.h _ _ h2,e.frz a (by rw [h2];intro z;cases z) h3,h4,aI.mono e.j h5⟩
 | .bor xs,v,⟨a,vs,h1,h2,h3⟩=>⟨a,vs,h1,h2,aI.mono e.j h3⟩
 | .dk _ _,v,⟨a,h1,h2,h3,h4⟩=>⟨a,h1,h2.mono e.j e.h,e.frz a h2.ne h3,h4⟩
 | .db _ _,v,⟨a,h1,h2⟩=>⟨a,h1,h2.mono e.j (aU.refl _)⟩
 | .fn _,v,h=>h
structure SR (c:C) (J H:Hp) (σ:L2.St) (env:Ev):Prop where
 hp:HI c J H
 len:env.length=σ.length
 at_:∀(i:Nat) (x:S),env[i]?=some (some x)->∃v,σ[i]?=some (some v)/\q_ c J H x v
 sep:∀(i j:Nat) (xs ys:Mn) (v:V),i≠j->env[i]?=some (some (mS xs))->env[j]?=some (some (mS ys))->σ[i]?=some (some v)->σ[j]?≠some (some v)
theorem SR.ext {c:C}{J H J' H':Hp}{σ:L2.St}{env:Ev}(h:SR c J H σ env) (e:Ext J H J' H'):SR c J' H' σ env:=
 ⟨h.hp.ext e,h.len,λi x q=>let ⟨v,q1,q2⟩:=h.at_ i x q;⟨v,q1,q2.ext e⟩,h.sep⟩
theorem SR.mine {c:C}{J H:Hp}{σ:L2.St}{env:Ev}(sr:SR c J H σ env){i:Nat}:∀{x:Mn},env[i]?=some (some (mS x))->∃p,σ[i]?=some (some (.ref p))/\H p≠none/\J p=none/\c.H0 p=none
 | .inl xs,h=>let ⟨_,k1,p,vs,e,k2,k3,k4,_⟩:=sr.at_ i (.own xs) h;⟨p,e▸k1,by rw [k2];exact λz=>(by cases z),k3,k4⟩
 | .inr q,h=>let ⟨_,k1,p,e,k2,k3,k4⟩:=sr.at_ i (.dk q.1 q.2) h;⟨p,e▸k1,k2.ne,k3,k4⟩
def RR (c:C) (He J H:Hp):R->V->Prop
 | .d x,v=>Rep c.K J x v
 | .l .fresh xs,v=>∃a vs,v=.ref a/\H a=some (.lst vs)/\J a=none/\He a=none/\aI c.K J xs vs
 | .l .own xs,v=>∃a vs,v=.ref a/\H a=some (.lst vs)/\J a=none/\c.H0 a=none/\aI c.K J xs vs
 | .l .bor xs,v=>∃a vs,v=.ref a/\cC c.K c.H0 a vs/\aI c.K J xs vs
 | .mo ks vs,v=>∃a,v=.ref a/\dX c.K J H a ks vs/\J a=none/\c.H0 a=none
 | .mb ks vs,v=>∃a,v=.ref a/\dX c.K J c.H0 a ks vs
 | .mf ks vs,v=>∃a,v=.ref a/\dX c.K J H a ks vs/\J a=none/\He a=none
theorem RR.ext {c:C}{He J H J' H':Hp}(e:Ext J H J' H'):∀{x:R}{v:V},RR c He J H x v->RR c He J' H' x v
 | .d x,v,h=>Rep.mono e.j h
 | .l .fresh xs,v,⟨a,vs,h1,h2,h3,h4,h5⟩=>⟨a,vs,h1,e.h _ _ h2,e.frz a (by rw [h2];intro z;cases z) h3,h4,aI.mono e.j h5⟩
 | .l .own xs,v,⟨a,vs,h1,h2,h3,h4,h5⟩=>⟨a,vs,h1,e.h _ _ h2,e.frz a (by rw [h2];intro z;cases z) h3,h4,aI.mono e.j h5⟩
 | .l .bor xs,v,⟨a,vs,h1,h2,h3⟩=>⟨a,vs,h1,h2,aI.mono e.j h3⟩
 | .mo _ _,v,⟨a,h1,h2,h3,h4⟩=>⟨a,h1,h2.mono e.j e.h,e.frz a h2.ne h3,h4⟩
 | .mb _ _,v,⟨a,h1,h2⟩=>⟨a,h1,h2.mono e.j (aU.refl _)⟩
 | .mf _ _,v,⟨a,h1,h2,h3,h4⟩=>⟨a,h1,h2.mono e.j e.h,e.frz a h2.ne h3,h4⟩
theorem RR.from {c:C}{He He' J H:Hp}(e:aU He He'):∀{x:R}{v:V},RR c He' J H x v->RR c He J H x v
 | .d x,v,h=>h
 | .l .fresh xs,v,⟨a,vs,h1,h2,h3,h4,h5⟩=>⟨a,vs,h1,h2,h3,e.free h4,h5⟩
 | .l .own xs,v,h=>h
 | .l .bor xs,v,h=>h
 | .mo _ _,v,h=>h
 | .mb _ _,v,h=>h
 | .mf _ _,v,⟨a,h1,h2,h3,h4⟩=>⟨a,h1,h2,h3,e.free h4⟩
def j_:R->M (List D)
 | .d (.lst xs)=>.ok xs
 | .l _ xs=>.ok xs
 | _=>.bad
def toD:R->M D
 | .d x=>.ok x
 | .l .fresh xs=>.ok (.lst xs)
 | .mf ks vs=>.ok (.dct ks vs)
 | _=>.bad
theorem RR.list {c:C}{He J H:Hp}(hp:HI c J H):∀{r:R}{v:V}{xs:List D},RR c He J H r v->j_ r=.ok xs->∃a vs,v=.ref a/\cC c.K H a vs/\aI c.K J xs vs
 | .d (.lst ys),v,xs,h,e=>by
  cases e
  cases h with
  | lst h hs=>exact ⟨_,_,rfl,hp.sub.seq h,hs⟩
 | .l .fresh ys,v,xs,⟨a,vs,h1,h2,h3,h4,h5⟩,e=>by cases e;exact ⟨a,vs,h1,cC.of h2,h5⟩
 | .l .own ys,v,xs,⟨a,vs,h1,h2,h3,h4,h5⟩,e=>by cases e;exact ⟨a,vs,h1,cC.of h2,h5⟩
 | .l .bor ys,v,xs,⟨a,vs,h1,h2,h3⟩,e=>by cases e;exact ⟨a,vs,h1,hp.ent.seq h2,h3⟩
 | .d .non,_,_,_,e=>nomatch e
 | .d (.bl _),_,_,_,e=>nomatch e
 | .d (.int _),_,_,_,e=>nomatch e
 | .d (.str _),_,_,_,e=>nomatch e
 | .d (.tup _),_,_,_,e=>nomatch e
 | .d .emp,_,_,_,e=>nomatch e
 | .d (.dct _ _),_,_,_,e=>nomatch e
 | .mo _ _,_,_,_,e=>nomatch e
 | .mb _ _,_,_,_,e=>nomatch e
 | .mf _ _,_,_,_,e=>nomatch e
theorem AB {Je He J H:Hp}(x:Ext Je He J H){a:QW}{o:HO}(h2:H a=some o) (h3:J a=none) (h4:He a=none):Ext Je He (upd J a o) H:=by
 refine ⟨x.h,x.j.trans (cL h3 _),λb u q=>?_,λb hb q=>?_⟩
 ·by_cases hb:b=a
  ·subst hb;rw [bX] at q;cases q;exact h2
  ·rw [bD hb] at q;exact x.sub b u q
 ·have:b≠a:=λz=>hb (z▸h4)
  rw [bD this];exact x.frz b hb q
theorem freeze {c:C}{Je He J H:Hp}(x:Ext Je He J H):∀{r:R}{v:V}{d:D},RR c He J H r v->toD r=.ok d->∃J',Ext Je He J' H/\aU J J'/\Rep c.K J' d v
 | .d y,v,d,h,e=>by cases e;exact ⟨J,x,aU.refl J,h⟩
 | .l .fresh ys,v,d,⟨a,vs,h1,h2,h3,h4,h5⟩,e=>by
  cases e
  subst h1
  exact ⟨_,AB x h2 h3 h4,cL h3 _,.lst (.inl (.inl bX)) (aI.mono (cL h3 _) h5)⟩
 | .mf ks vs,v,d,⟨a,h1,⟨us,ws,ep,h2,m1,m2,m3⟩,h3,h4⟩,e=>by
  cases e
  subst h1
  exact ⟨_,AB x h2 h3 h4,cL h3 _,.dct bX (m1.mono (cL h3 _)) (m2.mono (cL h3 _)) m3.1 m3.2⟩
 | .l .own _,_,_,_,e=>nomatch e
 | .l .bor _,_,_,_,e=>nomatch e
 | .mo _ _,_,_,_,e=>nomatch e
 | .mb _ _,_,_,_,e=>nomatch e
abbrev G (α:Type):=Ev->M α
def tD (c:C) (g:G R):TE:=λσ H Q=>∃J env,SR c J H σ env/\cJ (g env) (λr=>∀v J' H',Ext J H J' H'->RR c H J' H' r v->Q v H') c.T
def PD (X:Cx) (c:C) (e:Rp) (g:G R):Prop:=PE X e (tD c g)
def tB (c:C) (g:G Bool):TT:=λσ H Q=>∃J env,SR c J H σ env/\cJ (g env) (λb=>∀J' H',Ext J H J' H'->Q b H') c.T
def PB (X:Cx) (c:C) (e:Rp) (g:G Bool):Prop:=PT X e (tB c g)
def j6 (c:C) (He J H:Hp):List R->List V->Prop
 | [],vs=>vs=[]
 | r::rs,vs=>∃v us,vs=v::us/\RR c He J H r v/\j6 c He J H rs us
def tA (c:C) (g:G (List R)):TA:=λσ H Q=>∃J env,SR c J H σ env/\cJ (g env) (λrs=>∀vs J' H',Ext J H J' H'->j6 c H J' H' rs vs->Q vs H') c.T
def GY (X:Cx) (c:C) (es:List Rp) (g:G (List R)):Prop:=PA X es (tA c g)
def Oe (c:C) (g:G (List D)):TA:=λσ H Q=>∃J env,SR c J H σ env/\cJ (g env) (λds=>∀vs J' H',Ext J H J' H'->aI c.K J' ds vs->Q vs H') c.T
def N7 (X:Cx) (c:C) (es:List Rp) (g:G (List D)):Prop:=PA X es (Oe c g)
inductive O where
 | nx (e:Ev) | rt (r:R) | bk (e:Ev) | ct (e:Ev)
def RF (c:C) (J H:Hp):R->V->Prop
 | .d x,v=>Rep c.K J x v
 | .l _ xs,v=>∃a vs,v=.ref a/\H a=some (.lst vs)/\J a=none/\c.H0 a=none/\aI c.K J xs vs
 | .mf ks vs,v=>∃a,v=.ref a/\dX c.K J H a ks vs/\J a=none/\c.H0 a=none
 | _,_=>False
def oP (c:C) (J:Hp) (E:Ends):O->Prop
 | .nx e=>∀σ' J' H',aU J J'->SR c J' H' σ' e->E.nx σ' H'
 | .rt r=>∀v J' H',aU J J'->HI c J' H'->RF c J' H' r v->E.rt v H'
 | .bk e=>∀σ' J' H',aU J J'->SR c J' H' σ' e->E.bk σ' H'
 | .ct e=>∀σ' J' H',aU J J'->SR c J' H' σ' e->E.ct σ' H'
def tS (c:C) (g:G O):TS:=λE σ H=>∃J env,SR c J H σ env/\cJ (g env) (oP c J E) c.T
def Ak (X:Cx) (c:C) (st:T7) (g:G O):Prop:=PS X st (tS c g)
def JO (X:Cx) (c:C) (st:List T7) (g:G O):Prop:=j5 X st (tS c g)
theorem oP.mono {c:C}{J J1:Hp}{E:Ends}(e:aU J J1):∀{o:O},oP c J E o->oP c J1 E o
 | .nx _,h=>λσ' J' H' q r=>h σ' J' H' (e.trans q) r
 | .rt _,h=>λσ' J' H' q r=>h σ' J' H' (e.trans q) r
 | .bk _,h=>λσ' J' H' q r=>h σ' J' H' (e.trans q) r
 | .ct _,h=>λσ' J' H' q r=>h σ' J' H' (e.trans q) r
theorem fG {X:Cx}{e:Rp}{t t':TE}(h:PE X e t) (k:∀σ H Q,t' σ H Q->t σ H Q):PE X e t':=λpins s σ H Q I q=>h pins s σ H Q I (k σ H Q q)
theorem xr {X:Cx}{e:Rp}{t t':TT}(h:PT X e t) (k:∀σ H Q,t' σ H Q->t σ H Q):PT X e t':=λpins s σ H Q I q=>h pins s σ H Q I (k σ H Q q)
theorem xo {X:Cx}{es:List Rp}{t t':TA}(h:PA X es t) (k:∀σ H Q,t' σ H Q->t σ H Q):PA X es t':=λpos pins s σ H Q I q=>h pos pins s σ H Q I (k σ H Q q)
theorem iF {X:Cx}{st:T7}{t t':TS}(h:PS X st t) (k:∀D σ H,t' D σ H->t D σ H):PS X st t':=λpins s σ H D I q=>h pins s σ H D I (k D σ H q)
theorem Ek {X:Cx}{st:List T7}{t t':TS}(h:j5 X st t) (k:∀D σ H,t' D σ H->t D σ H):j5 X st t':=λpins s σ H D I q=>h pins s σ H D I (k D σ H q)
section
variable {X:Cx}{c:C}{e a b:Rp}{ga gb:G R}{pos:Pos}
def S.rd:S->M R
 | .d x=>.ok (.d x)
 | .own xs=>.ok (.l .own xs)
 | .bor xs=>.ok (.l .bor xs)
 | .dk ks vs=>.ok (.mo ks vs)
 | .db ks vs=>.ok (.mb ks vs)
 | .fn _=>.bad
def af (i:Nat):G R:=λenv=>match env[i]? with
 | some (some x)=>x.rd
 | _=>.bad
theorem IQ {x:Str}{i:Nat}(h:PE X (.Name x pos) (LV i)):PD X c (.Name x pos) (af i):=fG h λσ H Q ⟨J,env,sr,w⟩=>by
 unfold af at w
 cases q:env[i]? with
 | none=>rw [q] at w;exact w.elim
 | some o=>
  cases o with
  | none=>rw [q] at w;exact w.elim
  | some x=>
   rw [q] at w
   obtain ⟨v,h1,h2⟩:=sr.at_ i x q
   refine ⟨v,h1,?_⟩
   cases x with
   | fn _=>exact w.elim
   | _=>exact w v J H (Ext.refl sr.hp.sub) h2
def gC (d:D):G R:=λ_=>.ok (.d d)
theorem tN {d:D}{v:V}(hr:∀J,Rep c.K J d v) (h:PE X e (tC v)):PD X c e (gC d):=fG h λσ H Q ⟨J,env,sr,w⟩=>w v J H (Ext.refl sr.hp.sub) (hr J)
def BD (c:C) (r:R2) (f:R->R->M R):Prop:=∀(He He' J H:Hp) (x y:R) (u v:V) (Q:VK),HI c J H->RR c He J H x u->RR c He' J H y v->
 cJ (f x y) (λz=>∀w J' H',Ext J H J' H'->RR c H J' H' z w->Q w H') c.T->r u v H Q
def g2 (f:R->R->M R) (ga gb:G R):G R:=λenv=>ga env >>= λx=>gb env >>= λy=>f x y
theorem two {P:R->R->M R}{σ:L2.St}{H:Hp}{k:V->V->Hp->Prop}{Q:VK}{J:Hp}{env:Ev}(sr:SR c J H σ env)
  (w:cJ (g2 P ga gb env) (λr=>∀v J' H',Ext J H J' H'->RR c H J' H' r v->Q v H') c.T)
  (hk:∀x y u v J2 H2,SR c J2 H2 σ env->Ext J H J2 H2->RR c H J2 H2 x u->RR c H J2 H2 y v->cJ (P x y) (λz=>∀w J' H',Ext J2 H2 J' H'->RR c H2 J' H' z w->Q w H') c.T->k u v H2):
  tD c ga σ H λu H1=>tD c gb σ H1 λv H2=>k u v H2:=by
 refine ⟨J,env,sr,aB (aK w) λx wx u J1 H1 e1 r1=>?_⟩
 have sr1:=sr.ext e1
 refine ⟨J1,env,sr1,aB (aK wx) λy wy v J2 H2 e2 r2=>?_⟩
 exact hk x y u v J2 H2 (sr1.ext e2) (e1.trans e2) (r1.ext e2) (RR.from e1.h r2) (aB wy λz q w J' H' e3 r3=>q w J' H' ((e1.trans e2).trans e3) (RR.from (e1.h.trans e2.h) r3))
theorem FY {t:TE}{r:R2}{f:R->R->M R}(ht:PE X e t) (heq:t=EA r (tD c ga) (tD c gb)) (hf:BD c r f):PD X c e (g2 f ga gb):=by
 subst heq
 exact fG ht λσ H Q ⟨J,env,sr,w⟩=>two (k:=λu v H2=>r u v H2 Q) sr w λx y u v J2 H2 sr2 e2 r1 r2 q=>hf H H J2 H2 x y u v Q sr2.hp r1 r2 q
theorem oj {op:X4}{r:R2}{f:R->R->M R}(ho:cT X (Uq op) r) (hf:BD c r f) (ha:PD X c a ga) (hb:PD X c b gb):PD X c (.BinOp a op b pos) (g2 f ga gb):=FY (MG ho ha hb) rfl hf
theorem pO {op:ZN}{r:R2}{f:R->R->M R}(ho:cT X (R0 op) r) (hf:BD c r f) (ha:PD X c a ga) (hb:PD X c b gb) (hm:R6 op b=false:=by first | exact yK _ | rfl):PD X c (.Compare a [op] [b] pos) (g2 f ga gb):=FY (IT ho ha hb hm) rfl hf
theorem Hh {r:R2}{f:R->R->M R}(ho:oV X r) (hf:BD c r f) (ha:PD X c a ga) (hb:PD X c b gb) (hs:qc b:=by exact λ_ _=>rfl):PD X c (.Subscript a b pos) (g2 f ga gb):=FY (MF ho ha hb hs) rfl hf
theorem BD.or {r r':R2}{f f':R->R->M R}(p:R->R->Bool) (h:BD c r f) (h':BD c r' f'):BD c (λx y H Q=>r x y H Q\/r' x y H Q) (λx y=>if p x y then f x y else f' x y):=by
 intro He He' J H x y u v Q hp rx ry w
 simp only at w
 cases q:p x y with
 | true=>rw [q] at w;exact .inl (h He He' J H x y u v Q hp rx ry w)
 | false=>rw [q] at w;exact .inr (h' He He' J H x y u v Q hp rx ry w)
def fI (C:Int->Int->Bool) (f:Int->Int->D):R->R->M R
 | .d (.int i),.d (.int j)=>if C i j then .ok (.d (f i j)) else .bad
 | _,_=>.bad
def jO (f:Int->Int->D):R->R->M R
 | .d (.int i),.d (.int j)=>.ok (.d (f i j))
 | _,_=>.bad
theorem Bx {P:Int->Int->Prop}{Cb:Int->Int->Bool}{g:Int->Int->V}{f:Int->Int->D}(hC:∀i j,Cb i j=true->P i j) (hr:∀i j J,Rep c.K J (f i j) (g i j)):BD c (rI P g) (fI Cb f):=by
 intro He He' J H x y u v Q hp rx ry w
 unfold fI at w
 split at w
 ·cases rx;cases ry
  rename_i i j
  cases q:Cb i j with
  | true=>rw [q] at w;exact ⟨i,j,rfl,rfl,hC i j q,w _ J H (Ext.refl hp.sub) (hr i j J)⟩
  | false=>rw [q] at w;exact w.elim
 ·exact w.elim
theorem gW {g:Int->Int->V}{f:Int->Int->D}(hr:∀i j J,Rep c.K J (f i j) (g i j)):BD c (mq g) (jO f):=by
 intro He He' J H x y u v Q hp rx ry w
 unfold jO at w
 split at w
 ·cases rx;cases ry
  rename_i i j
  exact ⟨i,j,rfl,rfl,w _ J H (Ext.refl hp.sub) (hr i j J)⟩
 ·exact w.elim
def below (n:Nat) (j:Int):Bool:=Nat.blt j.natAbs n
theorem eF {n:Nat}{j:Int}:below n j=true↔-(n:Int) < j/\j < n:=by
 unfold below
 rw [Nat.blt_eq]
 omega
def BV (_ j:Int):Bool:=decide (0 < j) && below 1073741824 j
def KJ (_ j:Int):Bool:=decide (0 < j)
def yy (i j:Int):Bool:=below 18446744073709551616 i || below 18446744073709551616 j
theorem Io {i j:Int}(h:yy i j=true):(-(2 ^ 64) < i/\i < 2 ^ 64)\/(-(2 ^ 64) < j/\j < 2 ^ 64):=by
 unfold yy at h
 rw [TN] at h
 exact h.imp eF.mp eF.mp
theorem Im {i j:Int}(h:BV i j=true):0 < j/\j < 1073741824:=by
 unfold BV at h
 rw [QK] at h
 exact ⟨of_decide_eq_true h.1,(eF.mp h.2).2⟩
def Fp (i j:Int):Bool:=decide (0<=j) && below 1000001 j && below 18446744073709551616 i
theorem Ip {i j:Int}(h:Fp i j=true):0<=j/\j<=1000000/\i.natAbs < 2 ^ 64:=by
 unfold Fp at h
 rw [QK,QK] at h
 have h2:=eF.mp h.1.2
 have h3:=eF.mp h.2
 exact ⟨of_decide_eq_true h.1.1,by omega,by omega⟩
abbrev yk:R->R->M R:=jO λi j=>.int (i + j)
abbrev Fb:R->R->M R:=jO λi j=>.int (i - j)
abbrev Kh:R->R->M R:=fI yy λi j=>.int (i * j)
abbrev ig:R->R->M R:=fI BV λi j=>.int (i / j)
abbrev dH:R->R->M R:=fI KJ λi j=>.int (i % j)
abbrev Kl:R->R->M R:=fI Fp λi j=>.int (i ^ j.toNat)
def sJ:R->R->M R
 | .d (.str i),.d (.str j)=>if i.length + j.length<=sizeLine then .ok (.d (.str (i++j))) else .bad
 | _,_=>.bad
theorem Jo {K:Qx}{J:Hp}{ds:List D}{vs:List V}{i:Int}{d:D}(h:aI K J ds vs) (e:lS ds i=some d):∃v,lS vs i=some v/\Rep K J d v:=by
 unfold lS at e ⊢
 rw [h.length] at e
 cases q:yx vs.length i with
 | none=>rw [q] at e;cases e
 | some j=>rw [q] at e;exact h.get e
theorem nI {x:R}{f:List D->M R}{Q:R->Prop}{T:Exc->Prop}(w:cJ (j_ x >>= f) Q T):∃xs,j_ x=.ok xs/\cJ (f xs) Q T:=by
 cases q:j_ x with
 | bad=>rw [q] at w;exact w.elim
 | ok xs=>rw [q] at w;exact ⟨xs,rfl,w⟩
 | exc z=>unfold j_ at q;split at q <;> cases q
def yw:R->Bool
 | .l .fresh _=>true
 | .l .own _=>true
 | _=>false
def sL (x y:R):M R:=if yw x && yw y then j_ x >>= λxs=>j_ y >>= λys=>if xs.length + ys.length<=sizeLine then .ok (.l .fresh (xs++ys)) else .bad else .bad
theorem RR.made {He J H:Hp}:∀{r:R}{v:V},yw r=true->RR c He J H r v->∃a vs xs,j_ r=.ok xs/\v=.ref a/\H a=some (.lst vs)/\aI c.K J xs vs
 | .l .fresh xs,v,_,⟨a,vs,h1,h2,h3,h4,h5⟩=>⟨a,vs,xs,rfl,h1,h2,h5⟩
 | .l .own xs,v,_,⟨a,vs,h1,h2,h3,h4,h5⟩=>⟨a,vs,xs,rfl,h1,h2,h5⟩
 | .l .bor _,_,e,_=>nomatch e
 | .mo _ _,_,e,_=>nomatch e
 | .mb _ _,_,e,_=>nomatch e
 | .mf _ _,_,e,_=>nomatch e
 | .d _,_,e,_=>nomatch e
theorem jn {J H:Hp}{xs:List D}{vs:List V}{p:QW}(hp:HI c J H) (e:H p=none) (h:aI c.K J xs vs):RR c H J (upd H p (.lst vs)) (.l .fresh xs) (.ref p):=
 ⟨p,vs,rfl,bX,hp.sub.free e,e,h⟩
def CD (c:C) (r:List V->Hp->VK->Prop) (f:List R->M R):Prop:=∀(He J H:Hp) (xs:List R) (vs:List V) (Q:VK),HI c J H->j6 c He J H xs vs->
 cJ (f xs) (λz=>∀w J' H',Ext J H J' H'->RR c H J' H' z w->Q w H') c.T->r vs H Q
def gN (f:List R->M R) (gs:G (List R)):G R:=λenv=>gs env >>= f
theorem FZ {t:TE}{ta:TA}{r:List V->Hp->VK->Prop}{f:List R->M R}{gs:G (List R)}(ht:PE X e t) (heq:t=λσ H Q=>tA c gs σ H λvs H1=>r vs H1 Q) (hf:CD c r f):PD X c e (gN f gs):=by
 subst heq
 refine fG ht λσ H Q ⟨J,env,sr,w⟩=>⟨J,env,sr,aB (aK w) λrs w vs J1 H1 e1 r1=>?_⟩
 exact hf H J1 H1 rs vs Q (sr.hp.ext e1) r1 (aB w λz q v J' H' e2 r2=>q v J' H' (e1.trans e2) (RR.from e1.h r2))
def aC:G (List R):=λ_=>.ok []
def ao (g:G R) (gs:G (List R)):G (List R):=λenv=>g env >>= λx=>gs env >>= λxs=>.ok (x::xs)
theorem j6.from {He He' J H:Hp}(e:aU He He'):∀{xs:List R}{vs:List V},j6 c He' J H xs vs->j6 c He J H xs vs
 | [],_,h=>h
 | _::_,_,⟨v,us,h1,h2,h3⟩=>⟨v,us,h1,RR.from e h2,j6.from e h3⟩
theorem jE {id:String}{x:Str}{p:Pos}{es:List Rp}{r:List V->Hp->VK->Prop}{f:List R->M R}{gs:G (List R)}(hc:bU X (.builtin id) r) (hf:CD c r f) (hv:RL x=some (.builtin id)) (hm:X.mg x=none) (ha:GY X c (e::es) gs)
  (hg:Gl X x:=by rfl) (hn:x≠"__name__":=by decide) (hdb:(x == ("__debug__":Str))=false:=by decide)
  (he:QU (e::es) X.env=(false,eval e X.env)::QU es X.env:=by rfl) (hpl:(SY pos (QU es X.env)).any (·.1)=false:=by rfl):PD X c (.Call (.Name x p) (e::es) [] pos) (gN f gs):=
 FZ (ta:=Cy) (rL hc hg hm hv ha hn hdb he hpl) rfl hf
theorem D9 {T:String}{x:Str}{p:Pos}{es:List Rp}{r:List V->Hp->VK->Prop}{f:List R->M R}{gs:G (List R)}(hc:bU X (.type T) r) (hf:CD c r f) (hv:RL x=some (.type T)) (hm:X.mg x=none) (ha:GY X c (e::es) gs)
  (hg:Gl X x:=by rfl) (hn:x≠"__name__":=by decide) (hdb:(x == ("__debug__":Str))=false:=by decide)
  (he:QU (e::es) X.env=(false,eval e X.env)::QU es X.env:=by rfl) (hpl:(SY pos (QU es X.env)).any (·.1)=false:=by rfl):PD X c (.Call (.Name x p) (e::es) [] pos) (gN f gs):=
 FZ (ta:=Cy) (l_ hc hg hm hv ha hn hdb he hpl) rfl hf
end
section
variable {X:Cx}{c:C}{e a b:Rp}{es:List Rp}{ga gb g:G R}{pos:Pos}
def aT:G (List D):=λ_=>.ok []
def aA (g:G R) (gs:G (List D)):G (List D):=λenv=>g env >>= λx=>toD x >>= λd=>gs env >>= λds=>.ok (d::ds)
theorem i8 {α:Type}{x:R}{f:D->M α}{Q:α->Prop}{T:Exc->Prop}(w:cJ (toD x >>= f) Q T):∃d,toD x=.ok d/\cJ (f d) Q T:=by
 cases q:toD x with
 | bad=>rw [q] at w;exact w.elim
 | ok xs=>rw [q] at w;exact ⟨xs,rfl,w⟩
 | exc z=>unfold toD at q;split at q <;> cases q
def bz (gs:G (List D)):G R:=λenv=>gs env >>= λds=>if ds.length<=sizeLine then .ok (.d (.tup ds)) else .bad
def gK (gs:G (List D)):G R:=λenv=>gs env >>= λds=>if ds.length<=sizeLine then .ok (.l .fresh ds) else .bad
theorem pU {J H:Hp}{xs:List D}{vs:List V}{p:QW}(hp:HI c J H) (e:H p=none) (h:aI c.K J xs vs):Rep c.K (upd J p (.tup vs)) (.tup xs) (.ref p):=
 .tup (.inl (.inl bX)) (h.mono (cL (hp.sub.free e) _))
def iB:R->M (List D)
 | .d (.tup xs)=>.ok xs
 | .d (.lst xs)=>.ok xs
 | .l _ xs=>.ok xs
 | _=>.bad
theorem qe {He J H:Hp}(hp:HI c J H):∀{r:R}{v:V}{xs:List D},RR c He J H r v->iB r=.ok xs->∃a vs,v=.ref a/\(cC c.K H a vs\/cY c.K H a vs)/\aI c.K J xs vs
 | .d (.tup ys),v,xs,h,e=>by
  cases e
  cases h with
  | tup h hs=>exact ⟨_,_,rfl,.inr (fP hp.sub h),hs⟩
 | .d (.lst ys),v,xs,h,e=>let ⟨a,vs,h1,h2,h3⟩:=RR.list hp h e;⟨a,vs,h1,.inl h2,h3⟩
 | .l m ys,v,xs,h,e=>let ⟨a,vs,h1,h2,h3⟩:=RR.list hp h e;⟨a,vs,h1,.inl h2,h3⟩
 | .d .non,_,_,_,e=>nomatch e
 | .d (.bl _),_,_,_,e=>nomatch e
 | .d (.int _),_,_,_,e=>nomatch e
 | .d (.str _),_,_,_,e=>nomatch e
 | .d .emp,_,_,_,e=>nomatch e
 | .d (.dct _ _),_,_,_,e=>nomatch e
theorem nJ {α:Type}{x:R}{f:List D->M α}{Q:α->Prop}{T:Exc->Prop}(w:cJ (iB x >>= f) Q T):∃xs,iB x=.ok xs/\cJ (f xs) Q T:=by
 cases q:iB x with
 | bad=>rw [q] at w;exact w.elim
 | ok xs=>rw [q] at w;exact ⟨xs,rfl,w⟩
 | exc z=>unfold iB at q;split at q <;> cases q
def gQ:List R->M R
 | [.d (.str z)]=>if z.length<=sizeLine then .ok (.d (.int z.length)) else .bad
 | [r]=>iB r >>= λxs=>.ok (.d (.int xs.length))
 | _=>.bad
theorem j6.one {He J H:Hp}{r:R}{vs:List V}(h:j6 c He J H [r] vs):∃v,vs=[v]/\RR c He J H r v:=by
 obtain ⟨v,us,rfl,h1,h2⟩:=h
 cases h2
 exact ⟨v,rfl,h1⟩
theorem j6.two {He J H:Hp}{r r':R}{vs:List V}(h:j6 c He J H [r,r'] vs):∃v v',vs=[v,v']/\RR c He J H r v/\RR c He J H r' v':=by
 obtain ⟨v,us,rfl,h1,v2,us2,rfl,h2,h3⟩:=h
 cases h3
 exact ⟨v,v2,rfl,h1,h2⟩
def cI:List R->M R
 | [r]=>iB r >>= λxs=>.ok (.d (.tup xs))
 | _=>.bad
theorem zI:RL "tuple"=some (.type "tuple"):=by decide +kernel
theorem BC:RL "list"=some (.type "list"):=by decide +kernel
def bN (g:G R):G Bool:=λenv=>g env >>= λr=>match r with
 | .d (.bl k)=>.ok k
 | _=>.bad
theorem k_ {op:ZN}{r:R2}{f:R->R->M R}(ho:cT X (R0 op) r) (hf:BD c r f) (ha:PD X c a ga) (hb:PD X c b gb) (hm:R6 op b=false:=by first | exact yK _ | rfl):PB X c (.Compare a [op] [b] pos) (bN (g2 f ga gb)):=
 xr (I0 ho ha hb hm) λσ H Q ⟨J,env,sr,w⟩=>by
  have w2:=aK w
  refine two (k:=λu v H2=>r u v H2 λz H3=>∃k,z=.bl k/\Q k H3) (Q:=λz H3=>∃k,z=.bl k/\Q k H3) sr (aB w2 λr0 wr v J1 H1 e1 r1=>?_)
   λx y u v J2 H2 sr2 e2 r1 r2 q=>hf H H J2 H2 x y u v _ sr2.hp r1 r2 q
  split at wr
  ·cases r1;exact ⟨_,rfl,wr J1 H1 e1⟩
  ·exact wr.elim
def mJ (g h:G Bool):G Bool:=λenv=>g env >>= λk=>if k=true then h env else .ok false
def m_ (g h:G Bool):G Bool:=λenv=>g env >>= λk=>if k=true then .ok true else h env
def iI (g:G Bool):G Bool:=λenv=>g env >>= λk=>.ok (!k)
def N8 (X:Cx) (c:C) (e:Rp) (g:G Bool):Prop:=PW X e (tB c g)
variable {t u:G Bool}{rest:List Rp}
theorem Hl {X:Cx}{e:Rp}{t t':TT}(h:PW X e t) (k:∀σ H Q,t' σ H Q->t σ H Q):PW X e t':=λwh pins s σ H Q I q=>h wh pins s σ H Q I (k σ H Q q)
def qi (g h:G R):G R:=λenv=>g env >>= λr=>match r with
 | .d (.bl true)=>h env
 | .d (.bl false)=>.ok (.d (.bl false))
 | _=>.bad
def pg (g h:G R):G R:=λenv=>g env >>= λr=>match r with
 | .d (.bl false)=>h env
 | .d (.bl true)=>.ok (.d (.bl true))
 | _=>.bad
def G7 (g:G R):G R:=λenv=>g env >>= λr=>match r with
 | .d (.bl k)=>.ok (.d (.bl (!k)))
 | _=>.bad
def DC (t:G Bool) (g h:G R):G R:=λenv=>t env >>= λk=>if k=true then g env else h env
end
section
variable {X:Cx}{c:C}{e a b tg:Rp}{es:List Rp}{ga gb g:G R}{pos:Pos}{st:T7}{rest:List T7}{t u:G O}{tb:G Bool}
def eU:G O:=λenv=>.ok (.nx env)
def aM (t u:G O):G O:=λenv=>t env >>= λo=>match o with
 | .nx e=>u e
 | o=>.ok o
def gZ (g:G R):G O:=λenv=>g env >>= λ_=>.ok (.nx env)
def rF:R->M R
 | .d x=>.ok (.d x)
 | .l .fresh xs=>.ok (.l .fresh xs)
 | .l .own xs=>.ok (.l .fresh xs)
 | .l .bor _=>.bad
 | .mo ks vs=>.ok (.mf ks vs)
 | .mf ks vs=>.ok (.mf ks vs)
 | .mb _ _=>.bad
def bO (g:G R):G O:=λenv=>g env >>= λr=>rF r >>= λr=>.ok (.rt r)
theorem RR.rf {J H J1 H1:Hp}(hp:HI c J H):∀{r r':R}{v:V},RR c H J1 H1 r v->rF r=.ok r'->RF c J1 H1 r' v
 | .d x,r',v,h,e=>by cases e;exact h
 | .l .fresh xs,r',v,⟨a,vs,h1,h2,h3,h4,h5⟩,e=>by cases e;exact ⟨a,vs,h1,h2,h3,hp.ent.free h4,h5⟩
 | .l .own xs,r',v,⟨a,vs,h1,h2,h3,h4,h5⟩,e=>by cases e;exact ⟨a,vs,h1,h2,h3,h4,h5⟩
 | .l .bor _,_,_,_,e=>nomatch e
 | .mo _ _,_,v,⟨a,h1,h2,h3,h4⟩,e=>by cases e;exact ⟨a,h1,h2,h3,h4⟩
 | .mb _ _,_,_,_,e=>nomatch e
 | .mf _ _,_,v,⟨a,h1,h2,h3,h4⟩,e=>by cases e;exact ⟨a,h1,h2,h3,hp.ent.free h4⟩
def b9 (b:G Bool) (t u:G O):G O:=λenv=>b env >>= λk=>if k=true then t env else u env
def toS:R->M S
 | .d x=>.ok (.d x)
 | .l .fresh xs=>.ok (.own xs)
 | .l .bor xs=>.ok (.bor xs)
 | .l .own _=>.bad
 | .mb ks vs=>.ok (.db ks vs)
 | .mf ks vs=>.ok (.dk ks vs)
 | .mo _ _=>.bad
theorem gr {α:Type}{l:List (Option α)}{i j:Nat}{x y:α}(h:(l.set i (some x))[j]?=some (some y)):(j=i/\i < l.length/\y=x)\/(j≠i/\l[j]?=some (some y)):=by
 by_cases e:j=i
 ·subst e
  have hj:j < l.length:=by
   have:=(Rj.mp h).1
   simpa using this
  rw [R_ hj] at h
  cases h
  exact .inl ⟨rfl,hj,rfl⟩
 ·rw [RA (S8 e)] at h
  exact .inr ⟨e,h⟩
theorem SR.setD {J H:Hp}{σ:L2.St}{env:Ev}(sr:SR c J H σ env){i:Nat}{x:S}{v:V}(h:q_ c J H x v) (hx:∀xs,x≠mS xs):SR c J H (σ.set i (some v)) (env.set i (some x)):=by
 refine ⟨sr.hp,by simpa using sr.len,λj y q=>?_,λj k xs ys w hjk q1 q2 q3 q4=>?_⟩
 ·rcases gr q with ⟨rfl,hl,rfl⟩ | ⟨hj,q⟩
  ·exact ⟨v,by rw [R_ (by rw [<-sr.len];exact hl)],h⟩
  ·obtain ⟨w,h1,h2⟩:=sr.at_ j y q
   exact ⟨w,by rw [RA (S8 hj)];exact h1,h2⟩
 ·rcases gr q1 with ⟨rfl,hl,e⟩ | ⟨hj,q1⟩
  ·exact hx xs e.symm
  ·rcases gr q2 with ⟨rfl,hl,e⟩ | ⟨hk,q2⟩
   ·exact hx ys e.symm
   ·rw [RA (S8 hj)] at q3
    rw [RA (S8 hk)] at q4
    exact sr.sep j k xs ys w hjk q1 q2 q3 q4
theorem SR.setM {J He:Hp}{σ:L2.St}{env:Ev}(sr:SR c J He σ env){J1 H1:Hp}(e1:Ext J He J1 H1){i:Nat}{y:Mn}{p:QW}(h3:He p=none) (h:q_ c J1 H1 (mS y) (.ref p)):SR c J1 H1 (σ.set i (some (.ref p))) (env.set i (some (mS y))):=by
 have sr1:=sr.ext e1
 have old:∀(j:Nat) (ys:Mn),env[j]?=some (some (mS ys))->σ[j]?≠some (some (.ref p)):=λj ys qj z=>by
  obtain ⟨a,k1,k2,_⟩:=sr.mine qj
  rw [z] at k1
  cases k1
  exact k2 h3
 refine ⟨sr1.hp,by simpa using sr.len,λj y q=>?_,λj k ys zs w hjk q1 q2 q3 q4=>?_⟩
 ·rcases gr q with ⟨rfl,hl,rfl⟩ | ⟨hj,q⟩
  ·exact ⟨.ref p,by rw [R_ (by rw [<-sr.len];exact hl)],h⟩
  ·obtain ⟨w,k1,k2⟩:=sr1.at_ j y q
   exact ⟨w,by rw [RA (S8 hj)];exact k1,k2⟩
 ·rcases gr q1 with ⟨rfl,hl,e⟩ | ⟨hj,q1'⟩
  ·rcases gr q2 with ⟨rfl,_,_⟩ | ⟨hk,q2⟩
   ·exact hjk rfl
   ·rw [R_ (by rw [<-sr.len];exact hl)] at q3
    cases q3
    rw [RA (S8 hk)] at q4
    exact old k zs q2 q4
  ·rw [RA (S8 hj)] at q3
   rcases gr q2 with ⟨rfl,hl,e⟩ | ⟨hk,q2⟩
   ·rw [R_ (by rw [<-sr.len];exact hl)] at q4
    cases q4
    exact old j ys q1' q3
   ·rw [RA (S8 hk)] at q4
    exact sr.sep j k ys zs w hjk q1' q2 q3 q4
theorem SR.set {J He:Hp}{σ:L2.St}{env:Ev}(sr:SR c J He σ env){J1 H1:Hp}(e1:Ext J He J1 H1){i:Nat}{r:R}{x:S}{v:V}(h:RR c He J1 H1 r v) (q:toS r=.ok x):SR c J1 H1 (σ.set i (some v)) (env.set i (some x)):=by
 have sr1:=sr.ext e1
 cases r with
 | d y=>cases q;exact sr1.setD h (λx z=>by cases x <;> cases z)
 | mb _ _=>cases q;exact sr1.setD h (λx z=>by cases x <;> cases z)
 | mf ks vs=>cases q;obtain ⟨p,rfl,h1,h2,h3⟩:=h;exact sr.setM (y:=.inr (ks,vs)) e1 h3 ⟨p,rfl,h1,h2,sr.hp.ent.free h3⟩
 | mo _ _=>cases q
 | l m xs=>
  cases m with
  | own=>cases q
  | bor=>cases q;exact sr1.setD h (λx z=>by cases x <;> cases z)
  | fresh=>
   cases q
   obtain ⟨p,vs,rfl,h1,h2,h3,h4⟩:=h
   exact sr.setM (y:=.inl xs) e1 h3 ⟨p,vs,rfl,h1,h2,sr.hp.ent.free h3,h4⟩
theorem nK {α:Type}{x:R}{f:S->M α}{Q:α->Prop}{T:Exc->Prop}(w:cJ (toS x >>= f) Q T):∃d,toS x=.ok d/\cJ (f d) Q T:=by
 cases q:toS x with
 | bad=>rw [q] at w;exact w.elim
 | ok xs=>rw [q] at w;exact ⟨xs,rfl,w⟩
 | exc z=>unfold toS at q;split at q <;> cases q
def bg (i:Nat) (g:G R):G O:=λenv=>g env >>= λr=>toS r >>= λx=>.ok (.nx (env.set i (some x)))
abbrev GT:=D->Ev->M Ev
def KO (env:Ev) (σ:L2.St) (e:Ev) (σ':L2.St):Prop:=∀(j:Nat) (xs:Mn),e[j]?=some (some (mS xs))->env[j]?=some (some (mS xs))/\σ'[j]?=σ[j]?
theorem KO.refl {env:Ev}{σ:L2.St}:KO env σ env σ:=λ_ _ h=>⟨h,rfl⟩
theorem KO.trans {env e1 e2:Ev}{σ s1 s2:L2.St}(a:KO env σ e1 s1) (b:KO e1 s1 e2 s2):KO env σ e2 s2:=λj xs h=>by
 obtain ⟨h1,h2⟩:=b j xs h
 obtain ⟨h3,h4⟩:=a j xs h1
 exact ⟨h3,h2.trans h4⟩
def tT (c:C) (g:GT):TG:=λv σ H Q=>∃J env d,SR c J H σ env/\Rep c.K J d v/\cJ (g d env) (λe=>∀σ',SR c J H σ' e->KO env σ e σ'->Q σ' H) c.T
def jd (X:Cx) (c:C) (tg:Rp) (g:GT):Prop:=PG X tg (tT c g)
abbrev rW:=List D->Ev->M Ev
def Ol (c:C) (g:rW):sA:=λvs σ H Q=>∃J env ds,SR c J H σ env/\aI c.K J ds vs/\cJ (g ds env) (λe=>∀σ',SR c J H σ' e->KO env σ e σ'->Q σ' H) c.T
def Nm (X:Cx) (c:C) (tgs:List Rp) (g:rW):Prop:=xH X tgs (Ol c g)
theorem Hi {X:Cx}{e:Rp}{t t':TG}(h:PG X e t) (k:∀v σ H Q,t' v σ H Q->t v σ H Q):PG X e t':=λpins s σ H v u Q I r q=>h pins s σ H v u Q I r (k v σ H Q q)
theorem Eb {X:Cx}{e:List Rp}{t t':sA}(h:xH X e t) (k:∀v σ H Q,t' v σ H Q->t v σ H Q):xH X e t':=λpins s σ H vs us Q I r q=>h pins s σ H vs us Q I r (k vs σ H Q q)
def aD (i:Nat):GT:=λd env=>.ok (env.set i (some (.d d)))
def fK:rW:=λds env=>match ds with
 | []=>.ok env
 | _=>.bad
def bL (t:GT) (u:rW):rW:=λds env=>match ds with
 | d::r=>t d env >>= λe=>u r e
 | []=>.bad
def eZ (n:Nat) (u:rW):GT:=λd env=>match d with
 | .tup ds=>if ds.length=n then u ds env else .bad
 | _=>.bad
def mK (t:GT) (g:G R):G O:=λenv=>g env >>= λr=>toD r >>= λd=>t d env >>= λe=>.ok (.nx e)
theorem IK {t:GT}(h:PD X c e g) (ht:jd X c tg t)
  (hq:PS X (.Assign [tg] e pos) (GH (tD c g) (tT c t))):Ak X c (.Assign [tg] e pos) (mK t g):=iF hq λE σ H ⟨J,env,sr,w⟩=>by
 refine ⟨J,env,sr,aB (aK w) λr wr v J1 H1 e1 r1=>?_⟩
 obtain ⟨d,q,wr⟩:=i8 wr
 obtain ⟨J1',e1',s1,rd⟩:=freeze e1 r1 q
 refine ⟨J1',env,d,sr.ext e1',rd,aB (aK wr) λe2 w2 σ' sr' _=>?_⟩
 exact w2 σ' J1' H1 e1'.j sr'
def Walk (c:C) (It:It) (ds:List D) (J1:Hp) (U:Hp->Hp->Prop):Prop:=∀(i:Nat) (J H:Hp),HI c J H->U J H->
 (ds.length<=i->It.stop i H)/\∀d,ds[i]?=some d->It.go i H/\∀x H2,It.yld i H x H2->∃J2,Ext J H J2 H2/\Rep c.K J2 d x
def tI (c:C) (g:G (List D)):TI:=λσ H Q=>∃J env,SR c J H σ env/\cJ (g env) (λds=>∀It J1 H1,Ext J H J1 H1->Walk c It ds J1 (λJ' _=>aU J1 J')->Q It H1) c.T
def xJ (X:Cx) (c:C) (tg iter:Rp) (g:G (List D)):Prop:=PI X tg iter (tI c g)
theorem tP {X:Cx}{tg it:Rp}{t t':TI}(h:PI X tg it t) (k:∀σ H Q,t' σ H Q->t σ H Q):PI X tg it t':=λpins s σ H Q I q=>h pins s σ H Q I (k σ H Q q)
def gM (t:GT) (u:G O):List D->Ev->M O
 | [],env=>.ok (.nx env)
 | d::ds,env=>t d env >>= λe=>u e >>= λo=>match o with
  | .nx e=>gM t u ds e
  | .ct e=>gM t u ds e
  | .bk e=>.ok (.nx e)
  | .rt r=>.ok (.rt r)
def iu (g:G (List D)) (t:GT) (u:G O):G O:=λenv=>g env >>= λds=>gM t u ds env
def Ov (g:G R):G (List D):=λenv=>g env >>= λr=>match r with
 | .d (.tup xs)=>.ok xs
 | _=>.bad
theorem qa {J1:Hp}{a:QW}{vs:List V}{ds:List D}(h:cC c.K J1 a vs\/cC c.K c.H0 a vs) (hs:aI c.K J1 ds vs):Walk c (GP c.K a) ds J1 (λJ' _=>aU J1 J'):=by
 intro i J H hp u
 have h':cC c.K H a vs:=h.elim (λh=>hp.sub.seq (u.seq h)) λh=>hp.ent.seq h
 refine ⟨λhl=>⟨vs,h',by rw [<-hs.length];exact hl⟩,λd hd=>?_⟩
 obtain ⟨v,h1,h2⟩:=hs.get hd
 refine ⟨⟨vs,v,h',h1⟩,λx H2 ⟨e,hy⟩=>?_⟩
 subst e
 have:=hy vs h'
 rw [h1] at this
 cases this
 exact ⟨J,Ext.refl hp.sub,h2.mono u⟩
def fO (lo:Int) (n:Nat):List D:=(QG n).map λ(k:Nat)=>.int (lo + (k:Int))
theorem CF {J1:Hp}{lo:Int}{n:Nat}{Ut:Hp->Hp->Prop}:Walk c (GQ lo n) (fO lo n) J1 Ut:=by
 intro i J H hp u
 refine ⟨λhl=>(show n<=i by simpa [fO] using hl),λd hd=>?_⟩
 have hi:i < n:=by
  have:=(Rj.mp hd).1
  simpa [fO] using this
 have hd':d=.int (lo + i):=by
  unfold fO at hd
  rw [Q_,UO hi] at hd
  exact (RS hd).symm
 subst hd'
 exact ⟨hi,λx H2 ⟨e,hx⟩=>by subst e hx;exact ⟨J,Ext.refl hp.sub,.int _⟩⟩
def cu (gs:G (List R)):G (List D):=λenv=>gs env >>= λrs=>match rs with
 | [.d (.int j)]=>if below 4611686018427387904 j then .ok (fO 0 j.toNat) else .bad
 | _=>.bad
def Og (c:C) (g:G (List D)):TI:=λσ H Q=>∃J env,SR c J H σ env/\cJ (g env) (λds=>∀It J1 H1,Ext J H J1 H1->Walk c It ds J1 (λJ' H'=>aU J1 J'/\aU H1 H')->Q It H1) c.T
def oW (X:Cx) (c:C) (tg iter:Rp) (g:G (List D)):Prop:=PI X tg iter (Og c g)
end
section
variable {X:Cx}{c:C}{e a b tg:Rp}{es:List Rp}{ga gb g:G R}{pos:Pos}
theorem SR.updM {J H:Hp}{σ:L2.St}{env:Ev}(sr:SR c J H σ env){i:Nat}{x y:Mn}{p:QW}{o:HO}(hi:env[i]?=some (some (mS x))) (hs:σ[i]?=some (some (.ref p))) (hJ:J p=none) (h0:c.H0 p=none)
  (h:q_ c J (L2.upd H p o) (mS y) (.ref p)):SR c J (L2.upd H p o) σ (env.set i (some (mS y))):=by
 refine ⟨⟨λb o q=>?_,λb o q=>?_,sr.hp.entJ,sr.hp.frz⟩,by simpa using sr.len,λj y q=>?_,λj k ys zs w hjk q1 q2 q3 q4=>?_⟩
 ·have:b≠p:=λz=>by rw [z,hJ] at q;cases q
  rw [bD this];exact sr.hp.sub b o q
 ·have:b≠p:=λz=>by rw [z,h0] at q;cases q
  rw [bD this];exact sr.hp.ent b o q
 ·rcases gr q with ⟨rfl,hl,rfl⟩ | ⟨hj,q⟩
  ·exact ⟨.ref p,hs,h⟩
  ·obtain ⟨w,k1,k2⟩:=sr.at_ j y q
   refine ⟨w,k1,?_⟩
   have hne:∀(z:Mn) p',y=mS z->w=.ref p'->p'≠p:=λz p' e ew ep=>sr.sep i j x z (.ref p) (S8 hj) hi (e▸q) hs (ep▸ew▸k1)
   cases y with
   | d x=>exact k2
   | bor zs=>exact k2
   | db _ _=>exact k2
   | fn _=>exact k2
   | dk ks zs=>
    obtain ⟨p',rfl,⟨us,ws,ep,m1,mr⟩,m2⟩:=k2
    exact ⟨p',rfl,⟨us,ws,ep,by rw [bD (hne (.inr (ks,zs)) p' rfl rfl)];exact m1,mr⟩,m2⟩
   | own zs=>
    obtain ⟨p',us,rfl,m1,m2,m3,m4⟩:=k2
    exact ⟨p',us,rfl,by rw [bD (hne (.inl zs) p' rfl rfl)];exact m1,m2,m3,m4⟩
 ·have f:∀(k:Nat) (ys:Mn),(env.set i (some (mS y)))[k]?=some (some (mS ys))->∃ys',env[k]?=some (some (mS ys')):=λk ys q=>by
   rcases gr q with ⟨rfl,_,_⟩ | ⟨_,q⟩
   ·exact ⟨x,hi⟩
   ·exact ⟨ys,q⟩
  obtain ⟨ys',r1⟩:=f j ys q1
  obtain ⟨zs',r2⟩:=f k zs q2
  exact sr.sep j k ys' zs' w hjk r1 r2 q3 q4
theorem SR.upd {J H:Hp}{σ:L2.St}{env:Ev}(sr:SR c J H σ env){i:Nat}{xs xs':List D}{p:QW}{vs vs':List V}(hi:env[i]?=some (some (.own xs))) (hs:σ[i]?=some (some (.ref p))) (hH:H p=some (.lst vs)) (hJ:J p=none) (h0:c.H0 p=none)
  (h:aI c.K J xs' vs'):SR c J (L2.upd H p (.lst vs')) σ (env.set i (some (.own xs'))):=sr.updM (x:=.inl xs) (y:=.inl xs') hi hs hJ h0 ⟨p,vs',rfl,bX,hJ,h0,h⟩
def kX (i:Nat) (g:G R):G O:=λenv=>match env[i]? with
 | some (some (.own xs))=>g env >>= λr=>toD r >>= λd=>if xs.length < sizeLine then .ok (.nx (env.set i (some (.own (xs++[d]))))) else .bad
 | _=>.bad
def cQ:R->S
 | .d x=>.d x
 | .l _ xs=>.bor xs
 | .mo ks vs=>.db ks vs
 | .mb ks vs=>.db ks vs
 | .mf ks vs=>.db ks vs
def mF (K:Qx) (J H:Hp):List S->List V->Prop
 | [],vs=>vs=[]
 | s::ss,vs=>∃v us,vs=v::us/\(match s with
  | .d x=>Rep K J x v
  | .bor xs=>∃a ws,v=.ref a/\cC K H a ws/\aI K J xs ws
  | .db ks ws=>∃a,v=.ref a/\dX K J H a ks ws
  | .fn x=>∃f,v=.ref f/\QT K QM x=some (some (.ref f))
  | _=>False)/\mF K J H ss us
theorem mF.length {K:Qx}{J H:Hp}:∀{ss:List S}{vs:List V},mF K J H ss vs->vs.length=ss.length
 | [],_,h=>by cases h;rfl
 | _::_,_,⟨_,_,h,_,h2⟩=>by subst h;exact congrArg (· + 1) h2.length
theorem mF.get {K:Qx}{J H:Hp}:∀{ss:List S}{vs:List V}{i:Nat}{s:S},mF K J H ss vs->ss[i]?=some s->∃v,vs[i]?=some v/\(match s with
  | .d x=>Rep K J x v
  | .bor xs=>∃a ws,v=.ref a/\cC K H a ws/\aI K J xs ws
  | .db ks ws=>∃a,v=.ref a/\dX K J H a ks ws
  | .fn x=>∃f,v=.ref f/\QT K QM x=some (some (.ref f))
  | _=>False)
 | [],_,_,_,_,e=>by simp at e
 | _::_,_,0,_,⟨v,us,h,h1,h2⟩,e=>by simp at e;subst e;subst h;exact ⟨v,rfl,h1⟩
 | _::_,_,i + 1,s,⟨v,us,h,h1,h2⟩,e=>by
  subst h
  obtain ⟨v,k1,k2⟩:=mF.get (i:=i) (s:=s) h2 (by simpa using e)
  exact ⟨v,by simpa using k1,k2⟩
def FR (K:Qx) (H J' H':Hp):R->V->Prop
 | .d x,v=>Rep K J' x v
 | .l _ xs,v=>∃a vs,v=.ref a/\H' a=some (.lst vs)/\J' a=none/\H a=none/\aI K J' xs vs
 | .mf ks vs,v=>∃a,v=.ref a/\dX K J' H' a ks vs/\J' a=none/\H a=none
 | _,_=>False
def pZ (K:Qx) (n:Nat) (F:List S->M R):Sp:=λvs H Q _=>∃J as,aU J H/\as.length=n/\mF K J H as vs/\cJ (F as) (λr=>∀v J' H',Ext J H J' H'->FR K H J' H' r v->Q v H') (λ_=>False)
def fin:M O->M R
 | .ok (.rt r)=>.ok r
 | .ok (.nx _)=>.ok (.d .non)
 | .exc x=>.exc x
 | _=>.bad
def bq (N:List Str) (as:List S):Ev:=as.map some++RX (N.length - as.length) none
theorem vV {N:List Str}{as:List S}{i:Nat}{x:S}(h:(bq N as)[i]?=some (some x)):as[i]?=some x:=by
 unfold bq at h
 by_cases hi:i < as.length
 ·rw [SI (by simpa using hi),Q_] at h
  cases q:as[i]? with
  | none=>rw [q] at h;cases h
  | some y=>rw [q] at h;cases h;rfl
 ·rw [R8 (by simpa using hi),UY] at h
  split at h <;> cases h
theorem GG {N:List Str}{vs:List V}{i:Nat}{v:V}(h:vs[i]?=some v):(L2.start N vs)[i]?=some (some v):=by
 unfold L2.start
 have hi:i < vs.length:=(Rj.mp h).1
 rw [SI (by simpa using hi),Q_,h]
 rfl
theorem GD {K:Qx}{J H:Hp}{T:Exc->Prop}{N:List Str}{as:List S}{vs:List V}(hs:aU J H) (h:mF K J H as vs):SR ⟨K,H,J,T⟩ J H (L2.start N vs) (bq N as):=by
 have own:∀(i:Nat) (xs:Mn),(bq N as)[i]?≠some (some (mS xs)):=λi xs q=>by
  obtain ⟨v,_,k⟩:=h.get (vV q)
  cases xs <;> exact k
 refine ⟨⟨hs,aU.refl H,aU.refl J,λ_ _ q=>q⟩,?_,λi x q=>?_,λi j xs ys v _ q=>absurd q (own i xs)⟩
 ·unfold bq L2.start
  rw [Rh,Rh,QA,QA,SJ,SJ,h.length]
 ·obtain ⟨v,k1,k2⟩:=h.get (vV q)
  refine ⟨v,GG k1,?_⟩
  cases x with
  | d y=>exact k2
  | own y=>exact k2.elim
  | bor y=>exact k2
  | dk _ _=>exact k2.elim
  | db _ _=>exact k2
  | fn _=>exact k2
abbrev G3 (P:Q8) (w:Ru) (K:Qx) (mg:Str->Option Qy) (base:Sh) (N:List Str) (qual:Str) (sc:Te) (f:QW) (cd:Qy) (A:Rx) (outer:List Env) (s:QC) (H:Hp) (E:XK):Cx:=(rD oH P w K mg base N qual sc f cd A outer s H E).nox
theorem Dz {P:Q8}{w:Ru}{K:Qx}{mg:Str->Option Qy}{base:Sh}{x qual:Str}{st:T7}{f:QW}{fd:Ro}{N ps:List Str}{k:Nat}{Fm:List S->M R}(F:cH K x qual st f fd) (Sc:bh N ps (aq st)){gB:G O}
  (hb:∀(cdv:Qy) (A:Rx) (outer:List Env) (s:QC) (H:Hp) (E:XK) (J:Hp) (T:Exc->Prop),dY k (A.deeper (WM qual (aq st) s.heap.objs.size f cdv))->
   JO (G3 P w K mg base N qual (aq st) f cdv A outer s H E) ⟨K,H,J,T⟩ (aG st) gB)
  (hF:∀as r,as.length=ps.length->Fm as=.ok r->fin (gB (bq N as))=.ok r):jw P w K mg base oH (k + 1) f fd ps (pZ K ps.length Fm):=by
 refine F.ok Sc (λvs H Q E h=>?_) (λcdv A outer s H vs Q E hr h=>?_)
 ·obtain ⟨J,as,h1,h2,h3,h4⟩:=h
  rw [h3.length,h2]
 ·obtain ⟨J,as,h1,h2,h3,h4⟩:=h
  refine ⟨_,hb cdv A outer s H E J (λ_=>False) hr,J,bq N as,GD h1 h3,?_⟩
  cases q:Fm as with
  | bad=>rw [q] at h4;exact h4.elim
  | exc x=>rw [q] at h4;exact h4.elim
  | ok r=>
   rw [q] at h4
   have z:=hF as r h2 q
   have ext:∀{J' H':Hp},HI ⟨K,H,J,λ_=>False⟩ J' H'->Ext J H J' H':=λhp=>⟨hp.ent,hp.entJ,hp.sub,hp.frz⟩
   cases qg:gB (bq N as) with
   | bad=>rw [qg] at z;cases z
   | exc x=>rw [qg] at z;cases z
   | ok o=>
    rw [qg] at z
    cases o with
    | bk _=>cases z
    | ct _=>cases z
    | nx env=>cases z;exact λσ' J' H' _ sr=>h4 .non J' H' (ext sr.hp) .non
    | rt r'=>
     cases z
     exact λv J' H' _ hp rf=>h4 v J' H' (ext hp) (by
      cases r with
      | d x=>exact rf
      | l m xs=>exact rf
      | mo _ _=>exact rf
      | mf _ _=>exact rf
      | mb _ _=>exact rf)
def ji:R->R
 | .d x=>.d x
 | .l _ xs=>.l .fresh xs
 | .mo ks vs=>.mo ks vs
 | .mb ks vs=>.mb ks vs
 | .mf ks vs=>.mf ks vs
def aS (n:Nat) (F:List S->M R):List R->M R:=λrs=>if rs.length=n then (match F (rs.map cQ) with
 | .ok r=>.ok (ji r)
 | _=>.bad) else .bad
theorem j6.args {He J H:Hp}(hp:HI c J H):∀{rs:List R}{vs:List V},j6 c He J H rs vs->mF c.K J H (rs.map cQ) vs
 | [],_,h=>h
 | r::rs,_,⟨v,us,h,h1,h2⟩=>by
  refine ⟨v,us,h,?_,j6.args hp h2⟩
  cases r with
  | d x=>exact h1
  | l m xs=>exact RR.list hp h1 rfl
  | mo _ _=>obtain ⟨a,h1,h2,_⟩:=h1;exact ⟨a,h1,h2⟩
  | mb _ _=>obtain ⟨a,h1,h2⟩:=h1;exact ⟨a,h1,h2.mono (aU.refl _) hp.ent⟩
  | mf _ _=>obtain ⟨a,h1,h2,_⟩:=h1;exact ⟨a,h1,h2⟩
theorem Ht {n:Nat}{F:List S->M R}{J H J1 H1:Hp}{Q:VK}{as:List S}{vs:List V}{T:Exc->Prop}(hT:c.K=X.K) (e1:Ext J H J1 H1) (ar:mF c.K J1 H1 as vs) (hl:as.length=n)
  (wr:cJ (match F as with
   | .ok r=>.ok (ji r)
   | _=>.bad) (λr=>∀v J' H',Ext J H J' H'->RR c H J' H' r v->Q v H') T):pZ X.K n F (vs++[]) H1 Q E0:=by
 rw [hT] at ar
 refine ⟨J1,as,e1.sub,hl,by rw [S_];exact ar,?_⟩
 cases q:F as with
 | bad=>rw [q] at wr;exact wr
 | exc x=>rw [q] at wr;exact wr
 | ok r=>
  rw [q] at wr
  intro v J' H' e2 fr
  refine wr v J' H' (e1.trans e2) ?_
  cases r with
  | d y=>exact (show Rep c.K J' y v from hT▸fr)
  | mo _ _=>exact fr.elim
  | mb _ _=>exact fr.elim
  | mf _ _=>obtain ⟨a,h1,h2,h3,h4⟩:=fr;exact ⟨a,h1,hT▸h2,h3,e1.h.free h4⟩
  | l m ys=>
   obtain ⟨a,us,h1,h2,h3,h4,h5⟩:=fr
   exact ⟨a,us,h1,h2,h3,e1.h.free h4,hT▸h5⟩
theorem xV {n:Nat}{F:List S->M R}{gs:G (List R)}(hT:c.K=X.K):∀σ H Q,tD c (gN (aS n F) gs) σ H Q->Hv (pZ X.K n F) [] E0 (tA c gs) σ H Q:=λσ H Q ⟨J,env,sr,w⟩=>by
 refine ⟨J,env,sr,aB (aK w) λrs wr vs J1 H1 e1 r1=>?_⟩
 unfold aS at wr
 split at wr
 ·rename_i hl
  exact Ht hT e1 (r1.args (sr.hp.ext e1)) (by simpa using hl) wr
 ·exact wr.elim
theorem IM {k n:Nat}{f:QW}{fd:Ro}{ps:List Str}{F:List S->M R}{x:Str}{p:Pos}{gs:G (List R)}(G:jw X.prog X.w X.K X.mg X.base oH k f fd ps (pZ X.K n F)) (hr:dY k X.A) (hm:X.mg x=some (.ref f)) (hk:QX X.K (.ref f)=true)
  (hb:Binds X.K fd ps []) (ha:GY X c (e::es) gs) (hT:c.K=X.K:=by rfl) (hg:Gl X x:=by rfl) (hdb:(x == ("__debug__":Str))=false:=by decide) (he:QU (e::es) X.env=(false,eval e X.env)::QU es X.env:=by rfl)
  (hpl:(SY pos (QU es X.env)).any (·.1)=false:=by rfl):PD X c (.Call (.Name x p) (e::es) [] pos) (gN (aS n F) gs):=
 fG (AS (E:=E0) G hr hg hm hk hb .nil B8 ha hdb he hpl) (xV hT)
end
def bF (cells:List (Str×QW)):List (Str×SH)->List (Str×QW)->Option (List (Str×QW))
 | [],cs=>some cs
 | (n,k)::r,cs=>if k == .free then (match cells.lookup n with
  | some a=>bF cells r ((n,a)::cs)
  | none=>none) else bF cells r cs
theorem mG {env:Env}:∀(names:List (Str×SH)) (cs cl:List (Str×QW)),bF env.cells names cs=some cl->
  (forIn names cs λ(x:Str×SH) (r:List (Str×QW))=>(if (x.2 == .free)=true then do let a <-cellOf env x.1;pure (Tc ((x.1,a)::r)) else pure (Tc r):Sem (ForInStep (List (Str×QW)))))=(pure cl:Sem (List (Str×QW)))
 | [],cs,cl,h=>by cases h;rfl
 | (n,k)::r,cs,cl,h=>by
  unfold bF at h
  rw [List.forIn_cons]
  cases hk:(k == R1) with
  | true=>
   rw [hk,if_pos rfl] at h
   cases hc:env.cells.lookup n with
   | none=>rw [hc] at h;cases h
   | some a=>
    rw [hc] at h
    have e:cellOf env n=pure a:=by unfold cellOf;rw [hc]
    simp only [hk,if_true,e]
    exact mG r ((n,a)::cs) cl h
  | false=>
   rw [hk,if_neg (by decide)] at h
   simp only [hk]
   exact mG r cs cl h
theorem wJ {scope:Te}{env:Env}{cl:List (Str×QW)}(h:bF env.cells scope.names []=some cl):closureFor scope env=pure cl:=by
 have q:=mG (env:=env) scope.names [] cl h
 unfold closureFor
 show ((forIn scope.names [] λ(x:Str×SH) (r:List (Str×QW))=>(if (x.2 == .free)=true then do let a <-cellOf env x.1;pure (Tc ((x.1,a)::r)) else pure (Tc r):Sem (ForInStep (List (Str×QW))))) >>= λz=>pure z)=pure cl
 rw [q]
 rfl
theorem gP {cells:List (Str×QW)}:∀(names:List (Str×SH)) (cs cl:List (Str×QW)),bF cells names cs=some cl->(∀x c,cs.lookup x=some c->cells.lookup x=some c)->
  (∀x c,cl.lookup x=some c->cells.lookup x=some c)/\(∀x,((cs.lookup x).isSome=true\/(x,R1)∈names)->(cl.lookup x).isSome=true)
 | [],cs,cl,h,k=>by
  cases h
  exact ⟨k,λx hx=>hx.elim id λz=>by cases z⟩
 | (n,kd)::r,cs,cl,h,k=>by
  unfold bF at h
  cases hk:(kd == R1) with
  | true=>
   rw [hk,if_pos rfl] at h
   cases hc:cells.lookup n with
   | none=>rw [hc] at h;cases h
   | some a=>
    rw [hc] at h
    obtain ⟨h1,h2⟩:=gP r ((n,a)::cs) cl h (λx c q=>by
     rw [Se] at q
     cases e:x == n with
     | true=>
      rw [e] at q
      cases q
      have:x=n:=by simpa using e
      rw [this];exact hc
     | false=>rw [e] at q;exact k x c q)
    refine ⟨h1,λx hx=>h2 x ?_⟩
    by_cases e:x=n
    ·left;subst e;rw [Se];simp
    ·have e':(x == n)=false:=by simpa using e
     rcases hx with hx | hx
     ·left;rw [Se,e'];exact hx
     ·right
      rcases Q3.mp hx with z | z
      ·cases z;exact absurd rfl e
      ·exact z
  | false=>
   rw [hk,if_neg (by decide)] at h
   obtain ⟨h1,h2⟩:=gP r cs cl h k
   refine ⟨h1,λx hx=>h2 x ?_⟩
   rcases hx with hx | hx
   ·exact .inl hx
   ·rcases Q3.mp hx with z | z
    ·cases z;simp at hk
    ·exact .inr z
section
variable {X:Cx}
def cN (X:Cx) (own:List Str) (cap:List Nat):List Str:=own++cap.map λ(j:Nat)=>(X.N[j]?).getD ("":Str)
def Kc (X:Cx) (own:List Str) (cap:List Nat) (scope:Te) (cl:List (Str×QW)) (C:QW) (s:QC) (H:Hp) (fp:List QW):Cx where
 prog:=X.prog
 w:=X.w
 K:=X.K
 mg:=X.mg
 base:=X.base
 A:=X.A
 N:=cN X own cap
 s₀:=s
 H₀:=H
 env:=compEnvC scope cl C X.env
 outer:=X.stack
 stack:=X.stack
 ex:=fp
 fn:=λ_=>false
 calm:=X.calm
 pn:=[]
 xe:=λ_ _=>False
def dD (X:Cx) (cap:List Nat):Bool:=cap.all λj=>match X.N[j]? with
 | some x=>(match X.env.scope.names.lookup x with
  | some .cell=>true
  | some .free=>true
  | _=>false)
 | none=>false
theorem yX {scope:Te}{env:Env}(hc:∀y∈scope.names,y.2≠.cell):∀{x:Str},((relabel scope env).names.lookup x=some .cell\/(relabel scope env).names.lookup x=some .free)->(x,R1)∈scope.names:=by
 unfold relabel
 have main:∀(names:List (Str×SH)),(∀y∈names,y.2≠.cell)->∀x,((names.map λ(n,k)=>if (k == R1 && env.scope.kind == .function && env.kindOf n == some .cell) then (n,U3) else (n,k)).lookup x=some .cell\/
   (names.map λ(n,k)=>if (k == R1 && env.scope.kind == .function && env.kindOf n == some .cell) then (n,U3) else (n,k)).lookup x=some .free)->(x,R1)∈names:=by
  intro names
  induction names with
  | nil=>intro _ x h;simp at h
  | cons p r ih=>
   obtain ⟨n,k⟩:=p
   intro hc x h
   rw [Q5] at h
   simp only at h
   by_cases hx:x=n
   ·subst hx
    have hk:k≠.cell:=hc (x,k) QH
    have:k=.free:=by
     by_cases q:(k == R1 && env.scope.kind == .function && env.kindOf x == some .cell)=true
     ·rw [QK,QK] at q
      simpa using q.1.1
     ·rw [if_neg q,Se] at h
      simp at h
      rcases h with h | h
      ·exact absurd h hk
      ·exact h
    subst this
    exact QH
   ·have hx':(x == n)=false:=by simpa using hx
    refine QF _ (ih (λy hy=>hc y (QF _ hy)) x ?_)
    have red:∀(q:Str×SH) (l:List (Str×SH)),q.1=n->aa7 x (q::l)=aa7 x l:=λq l hq=>by
     obtain ⟨q1,q2⟩:=q
     simp only at hq
     subst hq
     rw [Se,hx']
    have hq:(if (k == R1 && env.scope.kind == .function && env.kindOf n == some .cell) then (n,U3) else (n,k)).1=n:=by split <;> rfl
    rw [red _ _ hq] at h
    exact h
 intro x h
 exact main scope.names hc x h
end
section
variable {X:Cx}{c:C}
def gJ (X:Cx) (c:C) (ifs:List Rp) (g:G Bool):Prop:=
 ∀(pins:List (QW×Obj)) (s:QC) (σ:L2.St) (H:Hp) (Q:Bool->Hp->Prop),Inv X pins σ H s->tB c g σ H Q->
  Q7 (Rb X.prog X.w) X.A (forIn ifs true λc r=>if r=true then do let ok <-XD c X.env (eval c X.env);pure (Tc ok) else pure (Tc r)) (TP X pins σ Q) X.xe s
def cA:G Bool:=λ_=>.ok true
def cR (gt:GT) (gts:G Bool) (ge:G R):List D->Ev->M (List D)
 | [],_=>.ok []
 | d::ds,env=>gt d env >>= λe=>gts e >>= λk=>if k=true then ge e >>= λr=>toD r >>= λy=>cR gt gts ge ds e >>= λys=>.ok (y::ys) else cR gt gts ge ds e
def cE (n:Nat) (cap:List Nat) (env:Ev):Ev:=RX n none++cap.map λ(j:Nat)=>(env[j]?).getD none
def bJ (n:Nat) (cap:List Nat) (gi:G (List D)) (gt:GT) (gts:G Bool) (ge:G R):G R:=λenv=>gi env >>= λds=>if ds.length<=sizeLine then cR gt gts ge ds (cE n cap env) >>= λys=>.ok (.l .fresh ys) else .bad
theorem ki {α:Type}{n:Nat}{cap:List Nat}{env:List (Option α)}{i:Nat}{x:α}(h:(RX n none++cap.map λ(j:Nat)=>(env[j]?).getD none)[i]?=some (some x)):∃j,n<=i/\cap[i - n]?=some j/\env[j]?=some (some x):=by
 by_cases hi:i < n
 ·rw [SI (by simpa using hi),UY] at h
  split at h <;> cases h
 ·rw [R8 (by simpa using hi),SJ,Q_] at h
  cases q:cap[i - n]? with
  | none=>rw [q] at h;cases h
  | some j=>
   rw [q] at h
   refine ⟨j,by omega,rfl,?_⟩
   have h':(env[j]?).getD none=some x:=RS h
   cases z:env[j]? with
   | none=>rw [z] at h';cases h'
   | some o=>rw [z] at h';exact congrArg some h'
theorem Ml {α:Type}{n:Nat}{cap:List Nat}{env:List (Option α)}{i j:Nat}{x:α}(h1:n<=i) (h2:cap[i - n]?=some j) (h3:env[j]?=some (some x)):(RX n none++cap.map λ(j:Nat)=>(env[j]?).getD none)[i]?=some (some x):=by
 rw [R8 (by simpa using h1),SJ,Q_,h2]
 simp [h3]
theorem SR.cap {J H:Hp}{σ:L2.St}{env:Ev}(sr:SR c J H σ env) (n:Nat) (cap:List Nat) (hnd:cap.Nodup):SR c J H (RX n none++cap.map λ(j:Nat)=>(σ[j]?).getD none) (cE n cap env):=by
 refine ⟨sr.hp,by simp [cE],λi x q=>?_,λi j xs ys v hij q1 q2 q3 q4=>?_⟩
 ·obtain ⟨j,h1,h2,h3⟩:=ki q
  obtain ⟨v,k1,k2⟩:=sr.at_ j x h3
  exact ⟨v,Ml h1 h2 k1,k2⟩
 ·obtain ⟨a,h1,h2,h3⟩:=ki q1
  obtain ⟨b,h4,h5,h6⟩:=ki q2
  obtain ⟨a',h7,h8,h9⟩:=ki q3
  obtain ⟨b',Qv,h11,h12⟩:=ki q4
  rw [h2] at h8;cases h8
  rw [h5] at h11;cases h11
  have hab:a≠b:=λz=>by
   subst z
   have e1:=(Rj.mp h2)
   have e2:=(Rj.mp h5)
   have:=(WL hnd).mp (e1.2.trans e2.2.symm)
   omega
  exact sr.sep a b xs ys v hab h3 h6 h9 h12
theorem SR.other {J H:Hp}{σ:L2.St}{env:Ev}(sr:SR c J H σ env){p:QW}{o:HO}(hJ:J p=none) (h0:c.H0 p=none) (hn:∀(j:Nat) (xs:Mn),env[j]?=some (some (mS xs))->σ[j]?≠some (some (.ref p))):SR c J (L2.upd H p o) σ env:=by
 refine ⟨⟨λb u q=>?_,λb u q=>?_,sr.hp.entJ,sr.hp.frz⟩,sr.len,λj y q=>?_,sr.sep⟩
 ·have:b≠p:=λz=>by rw [z,hJ] at q;cases q
  rw [bD this];exact sr.hp.sub b u q
 ·have:b≠p:=λz=>by rw [z,h0] at q;cases q
  rw [bD this];exact sr.hp.ent b u q
 ·obtain ⟨w,k1,k2⟩:=sr.at_ j y q
  refine ⟨w,k1,?_⟩
  cases y with
  | d x=>exact k2
  | bor zs=>exact k2
  | db _ _=>exact k2
  | fn _=>exact k2
  | dk ks zs=>
   obtain ⟨p',rfl,⟨us,ws,ep,m1,mr⟩,m2⟩:=k2
   have hne:p'≠p:=λz=>hn j (.inr (ks,zs)) q (z▸k1)
   exact ⟨p',rfl,⟨us,ws,ep,by rw [bD hne];exact m1,mr⟩,m2⟩
  | own zs=>
   obtain ⟨p',us,rfl,m1,m2,m3,m4⟩:=k2
   have hne:p'≠p:=λz=>hn j (.inl zs) q (z▸k1)
   exact ⟨p',us,rfl,by rw [bD hne];exact m1,m2,m3,m4⟩
theorem Ext.other {J H J' H':Hp}(e:Ext J H J' H'){p:QW}{o:HO}(h:H p=none) (hJ:J' p=none):Ext J H J' (L2.upd H' p o):=
 ⟨λb u q=>by rw [bD (fF q h)];exact e.h b u q,e.j,λb u q=>by
  have:b≠p:=λz=>by rw [z,hJ] at q;cases q
  rw [bD this];exact e.sub b u q,e.frz⟩
theorem zX {P:Q8}{w:Ru}{H:Hp}{h h':Sh}{a:QW}(x:gn P w H h) (hn:H a=none) (sb:RZ a h h'):gn P w H h':=λb u e=>by
 refine (x b u e).stay (λd v hd q=>(sb.2 d ?_).trans q) (λ_ q=>q) λ_ _ q=>q
 rintro rfl
 rcases hd with rfl | hd
 ·rw [hn] at e;cases e
 ·rw [hn] at hd;cases hd
theorem N4 {pins:List (QW×Obj)}{σ:L2.St}{H:Hp}{s:QC}{own:List Str}{cap:List Nat}{scope:Te}{cl:List (Str×QW)}{fp:List QW}{h1:Sh}{m:Str->Option Qy}{tk:Nat}(I:Inv X pins σ H s) (ok:(Kc X own cap scope cl s.heap.objs.size s H fp).Ok)
  (hcl:bF X.env.cells scope.names []=some cl) (hcell:∀y∈scope.names,y.2≠.cell) (hcap:dD X cap=true) (OG:∀j∈cap,∀x,X.N[j]?=some x->(relabel scope X.env).names.lookup x≠some .local)
  (hns:h1.Ns s.heap.objs.size m) (old:∀b o,s.heap.get? b=some o->h1.get? b=some o):
  Inv (Kc X own cap scope cl s.heap.objs.size s H fp) [] (RX own.length none++cap.map λ(j:Nat)=>(σ[j]?).getD none) H {s with heap:=h1,toks:=tk}:=by
 obtain ⟨m1,m2⟩:=gP scope.names [] cl hcl (λx c h=>by simp at h)
 refine ⟨ok,rfl,I.bare,Un.kept old,⟨m,hns,λi x v q1 q2 q3=>?_⟩,λx d h=>?_,I.hok.fresh (QL _),λx d h=>I.freeC x d (m1 x d h),λp hp=>absurd (show p∈([]:List (QW×Obj)) from hp) (by simp),I.hok.kept old,?_⟩
 ·obtain ⟨j,h2,h3,h4⟩:=ki q2
  have q1':(own++cap.map λ(j:Nat)=>(X.N[j]?).getD ("":Str))[i]?=some x:=q1
  rw [R8 (by exact h2),Q_,h3] at q1'
  have hj:j∈cap:=R9 h3
  have hc:(match X.N[j]? with
   | some x=>(match X.env.scope.names.lookup x with
    | some .cell=>true
    | some .free=>true
    | _=>false)
   | none=>false)=true:=by
   unfold dD at hcap
   exact Rw.mp hcap j hj
  cases hx:X.N[j]? with
  | none=>rw [hx] at hc;cases hc
  | some y=>
   rw [Zn,hx] at q1'
   rw [hx] at hc
   have e:y=x:=by simpa using q1'
   subst e
   have kd:X.env.kindOf y=some .cell\/X.env.kindOf y=some .free:=by
    unfold abp
    simp only at hc
    split at hc
    ·rename_i z;exact .inl z
    ·rename_i z;exact .inr z
    ·cases hc
   obtain ⟨mX,nX,lX⟩:=I.loc
   obtain ⟨u,ru,lu⟩:=lX j y v hx h4 (kd.elim (λz=>.inr (.inl z)) λz=>.inr (.inr z))
   refine ⟨u,ru,.inr ?_⟩
   have kd':(relabel scope X.env).names.lookup y=some .cell\/(relabel scope X.env).names.lookup y=some .free:=by
    rcases q3 with z | z | z
    ·exact absurd z (OG j hj y hx)
    ·exact .inl z
    ·exact .inr z
   refine ⟨kd',?_⟩
   obtain ⟨d,hd⟩:=R3.mp (m2 y (.inr (yX hcell kd')))
   refine ⟨d,hd,?_⟩
   rcases lu with ⟨z,_⟩ | ⟨_,d',hd',z⟩
   ·rcases kd with k | k <;> (rw [k] at z;cases z)
   ·have:=m1 y d hd
    rw [hd'] at this
    cases this
    obtain ⟨o,ho,hod⟩:=z
    exact ⟨o,old _ _ ho,hod⟩
 ·obtain ⟨v,o,ho,hod⟩:=I.cell x d (m1 x d h)
  exact ⟨v,o,old _ _ ho,hod⟩
 ·show _=(own++cap.map λ(j:Nat)=>(X.N[j]?).getD ("":Str)).length
  simp
def dG (X:Cx) (cap:List Nat) (scope:Te):Bool:=cap.all λj=>match X.N[j]? with
 | some x=>!((relabel scope X.env).names.lookup x == some .local)
 | none=>true
def fS:List Nat->Bool
 | []=>true
 | x::r=>!(r.contains x) && fS r
theorem AO:∀{l:List Nat},fS l=true->l.Nodup
 | [],_=>Tv
 | x::r,h=>by
  unfold fS at h
  rw [QK] at h
  refine Ss.mpr ⟨λz=>?_,AO h.2⟩
  have:=h.1
  simp [z] at this
theorem JW {X:Cx}{pins:List (QW×Obj)}{σ:L2.St}{H:Hp}{s:QC}(I:L2.Inv X pins σ H s){T:QW}(h:s.heap.objs.size<=T):(T∈X.ex\/X.s₀.heap.objs.size<=T)/\T≠X.env.locals/\(∀x c,X.env.cells.lookup x=some c->c≠T)/\∀p∈X.pn++pins,p.1≠T:=by
 have ne:∀b,b < s.heap.objs.size->b≠T:=λb hb z=>absurd (Rc (z▸hb) h) (SG _)
 refine ⟨.inr (Rr I.sz h),(ne _ I.lt).symm,λx c hc=>?_,λp hp=>ne _ (QY (I.pin p hp).1)⟩
 obtain ⟨v,o,hv,_⟩:=I.cell x c hc
 exact ne _ (QY hv)
theorem pN {X:Cx}{pins:List (QW×Obj)}{σ:L2.St}{H:Hp}{s:QC}{C:QW}{h':Sh}{o0:Obj}(I:L2.Inv X pins σ H s) (ap:(C∈X.ex\/X.s₀.heap.objs.size<=C)/\C≠X.env.locals/\(∀x c,X.env.cells.lookup x=some c->c≠C)/\∀p∈X.pn++pins,p.1≠C) (hf:H C=none) (sb:RZ C s.heap h'):L2.Inv X pins σ H {s with heap:=h'}:=by
 refine I.call' (ch:=[C]) rfl ⟨λb o hb hn _ hx=>?_,λb o hb hn _ hx=>⟨o.slots,?_⟩,λ_ _ _ n _=>n,λb o hb hx=>⟨o,?_⟩,λ_ _ q=>q,λ_ _ _ q=>q,λ_ ps q=>⟨#[],by rw [q];simp⟩⟩ (λa o ha=>?_) I.bare (λb hb=>by rw [Q6.mp hb];exact ap)
 ·exact (sb.2 b λz=>hx (by simp [z])).trans hb
 ·exact (sb.2 b λz=>hx (by simp [z])).trans hb
 ·exact (sb.2 b λz=>hx (by simp [z])).trans hb
 ·refine (I.hok a o ha).stay (λb u hb q=>(sb.2 b λz=>?_).trans q) (λ_ q=>q) λ_ _ q=>q
  rcases hb with rfl | hb
  ·rw [z,hf] at ha;cases ha
  ·rw [z,hf] at hb;cases hb
end
mutual
def bw:D->D->Bool
 | .non,.non=>true
 | .bl p,.bl q=>p == q
 | .bl p,.int q=>(if p then 1 else 0) == q
 | .int p,.bl q=>p == (if q then 1 else 0)
 | .int p,.int q=>p == q
 | .str p,.str q=>p == q
 | .tup p,.tup q=>cj p q
 | .lst p,.lst q=>cj p q
 | .emp,.emp=>true
 | .exn _ _ _,.exn _ _ _=>true
 | .dct _ _,.dct _ _=>true
 | _,_=>false
def cj:List D->List D->Bool
 | [],[]=>true
 | x::xs,y::ys=>bw x y && cj xs ys
 | _,_=>false
end
mutual
theorem gg:∀d:D,bw d d=true
 | .non=>by simp [bw]
 | .bl _=>by simp [bw]
 | .int _=>by simp [bw]
 | .str _=>by simp [bw]
 | .tup xs=>by simp only [bw];exact o_ xs
 | .lst xs=>by simp only [bw];exact o_ xs
 | .emp=>by simp [bw]
 | .exn _ _ _=>by simp [bw]
 | .dct _ _=>by simp [bw]
theorem o_:∀ds:List D,cj ds ds=true
 | []=>by simp [cj]
 | x::xs=>by simp only [cj,gg x,o_ xs,aaq]
end
theorem nQ:∀{xs ys:List D},xs.length≠ys.length->cj xs ys=false
 | [],[],h=>absurd rfl h
 | [],_::_,_=>by simp [cj]
 | _::_,[],_=>by simp [cj]
 | x::xs,y::ys,h=>by
  simp only [cj,nQ (xs:=xs) (ys:=ys) (λz=>h (congrArg (· + 1) z)),Uc]
def oh (xs ys:List D) (j:Nat):Bool:=match xs[j]?,ys[j]? with
 | some x,some y=>bw x y
 | _,_=>false
theorem nR:∀{xs ys:List D},xs.length=ys.length->(QG xs.length).all (oh xs ys)=cj xs ys
 | [],[],_=>by simp [cj]
 | x::xs,y::ys,h=>by
  have ih:=nR (xs:=xs) (ys:=ys) (by simpa using h)
  rw [RT,Ve,Us,Xd]
  simp only [cj]
  rw [<-ih]
  rfl
theorem yh (xs ys:List D):((QG (min xs.length ys.length)).all (oh xs ys) && xs.length == ys.length)=cj xs ys:=by
 by_cases h:xs.length=ys.length
 ·rw [<-h,Nat.min_self,nR h];simp
 ·rw [nQ h,beq_eq_false_iff_ne.mpr h,Uc]
section
structure HF (K:Qx) (J:Hp) (s:QC):Prop where
 t:∀a xs,cY K J a xs->∃its:List Qy,Vals xs its/\s.heap.IsTuple a its.toArray
 l:∀a xs,cC K J a xs->∃its:List Qy,Vals xs its/\s.heap.IsList a its.toArray
 e:∀a,J a=some (.dK [])->∃o,s.heap.get? a=some o/\o.cls=.type "dict"
 d:∀a ep kvs,J a=some (kW a ep kvs)->∃o es,s.heap.get? a=some o/\o.ExactDict/\o.data=.dict es ep/\Wg xB kvs es.toList
variable {K:Qx}{J:Hp}{s:QC}
theorem HF.of {X:Cx}{c:C}{pins:List (QW×Obj)}{σ:L2.St}{H:Hp}(I:Inv X pins σ H s) (hs:aU J H):HF X.K J s:=
 ⟨λa xs h=>let ⟨its,r,p,_⟩:=I.tuple (fP hs h);⟨its,r,p⟩,λa xs h=>let ⟨its,r,p,_⟩:=I.list (hs.seq h);⟨its,r,p.isList⟩,λa h=>by
  obtain ⟨_,_,vs,_,p⟩:=(show cg X.prog X.w H s.heap a (.dK []) from I.hok a _ (hs _ _ h))
  obtain ⟨o,es,ep,h1,h2,_⟩:=p
  exact ⟨o,h1,h2.1⟩,λa ep kvs h=>(show cg X.prog X.w H s.heap a (kW a ep kvs) from I.hok a _ (hs _ _ h)).1⟩
theorem DP {a:QW}{xs ys:List Qy}(h:s.heap.IsTuple a xs.toArray) (h':s.heap.IsTuple a ys.toArray):xs=ys:=by
 obtain ⟨o,ho,_,n,hd⟩:=h
 obtain ⟨o',ho',_,n',hd'⟩:=h'
 rw [ho] at ho';cases ho'
 rw [hd] at hd'
 injection hd' with h1 _
 simpa using congrArg W9 h1
theorem BS {a:QW}{xs ys:List Qy}(h:s.heap.IsList a xs.toArray) (h':s.heap.IsList a ys.toArray):xs=ys:=by
 obtain ⟨o,ho,_,n,hd⟩:=h
 obtain ⟨o',ho',_,n',hd'⟩:=h'
 rw [ho] at ho';cases ho'
 rw [hd] at hd'
 injection hd' with h1 _
 simpa using congrArg W9 h1
mutual
theorem Rep.inj (F:HF K J s):∀{d e:D}{v:V},Rep K J d v->Rep K J e v->dep d<=1000->dep e<=1000->d=e
 | _,_,_,.emp _,_,h,_=>by unfold dep at h;omega
 | _,_,_,.exn _ _ _ _ _,_,h,_=>by unfold dep at h;omega
 | _,_,_,.dct _ _ _ _ _,_,h,_=>by unfold dep at h;omega
 | _,_,_,.non,.non,_,_=>rfl
 | _,_,_,.bl _,.bl _,_,_=>rfl
 | _,_,_,.int _,.int _,_,_=>rfl
 | _,_,_,.str _,.str _,_,_=>rfl
 | _,_,_,.tup _ _,.emp _,_,h=>by unfold dep at h;omega
 | _,_,_,.lst _ _,.emp _,_,h=>by unfold dep at h;omega
 | _,_,_,.tup _ _,.exn _ _ _ _ _,_,h=>by unfold dep at h;omega
 | _,_,_,.tup _ _,.dct _ _ _ _ _,_,h=>by unfold dep at h;omega
 | _,_,_,.lst _ _,.exn _ _ _ _ _,_,h=>by unfold dep at h;omega
 | _,_,_,.lst _ _,.dct _ _ _ _ _,_,h=>by unfold dep at h;omega
 | _,_,_,.tup h hs,.tup h' hs',k,k'=>by
  obtain ⟨its,r,p⟩:=F.t _ _ h
  obtain ⟨its',r',p'⟩:=F.t _ _ h'
  have:=DP p p'
  subst this
  have:=r.inj r'
  subst this
  rw [aI.inj F hs hs' (by unfold dep at k;omega) (by unfold dep at k';omega)]
 | _,_,_,.lst h hs,.lst h' hs',k,k'=>by
  obtain ⟨its,r,p⟩:=F.l _ _ h
  obtain ⟨its',r',p'⟩:=F.l _ _ h'
  have:=BS p p'
  subst this
  have:=r.inj r'
  subst this
  rw [aI.inj F hs hs' (by unfold dep at k;omega) (by unfold dep at k';omega)]
 | _,_,_,.tup h _,.lst h' _,_,_=>by
  obtain ⟨its,r,p⟩:=F.t _ _ h
  obtain ⟨its',r',p'⟩:=F.l _ _ h'
  exact absurd rfl (WX p' p)
 | _,_,_,.lst h _,.tup h' _,_,_=>by
  obtain ⟨its,r,p⟩:=F.l _ _ h
  obtain ⟨its',r',p'⟩:=F.t _ _ h'
  exact absurd rfl (WX p p')
theorem aI.inj (F:HF K J s):∀{ds es:List D}{vs:List V},aI K J ds vs->aI K J es vs->deps ds<=1000->deps es<=1000->ds=es
 | _,_,_,.nil,.nil,_,_=>rfl
 | _,_,_,.cons h hs,.cons h' hs',k,k'=>by rw [Rep.inj F h h' (by unfold deps at k;omega) (by unfold deps at k';omega),aI.inj F hs hs' (by unfold deps at k;omega) (by unfold deps at k';omega)]
end
theorem jq {A:Rx}{a:QW}{its:Array Qy}{v:V}{u:Qy}(h:s.heap.IsTuple a its) (r:RelV v u) (f:sP v=true) (hu:A.units < Sy):SN A s (.ref a) u false/\SN A s u (.ref a) false:=by
 cases v with
 | non=>cases r;exact ⟨.tuple_none h hu,.none_tuple h hu⟩
 | bl b=>cases r;exact ⟨.tuple_bool b h hu,.bool_tuple b h hu⟩
 | int i=>obtain ⟨t,rfl⟩:=r;exact ⟨.tuple_int i t h hu,.int_tuple i t h hu⟩
 | str x=>obtain ⟨t,rfl⟩:=r;exact ⟨.tuple_str x t h hu,.str_tuple x t h hu⟩
 | _=>exact absurd (show false=true from f) Rq
theorem jR {A:Rx}{a:QW}{its:Array Qy}{v:V}{u:Qy}(h:s.heap.IsList a its) (r:RelV v u) (f:sP v=true) (hu:A.units < Sy):SN A s (.ref a) u false/\SN A s u (.ref a) false:=by
 cases v with
 | non=>cases r;exact ⟨.list_none h hu,.none_list h hu⟩
 | bl b=>cases r;exact ⟨.list_bool b h hu,.bool_list b h hu⟩
 | int i=>obtain ⟨t,rfl⟩:=r;exact ⟨.list_int i t h hu,.int_list i t h hu⟩
 | str x=>obtain ⟨t,rfl⟩:=r;exact ⟨.list_str x t h hu,.str_list x t h hu⟩
 | _=>exact absurd (show false=true from f) Rq
def pH:D->Bool
 | .tup _=>false
 | .lst _=>false
 | .emp=>false
 | .exn _ _ _=>false
 | .dct _ _=>false
 | _=>true
theorem Rep.flat {d:D}{v:V}(h:Rep K J d v) (f:pH d=true):sP v=true:=by
 cases h <;> first | rfl | cases f
theorem E8 {d e:D}{v w:V}(h:Rep K J d v) (h':Rep K J e w) (f:pH d=true) (f':pH e=true):Kg v w=bw d e:=by
 cases h <;> cases h' <;> first | rfl | cases f | cases f' | simp [Kg,bw]
theorem in1_units (A:Rx):A.in1.units=A.units + 1:=rfl
theorem sO (F:HF K J s){d e:D}{v w:V}{u u':Qy}(A:Rx) (hd:Rep K J d v) (he:Rep K J e w) (rv:RelV v u) (rw':RelV w u') (f:pH d=true) (hu:A.units < Sy) (hu':dep e<=1000):SN A s u u' (bw d e):=by
 cases q:pH e with
 | true=>rw [<-E8 hd he f q];exact Kf rv rw' (hd.flat f) (he.flat q)
 | false=>
  cases he with
  | tup h' hs'=>
   cases rw'
   obtain ⟨its',r',p'⟩:=F.t _ _ h'
   have:=(jq p' rv (hd.flat f) hu).2
   cases hd <;> first | exact this | cases f
  | lst h' hs'=>
   cases rw'
   obtain ⟨its',r',p'⟩:=F.l _ _ h'
   have:=(jR p' rv (hd.flat f) hu).2
   cases hd <;> first | exact this | cases f
  | emp _=>unfold dep at hu';omega
  | exn _ _ _ _ _=>unfold dep at hu';omega
  | dct _ _ _ _ _=>unfold dep at hu';omega
  | _=>cases q
mutual
theorem mV (F:HF K J s):∀{d e:D}{v w:V}{u u':Qy}(A:Rx),Rep K J d v->Rep K J e w->RelV v u->RelV w u'->A.units + dep d < Sy->dep d<=1000->dep e<=1000->SN A s u u' (bw d e)
 | .tup ds,e,_,w,u,u',A,.tup h hs,he,rv,rw',hu,hd1,hu'=>by
  cases rv
  obtain ⟨its,r,p⟩:=F.t _ _ h
  have OA:A.units < Sy:=by unfold dep at hu;omega
  cases he with
  | tup h' hs'=>
   cases rw'
   obtain ⟨its',r',p'⟩:=F.t _ _ h'
   rename_i a vs b ws es
   by_cases q:a=b
   ·subst q
    have:=Rep.inj F (.tup h hs) (.tup h' hs') hd1 hu'
    rw [<-this,gg]
    exact Xb _
   ·have l1:its.length=ds.length:=by rw [<-r.length,hs.length]
    have l2:its'.length=es.length:=by rw [<-r'.length,hs'.length]
    simp only [bw]
    rw [<-yh,<-l1,<-l2]
    refine Yi q ?_
    have:=YG (e:=oh ds es) p p' OA λj j1 j2=>by
     have k1:j < ds.length:=by rw [<-l1];simpa using j1
     have k2:j < es.length:=by rw [<-l2];simpa using j2
     have:=mW F A.in1 hs hs' r r' (by rw [in1_units];unfold dep at hu;omega) (by unfold dep at hd1;omega) (by unfold dep at hu';omega) j k1 k2
     have m1:j < its.length:=by simpa using j1
     have m2:j < its'.length:=by simpa using j2
     simpa [m1,m2] using this
    simpa using this
  | lst h' hs'=>
   cases rw'
   obtain ⟨its',r',p'⟩:=F.l _ _ h'
   exact aaK p p' OA
  | non=>exact (jq p rw' rfl OA).1
  | bl _=>exact (jq p rw' rfl OA).1
  | int _=>exact (jq p rw' rfl OA).1
  | str _=>exact (jq p rw' rfl OA).1
  | emp _=>unfold dep at hu';omega
  | exn _ _ _ _ _=>unfold dep at hu';omega
  | dct _ _ _ _ _=>unfold dep at hu';omega
 | .lst ds,e,_,w,u,u',A,.lst h hs,he,rv,rw',hu,hd1,hu'=>by
  cases rv
  obtain ⟨its,r,p⟩:=F.l _ _ h
  have OA:A.units < Sy:=by unfold dep at hu;omega
  cases he with
  | lst h' hs'=>
   cases rw'
   obtain ⟨its',r',p'⟩:=F.l _ _ h'
   rename_i a vs b ws es
   by_cases q:a=b
   ·subst q
    have:=Rep.inj F (.lst h hs) (.lst h' hs') hd1 hu'
    rw [<-this,gg]
    exact Xb _
   ·have l1:its.length=ds.length:=by rw [<-r.length,hs.length]
    have l2:its'.length=es.length:=by rw [<-r'.length,hs'.length]
    simp only [bw]
    refine Yi q ?_
    by_cases z:ds.length=es.length
    ·rw [<-nR z,<-l1]
     have:=Y8 (e:=oh ds es) p p' (by simp;omega) OA λj j1 j2=>by
      have k1:j < ds.length:=by rw [<-l1];simpa using j1
      have k2:j < es.length:=by rw [<-l2];simpa using j2
      have:=mW F A.in1 hs hs' r r' (by rw [in1_units];unfold dep at hu;omega) (by unfold dep at hd1;omega) (by unfold dep at hu';omega) j k1 k2
      have m1:j < its.length:=by simpa using j1
      have m2:j < its'.length:=by simpa using j2
      simpa [m1,m2] using this
     simpa using this
    ·rw [nQ z]
     exact aab p p' (by simp;omega) OA
  | tup h' hs'=>
   cases rw'
   obtain ⟨its',r',p'⟩:=F.t _ _ h'
   exact aaL p p' OA
  | non=>exact (jR p rw' rfl OA).1
  | bl _=>exact (jR p rw' rfl OA).1
  | int _=>exact (jR p rw' rfl OA).1
  | str _=>exact (jR p rw' rfl OA).1
  | emp _=>unfold dep at hu';omega
  | exn _ _ _ _ _=>unfold dep at hu';omega
  | dct _ _ _ _ _=>unfold dep at hu';omega
 | .non,e,v,w,u,u',A,hd,he,rv,rw',hu,_,hu'=>sO F A hd he rv rw' rfl (by omega) hu'
 | .bl _,e,v,w,u,u',A,hd,he,rv,rw',hu,_,hu'=>sO F A hd he rv rw' rfl (by omega) hu'
 | .int _,e,v,w,u,u',A,hd,he,rv,rw',hu,_,hu'=>sO F A hd he rv rw' rfl (by omega) hu'
 | .emp,e,v,w,u,u',A,hd,he,rv,rw',hu,hd1,hu'=>by unfold dep at hd1;omega
 | .exn _ _ _,e,v,w,u,u',A,hd,he,rv,rw',hu,hd1,hu'=>by unfold dep at hd1;omega
 | .dct _ _,e,v,w,u,u',A,hd,he,rv,rw',hu,hd1,hu'=>by unfold dep at hd1;omega
 | .str _,e,v,w,u,u',A,hd,he,rv,rw',hu,_,hu'=>sO F A hd he rv rw' rfl (by omega) hu'
theorem mW (F:HF K J s):∀{ds es:List D}{vs ws:List V}{us us':List Qy}(A:Rx),aI K J ds vs->aI K J es ws->Vals vs us->Vals ws us'->A.units + deps ds < Sy->deps ds<=1000->deps es<=1000->
  ∀(j:Nat) (h1:j < ds.length) (h2:j < es.length),SN A s (us.getD j .none) (us'.getD j .none) (oh ds es j)
 | _,_,_,_,_,_,A,.cons h hs,.cons h' hs',.cons r rs,.cons r' rs',hu,k1,k2,0,_,_=>mV F A h h' r r' (by unfold deps at hu;omega) (by unfold deps at k1;omega) (by unfold deps at k2;omega)
 | _,_,_,_,_,_,A,.cons h hs,.cons h' hs',.cons r rs,.cons r' rs',hu,k1,k2,j + 1,h1,h2=>mW F A hs hs' rs rs' (by unfold deps at hu;omega) (by unfold deps at k1;omega) (by unfold deps at k2;omega) j (by simpa using h1) (by simpa using h2)
end
end
section
variable {K:Qx}{J:Hp}{s:QC}
theorem Es (F:HF K J s){d e:D}{v w:V}{u u':Qy}(A:Rx) (hd:Rep K J d v) (he:Rep K J e w) (rv:RelV v u) (rw':RelV w u') (hu:A.units + dep d < Sy) (hd1:dep d<=1000) (hu':dep e<=1000):SeqAt.RcAt A s u u' (bw d e)/\SeqAt.RcNeAt A s u u' (!bw d e):=by
 have OA:A.units < Sy:=by omega
 cases hd with
 | non=>
  cases rv
  cases he with
  | non=>cases rw';exact ⟨.none_none,.none_none⟩
  | bl b=>cases rw';exact ⟨.none_bool b,.none_bool b⟩
  | int i=>obtain ⟨t,rfl⟩:=rw';exact ⟨.none_int i t,.none_int i t⟩
  | str x=>obtain ⟨t,rfl⟩:=rw';exact ⟨.none_str x t,.none_str x t⟩
  | tup h hs=>cases rw';obtain ⟨its,r,p⟩:=F.t _ _ h;exact ⟨.none_tuple p OA,.none_tuple p OA⟩
  | lst h hs=>cases rw';obtain ⟨its,r,p⟩:=F.l _ _ h;exact ⟨.none_list p OA,.none_list p OA⟩
  | emp _=>unfold dep at hu';omega
  | exn _ _ _ _ _=>unfold dep at hu';omega
  | dct _ _ _ _ _=>unfold dep at hu';omega
 | bl a=>
  cases rv
  cases he with
  | non=>cases rw';exact ⟨.bool_none a,.bool_none a⟩
  | bl b=>cases rw';exact ⟨.bool_bool a b,.bool_bool a b⟩
  | int i=>obtain ⟨t,rfl⟩:=rw';exact ⟨.bool_int a i t,.bool_int a i t⟩
  | str x=>obtain ⟨t,rfl⟩:=rw';exact ⟨.bool_str a x t,.bool_str a x t⟩
  | tup h hs=>cases rw';obtain ⟨its,r,p⟩:=F.t _ _ h;exact ⟨.bool_tuple a p OA,.bool_tuple a p OA⟩
  | lst h hs=>cases rw';obtain ⟨its,r,p⟩:=F.l _ _ h;exact ⟨.bool_list a p OA,.bool_list a p OA⟩
  | emp _=>unfold dep at hu';omega
  | exn _ _ _ _ _=>unfold dep at hu';omega
  | dct _ _ _ _ _=>unfold dep at hu';omega
 | int a=>
  obtain ⟨t0,rfl⟩:=rv
  cases he with
  | non=>cases rw';exact ⟨.int_none a t0,.int_none a t0⟩
  | bl b=>cases rw';exact ⟨.int_bool a t0 b,.int_bool a t0 b⟩
  | int i=>obtain ⟨t,rfl⟩:=rw';exact ⟨.int_int a t0 i t,.int_int a t0 i t⟩
  | str x=>obtain ⟨t,rfl⟩:=rw';exact ⟨.int_str a t0 x t,.int_str a t0 x t⟩
  | tup h hs=>cases rw';obtain ⟨its,r,p⟩:=F.t _ _ h;exact ⟨.int_tuple a t0 p OA,.int_tuple a t0 p OA⟩
  | lst h hs=>cases rw';obtain ⟨its,r,p⟩:=F.l _ _ h;exact ⟨.int_list a t0 p OA,.int_list a t0 p OA⟩
  | emp _=>unfold dep at hu';omega
  | exn _ _ _ _ _=>unfold dep at hu';omega
  | dct _ _ _ _ _=>unfold dep at hu';omega
 | str a=>
  obtain ⟨t0,rfl⟩:=rv
  cases he with
  | non=>cases rw';exact ⟨.str_none a t0,.str_none a t0⟩
  | bl b=>cases rw';exact ⟨.str_bool a t0 b,.str_bool a t0 b⟩
  | int i=>obtain ⟨t,rfl⟩:=rw';exact ⟨.str_int a t0 i t,.str_int a t0 i t⟩
  | str x=>obtain ⟨t,rfl⟩:=rw';exact ⟨.str_str a t0 x t,.str_str a t0 x t⟩
  | tup h hs=>cases rw';obtain ⟨its,r,p⟩:=F.t _ _ h;exact ⟨.str_tuple a t0 p OA,.str_tuple a t0 p OA⟩
  | lst h hs=>cases rw';obtain ⟨its,r,p⟩:=F.l _ _ h;exact ⟨.str_list a t0 p OA,.str_list a t0 p OA⟩
  | emp _=>unfold dep at hu';omega
  | exn _ _ _ _ _=>unfold dep at hu';omega
  | dct _ _ _ _ _=>unfold dep at hu';omega
 | tup h hs=>
  cases rv
  obtain ⟨its,r,p⟩:=F.t _ _ h
  cases he with
  | non=>cases rw';exact ⟨.tuple_none p OA,.tuple_none p OA⟩
  | bl b=>cases rw';exact ⟨.tuple_bool b p OA,.tuple_bool b p OA⟩
  | int i=>obtain ⟨t,rfl⟩:=rw';exact ⟨.tuple_int i t p OA,.tuple_int i t p OA⟩
  | str x=>obtain ⟨t,rfl⟩:=rw';exact ⟨.tuple_str x t p OA,.tuple_str x t p OA⟩
  | lst h' hs'=>cases rw';obtain ⟨its',r',p'⟩:=F.l _ _ h';exact ⟨.tuple_list p p' OA,.tuple_list p p' OA⟩
  | emp _=>unfold dep at hu';omega
  | exn _ _ _ _ _=>unfold dep at hu';omega
  | dct _ _ _ _ _=>unfold dep at hu';omega
  | tup h' hs'=>
   cases rw'
   obtain ⟨its',r',p'⟩:=F.t _ _ h'
   rename_i a vs ds b ws es
   have l1:its.length=ds.length:=by rw [<-r.length,hs.length]
   have l2:its'.length=es.length:=by rw [<-r'.length,hs'.length]
   have it:∀(j:Nat) (j1:j < its.toArray.size) (j2:j < its'.toArray.size),SN A.in1 s its.toArray[j] its'.toArray[j] (oh ds es j):=λj j1 j2=>by
    have k1:j < ds.length:=by rw [<-l1];simpa using j1
    have k2:j < es.length:=by rw [<-l2];simpa using j2
    have:=mW F A.in1 hs hs' r r' (by rw [in1_units];unfold dep at hu;omega) (by unfold dep at hd1;omega) (by unfold dep at hu';omega) j k1 k2
    have m1:j < its.length:=by simpa using j1
    have m2:j < its'.length:=by simpa using j2
    simpa [m1,m2] using this
   simp only [bw]
   rw [<-yh,<-l1,<-l2]
   have q1:=YG p p' OA it
   have q2:=aa8 p p' OA it
   exact ⟨by simpa using q1,by simpa using q2⟩
 | emp _=>unfold dep at hd1;omega
 | exn _ _ _ _ _=>unfold dep at hd1;omega
 | dct _ _ _ _ _=>unfold dep at hd1;omega
 | lst h hs=>
  cases rv
  obtain ⟨its,r,p⟩:=F.l _ _ h
  cases he with
  | non=>cases rw';exact ⟨.list_none p OA,.list_none p OA⟩
  | bl b=>cases rw';exact ⟨.list_bool b p OA,.list_bool b p OA⟩
  | int i=>obtain ⟨t,rfl⟩:=rw';exact ⟨.list_int i t p OA,.list_int i t p OA⟩
  | str x=>obtain ⟨t,rfl⟩:=rw';exact ⟨.list_str x t p OA,.list_str x t p OA⟩
  | tup h' hs'=>cases rw';obtain ⟨its',r',p'⟩:=F.t _ _ h';exact ⟨.list_tuple p p' OA,.list_tuple p p' OA⟩
  | emp _=>unfold dep at hu';omega
  | exn _ _ _ _ _=>unfold dep at hu';omega
  | dct _ _ _ _ _=>unfold dep at hu';omega
  | lst h' hs'=>
   cases rw'
   obtain ⟨its',r',p'⟩:=F.l _ _ h'
   rename_i a vs ds b ws es
   have l1:its.length=ds.length:=by rw [<-r.length,hs.length]
   have l2:its'.length=es.length:=by rw [<-r'.length,hs'.length]
   have it:∀(j:Nat) (j1:j < its.toArray.size) (j2:j < its'.toArray.size),SN A.in1 s its.toArray[j] its'.toArray[j] (oh ds es j):=λj j1 j2=>by
    have k1:j < ds.length:=by rw [<-l1];simpa using j1
    have k2:j < es.length:=by rw [<-l2];simpa using j2
    have:=mW F A.in1 hs hs' r r' (by rw [in1_units];unfold dep at hu;omega) (by unfold dep at hd1;omega) (by unfold dep at hu';omega) j k1 k2
    have m1:j < its.length:=by simpa using j1
    have m2:j < its'.length:=by simpa using j2
    simpa [m1,m2] using this
   simp only [bw]
   by_cases z:ds.length=es.length
   ·rw [<-nR z,<-l1]
    have q1:=Y8 p p' (by simp;omega) OA it
    have q2:=abi p p' (by simp;omega) OA it
    exact ⟨by simpa using q1,by simpa using q2⟩
   ·rw [nQ z]
    exact ⟨.lists_lengths p p' (by simp;omega) OA,.lists_lengths p p' (by simp;omega) OA⟩
end
section
variable {X:Cx}{c:C}{e a b tg:Rp}{es:List Rp}{ga gb g:G R}{pos:Pos}
theorem RR.rep {He J H:Hp}(hp:HI c J H):∀{r:R}{v:V}{d:D},RR c He J H r v->(∀xs,r=.l .fresh xs\/r=.l .own xs\/r=.l .bor xs->d=.lst xs)->(∀x,r=.d x->d=x)->(∀ks vs,r≠.mo ks vs/\r≠.mb ks vs/\r≠.mf ks vs)->Rep c.K H d v
 | .mo _ _,_,_,_,_,_,n=>((n _ _).1 rfl).elim
 | .mb _ _,_,_,_,_,_,n=>((n _ _).2.1 rfl).elim
 | .mf _ _,_,_,_,_,_,n=>((n _ _).2.2 rfl).elim
 | .d x,v,d,h,_,k,_=>by rw [k x rfl];exact Rep.mono hp.sub h
 | .l m xs,v,d,h,k,_,_=>by
  have e:d=.lst xs:=k xs (by cases m;exact .inl rfl;exact .inr (.inl rfl);exact .inr (.inr rfl))
  obtain ⟨a,vs,rfl,h1,h2⟩:=RR.list hp h rfl
  rw [e]
  exact .lst h1 (h2.mono hp.sub)
def R.dat:R->D
 | .d x=>x
 | .l _ xs=>.lst xs
 | .mo ks vs=>.dct ks vs
 | .mb ks vs=>.dct ks vs
 | .mf ks vs=>.dct ks vs
theorem RR.dat {He J H:Hp}(hp:HI c J H){r:R}{v:V}(h:RR c He J H r v):Rep c.K H r.dat v:=by
 by_cases hm:∃ks vs,r=.mo ks vs
 ·obtain ⟨ks,vs,rfl⟩:=hm;obtain ⟨a,rfl,h,_⟩:=h;exact h.rep hp.sub
 by_cases hb:∃ks vs,r=.mb ks vs
 ·obtain ⟨ks,vs,rfl⟩:=hb;obtain ⟨a,rfl,h⟩:=h;exact (h.mono (aU.refl _) hp.ent).rep hp.sub
 by_cases hf:∃ks vs,r=.mf ks vs
 ·obtain ⟨ks,vs,rfl⟩:=hf;obtain ⟨a,rfl,h,_⟩:=h;exact h.rep hp.sub
 refine h.rep hp (λxs q=>?_) (λx q=>by rw [q];rfl) λks vs=>⟨λz=>hm ⟨_,_,z⟩,λz=>hb ⟨_,_,z⟩,λz=>hf ⟨_,_,z⟩⟩
 rcases q with q | q | q <;> (rw [q];rfl)
def Gm (K:Qx) (neg:Bool):R2:=λx y H Q=>∃d e,Rep K H d x/\Rep K H e y/\dep d<=60/\dep e<=60/\Q (.bl (if neg then !bw d e else bw d e)) H
theorem iT {pins:List (QW×Obj)}{σ:L2.St}{H:Hp}{s:QC}(I:Inv X pins σ H s):HF X.K H s:=HF.of (c:=⟨X.K,H,H,λ_=>True⟩) I (aU.refl H)
theorem D0 (hu:X.A.units + 64 < Sy):cT X (R0 .Eq) (Gm X.K false):=by
 intro pins s σ H x y v u Q I rx ry h
 obtain ⟨d,e,h1,h2,h3,h4,q⟩:=h
 exact (Es (iT I) X.A h1 h2 rx ry (by omega) (by omega) (by omega)).1 X.prog X.w X.xe _ ⟨.bl _,H,I,rfl,q⟩
theorem K4 (hu:X.A.units + 64 < Sy):cT X (R0 .NotEq) (Gm X.K true):=by
 intro pins s σ H x y v u Q I rx ry h
 obtain ⟨d,e,h1,h2,h3,h4,q⟩:=h
 exact (Es (iT I) X.A h1 h2 rx ry (by omega) (by omega) (by omega)).2 X.prog X.w X.xe _ ⟨.bl _,H,I,rfl,q⟩
def fE (neg:Bool) (x y:R):M R:=if dep x.dat<=60/\dep y.dat<=60 then .ok (.d (.bl (if neg then !bw x.dat y.dat else bw x.dat y.dat))) else .bad
theorem By (neg:Bool) (hK:X.K=c.K):BD c (Gm X.K neg) (fE neg):=by
 intro He He' J H x y u v Q hp rx ry w
 unfold fE at w
 split at w
 ·rename_i hd
  exact ⟨x.dat,y.dat,by rw [hK];exact rx.dat hp,by rw [hK];exact ry.dat hp,hd.1,hd.2,w _ J H (Ext.refl hp.sub) (.bl _)⟩
 ·exact w.elim
def inD (d:D) (xs:List D):Bool:=xs.any λx=>bw x d
def Ly (K:Qx) (neg:Bool):R2:=λx y H Q=>∃d p vs ds,Rep K H d x/\dep d<=60/\y=.ref p/\(cC K H p vs\/cY K H p vs)/\aI K H ds vs/\deps ds<=60/\Q (.bl (if neg then !inD d ds else inD d ds)) H
theorem vN {K:Qx}{H:Hp}{y:Qy}:∀{ds:List D}{vs:List V}{us:List Qy},aI K H ds vs->Vals vs us->deps ds<=60->y∈us->∃d' v',Rep K H d' v'/\RelV v' y/\dep d'<=60
 | _,_,_,.nil,.nil,_,hy=>nomatch hy
 | _,_,_,.cons r hs,.cons q rs,hd,hy=>by
  unfold deps at hd
  rcases Q3.mp hy with rfl | hy
  ·exact ⟨_,_,r,q,by omega⟩
  ·exact vN hs rs (by omega) hy
open Classical in
noncomputable def Bv (K:Qx) (H:Hp) (d:D) (y:Qy):Bool:=decide (∃d' v',Rep K H d' v'/\RelV v' y/\dep d'<=1000/\bw d' d=true)
theorem As {K:Qx}{H:Hp}{s:QC}(F:HF K H s){d d':D}{v':V}{y:Qy}(r':Rep K H d' v') (q':RelV v' y) (hd:dep d'<=1000):Bv K H d y=bw d' d:=by
 classical
 unfold Bv
 cases z:bw d' d with
 | true=>exact decide_eq_true ⟨d',v',r',q',hd,z⟩
 | false=>
  refine decide_eq_false ?_
  rintro ⟨d2,v2,r2,q2,hd2,z2⟩
  have:v2=v':=q2.inj q'
  subst this
  rw [Rep.inj F r2 r' hd2 hd] at z2
  rw [z] at z2
  cases z2
theorem xN {K:Qx}{H:Hp}{s:QC}(F:HF K H s){d:D}:∀{ds:List D}{vs:List V}{us:List Qy},aI K H ds vs->Vals vs us->deps ds<=1000->us.any (Bv K H d)=inD d ds
 | _,_,_,.nil,.nil,_=>rfl
 | _,_,_,.cons r hs,.cons q rs,hd=>by
  unfold deps at hd
  unfold inD
  rw [VH,VH,xN F hs rs (by omega),As F r q (by omega)]
  rfl
theorem CS {A:Rx}{s:QC}{K:Qx}{H:Hp}(F:HF K H s){d:D}{x:V}{u:Qy}(h:Rep K H d x) (rx:RelV x u) (OT:dep d<=60) (hA:A.units + 60 < Sy){ds:List D}{vs:List V}{us:List Qy}(hs:aI K H ds vs) (rs:Vals vs us) (hd:deps ds<=60):
  ∃e:Qy->Bool,(∀y∈us,SN A s y u (e y))/\us.any e=inD d ds:=by
 refine ⟨Bv K H d,λy hy=>?_,xN F hs rs (by omega)⟩
 obtain ⟨d',v',r',q',hd'⟩:=vN hs rs hd hy
 rw [As F r' q' (by omega)]
 exact mV F A r' h q' rx (by omega) (by omega) (by omega)
theorem D3 (hu:X.A.units + 64 < Sy):cT X (R0 .In) (Ly X.K false):=by
 intro pins s σ H x y v u Q I rx ry h
 obtain ⟨d,p,vs,ds,h1,OT,rfl,h2,h3,h4,q⟩:=h
 cases ry
 have F:=iT I
 rcases h2 with h2 | h2
 ·obtain ⟨its,r,pl⟩:=F.l _ _ h2
  obtain ⟨e,he,hany⟩:=CS (A:=X.A.in1) F h1 rx OT (by rw [in1_units];omega) h3 r h4
  exact SeqAt.in_listAt e pl (λz hz=>he z (by simpa using hz)) ⟨.bl _,H,I,rfl,by rw [show its.toArray.any e=its.any e by simp,hany];exact q⟩
 ·obtain ⟨its,r,pl⟩:=F.t _ _ h2
  obtain ⟨e,he,hany⟩:=CS (A:=X.A.in1) F h1 rx OT (by rw [in1_units];omega) h3 r h4
  exact SeqAt.in_tupleAt e pl (λz hz=>he z (by simpa using hz)) ⟨.bl _,H,I,rfl,by rw [show its.toArray.any e=its.any e by simp,hany];exact q⟩
def jt (neg:Bool) (x y:R):M R:=iB y >>= λys=>if deps ys<=60/\dep x.dat<=60 then .ok (.d (.bl (if neg then !inD x.dat ys else inD x.dat ys))) else .bad
theorem G1 (neg:Bool) (hK:X.K=c.K):BD c (Ly X.K neg) (jt neg):=by
 intro He He' J H x y u v Q hp rx ry w
 obtain ⟨ys,q,w⟩:=nJ w
 obtain ⟨p,vs,rfl,h1,h2⟩:=qe hp ry q
 split at w
 ·rename_i hd
  exact ⟨x.dat,p,vs,ys,by rw [hK];exact rx.dat hp,hd.2,rfl,by rw [hK];exact h1,by rw [hK];exact h2.mono hp.sub,hd.1,w _ J H (Ext.refl hp.sub) (.bl _)⟩
 ·exact w.elim
abbrev GO:=G (Option Int)
def tO (c:C) (g:GO):TO:=λσ H Q=>∃J env,SR c J H σ env/\cJ (g env) (λo=>∀J' H',Ext J H J' H'->Q o H') c.T
def JP (X:Cx) (c:C) (e:Option Rp) (g:GO):Prop:=PO X e (tO c g)
theorem Hj {X:Cx}{e:Option Rp}{t t':TO}(h:PO X e t) (k:∀σ H Q,t' σ H Q->t σ H Q):PO X e t':=λpins s σ H Q I q=>h pins s σ H Q I (k σ H Q q)
def DE:GO:=λ_=>.ok none
def DF (g:G R):GO:=λenv=>g env >>= λr=>match r with
 | .d (.int i)=>.ok (some i)
 | _=>.bad
def cutD (xs:List D) (lo hi:Option Int):List D:=(xs.drop (HT.bM xs.length 0 lo)).take (HT.bM xs.length xs.length hi - HT.bM xs.length 0 lo)
theorem aI.cut {K:Qx}{J:Hp}{xs:List D}{vs:List V}(h:aI K J xs vs) (lo hi:Option Int):aI K J (cutD xs lo hi) (mH vs lo hi):=by
 unfold cutD mH
 rw [h.length]
 exact (h.drop _).take _
def AD (f:R->Option Int->Option Int->M R) (g:G R) (lo hi:GO):G R:=λenv=>g env >>= λx=>lo env >>= λl=>hi env >>= λu=>f x l u
theorem MD {r:V->Option Int->Option Int->Hp->VK->Prop}{f:R->Option Int->Option Int->M R}{lo hi:Option Rp}{gl gh:GO}{p2:Pos}(hr:su X r) (hf:∀(He J H:Hp) (x:R) (v:V) (l u:Option Int) (Q:VK),HI c J H->RR c He J H x v->
   cJ (f x l u) (λz=>∀w J' H',Ext J H J' H'->RR c H J' H' z w->Q w H') c.T->r v l u H Q) (h:PD X c e g) (hl:JP X c lo gl) (hh:JP X c hi gh):PD X c (.Subscript e (.Slice lo hi none p2) pos) (AD f g gl gh):=
 fG (Gd hr h hl hh) λσ H Q ⟨J,env,sr,w⟩=>by
  refine ⟨J,env,sr,aB (aK w) λx wx v J1 H1 e1 r1=>?_⟩
  refine ⟨J1,env,sr.ext e1,aB (aK wx) λl wl J2 H2 e2=>?_⟩
  refine ⟨J2,env,(sr.ext e1).ext e2,aB (aK wl) λu wu J3 H3 e3=>?_⟩
  have ee:=(e1.trans e2).trans e3
  exact hf H J3 H3 x v l u Q (sr.hp.ext ee) ((r1.ext e2).ext e3) (aB wu λz q w J' H' e4 r4=>q w J' H' (ee.trans e4) (RR.from ee.h r4))
def Nt (x:R) (l u:Option Int):M R:=j_ x >>= λxs=>.ok (.l .fresh (cutD xs l u))
theorem Cw {ss:List Str}:∀{us:List Qy},Vals (ss.map V.str) us->StrsAre us ss:=by
 induction ss with
 | nil=>intro us h;cases h;exact .nil
 | cons x r ih=>
  intro us h
  cases h with
  | cons q rs=>
   obtain ⟨t,rfl⟩:=q
   exact .cons x t (ih rs)
theorem vZ:∀{us:List Qy}{ss:List Str},StrsAre us ss->Vals (ss.map V.str) us
 | _,_,.nil=>.nil
 | _,_,.cons y t h=>.cons ⟨t,rfl⟩ (vZ h)
def jQ (x y:Str):Bool:=decide (x.cps.toList<=y.cps.toList)
def qA (ss:List Str):List Str:=ss.mergeSort jQ
theorem vE (x y z:Str) (h1:jQ x y=true) (h2:jQ y z=true):jQ x z=true:=by
 unfold jQ at *
 exact decide_eq_true (List.le_trans (of_decide_eq_true h1) (of_decide_eq_true h2))
theorem DT (x y:Str):(jQ x y || jQ y x)=true:=by
 unfold jQ
 rw [TN]
 rcases List.le_total x.cps.toList y.cps.toList with h | h
 ·exact .inl (decide_eq_true h)
 ·exact .inr (decide_eq_true h)
theorem Fy {x y:Str}(h1:jQ x y=true) (h2:jQ y x=true):x=y:=by
 unfold jQ at *
 have:=Y9 (of_decide_eq_true h1) (of_decide_eq_true h2)
 obtain ⟨⟨cx⟩⟩:=x
 obtain ⟨⟨cy⟩⟩:=y
 simp only at this
 rw [this]
theorem zj (ss:List Str):(qA ss).Pairwise λx y=>jQ x y=true:=List.pairwise_mergeSort vE DT ss
theorem Cv (ss:List Str):(qA ss).Perm ss:=List.mergeSort_perm ss jQ
theorem tX:∀(x:Str) (r:List Str),risingS x r=true->(x::r).Pairwise λx y=>jQ x y=true
 | x,[],_=>by simp
 | x,y::r,h=>by
  unfold risingS at h
  rw [QK] at h
  have hy:=tX y r h.2
  have hxy:jQ x y=true:=by
   have h1:=h.1
   rw [ltCps_eq] at h1
   unfold jQ
   refine decide_eq_true ?_
   have:¬y.cps.toList < x.cps.toList:=by simpa using h1
   exact this
  refine Ug.mpr ⟨λz hz=>?_,hy⟩
  rcases Q3.mp hz with rfl | hz
  ·exact hxy
  ·exact vE x y z hxy ((Ug.mp hy).1 z hz)
theorem Cu {ss ss':List Str}(hp:ss'.Perm ss) (hs:sortedS ss'=true):ss'=qA ss:=by
 have pw:ss'.Pairwise λx y=>jQ x y=true:=by
  cases ss' with
  | nil=>exact TM
  | cons x r=>exact tX x r hs
 exact (hp.trans (Cv ss).symm).eq_of_pairwise (λx y _ _ h1 h2=>Fy h1 h2) pw (zj ss)
theorem xZ:bU X (.builtin "sorted") (λxs H Q=>∃p ss,xs=[.ref p]/\cC X.K H p (ss.map V.str)/\ss.length < 64/\∀ss',ss'.Perm ss->sortedS ss'=true->∀l,H l=none->Q (.ref l) (upd H l (.lst (ss'.map V.str)))):=by
 intro pins s σ H xs us Q I r h
 obtain ⟨p,ss,rfl,hq,hl,q⟩:=h
 obtain ⟨u,rfl,rx⟩:=vals1 r
 cases rx
 obtain ⟨its,r',pl,hz⟩:=I.list hq
 have hlen:=r'.length
 refine sorted_strs pl.isList (Cw r') (by rw [<-hlen,QA];exact hl) λout ss' a1 a2 a3=>?_
 obtain ⟨n,hn⟩:=YW s.heap its out
 have kp:∀b o,s.heap.get? b=some o->(Yj s.heap its out).get? b=some o:=λb o e=>Yk e
 have fr:H (s.heap.objs.size + 1)=none:=I.hok.fresh (Sv _)
 have ll:(ss'.map V.str).length=(ss.map V.str).length:=by rw [QA,QA,a2.length_eq]
 refine ⟨.ref (s.heap.objs.size + 1),_,I.laid (t':=s.toks) kp (Sv _) (show cg X.prog X.w _ _ _ (.lst (ss'.map V.str)) from ⟨by rw [ll];exact hz,out.toList,n,vZ a1,by simpa [S0] using hn⟩),rfl,q ss' a2 a3 _ fr⟩
def strsOf:List D->Option (List Str)
 | []=>some []
 | .str x::r=>(strsOf r).map (x::·)
 | _::_=>none
theorem t9 {K:Qx}{J:Hp}:∀{ds:List D}{vs:List V}{ss:List Str},strsOf ds=some ss->aI K J ds vs->vs=ss.map V.str
 | [],_,_,h,.nil=>by cases h;rfl
 | .str x::r,_,ss,h,.cons q rs=>by
  unfold strsOf at h
  cases z:strsOf r with
  | none=>rw [z] at h;cases h
  | some ss'=>
   rw [z] at h
   cases h
   cases q
   rw [t9 z rs]
   rfl
theorem vP {K:Qx}{J:Hp}:∀(ss:List Str),aI K J (ss.map D.str) (ss.map V.str)
 | []=>.nil
 | x::r=>.cons (.str x) (vP r)
def mZ:List R->M R
 | [r]=>j_ r >>= λxs=>match strsOf xs with
  | some ss=>if ss.length < 64 then .ok (.l .fresh ((qA ss).map .str)) else .bad
  | none=>.bad
 | _=>.bad
theorem kU:RL "sorted"=some (.builtin "sorted"):=by decide +kernel
theorem foldl_size (c:Array Nat):∀(k:Nat) (acc:Array Nat),((RX k c).foldl (·++·) acc).size=acc.size + k * c.size
 | 0,acc=>by simp
 | k + 1,acc=>by
  rw [TZ,VT,foldl_size c k,YH,Nat.succ_mul]
  omega
def iL (x:Str) (n:Nat):Str:=⟨(RX n x.cps).foldl (·++·) #[]⟩
theorem zW (x:Str) (n:Nat):(iL x n).length=n * x.length:=by
 unfold iL Z7
 simp only
 rw [foldl_size]
 simp
theorem II:cT X (Uq .Mult) (λx y H Q=>∃z n,x=.str z/\y=.int n/\0<=n/\n<=1000/\z.length<=1000/\Q (.str (iL z n.toNat)) H):=by
 intro pins s σ H x y v u Q I rx ry h
 obtain ⟨z,n,rfl,rfl,h0,h1,h2,q⟩:=h
 obtain ⟨t,rfl⟩:=rx
 obtain ⟨t',rfl⟩:=ry
 have hz:XS (z.length * n.toNat)=false:=by
  have:z.length * n.toNat<=1000 * 1000:=Vn h2 (by omega)
  unfold XS
  exact decide_eq_false (by have:=RI;omega)
 refine PySem.P.mul_str (by
  rw [decide_eq_false (by omega:¬n < -(2 ^ 63:Int)),decide_eq_false (by omega:¬n ≥ 2 ^ 63)];rfl) (λhn _=>?_) (λ_ _=>hz) ?_
 ·have:(2 ^ 63 - 1:Int) / 1000<=(2 ^ 63 - 1) / n:=by
   refine (Int.le_ediv_iff_mul_le (by omega)).mpr ?_
   have:(2 ^ 63 - 1:Int) / 1000 * n<=(2 ^ 63 - 1:Int) / 1000 * 1000:=Int.mul_le_mul_of_nonneg_left h1 (by decide)
   exact Int.le_trans this (by decide)
  have e:(2 ^ 63 - 1:Int) / 1000=9223372036854775:=by decide
  omega
 ·split
  ·rename_i hn
   have e:n=0:=by omega
   subst e
   exact ⟨by decide,.str _,H,I.tok _,⟨_,rfl⟩,q⟩
  ·split
   ·rename_i hn hc
    have e:iL z n.toNat=z:=by
     unfold iL
     rw [TN] at hc
     rcases hc with hc | hc
     ·have e:n=1:=by simpa using hc
      subst e
      simp
     ·have e:z.length=0:=by simpa using hc
      have e2:z.cps=#[]:=by
       unfold Z7 at e
       exact Array.eq_empty_of_size_eq_zero e
      obtain ⟨cz⟩:=z
      simp only at e2
      subst e2
      congr 1
      generalize n.toNat=k
      induction k with
      | zero=>rfl
      | succ k ih=>rw [TZ,VT];exact ih
    rw [e] at q
    exact ⟨.str z,H,I,⟨_,rfl⟩,q⟩
   ·exact ⟨by
     have:=zW z n.toNat
     unfold iL at this
     rw [this,Nat.mul_comm]
     have:z.length * n.toNat<=1000 * 1000:=Vn h2 (by omega)
     rw [RI]
     omega,.str _,H,I.tok _,⟨_,rfl⟩,q⟩
def BN:R->R->M R
 | .d (.str z),.d (.int n)=>if 0<=n/\n<=1000/\z.length<=1000 then .ok (.d (.str (iL z n.toNat))) else .bad
 | _,_=>.bad
def lJ:D->String
 | .non=>"NoneType"
 | .bl _=>"bool"
 | .int _=>"int"
 | .str _=>"str"
 | .tup _=>"tuple"
 | .lst _=>"list"
 | .emp=>"dict"
 | .exn _ _ _=>"exc"
 | .dct _ _=>"dict"
def p_ (t T:String):Bool:=t == T || (t == "bool" && T == "int")
def DO:R->Bool
 | .d (.int _)=>true
 | _=>false
def Ky:R->Bool
 | .d (.str _)=>true
 | _=>false
def cW (x y:R):M R:=if DO x then yk x y else if Ky x then sJ x y else sL x y
def gR (x y:R):M R:=if DO x then Kh x y else BN x y
def aW (x y:R):M R:=match x,y with
 | .d (.str z),.d (.int i)=>if z.length<=sizeLine then (match lS z.cps.toList i with
  | some k=>.ok (.d (.str ⟨#[k]⟩))
  | none=>.bad) else .bad
 | x,.d (.int i)=>iB x >>= λxs=>(match lS xs i with
  | some d=>.ok (.d d)
  | none=>.bad)
 | _,_=>.bad
def bC (P:Q8) (w:Ru) (K:Qx) (mg:Str->Option Qy) (base:Sh) (k n:Nat) (x:Str) (Fm:List S->M R):Prop:=
 ∃f fd ps,jw P w K mg base oH k f fd ps (pZ K n Fm)/\mg x=some (.ref f)/\QX K (.ref f)=true/\Binds K fd ps []
theorem J6 {P:Q8}{w:Ru}{K:Qx}{mg:Str->Option Qy}{base:Sh}{x qual:Str}{st:T7}{f:QW}{fd:Ro}{N ps:List Str}{k:Nat}{Fm:List S->M R}(F:cH K x qual st f fd) (hm:mg x=some (.ref f)) (Sc:bh N ps (aq st))
  (hbi:∀(kV doc pm:Qy) (an:Option QW) (cdv ct:Qy) (us:List Qy),us.length=ps.length->aak (QJ x qual (aH st) (aG st) (aq st) .none kV doc pm an cdv ct) ⟨us,[]⟩=pure (ps.zip us)){gB:G O}
  (hb:∀(cdv:Qy) (A:Rx) (outer:List Env) (s:QC) (H:Hp) (E:XK) (J:Hp) (T:Exc->Prop),dY k (A.deeper (WM qual (aq st) s.heap.objs.size f cdv))->
   JO (G3 P w K mg base N qual (aq st) f cdv A outer s H E) ⟨K,H,J,T⟩ (aG st) gB)
  (hF:∀as r,as.length=ps.length->Fm as=.ok r->fin (gB (bq N as))=.ok r):bC P w K mg base (k + 1) ps.length x Fm:=
 ⟨f,fd,ps,Dz F Sc hb hF,hm,F.kp,F.binds hbi⟩
def FJ:List Str->Bool
 | []=>true
 | x::r=>!(r.contains x) && FJ r
theorem bQ:∀{l:List Str},FJ l=true->l.Nodup
 | [],_=>Tv
 | x::r,h=>by
  unfold FJ at h
  rw [QK] at h
  refine Ss.mpr ⟨λz=>?_,bQ h.2⟩
  have:=h.1
  simp [z] at this
theorem E9 {X:Cx}{pins:List (QW×Obj)}{σ:L2.St}{H:Hp}{s:QC}{a C:QW}{dx:Option QW}{ns:List Str}{vs:List V}(I:L2.Inv X pins σ H s) (h:H a=some (DX.XO a C dx)) (xf:XF H dx ns vs):∃ox od,UG s.heap a ox C od/\od.isSome=dx.isSome/\(∀d,dx=some d->∃o,od=some o/\s.heap.get? d=some o):=by
 obtain ⟨⟨oe,fs,h1,h2,h3,h4⟩,_⟩:=I.hok a _ h
 have hn:ZR oe=true:=by unfold ZR;rw [h4]
 rcases xf with ⟨rfl,_⟩ | ⟨d,rfl,_,hd⟩
 ·exact ⟨oe,none,⟨h1,h2,hn,by rw [h3];exact Xq⟩,rfl,λd z=>by cases z⟩
 ·obtain ⟨m,⟨o,es,ep,k1,_⟩,_⟩:=I.hok d _ hd
  exact ⟨oe,some o,⟨h1,h2,hn,by rw [h3];exact k1⟩,rfl,λd' z=>by cases z;exact ⟨o,rfl,k1⟩⟩
def Ai (T:String):Prop:=(∀(K:Qx) (t:String),t∈["NoneType","bool","int","str","tuple","list","dict"]->XG K (.type t) (.type T)=some (p_ t T))/\Zm T=true/\DX.zw.contains (.type T)=false/\p_ "exc" T=false
theorem Ir:Ai "int":=⟨λK t h=>by
 simp only [Q3,Sf,or_false] at h
 rcases h with rfl | rfl | rfl | rfl | rfl | rfl | rfl <;> rfl,by decide +kernel,by decide,by decide⟩
theorem yD:Ai "bool":=⟨λK t h=>by
 simp only [Q3,Sf,or_false] at h
 rcases h with rfl | rfl | rfl | rfl | rfl | rfl | rfl <;> rfl,by decide +kernel,by decide,by decide⟩
theorem kit_tuple:Ai "tuple":=⟨λK t h=>by
 simp only [Q3,Sf,or_false] at h
 rcases h with rfl | rfl | rfl | rfl | rfl | rfl | rfl <;> rfl,by decide +kernel,by decide,by decide⟩
theorem Fq:Ai "list":=⟨λK t h=>by
 simp only [Q3,Sf,or_false] at h
 rcases h with rfl | rfl | rfl | rfl | rfl | rfl | rfl <;> rfl,by decide +kernel,by decide,by decide⟩
theorem zO {T:String}(kit:Ai T):
  bU X (.builtin "isinstance") (λxs H Q=>∃d x,xs=[x,.ty T]/\Rep X.K H d x/\Q (.bl (p_ (lJ d) T)) H):=by
 intro pins s σ H xs us Q I r h
 obtain ⟨d,x,rfl,hd,q⟩:=h
 obtain ⟨u,w',rfl,rx,ry⟩:=vals2 r
 cases ry
 have fin:∀tk,EP X pins σ Q (.bool (p_ (lJ d) T)) {s with toks:=tk}:=λtk=>⟨.bl _,H,I.tok tk,rfl,q⟩
 have F:=iT I
 cases hd with
 | non=>cases rx;exact SK W.kitx_none I.kIn Xq (kit.1 X.K _ (by simp [lJ])) (λz=>nomatch z) fin
 | bl y=>cases rx;exact SK W.kitx_bool I.kIn Xq (kit.1 X.K _ (by simp [lJ])) (λz=>nomatch z) fin
 | int i=>obtain ⟨t,rfl⟩:=rx;exact SK W.kitx_int I.kIn Xq (kit.1 X.K _ (by simp [lJ])) (λz=>nomatch z) fin
 | str y=>obtain ⟨t,rfl⟩:=rx;exact SK W.kitx_str I.kIn Xq (kit.1 X.K _ (by simp [lJ])) (λz=>nomatch z) fin
 | tup h hs=>
  cases rx
  obtain ⟨its,r,o,h1,h2,_⟩:=F.t _ _ h
  exact SK W.kitx_tuple I.kIn ⟨o,h1,h2⟩ (kit.1 X.K _ (by simp [lJ])) (λz=>nomatch z) fin
 | lst h hs=>
  cases rx
  obtain ⟨its,r,o,h1,h2,_⟩:=F.l _ _ h
  exact SK W.kitx_list I.kIn ⟨o,h1,h2⟩ (kit.1 X.K _ (by simp [lJ])) (λz=>nomatch z) fin
 | emp h=>
  cases rx
  obtain ⟨o,h1,h2⟩:=F.e _ h
  exact SK YI I.kIn ⟨o,h1,h2⟩ (kit.1 X.K _ (by simp [lJ])) (λz=>nomatch z) fin
 | dct h _ _ _ _=>
  cases rx
  obtain ⟨o,es,h1,h2,_⟩:=F.d _ _ _ h
  exact SK YI I.kIn ⟨o,h1,h2.1⟩ (kit.1 X.K _ (by simp [lJ])) (λz=>nomatch z) fin
 | exn h1 h2 h3 hs hx=>
  cases rx
  obtain ⟨P,G,E⟩:=hx
  obtain ⟨ox,od,J,_⟩:=E9 I h1 h3
  simp only [lJ,kit.2.2.2] at fin
  exact SK (DX.Ft G E) I.kIn ⟨ox,od,J⟩ (DX.KR E kit.2.1 kit.2.2.1) (λz=>nomatch z) fin
def yp (T:String) (g:G R):G R:=λenv=>g env >>= λr=>.ok (.d (.bl (p_ (lJ r.dat) T)))
def jK:List D->Option (List Bool)
 | []=>some []
 | .bl k::r=>(jK r).map (k::·)
 | _::_=>none
theorem oY {K:Qx}{J:Hp}:∀{ds:List D}{vs:List V}{ks:List Bool},jK ds=some ks->aI K J ds vs->vs=ks.map V.bl
 | [],_,_,h,.nil=>by cases h;rfl
 | .bl x::r,_,ks,h,.cons q rs=>by
  unfold jK at h
  cases z:jK r with
  | none=>rw [z] at h;cases h
  | some ks'=>
   rw [z] at h
   cases h
   cases q
   rw [oY z rs]
   rfl
theorem rT:∀{ks:List Bool}{us:List Qy},Vals (ks.map V.bl) us->us=ks.map TF
 | [],_,.nil=>rfl
 | k::ks,_,.cons r rs=>by
  cases r
  rw [rT rs]
  rfl
theorem all_range (ks:List Bool):(QG ks.length).all (λi=>ks.getD i true)=ks.all id:=by
 induction ks with
 | nil=>rfl
 | cons k r ih=>
  rw [RT,Ve,Us,Xd,Us]
  simp only [XU]
  rw [<-ih]
  rfl
theorem Dd (hc:X.calm=true):bU X (.builtin "all") (λxs H Q=>∃(p:QW) (ks:List Bool),xs=[.ref p]/\cC X.K H p (ks.map V.bl)/\Q (.bl (ks.all id)) H):=by
 intro pins s σ H xs us Q I r h
 obtain ⟨p,ks,rfl,hq,q⟩:=h
 obtain ⟨u,rfl,rx⟩:=vals1 r
 cases rx
 obtain ⟨its,r',pl,hz⟩:=I.list hq
 have hi:=rT r'
 subst hi
 have PR:p≠s.heap.objs.size:=by
  obtain ⟨o,h1,_⟩:=pl.isList
  exact Rf (QY h1)
 refine call_all_walk (Wj pl.isList ⟨s.heap.objs.size,_,_,_,_,_,(λi=>ks.getD i true),rfl,abq (A:=X.A.in1) (show X.A.in1.handled=none from I.ok.hd hc) s.heap.objs.size p PR (ks.map TF).toArray,⟨⟨_,QV _ rfl,rfl,rfl⟩,Y_ pl.isList _⟩,?_,λh' tk k=>?_⟩)
 ·intro i v s' Q' E' hP hQ
  have e:∃k,ks[i]?=some k/\v=.bool k:=by
   have hP':(ks.map TF)[i]?=some v:=by simpa using hP
   rw [Q_] at hP'
   cases z:ks[i]? with
   | none=>rw [z] at hP';cases hP'
   | some k=>rw [z] at hP';cases hP';exact ⟨k,rfl,rfl⟩
  obtain ⟨k,e1,rfl⟩:=e
  simp only at hQ
  rw [RE,e1] at hQ
  exact RN hQ
 ·have sz:(ks.map TF).toArray.size=ks.length:=by simp
  rw [sz,all_range]
  refine ⟨.bl (ks.all id),H,?_,rfl,q⟩
  refine I.kept λb o e=>k b o (λz=>?_) (QI _ e)
  have:b=s.heap.objs.size:=by simpa using z
  exact absurd (this▸QY e) (SG _)
def rG:List R->M R
 | [r]=>j_ r >>= λxs=>match jK xs with
  | some ks=>.ok (.d (.bl (ks.all id)))
  | none=>.bad
 | _=>.bad
theorem CY:RL "all"=some (.builtin "all"):=by decide +kernel
def Oq (neg:Bool):R->R->M R
 | .d (.str i),.d (.str j)=>.ok (.d (.bl (if neg then !(!(WC j i 0 j.length 1).isEmpty) else !(WC j i 0 j.length 1).isEmpty)))
 | _,_=>.bad
def Ko (p q:Int->Int->Bool) (ga gb gc:G R):G R:=λenv=>ga env >>= λx=>gb env >>= λy=>match x,y with
 | .d (.int i),.d (.int j)=>if p i j then (gc env >>= λz=>match z with
  | .d (.int k)=>.ok (.d (.bl (q j k)))
  | _=>.bad) else .ok (.d (.bl false))
 | _,_=>.bad
def Ot:List R->M R
 | [.d (.int i),.d (.int j)]=>.ok (.d (.int (if j > i then j else i)))
 | _=>.bad
def BL:List R->M R
 | [.d (.int i),.d (.int j)]=>.ok (.d (.int (if j < i then j else i)))
 | _=>.bad
theorem IP {d:D}{v:V}{x:Str}{u:Qy}(hm:X.mg x=some u) (r:RelV v u) (hr:∀J,Rep c.K J d v) (hg:Gl X x:=by rfl) (hd:(x == ("__debug__":Str))=false:=by decide):PD X c (.Name x pos) (gC d):=tN hr (AU hg hm r hd)
theorem JY {pins:List (QW×Obj)}{σ:L2.St}{H:Hp}{s:QC}(I:Inv X pins σ H s):Ub < s.heap.objs.size:=by
 have h:QM < s.heap.objs.size:=(I.mod.glob.keeps I.bk).lt
 exact UR (by decide) h
theorem DZ:cT X (Uq .Add) (λx y H Q=>∃a b xs ys,x=.ref a/\y=.ref b/\cY X.K H a xs/\cY X.K H b ys/\xs.length + ys.length<=sizeLine/\
  (xs=[]->Q (.ref b) H)/\(ys=[]->Q (.ref a) H)/\∀p,H p=none->Q (.ref p) (upd H p (.tup (xs++ys)))):=by
 intro pins s σ H x y v u Q I rx ry h
 obtain ⟨a,b,xs,ys,rfl,rfl,ha,hb,hz,q0,q1,q2⟩:=h
 by_cases hx:xs=[]
 ·cases rx
  cases ry
  obtain ⟨its,r1,p1,_⟩:=I.tuple ha
  obtain ⟨its2,r2,p2,_⟩:=I.tuple hb
  have he:its=[]:=r1.nil_iff.mpr hx
  subst he
  obtain ⟨⟨cls,dd,data,sl⟩,ho,hc,n,hd⟩:=id p1
  obtain ⟨⟨cls2,dd2,data2,sl2⟩,ho2,hc2,n2,hd2⟩:=id p2
  simp only at hc hd hc2 hd2
  subst hc hd hc2 hd2
  exact YV ⟨_,ho,rfl⟩ ⟨_,ho2,rfl⟩ WN X8 Vb UZ (UQ _ _) (tuple_addW0 a b _ _ n n2 dd dd2 sl sl2 rfl) ⟨ho,ho2,⟨.ref b,H,I,rfl,q0 hx⟩⟩
 ·exact IF pins s σ H (.ref a) (.ref b) v u Q I rx ry ⟨a,b,xs,ys,rfl,rfl,ha,hb,hx,hz,q1,λ_=>q2⟩
def BJ:R->R->M R
 | .d (.tup xs),.d (.tup ys)=>if xs.length + ys.length<=sizeLine then .ok (.d (.tup (xs++ys))) else .bad
 | _,_=>.bad
theorem HN (hK:X.K=c.K):BD c (λx y H Q=>∃a b xs ys,x=.ref a/\y=.ref b/\cY X.K H a xs/\cY X.K H b ys/\xs.length + ys.length<=sizeLine/\
  (xs=[]->Q (.ref b) H)/\(ys=[]->Q (.ref a) H)/\∀p,H p=none->Q (.ref p) (upd H p (.tup (xs++ys)))) BJ:=by
 intro He He' J H x y u v Q hp rx ry w
 unfold BJ at w
 split at w
 ·rename_i ds es
  cases rx with
  | tup h1 s1=>
   cases ry with
   | tup h2 s2=>
    split at w
    ·rename_i hz
     rw [s1.length,s2.length] at hz
     refine ⟨_,_,_,_,rfl,rfl,by rw [hK];exact fP hp.sub h1,by rw [hK];exact fP hp.sub h2,hz,λe=>?_,λe=>?_,λp hp'=>w _ _ _ (Ext.newJ hp.sub hp' _) (pU hp hp' (s1.append s2))⟩
     ·have e':ds=[]:=Vx (by rw [s1.length,e];rfl)
      subst e'
      exact w _ J H (Ext.refl hp.sub) (.tup h2 s2)
     ·have e':es=[]:=Vx (by rw [s2.length,e];rfl)
      subst e'
      rw [S_] at w
      exact w _ J H (Ext.refl hp.sub) (.tup h1 s1)
    ·exact w.elim
 ·exact w.elim
def Kz:R->Bool
 | .d (.tup _)=>true
 | _=>false
def dO (x y:R):M R:=if Kz x then BJ x y else cW x y
def intsOf:List D->Option (List Int)
 | []=>some []
 | .int i::r=>(intsOf r).map (i::·)
 | _::_=>none
theorem nV {K:Qx}{J:Hp}:∀{ds:List D}{vs:List V}{ns:List Int},intsOf ds=some ns->aI K J ds vs->vs=ns.map V.int
 | [],_,_,h,.nil=>by cases h;rfl
 | .int x::r,_,ks,h,.cons q rs=>by
  unfold intsOf at h
  cases z:intsOf r with
  | none=>rw [z] at h;cases h
  | some ks'=>
   rw [z] at h
   cases h
   cases q
   rw [nV z rs]
   rfl
def signs (x:Str):List D:=x.cps.toList.map λk=>.str ⟨#[k]⟩
def Ou (g:G R):G (List D):=λenv=>g env >>= λr=>match r with
 | .d (.str x)=>.ok (signs x)
 | _=>.bad
theorem Ac {prog:Q8}{w:Ru}{A:Rx}{E:Qy->QC->Prop}{s:QC}{t sl:QW}{items:Array Qy}{vl vu:Qy}{lo hi:Option Int}{Q:Qy->QC->Prop}(ht:aaU s.heap t items) (hs:s.heap.IsSliceOf sl vl vu .none) (pl:X_ vl lo) (pu:X_ vu hi)
  (hw:HT.bM items.size 0 lo=0/\HT.bM items.size items.size hi=items.size) (h:Q (.ref t) s):Q7 (Rb prog w) A (YA (.ref t) (.ref sl)) Q E s:=by
 obtain ⟨os,hos,hcs,hds⟩:=id hs
 have Po:s.TypeIs (.ref sl) "slice":=⟨os,hos,hcs⟩
 unfold YA
 try with_reducible refine Rn ?_
 first | refine Qw (Qz ?_) | skip
 refine Qw (YB ht.typeIs (by decide) ?_)
 refine Qw (Su (name:=Vr "__getitem__") ht.typeIs RO
  (RD RO ht.typeIs XQ ?_ (Yc _ _)))
 show Q7 _ _ (Uz (.ref t) >>= _) _ _ s
 refine Qw (aal ht ?_)
 refine Qw (Vs Po ?_)
 rw [if_pos (by decide)]
 refine Qw (HT.lG hs pl pu ?_)
 have hyes:(((HT.bM items.size 0 lo:Nat):Int) == 0 && (1:Int) == 1 && (HT.bM items.size items.size hi - HT.bM items.size 0 lo) == items.size)=true:=by
  rw [hw.1,hw.2]
  simp
 show Q7 _ _ (if (((HT.bM items.size 0 lo:Nat):Int) == 0 && (1:Int) == 1 && (HT.bM items.size items.size hi - HT.bM items.size 0 lo) == items.size)=true then _ else _) _ _ s
 rw [if_pos hyes]
 unfold ZL
 refine Qw (Qw (Vs ht.typeIs (Qz ?_)))
 rw [if_pos (by decide)]
 exact Qw (Wk (Qz ⟨_,rfl,Qz h⟩))
theorem Ey:su X (λx lo hi H Q=>∃a xs,x=.ref a/\cY X.K H a xs/\((HT.bM xs.length 0 lo=0/\HT.bM xs.length xs.length hi=xs.length)->Q (.ref a) H)/\∀p,H p=none->Q (.ref p) (upd H p (.tup (mH xs lo hi)))):=by
 intro pins s σ H x v vl vu lo hi sl Q I rx hs pl pu h
 obtain ⟨a,xs,rfl,hx,q0,q1⟩:=h
 by_cases hw:HT.bM xs.length 0 lo=0/\HT.bM xs.length xs.length hi=xs.length
 ·cases rx
  obtain ⟨its,r,ht,hz⟩:=I.tuple hx
  have hlen:its.toArray.size=xs.length:=by rw [QO];exact r.length.symm
  exact ⟨"tuple",_,RO.lookup,ht.typeIs,Ac ht hs pl pu (by rw [hlen];exact hw) ⟨.ref a,H,I,rfl,q0 hw⟩⟩
 ·exact LO pins s σ H (.ref a) v vl vu lo hi sl Q I rx hs pl pu ⟨a,xs,rfl,hx,hw,q1⟩
theorem BH {xs:List D}{lo hi:Option Int}(h:HT.bM xs.length 0 lo=0/\HT.bM xs.length xs.length hi=xs.length):cutD xs lo hi=xs:=by
 unfold cutD
 rw [h.1,h.2]
 simp
def E_:R->Option Int->Option Int->M R
 | .d (.tup xs),l,u=>.ok (.d (.tup (cutD xs l u)))
 | _,_,_=>.bad
theorem NS (hK:X.K=c.K) (He J H:Hp) (x:R) (v:V) (l u:Option Int) (Q:VK) (hp:HI c J H) (rx:RR c He J H x v) (w:cJ (E_ x l u) (λz=>∀w J' H',Ext J H J' H'->RR c H J' H' z w->Q w H') c.T):
  ∃a xs,v=.ref a/\cY X.K H a xs/\((HT.bM xs.length 0 l=0/\HT.bM xs.length xs.length u=xs.length)->Q (.ref a) H)/\∀p,H p=none->Q (.ref p) (upd H p (.tup (mH xs l u))):=by
 unfold E_ at w
 split at w
 ·rename_i ds
  cases rx with
  | tup h1 s1=>
   refine ⟨_,_,rfl,by rw [hK];exact fP hp.sub h1,λhw=>?_,λp hp'=>w _ _ _ (Ext.newJ hp.sub hp' _) (pU hp hp' (s1.cut _ _))⟩
   rw [<-s1.length] at hw
   rw [BH hw] at w
   exact w _ J H (Ext.refl hp.sub) (.tup h1 s1)
 ·exact w.elim
def uF (x:R) (l u:Option Int):M R:=if Kz x then E_ x l u else Nt x l u
def Bf (K:Qx) (mg:Str->Option Qy) (x:Str) (d:D):Prop:=∃u v,mg x=some u/\RelV v u/\∀J,Rep K J d v
theorem C_:RL "int"=some (.type "int"):=by decide +kernel
theorem sE:RL "bool"=some (.type "bool"):=by decide +kernel
theorem zJ:RL "tuple"=some (.type "tuple"):=by decide +kernel
theorem BE:RL "list"=some (.type "list"):=by decide +kernel
end
section
variable {X:Cx}{c:C}{e a b tg:Rp}{es:List Rp}{ga gb g:G R}{pos:Pos}{st:T7}{t u:G O}{tb:G Bool}
def sS:G O:=λ_=>.bad
def yq (g:G R):G R:=λenv=>g env >>= λr=>match r with
 | .d (.int i)=>.ok (.d (.int (-i)))
 | _=>.bad
def zp:R->M Bool
 | .d .non=>.ok false
 | .d (.bl b)=>.ok b
 | .d (.int i)=>.ok (i != 0)
 | .d (.str y)=>if y.length<=sizeLine then .ok ((y.length:Int) != 0) else .bad
 | .d (.tup xs)=>.ok (!xs.isEmpty)
 | .d (.lst xs)=>.ok (!xs.isEmpty)
 | .d .emp=>.ok false
 | .d (.exn _ _ _)=>.bad
 | .d (.dct _ _)=>.bad
 | .l _ xs=>.ok (!xs.isEmpty)
 | _=>.bad
theorem Kw {K:Qx}{J:Hp}{ds:List D}{vs:List V}(h:aI K J ds vs):ds.isEmpty=vs.isEmpty:=by
 cases h <;> rfl
theorem JA {He J H:Hp}(hp:HI c J H){Q:Bool->Prop}{T:Exc->Prop}:∀{r:R}{v:V},RR c He J H r v->cJ (zp r) Q T->∃k,EU c.K v H k/\Q k
 | .d .non,_,h,w=>by cases h;exact ⟨_,rfl,w⟩
 | .d (.bl b),_,h,w=>by cases h;exact ⟨_,rfl,w⟩
 | .d (.int i),_,h,w=>by cases h;exact ⟨_,rfl,w⟩
 | .d (.str y),_,h,w=>by
  cases h
  unfold zp at w
  simp only at w
  split at w
  ·rename_i hz;exact ⟨_,⟨hz,rfl⟩,w⟩
  ·exact w.elim
 | .d (.tup xs),_,h,w=>by
  cases h with
  | tup h1 h2=>exact ⟨_,.inr (.inl ⟨_,fP hp.sub h1,rfl⟩),by rw [<-Kw h2];exact w⟩
 | .d (.lst xs),_,h,w=>by
  cases h with
  | lst h1 h2=>exact ⟨_,.inl ⟨_,hp.sub.seq h1,rfl⟩,by rw [<-Kw h2];exact w⟩
 | .d .emp,_,h,w=>by
  cases h with
  | emp h1=>exact ⟨_,.inr (.inr ⟨_,hp.sub _ _ h1,rfl⟩),w⟩
 | .d (.exn _ _ _),_,_,w=>w.elim
 | .d (.dct _ _),_,_,w=>w.elim
 | .mo _ _,_,_,w=>w.elim
 | .mb _ _,_,_,w=>w.elim
 | .mf _ _,_,_,w=>w.elim
 | .l m xs,_,h,w=>by
  obtain ⟨a,vs,rfl,h1,h2⟩:=RR.list hp h rfl
  exact ⟨_,.inl ⟨_,h1,rfl⟩,by rw [<-Kw h2];exact w⟩
def uI (g:G R):G Bool:=λenv=>g env >>= zp
def lM (tb:G Bool) (u:G O):Nat->Ev->M O
 | 0,_=>.bad
 | n + 1,env=>tb env >>= λk=>if k=true then u env >>= λo=>(match o with
  | .nx e=>lM tb u n e
  | .ct e=>lM tb u n e
  | .bk e=>.ok (.nx e)
  | .rt r=>.ok (.rt r)) else .ok (.nx env)
def yt (n:Nat) (tb:G Bool) (u:G O):G O:=λenv=>lM tb u n env
theorem aI.eraseIdx {K:Qx}{J:Hp}:∀{ds:List D}{vs:List V}(k:Nat),aI K J ds vs->aI K J (ds.eraseIdx k) (vs.eraseIdx k)
 | _,_,_,.nil=>by rw [YJ,YJ];exact .nil
 | _,_,0,.cons _ t=>t
 | _,_,k + 1,.cons r t=>.cons r (aI.eraseIdx k t)
def Ow (i j:Nat):G O:=λenv=>match env[j]? with
 | some (some (.own xs))=>(match xs[xs.length - 1]? with
  | some d=>.ok (.nx ((env.set j (some (.own xs.dropLast))).set i (some (.d d))))
  | none=>.bad)
 | _=>.bad
def m9 (i j:Nat) (g:G R):G O:=λenv=>match env[i]?,env[j]? with
 | some (some (.own zs)),some (some (.own xs))=>if i=j then .bad else g env >>= λr=>(match r with
  | .d (.int k)=>if 0<=k/\k.toNat < xs.length/\zs.length < sizeLine/\xs.length<=sizeLine then (match xs[k.toNat]? with
   | some d=>.ok (.nx ((env.set j (some (.own (xs.eraseIdx k.toNat)))).set i (some (.own (zs++[d])))))
   | none=>.bad) else .bad
  | _=>.bad)
 | _,_=>.bad
theorem MR {k:Int}{n:Nat}(h0:0<=k) (h:k.toNat < n):Yd k n=some k.toNat:=by
 unfold Yd
 have h1:¬k < 0:=by omega
 have h2:k < n:=by omega
 simp [h1,h0,h2]
theorem K8 {J H:Hp}{σ:L2.St}{env:Ev}(sr:SR c J H σ env){i j:Nat}{xs ys:List D}{p q:QW}(hij:i≠j) (hi:env[i]?=some (some (.own xs))) (hj:env[j]?=some (some (.own ys))) (h1:σ[i]?=some (some (.ref p))) (h2:σ[j]?=some (some (.ref q))):p≠q:=λz=>
 sr.sep i j (.inl xs) (.inl ys) (.ref p) hij hi hj h1 (z▸h2)
end
open PySem.AutoSeq1 in
theorem Dy (T:String) (hT:T="tuple"\/T="list") (l b:QW) (xs ys:Array Qy) (n m:Nat) (dd:Option QW) (sl:Array (Option Qy)) (z0:¬(!xs.isEmpty && SO (xs.size + ys.size))=true) (z1:xs.size<=sizeLine) (z2:xs.size + ys.size<=sizeLine + 1):
  Meets (UN.«list.extend» ⟨[.ref l,.ref b],[]⟩) λ_ R s=>s.heap.get? l=some {cls:=.type "list",dict:=none,data:=.seq xs n,slots:=#[]}/\
   s.heap.get? b=some {cls:=.type T,dict:=dd,data:=.seq ys m,slots:=sl}/\R (.ok (.ret RB)) {s with heap:=s.heap.update l (Sj λx=>x++ys),toks:=s.toks}:=
 .of_wp λprog w A R s h=>by
  obtain ⟨hp,gs,dr,tk,os⟩:=s
  obtain ⟨h1,h2,h3⟩:=h
  have t1:=AutoSeq1.idx_int
  have t2:=US
  have t3:=AutoSeq1.sub_list_list
  have t4:=AutoSeq1.sub_tuple_list
  have t5:=AutoSeq1.sub_list_tuple
  have z3:(xs++ys).size<=sizeLine + 1:=by
   rw [YH]
   exact z2
  rcases hT with rfl | rfl
  ·wp_walk using (VU h1 rfl (hz:=z1) (_hz':=z3)),Td h1,Td h2
   exact ⟨_,rfl,h3⟩
  ·wp_walk using (VU h1 rfl (hz:=z1) (_hz':=z3)),Td h1,Td h2
   exact ⟨_,rfl,h3⟩
section
variable {X:Cx}{c:C}{e a b tg:Rp}{es:List Rp}{ga gb g:G R}{pos:Pos}
def ND (K:Qx):V->List V->Hp->VK->Prop:=λx vs H Q=>∃l b xs zs,x=.ref l/\vs=[.ref b]/\H l=some (.lst xs)/\(cC K H b zs\/cY K H b zs)/\xs.length + zs.length<=sizeLine/\Q .non (upd H l (.lst (xs++zs)))
theorem KZ:GV X "list.extend" (ND X.K):=by
 intro pins s σ H x vs v us Q I rx rv h
 obtain ⟨l,b,xs,zs,rfl,rfl,hH,hB,hz,q⟩:=h
 cases rx
 obtain ⟨u,rfl,ru⟩:=rv.one
 cases ru
 obtain ⟨z,its,n,r,hl,e⟩:=I.lstM hH
 have obj:∃T its2,(T="tuple"\/T="list")/\Vals zs its2/\∃dd m sl,s.heap.get? b=some {cls:=.type T,dict:=dd,data:=.seq its2.toArray m,slots:=sl}:=by
  rcases hB with hB | hB
  ·obtain ⟨its2,r2,pl,_⟩:=I.list hB
   obtain ⟨⟨cls,dd,data,sl⟩,ho,hc,m,hd⟩:=pl.isList
   simp only at hc hd
   subst hc hd
   exact ⟨"list",its2,.inr rfl,r2,dd,m,sl,ho⟩
  ·obtain ⟨its2,r2,pl,_⟩:=I.tuple hB
   obtain ⟨⟨cls,dd,data,sl⟩,ho,hc,m,hd⟩:=pl
   simp only at hc hd
   subst hc hd
   exact ⟨"tuple",its2,.inl rfl,r2,dd,m,sl,ho⟩
 obtain ⟨T,its2,hT,r2,dd,m,sl,e2⟩:=obj
 have hl2:=r2.length
 have hsz:its.toArray.size + its2.toArray.size<=sizeLine:=by rw [QO,QO];omega
 have ON:¬(!its.toArray.isEmpty && SO (its.toArray.size + its2.toArray.size))=true:=by
  rw [yL hsz,Uc]
  exact Rq
 refine YD Ye ⟨_,e,rfl⟩ XR (Xs _ _) (Dy T hT l b its.toArray its2.toArray n m dd sl ON (by rw [QO];omega) (by omega)) ⟨e,e2,?_⟩
 refine ⟨.non,_,I.lset (its':=its++its2) hH e (by simp) (r.append r2) ?_,rfl,q⟩
 rw [Rh]
 omega
def yo (i:Nat) (g:G R):G O:=λenv=>match env[i]? with
 | some (some (.own xs))=>g env >>= λr=>iB r >>= λys=>if xs.length + ys.length<=sizeLine then .ok (.nx (env.set i (some (.own (xs++ys))))) else .bad
 | _=>.bad
def yO:V->Option (Option Bool)
 | .non=>some none
 | .bl k=>some (some k)
 | _=>none
theorem Gy {x y:V}{v u:Qy}{o:Option Bool}(rx:RelV x v) (ry:RelV y u) (h:yO y=some o):isSame v u=pure (yO x == some o):=by
 cases y with
 | non=>
  cases h
  cases ry
  cases x with
  | non=>cases rx;rfl
  | bl k=>cases rx;rfl
  | int i=>obtain ⟨t,rfl⟩:=rx;rfl
  | str z=>obtain ⟨t,rfl⟩:=rx;rfl
  | byt z=>obtain ⟨t,rfl⟩:=rx;rfl
  | flt z=>obtain ⟨t,rfl⟩:=rx;rfl
  | ref p=>cases rx;rfl
  | ty n=>cases rx;rfl
 | bl k'=>
  cases h
  cases ry
  cases x with
  | non=>cases rx;rfl
  | bl k=>cases rx;cases k <;> cases k' <;> rfl
  | int i=>obtain ⟨t,rfl⟩:=rx;rfl
  | str z=>obtain ⟨t,rfl⟩:=rx;rfl
  | byt z=>obtain ⟨t,rfl⟩:=rx;rfl
  | flt z=>obtain ⟨t,rfl⟩:=rx;rfl
  | ref p=>cases rx;rfl
  | ty n=>cases rx;rfl
 | _=>cases h
theorem D5:cT X (R0 .Is) (λx y H Q=>∃o,yO y=some o/\Q (.bl (yO x == some o)) H):=by
 intro pins s σ H x y v u Q I rx ry h
 obtain ⟨o,ho,q⟩:=h
 show Q7 _ _ (do return TF (<-isSame v u)) _ _ s
 rw [Gy rx ry ho]
 exact Qw (Qz (Qz ⟨.bl _,H,I,rfl,q⟩))
def B4:R->Option (Option Bool)
 | .d .non=>some none
 | .d (.bl k)=>some (some k)
 | _=>none
def sM (neg:Bool) (x y:R):M R:=match B4 y with
 | some o=>.ok (.d (.bl (if neg then !(B4 x == some o) else B4 x == some o)))
 | none=>.bad
theorem qu {He J H:Hp}:∀{r:R}{v:V},RR c He J H r v->yO v=B4 r
 | .d .non,_,h=>by cases h;rfl
 | .d (.bl _),_,h=>by cases h;rfl
 | .d (.int _),_,h=>by cases h;rfl
 | .d (.str _),_,h=>by cases h;rfl
 | .d (.tup _),_,h=>by cases h;rfl
 | .d (.lst _),_,h=>by cases h;rfl
 | .d .emp,_,h=>by cases h;rfl
 | .d (.exn _ _ _),_,h=>by cases h;rfl
 | .d (.dct _ _),_,h=>by cases h;rfl
 | .l .fresh _,_,h=>by obtain ⟨_,_,rfl,_⟩:=h;rfl
 | .l .own _,_,h=>by obtain ⟨_,_,rfl,_⟩:=h;rfl
 | .l .bor _,_,h=>by obtain ⟨_,_,rfl,_⟩:=h;rfl
 | .mo _ _,_,h=>by obtain ⟨_,rfl,_⟩:=h;rfl
 | .mb _ _,_,h=>by obtain ⟨_,rfl,_⟩:=h;rfl
 | .mf _ _,_,h=>by obtain ⟨_,rfl,_⟩:=h;rfl
end
section
variable {X:Cx}{c:C}{e a b d tg:Rp}{es:List Rp}{ga gb g:G R}{pos:Pos}
def Nv (K:Qx) (tl:TE):TI:=λσ H R=>tl σ H λx H1=>∃a,x=.ref a/\(((∃xs,cC K H1 a xs)/\R (GP K a) H1)\/((∃xs,cY K H1 a xs)/\R (GR K a) H1))
theorem Ec {tl:TE}(hl:PE X e tl):PI X tg e (Nv X.K tl):=λpins s σ H R I h=>bP (hl pins s σ H _ I h) λv s1 ⟨x,H1,I1,r1,a,ex,q1⟩=>by
 subst ex
 cases r1
 have fp:∀b∈[s1.heap.objs.size],jW X pins H1 b:=λb hb=>by
  rw [Q6] at hb
  subst hb
  exact I1.fpOk (QL _) (I1.hok.fresh (QL _))
 rcases q1 with ⟨⟨xs,hq⟩,q⟩ | ⟨⟨xs,hq⟩,q⟩
 ·obtain ⟨its,rv,p,hz⟩:=I1.list hq
  exact Wj p.isList ⟨s1.heap.objs.size,[s1.heap.objs.size],_,_,H1,rfl,I1.kept (t':=s1.toks) (λb o e=>QI _ e),ED a _,⟨_,QV _ rfl,rfl,rfl⟩,fp,q⟩
 ·obtain ⟨its,rv,p,hz⟩:=I1.tuple hq
  exact V5 (show s1.heap.IsTuple a its.toArray from p) ⟨s1.heap.objs.size,[s1.heap.objs.size],_,_,H1,rfl,I1.kept (t':=s1.toks) (λb o e=>QI _ e),CB a _,⟨_,QV _ rfl,rfl,rfl⟩,fp,q⟩
theorem v_ {J1:Hp}{a:QW}{vs:List V}{ds:List D}{U:Hp->Hp->Prop}(hU:∀J H,U J H->aU J1 J) (h:cY c.K J1 a vs) (hs:aI c.K J1 ds vs):Walk c (GR c.K a) ds J1 U:=by
 intro i J H hp u
 have h':=fP hp.sub (fP (hU J H u) h)
 refine ⟨λhl=>⟨vs,h',by rw [<-hs.length];exact hl⟩,λd hd=>?_⟩
 obtain ⟨v,k1,k2⟩:=hs.get hd
 refine ⟨⟨vs,v,h',k1⟩,λx H2 ⟨e,hy⟩=>?_⟩
 subst e
 have:=hy vs h'
 rw [k1] at this
 cases this
 exact ⟨J,Ext.refl hp.sub,k2.mono (hU J _ u)⟩
def pe (g:G R):G (List D):=λenv=>g env >>= λr=>match r with
 | .d (.tup xs)=>.ok xs
 | .d (.lst xs)=>.ok xs
 | .l .fresh xs=>.ok xs
 | .l .bor xs=>.ok xs
 | _=>.bad
def fc (g:G R):G (List D):=λenv=>g env >>= iB
end
section
variable {X:Cx}{c:C}{st:T7}{g:G O}
theorem SR.frz {J H:Hp}{σ:L2.St}{env:Ev}(sr:SR c J H σ env){i:Nat}{x:Mn}{a:QW}{o:HO}{d:D}(hi:env[i]?=some (some (mS x))) (h1:σ[i]?=some (some (.ref a))) (h2:H a=some o) (h3:J a=none) (h4:c.H0 a=none) (h5:Rep c.K (L2.upd J a o) d (.ref a)):∃J',aU J J'/\SR c J' H σ (env.set i (some (.d d))):=by
 have s1:aU J (L2.upd J a o):=cL h3 _
 refine ⟨L2.upd J a o,s1,⟨⟨λb o q=>?_,sr.hp.ent,sr.hp.entJ.trans s1,λb k1 k2=>?_⟩,by simpa using sr.len,λj y q=>?_,λj k ys zs w hjk q1 q2 q3 q4=>?_⟩⟩
 ·by_cases hb:b=a
  ·subst hb;rw [bX] at q;cases q;exact h2
  ·rw [bD hb] at q;exact sr.hp.sub b o q
 ·have:b≠a:=λz=>k1 (z▸h4)
  rw [bD this];exact sr.hp.frz b k1 k2
 ·rcases gr q with ⟨rfl,hl,rfl⟩ | ⟨hj,q⟩
  ·exact ⟨.ref a,h1,h5⟩
  ·obtain ⟨w,k1,k2⟩:=sr.at_ j y q
   refine ⟨w,k1,?_⟩
   have hne:∀(z:Mn) p',y=mS z->w=.ref p'->p'≠a:=λz p' e ew ep=>sr.sep i j x z (.ref a) (S8 hj) hi (e▸q) h1 (ep▸ew▸k1)
   cases y with
   | d x=>exact Rep.mono s1 k2
   | bor zs=>obtain ⟨p,us,m1,m2,m3⟩:=k2;exact ⟨p,us,m1,m2,m3.mono s1⟩
   | db _ _=>obtain ⟨p,m1,m2⟩:=k2;exact ⟨p,m1,m2.mono s1 (aU.refl _)⟩
   | fn _=>exact k2
   | dk ks zs=>
    obtain ⟨p,rfl,m1,m2,m3⟩:=k2
    exact ⟨p,rfl,m1.mono s1 (aU.refl _),by rw [bD (hne (.inr (ks,zs)) p rfl rfl)];exact m2,m3⟩
   | own zs=>
    obtain ⟨p,us,rfl,m1,m2,m3,m4⟩:=k2
    exact ⟨p,us,rfl,m1,by rw [bD (hne (.inl zs) p rfl rfl)];exact m2,m3,m4.mono s1⟩
 ·have f:∀(k:Nat) (ys:Mn),(env.set i (some (.d d)))[k]?=some (some (mS ys))->env[k]?=some (some (mS ys)):=λk ys q=>by
   rcases gr q with ⟨rfl,_,z⟩ | ⟨_,q⟩
   ·cases ys <;> cases z
   ·exact q
  exact sr.sep j k ys zs w hjk (f j ys q1) (f k zs q2) q3 q4
def jZ (i:Nat) (g:G O):G O:=λenv=>match env[i]? with
 | some (some (.own xs))=>g (env.set i (some (.d (.lst xs))))
 | some (some (.dk ks vs))=>g (env.set i (some (.d (.dct ks vs))))
 | _=>g env
end
structure QD (X:Cx) (c:C) (x0:Rp) (x1:G R):Prop where
 h:PD X c x0 x1
structure QB (X:Cx) (c:C) (x0:Rp) (x1:G Bool):Prop where
 h:PB X c x0 x1
structure kQ (X:Cx) (c:C) (x0:List Rp) (x1:G (List R)):Prop where
 h:GY X c x0 x1
structure CP (X:Cx) (c:C) (x0:List Rp) (x1:G (List D)):Prop where
 h:N7 X c x0 x1
structure iQ (X:Cx) (c:C) (x0:T7) (x1:G O):Prop where
 h:Ak X c x0 x1
structure qJ (X:Cx) (c:C) (x0:List T7) (x1:G O):Prop where
 h:JO X c x0 x1
structure xK (X:Cx) (c:C) (x0:Rp) (x1:G Bool):Prop where
 h:N8 X c x0 x1
structure kR (X:Cx) (c:C) (x0:Rp) (x1:GT):Prop where
 h:jd X c x0 x1
structure Bo (X:Cx) (c:C) (x0:List Rp) (x1:rW):Prop where
 h:Nm X c x0 x1
structure xM (X:Cx) (c:C) (x0:Rp) (x1:Rp) (x2:G (List D)):Prop where
 h:xJ X c x0 x1 x2
structure qK (X:Cx) (c:C) (x0:Rp) (x1:Rp) (x2:G (List D)):Prop where
 h:oW X c x0 x1 x2
structure jX (X:Cx) (c:C) (x0:List Rp) (x1:G Bool):Prop where
 h:gJ X c x0 x1
structure GZ (X:Cx) (c:C) (x0:Option Rp) (x1:GO):Prop where
 h:JP X c x0 x1
section
variable {X:Cx}{c:C}{e a b:Rp}{ga gb:G R}{pos:Pos}
theorem aa (i:Nat){x:Str}(hN:X.N[i]?=some x:=by rfl) (hv:qL X.env.scope x:=by first | exact Vt rfl | exact Ua (Vt rfl) | exact Ua (Ua rfl)) (hd:(x == ("__debug__":Str))=false:=by decide)
  (hcd:(x == ("__classdict__":Str))=false:=by decide):QD X c (.Name x pos) (af i):=⟨IQ (lg hN hv hd hcd)⟩
theorem az {i:Int}{j:Nat}:QD X c (.Constant (.int i) j pos) (gC (.int i)):=⟨tN (λ_=>.int i) Lb⟩
theorem nt {i:Bool}{j:Nat}:QD X c (.Constant (.bool i) j pos) (gC (.bl i)):=⟨tN (λ_=>.bl i) ME⟩
theorem kK {j:Nat}:QD X c (.Constant .none j pos) (gC .non):=⟨tN (λ_=>.non) Ld⟩
theorem uT {x:Str}{j:Nat}:QD X c (.Constant (.str x) j pos) (gC (.str x)):=⟨tN (λ_=>.str x) Lg⟩
theorem A2 (ha:QD X c a ga) (hb:QD X c b gb):QD X c (.BinOp a .Sub b pos) (g2 Fb ga gb):=have ha:=ha.h;have hb:=hb.h;⟨oj K6 (gW λ_ _ _=>.int _) ha hb⟩
theorem eK (ha:QD X c a ga) (hb:QD X c b gb):QD X c (.BinOp a .FloorDiv b pos) (g2 ig ga gb):=have ha:=ha.h;have hb:=hb.h;⟨oj IG (Bx (λi j h=>Im h) λ_ _ _=>.int _) ha hb⟩
theorem b8 (ha:QD X c a ga) (hb:QD X c b gb):QD X c (.BinOp a .Mod b pos) (g2 dH ga gb):=have ha:=ha.h;have hb:=hb.h;⟨oj K2 (Bx (λi j h=>by unfold KJ at h;exact of_decide_eq_true h) λ_ _ _=>.int _) ha hb⟩
theorem Ji (ha:QD X c a ga) (hb:QD X c b gb):QD X c (.BinOp a .Pow b pos) (g2 Kl ga gb):=have ha:=ha.h;have hb:=hb.h;⟨oj K5 (Bx (λi j h=>Ip h) λ_ _ _=>.int _) ha hb⟩
theorem En (ha:QD X c a ga) (hb:QD X c b gb):QD X c (.Compare a [.Gt] [b] pos) (g2 (jO λi j=>.bl (decide (j < i))) ga gb):=have ha:=ha.h;have hb:=hb.h;⟨pO qv (gW λ_ _ _=>.bl _) ha hb⟩
theorem au:kQ X c [] aC:=⟨xo iD λσ H Q ⟨J,env,sr,w⟩=>w [] J H (Ext.refl sr.hp.sub) rfl⟩
theorem ak {es:List Rp}{g:G R}{gs:G (List R)}(h:QD X c e g) (hs:kQ X c es gs) (hst:QU (e::es) X.env=(false,eval e X.env)::QU es X.env:=by rfl):kQ X c (e::es) (ao g gs):=have h:=h.h;have hs:=hs.h;⟨
 xo (fk h hs hst) λσ H Q ⟨J,env,sr,w⟩=>by
  refine ⟨J,env,sr,aB (aK w) λx wx u J1 H1 e1 r1=>?_⟩
  refine ⟨J1,env,sr.ext e1,aB (aK wx) λxs wy us J2 H2 e2 r2=>?_⟩
  exact wy (u::us) J2 H2 (e1.trans e2) ⟨u,us,rfl,r1.ext e2,j6.from e1.h r2⟩⟩
end
section
variable {X:Cx}{c:C}{e a b:Rp}{es:List Rp}{ga gb g:G R}{pos:Pos}
theorem aN:CP X c [] aT:=⟨xo iD λσ H Q ⟨J,env,sr,w⟩=>w [] J H (Ext.refl sr.hp.sub) .nil⟩
theorem av {gs:G (List D)}(h:QD X c e g) (hs:CP X c es gs) (hst:QU (e::es) X.env=(false,eval e X.env)::QU es X.env:=by rfl):CP X c (e::es) (aA g gs):=have h:=h.h;have hs:=hs.h;⟨
 xo (fk h hs hst) λσ H Q ⟨J,env,sr,w⟩=>by
  refine ⟨J,env,sr,aB (aK w) λx wx u J1 H1 e1 r1=>?_⟩
  obtain ⟨d,q,wx⟩:=i8 wx
  obtain ⟨J1',e1',s1,rd⟩:=freeze e1 r1 q
  refine ⟨J1',env,sr.ext e1',aB (aK wx) λxs wy us J2 H2 e2 r2=>?_⟩
  exact wy (u::us) J2 H2 (e1'.trans e2) (.cons (rd.mono e2.j) r2)⟩
theorem aZ {k}{gs:G (List D)}(h:CP X c es gs):QD X c (.Tuple es k pos) (bz gs):=have h:=h.h;⟨fG (Lh h) λσ H Q ⟨J,env,sr,w⟩=>by
 refine ⟨J,env,sr,aB (aK w) λds wd vs J1 H1 e1 r1=>?_⟩
 split at wd
 ·rename_i hz
  rw [r1.length] at hz
  exact ⟨hz,λp hp=>wd _ _ _ (e1.trans (Ext.newJ e1.sub hp _)) (pU (sr.hp.ext e1) hp r1)⟩
 ·exact wd.elim⟩
theorem eN {gs:G (List D)}(h:CP X c es gs):QD X c (.List es pos) (gK gs):=have h:=h.h;⟨fG (Lc h) λσ H Q ⟨J,env,sr,w⟩=>by
 refine ⟨J,env,sr,aB (aK w) λds wd vs J1 H1 e1 r1=>?_⟩
 split at wd
 ·rename_i hz
  rw [r1.length] at hz
  exact ⟨hz,λp hp=>wd _ _ _ (e1.trans (Ext.new e1.sub hp _)) (RR.from e1.h (jn (sr.hp.ext e1) hp r1))⟩
 ·exact wd.elim⟩
theorem fq {p:Pos}{gs:G (List R)}(ha:kQ X c (e::es) gs) (hm:X.mg "len"=none) (hK:X.K=c.K:=by rfl) (hg:Gl X "len":=by rfl)
  (he:QU (e::es) X.env=(false,eval e X.env)::QU es X.env:=by rfl) (hpl:(SY pos (QU es X.env)).any (·.1)=false:=by rfl):QD X c (.Call (.Name "len" p) (e::es) [] pos) (gN gQ gs):=have ha:=ha.h;⟨
 jE (xX.or xW) (by
  intro He J H xs vs Q hp rs w
  unfold gQ at w
  split at w
  ·obtain ⟨v,rfl,r⟩:=rs.one
   cases r
   split at w
   ·rename_i hz;exact .inl ⟨_,rfl,hz,w _ J H (Ext.refl hp.sub) (.int _)⟩
   ·exact w.elim
  ·obtain ⟨v,rfl,r⟩:=rs.one
   obtain ⟨xs,q,w⟩:=nJ w
   obtain ⟨p,vs,rfl,hq,hs⟩:=qe hp r q
   have w':=w (.int vs.length) J H (Ext.refl hp.sub) (by rw [hs.length];exact .int _)
   exact .inr ⟨p,vs,rfl,by rw [hK];exact hq,w'⟩
  ·exact w.elim) PySem.boot_len hm ha hg (by decide) (by decide) he hpl⟩
theorem bY {p:Pos}{gs:G (List R)}(ha:kQ X c (e::es) gs) (hm:X.mg "tuple"=none) (hK:X.K=c.K:=by rfl) (hg:Gl X "tuple":=by rfl)
  (he:QU (e::es) X.env=(false,eval e X.env)::QU es X.env:=by rfl) (hpl:(SY pos (QU es X.env)).any (·.1)=false:=by rfl):QD X c (.Call (.Name "tuple" p) (e::es) [] pos) (gN cI gs):=have ha:=ha.h;⟨
 D9 wC (by
  intro He J H xs vs Q hp rs w
  unfold cI at w
  split at w
  ·obtain ⟨v,rfl,r⟩:=rs.one
   rename_i r0
   obtain ⟨xs,q,w⟩:=nJ w
   cases r0 with
   | d y=>
    cases y with
    | tup ys=>
     cases q
     cases r with
     | tup h hs=>exact ⟨_,_,rfl,.inr ⟨by rw [hK];exact fP hp.sub h,w _ J H (Ext.refl hp.sub) (.tup h hs)⟩⟩
    | lst ys=>
     cases q
     obtain ⟨p,vs,rfl,hq,hs⟩:=RR.list hp r rfl
     exact ⟨p,vs,rfl,.inl ⟨by rw [hK];exact hq,λl hl=>w _ _ _ (Ext.newJ hp.sub hl _) (pU hp hl hs)⟩⟩
    | _=>cases q
   | mo _ _=>cases q
   | mb _ _=>cases q
   | mf _ _=>cases q
   | l m ys=>
    cases q
    obtain ⟨p,vs,rfl,hq,hs⟩:=RR.list hp r rfl
    exact ⟨p,vs,rfl,.inl ⟨by rw [hK];exact hq,λl hl=>w _ _ _ (Ext.newJ hp.sub hl _) (pU hp hl hs)⟩⟩
  ·exact w.elim) zI hm ha hg (by decide) (by decide) he hpl⟩
theorem dS (h:QD X c e g) (he:∀whole,XD e X.env whole=(do let v <-whole;TX e.pos;holding [v] (truthy v)):=by intro _;rfl):QB X c e (bN g):=have h:=h.h;⟨xr (Ls h he) λσ H Q ⟨J,env,sr,w⟩=>by
 refine ⟨J,env,sr,aB (aK w) λr wr v J1 H1 e1 r1=>?_⟩
 split at wr
 ·cases r1;exact ⟨_,rfl,wr J1 H1 e1⟩
 ·exact wr.elim⟩
theorem iU {op:ZN}{r:R2}{f:R->R->M R}(ho:cT X (R0 op) r) (hf:BD c r f) (ha:QD X c a ga) (hb:QD X c b gb) (hm:R6 op b=false:=by first | exact yK _ | rfl):QB X c (.Compare a [op] [b] pos) (bN (g2 f ga gb)):=⟨k_ ho hf ha.h hb.h hm⟩
variable {t u:G Bool}{rest:List Rp}
theorem jF (h:xK X c e t):QB X c e t:=have h:=h.h;⟨PW.pt h⟩
theorem om (h:QB X c a t):xK X c (.BoolOp .And [a] pos) t:=have h:=h.h;⟨I_ h⟩
theorem uR (h:QB X c a t):xK X c (.BoolOp .Or [a] pos) t:=have h:=h.h;⟨Lw h⟩
theorem qy (h:QB X c a t) (h':xK X c (.BoolOp .And (b::rest) pos) u):xK X c (.BoolOp .And (a::b::rest) pos) (mJ t u):=have h:=h.h;have h':=h'.h;⟨Hl (Lv h h') λσ H Q ⟨J,env,sr,w⟩=>by
 refine ⟨J,env,sr,aB (aK w) λk wk J1 H1 e1=>?_⟩
 cases k with
 | true=>
  rw [if_pos rfl] at wk ⊢
  exact ⟨J1,env,sr.ext e1,aB wk λk q J2 H2 e2=>q J2 H2 (e1.trans e2)⟩
 | false=>
  rw [if_neg (by decide)] at wk ⊢
  exact wk J1 H1 e1⟩
theorem pQ (h:QB X c a t) (h':xK X c (.BoolOp .Or (b::rest) pos) u):xK X c (.BoolOp .Or (a::b::rest) pos) (m_ t u):=have h:=h.h;have h':=h'.h;⟨Hl (MK h h') λσ H Q ⟨J,env,sr,w⟩=>by
 refine ⟨J,env,sr,aB (aK w) λk wk J1 H1 e1=>?_⟩
 cases k with
 | true=>
  rw [if_pos rfl] at wk ⊢
  exact wk J1 H1 e1
 | false=>
  rw [if_neg (by decide)] at wk ⊢
  exact ⟨J1,env,sr.ext e1,aB wk λk q J2 H2 e2=>q J2 H2 (e1.trans e2)⟩⟩
theorem jG (h:QB X c a t):QB X c (.UnaryOp .Not a pos) (iI t):=have h:=h.h;⟨xr (Lr h) λσ H Q ⟨J,env,sr,w⟩=>⟨J,env,sr,aB (aK w) λk wk J1 H1 e1=>wk J1 H1 e1⟩⟩
theorem ly {op}(h:QD X c a ga):QD X c (.BoolOp op [a] pos) ga:=have h:=h.h;⟨Lf h⟩
theorem uS (h:QD X c a ga) (h':QD X c (.BoolOp .And (b::rest) pos) gb):QD X c (.BoolOp .And (a::b::rest) pos) (qi ga gb):=have h:=h.h;have h':=h'.h;⟨fG (K_ h h') λσ H Q ⟨J,env,sr,w⟩=>by
 refine ⟨J,env,sr,aB (aK w) λr wr v J1 H1 e1 r1=>?_⟩
 split at wr
 ·cases r1
  exact ⟨true,rfl,Fi ⟨J1,env,sr.ext e1,aB wr λz q v J2 H2 e2 r2=>q v J2 H2 (e1.trans e2) (RR.from e1.h r2)⟩⟩
 ·cases r1
  exact ⟨false,rfl,Fg (wr _ J1 H1 e1 (.bl _))⟩
 ·exact wr.elim⟩
theorem Ep (h:QD X c a ga) (h':QD X c (.BoolOp .Or (b::rest) pos) gb):QD X c (.BoolOp .Or (a::b::rest) pos) (pg ga gb):=have h:=h.h;have h':=h'.h;⟨fG (MH h h') λσ H Q ⟨J,env,sr,w⟩=>by
 refine ⟨J,env,sr,aB (aK w) λr wr v J1 H1 e1 r1=>?_⟩
 split at wr
 ·cases r1
  exact ⟨false,rfl,Fg ⟨J1,env,sr.ext e1,aB wr λz q v J2 H2 e2 r2=>q v J2 H2 (e1.trans e2) (RR.from e1.h r2)⟩⟩
 ·cases r1
  exact ⟨true,rfl,Fi (wr _ J1 H1 e1 (.bl _))⟩
 ·exact wr.elim⟩
theorem Jh (h:QD X c a ga):QD X c (.UnaryOp .Not a pos) (G7 ga):=have h:=h.h;⟨fG (Le h) λσ H Q ⟨J,env,sr,w⟩=>by
 refine ⟨J,env,sr,aB (aK w) λr wr v J1 H1 e1 r1=>?_⟩
 split at wr
 ·cases r1
  exact ⟨_,rfl,wr _ J1 H1 e1 (.bl _)⟩
 ·exact wr.elim⟩
theorem Jd {x:Rp}(hx:QB X c x t) (h:QD X c a ga) (h':QD X c b gb):QD X c (.IfExp x a b pos) (DC t ga gb):=have hx:=hx.h;have h:=h.h;have h':=h'.h;⟨fG (Gb hx h h') λσ H Q ⟨J,env,sr,w⟩=>by
 refine ⟨J,env,sr,aB (aK w) λk wk J1 H1 e1=>?_⟩
 cases k with
 | true=>
  rw [if_pos rfl] at wk ⊢
  exact ⟨J1,env,sr.ext e1,aB wk λz q v J2 H2 e2 r2=>q v J2 H2 (e1.trans e2) (RR.from e1.h r2)⟩
 | false=>
  rw [if_neg (by decide)] at wk ⊢
  exact ⟨J1,env,sr.ext e1,aB wk λz q v J2 H2 e2 r2=>q v J2 H2 (e1.trans e2) (RR.from e1.h r2)⟩⟩
end
section
variable {X:Cx}{c:C}{e a b tg:Rp}{es:List Rp}{ga gb g:G R}{pos:Pos}{st:T7}{rest:List T7}{t u:G O}{tb:G Bool}
theorem bT:qJ X c [] eU:=⟨Ek IY λE σ H ⟨J,env,sr,w⟩=>w σ J H (aU.refl J) sr⟩
theorem ay (h:iQ X c st t) (h':qJ X c rest u):qJ X c (st::rest) (aM t u):=have h:=h.h;have h':=h'.h;⟨Ek (Gh h h') λE σ H ⟨J,env,sr,w⟩=>by
 refine ⟨J,env,sr,aB (aK w) λo wo=>?_⟩
 cases o with
 | nx e=>exact λσ' J' H' s' sr'=>⟨J',e,sr',aB wo λo q=>q.mono s'⟩
 | rt r=>exact wo
 | bk e=>exact wo
 | ct e=>exact wo⟩
theorem aJ (h:iQ X c st t):qJ X c [st] t:=have h:=h.h;⟨IZ h⟩
theorem eG (h:QD X c e g) (hs:T8 e none pos.line X.env=pure false:=by rfl):iQ X c (.Expr e pos) (gZ g):=have h:=h.h;⟨iF (qx h hs) λE σ H ⟨J,env,sr,w⟩=>
 ⟨J,env,sr,aB (aK w) λr wr v J1 H1 e1 r1=>wr σ J1 H1 e1.j (sr.ext e1)⟩⟩
theorem aY (h:QD X c e g):iQ X c (.Return (some e) pos) (bO g):=have h:=h.h;⟨iF (Lo h) λE σ H ⟨J,env,sr,w⟩=>by
 refine ⟨J,env,sr,aB (aK w) λr wr v J1 H1 e1 r1=>?_⟩
 cases q:rF r with
 | bad=>rw [q] at wr;exact wr.elim
 | exc x=>cases r with
  | d _=>cases q
  | l m _=>cases m <;> cases q
  | mo _ _=>cases q
  | mb _ _=>cases q
  | mf _ _=>cases q
 | ok r'=>rw [q] at wr;exact wr v J1 H1 e1.j (sr.hp.ext e1) (RR.rf sr.hp r1 q)⟩
theorem bZ {x:Rp}{as bs:List T7}(hx:QB X c x tb) (h:qJ X c as t) (h':qJ X c bs u):iQ X c (.If x as bs pos) (b9 tb t u):=have hx:=hx.h;have h:=h.h;have h':=h'.h;⟨iF (MJ hx h h') λE σ H ⟨J,env,sr,w⟩=>by
 refine ⟨J,env,sr,aB (aK w) λk wk J1 H1 e1=>?_⟩
 cases k with
 | true=>
  rw [if_pos rfl] at wk ⊢
  exact ⟨J1,env,sr.ext e1,aB wk λo q=>q.mono e1.j⟩
 | false=>
  rw [if_neg (by decide)] at wk ⊢
  exact ⟨J1,env,sr.ext e1,aB wk λo q=>q.mono e1.j⟩⟩
theorem aO (i:Nat){x:Str}{pos':Pos}(hN:X.N.Nodup) (h:QD X c e g) (hi:X.N[i]?=some x:=by rfl) (hx:Loc X.env.scope x:=by first | exact Vt rfl | exact Ua rfl) (hs:T8 e (some (.Name x pos')) pos.line X.env=pure false:=by rfl)
  (hf:X.fn x=true\/X.env.scope.names.lookup x=some .local:=by first | exact .inl rfl | exact .inr rfl):iQ X c (.Assign [.Name x pos'] e pos) (bg i g):=have h:=h.h;⟨iF (Lp hN hi hx h hs hf) λE σ H ⟨J,env,sr,w⟩=>by
 refine ⟨J,env,sr,aB (aK w) λr wr v J1 H1 e1 r1=>?_⟩
 obtain ⟨x,q,wr⟩:=nK wr
 exact wr (σ.set i (some v)) J1 H1 e1.j (sr.set e1 r1 q)⟩
theorem aE (i:Nat){x:Str}(hN:X.N.Nodup) (hi:X.N[i]?=some x:=by rfl) (hx:Loc X.env.scope x:=by first | exact Vt rfl | exact Ua rfl) (hf:X.fn x=true\/X.env.scope.names.lookup x=some .local:=by first | exact .inl rfl | exact .inr rfl):kR X c (.Name x pos) (aD i):=⟨
 Hi (IU hN hi hx hf) λv σ H Q ⟨J,env,d,sr,rd,w⟩=>w _ (sr.setD (x:=.d d) rd λx z=>by cases x <;> cases z) λj xs q=>by
  rcases gr q with ⟨_,_,e⟩ | ⟨hj,q⟩
  ·cases xs <;> cases e
  ·exact ⟨q,RA (S8 hj)⟩⟩
theorem cV:Bo X c [] fK:=⟨Eb IV λvs σ H Q ⟨J,env,ds,sr,rd,w⟩=>by
 cases rd with
 | nil=>exact ⟨rfl,w σ sr KO.refl⟩
 | cons _ _=>exact w.elim⟩
theorem br {t:GT}{u:rW}(h:kR X c e t) (h':Bo X c es u) (hs:(TH (e::es) X.env).map (·.2)=assign e X.env::(TH es X.env).map (·.2):=by rfl):Bo X c (e::es) (bL t u):=have h:=h.h;have h':=h'.h;⟨
 Eb (Ge h h' hs) λvs σ H Q ⟨J,env,ds,sr,rd,w⟩=>by
  cases rd with
  | nil=>exact w.elim
  | cons r rs=>
   refine ⟨_,_,rfl,J,env,_,sr,r,aB (aK w) λe1 w1 σ' sr' ko=>?_⟩
   exact ⟨J,e1,_,sr',rs,aB w1 λe2 q σ2 sr2 ko2=>q σ2 sr2 (ko.trans ko2)⟩⟩
theorem dz {k:Nat}{u:rW}{n:Nat}(h:Bo X c es u) (hc:X.calm=true:=by rfl) (hK:X.K=c.K:=by rfl) (hn:(TH es X.env).length=n:=by rfl) (hst:(TH es X.env).findIdx? (·.1)=none:=by rfl):kR X c (.Tuple es k pos) (eZ n u):=have h:=h.h;⟨
 Hi (Lj hc h hn hst) λv σ H Q ⟨J,env,d,sr,rd,w⟩=>by
  cases rd with
  | tup h1 h2=>
   unfold eZ at w
   simp only at w
   split at w
   ·rename_i hl
    exact ⟨_,_,rfl,by rw [hK];exact fP sr.hp.sub h1,by rw [<-h2.length];exact hl,J,env,_,sr,h2,w⟩
   ·exact w.elim
  | _=>exact w.elim⟩
theorem fN {iter:Rp}{body:List T7}{gi:G (List D)}{t:GT}(hi:xM X c tg iter gi) (ht:kR X c tg t) (hb:qJ X c body u) (hp:Zh (Rb X.prog X.w) X.A X.env X.xe:=by first | exact Zo | exact YK) (hc:X.calm=true:=by rfl)
  (hs:∀x,Q2 iter X.env x=pure x:=by intro _;rfl):iQ X c (.For tg iter body [] pos) (iu gi t u):=have hi:=hi.h;have ht:=ht.h;have hb:=hb.h;⟨iF (Ln hp hc hi ht hb hs) λE σ H ⟨J,env,sr,w⟩=>by
 refine ⟨J,env,sr,aB (aK w) λds wd It J1 H1 e1 wk=>?_⟩
 refine ⟨λi m σ H=>m=ds.length - i/\∃J' env,aU J1 J'/\SR c J' H σ env/\cJ (gM t u (ds.drop i) env) (oP c J' E) c.T,
  ⟨ds.length,by simp,J1,env,aU.refl J1,sr.ext e1,by rw [ZS];exact aB wd λo q=>q.mono e1.j⟩,?_⟩
 rintro i m σ H ⟨rfl,J',env,s',sr',w'⟩
 obtain ⟨w1,w2⟩:=wk i J' H sr'.hp s'
 by_cases hlt:i < ds.length
 ·obtain ⟨g1,y1⟩:=w2 ds[i] (by simp [hlt])
  rw [UH hlt] at w'
  refine .inr ⟨g1,λσ2 H2=>∃J2 env2,aU J' J2/\SR c J2 H2 σ2 env2/\cJ (gM t u (ds.drop (i + 1)) env2) (oP c J2 E) c.T,?_,?_⟩
  ·rintro σ2 H2 ⟨J2,env2,s2,sr2,w2⟩
   exact ⟨ds.length - (i + 1),by omega,rfl,J2,env2,s'.trans s2,sr2,w2⟩
  ·intro x H2 hy
   obtain ⟨J2,e2,rx⟩:=y1 x H2 hy
   refine ⟨J2,env,ds[i],sr'.ext e2,rx,aB (aK w') λenv3 w3 σ3 sr3 _=>?_⟩
   refine ⟨J2,env3,sr3,aB (aK w3) λo wo=>?_⟩
   cases o with
   | nx env4=>exact λσ4 J4 H4 s4 sr4=>⟨J4,env4,e2.j.trans s4,sr4,aB wo λo q=>q.mono (e2.j.trans s4)⟩
   | ct env4=>exact λσ4 J4 H4 s4 sr4=>⟨J4,env4,e2.j.trans s4,sr4,aB wo λo q=>q.mono (e2.j.trans s4)⟩
   | bk env4=>exact λσ4 J4 H4 s4 sr4=>wo σ4 J4 H4 (e2.j.trans s4) sr4
   | rt r=>exact λv J4 H4 s4 h4 r4=>wo v J4 H4 (e2.j.trans s4) h4 r4
 ·rw [WY (by omega)] at w'
  exact .inl ⟨w1 (by omega),w' σ J' H (aU.refl J') sr'⟩⟩
theorem bH {p:Pos}{gs:G (List R)}(ha:kQ X c [a] gs) (hm:X.mg "range"=none) (hg:Gl X "range":=by rfl) (hs:QU [a] X.env=[(false,eval a X.env)]:=by rfl):xM X c tg (.Call (.Name "range" p) [a] [] pos) (cu gs):=have ha:=ha.h;⟨
 tP (Ed hg hm ha hs) λσ H Q ⟨J,env,sr,w⟩=>by
  refine ⟨J,env,sr,aB (aK w) λrs wr vs J1 H1 e1 r1=>?_⟩
  split at wr
  ·split at wr
   ·rename_i h
    obtain ⟨v,rfl,r⟩:=r1.one
    cases r
    have h:=eF.mp h
    exact ⟨_,rfl,Int.le_of_lt h.1,h.2,wr _ J1 H1 e1 CF⟩
   ·exact wr.elim
  ·exact wr.elim⟩
theorem d_ {gi:G (List D)}(h:xM X c tg e gi):qK X c tg e gi:=have h:=h.h;⟨tP h λσ H Q ⟨J,env,sr,w⟩=>
 ⟨J,env,sr,aB w λds q It J1 H1 e1 wk=>q It J1 H1 e1 λi J' H' hp u=>wk i J' H' hp u.1⟩⟩
end
section
variable {X:Cx}{c:C}{e a b tg:Rp}{es:List Rp}{ga gb g:G R}{pos:Pos}
theorem gy (i:Nat){x:Str}{p1 p2 pos':Pos}(h:QD X c e g) (hN:X.N[i]?=some x:=by rfl) (hv:qL X.env.scope x:=by first | exact Vt rfl | exact Ua (Vt rfl) | exact Ua (Ua rfl)) (hd:(x == ("__debug__":Str))=false:=by decide)
  (hcd:(x == ("__classdict__":Str))=false:=by decide)
  (hbase:VG (.Name x p1) "append" X.env (eval (.Name x p1) X.env)=eval (.Name x p1) X.env:=by rfl)
  (hfew:((SY pos' (QU [e] X.env)).all (λx=>!x.1) && (Zf pos' (Wz [] X.env)).all (λx=>x.1.isSome)
   && decide (([e]:List Rp).length + ([]:List WA).length + (if ([]:List WA).isEmpty then 0 else 1) < 30))=true:=by rfl)
  (hline:(p2.endLine == pos'.line)=true:=by rfl) (hst:QU [e] X.env=(false,eval e X.env)::QU [] X.env:=by rfl) (hplain:(SY pos' (QU [] X.env)).any (·.1)=false:=by rfl)
  (hs:T8 (.Call (.Attribute (.Name x p1) "append" p2) [e] [] pos') none pos.line X.env=pure false:=by rfl):iQ X c (.Expr (.Call (.Attribute (.Name x p1) "append" p2) [e] [] pos') pos) (kX i g):=have h:=h.h;⟨
 iF (qx (xq T3 Wl Wm pK (lg hN hv hd hcd) (fk h iD hst) hbase hfew hline hst hplain) hs) λE σ H ⟨J,env,sr,w⟩=>by
  unfold kX at w
  split at w
  ·rename_i xs hi
   obtain ⟨v,h1,a,vs,rfl,h2,h3,h4,h5⟩:=sr.at_ i _ hi
   refine ⟨.ref a,h1,.inl ⟨rfl,vs,cC.of h2⟩,?_⟩
   refine ⟨J,env,sr,aB (aK w) λr wr y J1 H1 e1 r1=>?_⟩
   obtain ⟨d,q,wr⟩:=i8 wr
   obtain ⟨J2,e2,s2,rd⟩:=freeze e1 r1 q
   split at wr
   ·rename_i hz
    refine ⟨a,vs,y,rfl,rfl,e2.h _ _ h2,by rw [<-h5.length];exact hz,?_⟩
    refine wr σ J2 _ e2.j ?_
    exact (sr.ext e2).upd hi h1 (e2.h _ _ h2) (e2.frz a (by rw [h2];intro z;cases z) h3) h4 ((h5.mono e2.j).append (.cons rd .nil))
   ·exact wr.elim
  ·exact w.elim⟩
end
section
variable {X:Cx}{c:C}
theorem bx:jX X c [] cA:=⟨λpins s σ H Q I ⟨J,env,sr,w⟩=>wpAny_tests_nil ⟨H,I,w J H (Ext.refl sr.hp.sub)⟩⟩
theorem dI {x:Rp}{g:G Bool}(h:QB X c x g):jX X c [x] g:=have h:=h.h;⟨λpins s σ H Q I q=>wpAny_tests_one (h pins s σ H Q I q)⟩
end
section
variable {K:Qx}{J:Hp}{s:QC}
variable {X:Cx}{c:C}{e a b tg:Rp}{es:List Rp}{ga gb g:G R}{pos:Pos}
theorem tV (hu:X.A.units + 64 < Sy) (ha:QD X c a ga) (hb:QD X c b gb) (hK:X.K=c.K:=by rfl):QD X c (.Compare a [.Eq] [b] pos) (g2 (fE false) ga gb):=have ha:=ha.h;have hb:=hb.h;⟨pO (D0 hu) (By false hK) ha hb⟩
theorem jT (hu:X.A.units + 64 < Sy) (ha:QD X c a ga) (hb:QD X c b gb) (hK:X.K=c.K:=by rfl):QB X c (.Compare a [.Eq] [b] pos) (bN (g2 (fE false) ga gb)):=have ha:=ha.h;have hb:=hb.h;⟨k_ (D0 hu) (By false hK) ha hb⟩
theorem yS (hu:X.A.units + 64 < Sy) (ha:QD X c a ga) (hb:QD X c b gb) (hK:X.K=c.K:=by rfl):QB X c (.Compare a [.NotEq] [b] pos) (bN (g2 (fE true) ga gb)):=have ha:=ha.h;have hb:=hb.h;⟨k_ (K4 hu) (By true hK) ha hb⟩
theorem yU (hu:X.A.units + 64 < Sy) (ha:QD X c a ga) (hb:QD X c b gb) (hK:X.K=c.K:=by rfl) (hm:R6 .In b=false:=by rfl):QD X c (.Compare a [.In] [b] pos) (g2 (jt false) ga gb):=have ha:=ha.h;have hb:=hb.h;⟨pO (D3 hu) (G1 false hK) ha hb hm⟩
theorem yR (hu:X.A.units + 64 < Sy) (ha:QD X c a ga) (hb:QD X c b gb) (hK:X.K=c.K:=by rfl) (hm:R6 .In b=false:=by rfl):QB X c (.Compare a [.In] [b] pos) (bN (g2 (jt false) ga gb)):=have ha:=ha.h;have hb:=hb.h;⟨k_ (D3 hu) (G1 false hK) ha hb hm⟩
end
section
variable {X:Cx}{c:C}{e a b tg:Rp}{es:List Rp}{ga gb g:G R}{pos:Pos}
theorem vJ:GZ X c none DE:=⟨Hj IW λσ H Q ⟨J,env,sr,w⟩=>w J H (Ext.refl sr.hp.sub)⟩
theorem vK (h:QD X c e g):GZ X c (some e) (DF g):=have h:=h.h;⟨Hj (IX h) λσ H Q ⟨J,env,sr,w⟩=>by
 refine ⟨J,env,sr,aB (aK w) λr wr v J1 H1 e1 r1=>?_⟩
 split at wr
 ·cases r1;exact ⟨_,rfl,wr J1 H1 e1⟩
 ·exact wr.elim⟩
theorem Cg {p:Pos}{gs:G (List R)}(ha:kQ X c (e::es) gs) (hm:X.mg "sorted"=none) (hK:X.K=c.K:=by rfl) (hg:Gl X "sorted":=by rfl)
  (he:QU (e::es) X.env=(false,eval e X.env)::QU es X.env:=by rfl) (hpl:(SY pos (QU es X.env)).any (·.1)=false:=by rfl):QD X c (.Call (.Name "sorted" p) (e::es) [] pos) (gN mZ gs):=have ha:=ha.h;⟨
 jE xZ (by
  intro He J H xs vs Q hp rs w
  unfold mZ at w
  split at w
  ·obtain ⟨v,rfl,r⟩:=rs.one
   obtain ⟨xs,q,w⟩:=nI w
   obtain ⟨p,vs,rfl,h1,h2⟩:=RR.list hp r q
   split at w
   ·rename_i ss z
    split at w
    ·rename_i hl
     have:=t9 z h2
     subst this
     refine ⟨p,ss,rfl,by rw [hK];exact h1,hl,λss' hp' hs' l hl'=>?_⟩
     rw [Cu hp' hs']
     exact w _ _ _ (Ext.new hp.sub hl' _) (jn hp hl' (vP _))
    ·exact w.elim
   ·exact w.elim
  ·exact w.elim) kU hm ha hg (by decide) (by decide) he hpl⟩
theorem dw (ha:QD X c a ga) (hb:QD X c b gb):QD X c (.BinOp a .Add b pos) (g2 cW ga gb):=by
 have ha:=ha.h
 have hb:=hb.h
 refine ⟨?_⟩
 have h1:BD c (mq λi j=>.int (i + j)) yk:=gW λ_ _ _=>.int _
 have q:=oj (pos:=pos) (DW.or (tM.or DY)) (BD.or (c:=c) (λx _=>DO x) h1 (BD.or (c:=c) (λx _=>Ky x) (f:=sJ) (f':=sL) (by
  intro He He' J H x y u v Q hp rx ry w
  unfold sJ at w
  split at w
  ·cases rx;cases ry
   split at w
   ·rename_i h;exact ⟨_,_,rfl,rfl,h,w _ J H (Ext.refl hp.sub) (.str _)⟩
   ·exact w.elim
  ·exact w.elim) (by
  intro He He' J H x y u v Q hp rx ry w
  unfold sL at w
  split at w
  ·rename_i hm
   rw [QK] at hm
   obtain ⟨p,vs,xs,e1,rfl,h1,s1⟩:=rx.made hm.1
   obtain ⟨p2,vs2,ys,e2,rfl,h2,s2⟩:=ry.made hm.2
   rw [e1,e2] at w
   simp only [aQ] at w
   split at w
   ·rename_i hz
    rw [s1.length,s2.length] at hz
    exact ⟨p,p2,vs,vs2,rfl,rfl,h1,h2,hz,λq hq=>w _ J _ (Ext.new hp.sub hq _) (jn hp hq (s1.append s2))⟩
   ·exact w.elim
  ·exact w.elim))) ha hb
 exact q
theorem jV (ha:QD X c a ga) (hb:QD X c b gb):QD X c (.BinOp a .Mult b pos) (g2 gR ga gb):=by
 have ha:=ha.h
 have hb:=hb.h
 refine ⟨?_⟩
 have h1:BD c (rI Bc λi j=>.int (i * j)) Kh:=Bx (λi j h=>Io h) λ_ _ _=>.int _
 exact oj (pos:=pos) (K3.or II) (BD.or (c:=c) (λx _=>DO x) h1 (f':=BN) (by
  intro He He' J H x y u v Q hp rx ry w
  unfold BN at w
  split at w
  ·cases rx;cases ry
   split at w
   ·rename_i h;exact ⟨_,_,rfl,rfl,h.1,h.2.1,h.2.2,w _ J H (Ext.refl hp.sub) (.str _)⟩
   ·exact w.elim
  ·exact w.elim)) ha hb
theorem aL (ha:QD X c a ga) (hb:QD X c b gb) (hK:X.K=c.K:=by rfl) (hs:qc b:=by exact λ_ _=>rfl):QD X c (.Subscript a b pos) (g2 aW ga gb):=have ha:=ha.h;have hb:=hb.h;⟨Hh KG (by
 intro He He' J H x y u v Q hp rx ry w
 rw [hK]
 unfold aW at w
 split at w
 ·cases rx;cases ry
  split at w
  ·rename_i h
   split at w
   ·rename_i k hk;exact .inr (.inr ⟨_,_,k,rfl,rfl,h,hk,w _ J H (Ext.refl hp.sub) (.str _)⟩)
   ·exact w.elim
  ·exact w.elim
 ·cases ry
  obtain ⟨xs,q,w⟩:=nJ w
  obtain ⟨p,vs,rfl,hl,hs⟩:=qe hp rx q
  split at w
  ·rename_i d hd
   obtain ⟨z,h1,h2⟩:=Jo hs hd
   have fin:=w z J H (Ext.refl hp.sub) h2
   rcases hl with hl | hl
   ·exact .inl ⟨p,vs,_,z,rfl,rfl,hl,h1,fin⟩
   ·exact .inr (.inl ⟨p,vs,_,z,rfl,rfl,hl,h1,fin⟩)
  ·exact w.elim
 ·exact w.elim) ha hb hs⟩
theorem aP {k k' n:Nat}{F:List S->M R}{x:Str}{p:Pos}{gs:G (List R)}(G:bC X.prog X.w X.K X.mg X.base k n x F) (hr:dY k' X.A) (ha:kQ X c (e::es) gs) (hk:k<=k':=by decide) (hT:c.K=X.K:=by rfl) (hg:Gl X x:=by rfl) (hdb:(x == ("__debug__":Str))=false:=by decide)
  (he:QU (e::es) X.env=(false,eval e X.env)::QU es X.env:=by rfl) (hpl:(SY pos (QU es X.env)).any (·.1)=false:=by rfl):QD X c (.Call (.Name x p) (e::es) [] pos) (gN (aS n F) gs):=by
 have ha:=ha.h
 refine ⟨?_⟩
 obtain ⟨f,fd,ps,h1,h2,h3,h4⟩:=G
 exact IM h1 (hr.mono hk) h2 h3 h4 ha hT hg hdb he hpl
theorem lq {t:GT}(h:QD X c e g) (ht:kR X c tg t) (hs:UU [tg] e pos.line X.env=pure false:=by rfl) (hw:X5 [tg] e X.env=pure none:=by rfl)
  (h1:(TH [tg] X.env).map (·.2)=[assign tg X.env]:=by rfl):iQ X c (.Assign [tg] e pos) (mK t g):=have h:=h.h;have ht:=ht.h;⟨IK h ht (Ei h ht hs hw h1)⟩
theorem jm {T:String}{Ts:Str}{p p2:Pos}(kit:Ai T) (hT:RL Ts=some (.type T)) (mT:X.mg Ts=none)
  (h:QD X c a g) (hm:X.mg "isinstance"=none) (hK:X.K=c.K:=by rfl) (hg:Gl X "isinstance":=by rfl) (Qg:Gl X Ts:=by rfl) (hn:Ts≠"__name__":=by decide) (Qc:(Ts == ("__debug__":Str))=false:=by decide)
  (he:QU [a,.Name Ts p2] X.env=(false,eval a X.env)::QU [.Name Ts p2] X.env:=by rfl) (O8:QU [.Name Ts p2] X.env=(false,eval (.Name Ts p2) X.env)::QU [] X.env:=by rfl)
  (hpl:(SY pos (QU [.Name Ts p2] X.env)).any (·.1)=false:=by rfl):QD X c (.Call (.Name "isinstance" p) [a,.Name Ts p2] [] pos) (yp T g):=have h:=h.h;⟨
 fG (rL (zO kit) hg hm (by decide +kernel) (fk h (fk (IS Qg mT hT (v:=.ty T) rfl hn Qc) iD O8) he) (by decide) (by decide) he hpl) λσ H Q ⟨J,env,sr,w⟩=>by
  refine ⟨J,env,sr,aB (aK w) λr wr v J1 H1 e1 r1=>?_⟩
  exact ⟨r.dat,v,rfl,by rw [hK];exact r1.dat (sr.hp.ext e1),wr _ J1 H1 e1 (.bl _)⟩⟩
theorem AX {p:Pos}{gs:G (List R)}(ha:kQ X c (e::es) gs) (hm:X.mg "all"=none) (hK:X.K=c.K:=by rfl) (hc:X.calm=true:=by rfl) (hg:Gl X "all":=by rfl)
  (he:QU (e::es) X.env=(false,eval e X.env)::QU es X.env:=by rfl) (hpl:(SY pos (QU es X.env)).any (·.1)=false:=by rfl):QD X c (.Call (.Name "all" p) (e::es) [] pos) (gN rG gs):=have ha:=ha.h;⟨
 jE (Dd hc) (by
  intro He J H xs vs Q hp rs w
  unfold rG at w
  split at w
  ·obtain ⟨v,rfl,r⟩:=rs.one
   obtain ⟨xs,q,w⟩:=nI w
   obtain ⟨p,vs,rfl,h1,h2⟩:=RR.list hp r q
   split at w
   ·rename_i ks z
    have:=oY z h2
    subst this
    exact ⟨p,ks,rfl,by rw [hK];exact h1,w _ J H (Ext.refl hp.sub) (.bl _)⟩
   ·exact w.elim
  ·exact w.elim) CY hm ha hg (by decide) (by decide) he hpl⟩
theorem Lx {op op':ZN}{p q:Int->Int->Bool}{x:Rp}{gc:G R}(ho:cT X (R0 op) (mq λi j=>.bl (p i j))) (ho':cT X (R0 op') (mq λi j=>.bl (q i j))) (ha:QD X c a ga) (hb:QD X c b gb) (hc:QD X c x gc)
  (hm:lastMarks [op,op'] [b,x]=false:=by with_unfolding_all rfl):QD X c (.Compare a [op,op'] [b,x] pos) (Ko p q ga gb gc):=have ha:=ha.h;have hb:=hb.h;have hc:=hc.h;⟨fG (Ga ho ho' ha hb hc hm) λσ H Q ⟨J,env,sr,w⟩=>by
 refine ⟨J,env,sr,aB (aK w) λr1 w1 v1 J1 H1 e1 q1=>?_⟩
 refine ⟨J1,env,sr.ext e1,aB (aK w1) λr2 w2 v2 J2 H2 e2 q2=>?_⟩
 split at w2
 ·rename_i i j
  cases q1
  cases q2
  refine ⟨i,j,rfl,rfl,p i j,rfl,?_⟩
  cases hp:p i j with
  | true=>
   rw [hp] at w2
   refine Fi ⟨J2,env,(sr.ext e1).ext e2,aB (aK w2) λr3 w3 v3 J3 H3 e3 q3=>?_⟩
   split at w3
   ·cases q3
    exact ⟨j,_,rfl,rfl,w3 _ J3 H3 ((e1.trans e2).trans e3) (.bl _)⟩
   ·exact w3.elim
  | false=>
   rw [hp] at w2
   exact Fg (w2 _ J2 H2 (e1.trans e2) (.bl _))
 ·exact w2.elim⟩
theorem Jg {p:Pos}{gs:G (List R)}(ha:kQ X c (e::es) gs) (hm:X.mg "min"=none) (hc:X.calm=true:=by rfl) (hg:Gl X "min":=by rfl)
  (he:QU (e::es) X.env=(false,eval e X.env)::QU es X.env:=by rfl) (hpl:(SY pos (QU es X.env)).any (·.1)=false:=by rfl):QD X c (.Call (.Name "min" p) (e::es) [] pos) (gN BL gs):=have ha:=ha.h;⟨
 jE (Df hc) (by
  intro He J H xs vs Q hp rs w
  unfold BL at w
  split at w
  ·obtain ⟨v,v',rfl,r,r'⟩:=rs.two
   cases r;cases r'
   exact ⟨_,_,rfl,w _ J H (Ext.refl hp.sub) (.int _)⟩
  ·exact w.elim) (by decide +kernel) hm ha hg (by decide) (by decide) he hpl⟩
theorem gm (ha:QD X c a ga) (hb:QD X c b gb) (hK:X.K=c.K:=by rfl):QD X c (.BinOp a .Add b pos) (g2 dO ga gb):=by
 have ha:=ha.h
 have hb:=hb.h
 refine ⟨?_⟩
 have h1:BD c (mq λi j=>.int (i + j)) yk:=gW λ_ _ _=>.int _
 exact oj (pos:=pos) (DZ.or (DW.or (tM.or DY))) (BD.or (c:=c) (λx _=>Kz x) (HN hK) (BD.or (c:=c) (λx _=>DO x) h1 (BD.or (c:=c) (λx _=>Ky x) (f:=sJ) (f':=sL) (by
  intro He He' J H x y u v Q hp rx ry w
  unfold sJ at w
  split at w
  ·cases rx;cases ry
   split at w
   ·rename_i h;exact ⟨_,_,rfl,rfl,h,w _ J H (Ext.refl hp.sub) (.str _)⟩
   ·exact w.elim
  ·exact w.elim) (by
  intro He He' J H x y u v Q hp rx ry w
  unfold sL at w
  split at w
  ·rename_i hm
   rw [QK] at hm
   obtain ⟨p,vs,xs,e1,rfl,h1,s1⟩:=rx.made hm.1
   obtain ⟨p2,vs2,ys,e2,rfl,h2,s2⟩:=ry.made hm.2
   rw [e1,e2] at w
   simp only [aQ] at w
   split at w
   ·rename_i hz
    rw [s1.length,s2.length] at hz
    exact ⟨p,p2,vs,vs2,rfl,rfl,h1,h2,hz,λq hq=>w _ J _ (Ext.new hp.sub hq _) (jn hp hq (s1.append s2))⟩
   ·exact w.elim
  ·exact w.elim)))) ha hb
theorem A1 {lo hi:Option Rp}{gl gh:GO}{p2:Pos}(h:QD X c e g) (hl:GZ X c lo gl) (hh:GZ X c hi gh) (hK:X.K=c.K:=by rfl):QD X c (.Subscript e (.Slice lo hi none p2) pos) (AD uF g gl gh):=have h:=h.h;have hl:=hl.h;have hh:=hh.h;⟨MD (Ey.or Jt) (by
 intro He J H x v l u Q hp rx w
 unfold uF at w
 split at w
 ·exact .inl (NS hK He J H x v l u Q hp rx w)
 ·obtain ⟨xs,q,w⟩:=nI w
  obtain ⟨p,vs,rfl,h1,h2⟩:=rx.list hp q
  exact .inr ⟨p,vs,rfl,by rw [hK];exact h1,λp' hp'=>w _ _ _ (Ext.new hp.sub hp' _) (jn hp hp' (h2.cut l u))⟩) h hl hh⟩
theorem jU {d:D}{x:Str}(h:Bf X.K X.mg x d) (hK:X.K=c.K:=by rfl) (hg:Gl X x:=by rfl) (hd:(x == ("__debug__":Str))=false:=by decide):QD X c (.Name x pos) (gC d):=by
 refine ⟨?_⟩
 obtain ⟨u,v,h1,h2,h3⟩:=h
 exact IP h1 h2 (λJ=>hK▸h3 J) hg hd
end
section
variable {X:Cx}{c:C}{e a b tg:Rp}{es:List Rp}{ga gb g:G R}{pos:Pos}{st:T7}{t u:G O}{tb:G Bool}
theorem kB:iQ X c st sS:=⟨λpins s σ H D I ⟨J,env,sr,w⟩=>w.elim⟩
theorem A0 (h:QD X c a g):QD X c (.UnaryOp .USub a pos) (yq g):=have h:=h.h;⟨fG (MI L_ h) λσ H Q ⟨J,env,sr,w⟩=>by
 refine ⟨J,env,sr,aB (aK w) λr wr v J1 H1 e1 r1=>?_⟩
 split at wr
 ·cases r1
  exact ⟨_,rfl,wr _ J1 H1 e1 (.int _)⟩
 ·exact wr.elim⟩
theorem qz (h:QD X c e g) (hK:X.K=c.K:=by rfl) (he:∀whole,XD e X.env whole=(do let v <-whole;TX e.pos;holding [v] (truthy v)):=by intro _;rfl):QB X c e (uI g):=have h:=h.h;⟨xr (Gi h he) λσ H Q ⟨J,env,sr,w⟩=>by
 refine ⟨J,env,sr,aB (aK w) λr wr v J1 H1 e1 r1=>?_⟩
 rw [hK]
 obtain ⟨k,k1,k2⟩:=JA (sr.hp.ext e1) r1 wr
 exact ⟨k,k1,k2 J1 H1 e1⟩⟩
theorem Cd (n:Nat){body:List T7}(ht:QB X c e tb) (hb:qJ X c body u) (hp:Zh (Rb X.prog X.w) X.A X.env X.xe:=by first | exact Zo | exact YK):iQ X c (.While e body [] pos) (yt n tb u):=have ht:=ht.h;have hb:=hb.h;⟨iF (Gg hp ht hb) λE σ H ⟨J,env,sr,w⟩=>by
 refine ⟨λm σ H=>∃J' env,aU J J'/\SR c J' H σ env/\cJ (lM tb u m env) (oP c J' E) c.T,⟨n,J,env,aU.refl J,sr,w⟩,?_⟩
 rintro m σ H ⟨J',env,s',sr',w'⟩
 cases m with
 | zero=>exact w'.elim
 | succ m=>
  refine ⟨J',env,sr',aB (aK w') λk wk J1 H1 e1=>?_⟩
  cases k with
  | false=>
   rw [if_neg (by decide)] at wk ⊢
   exact wk σ J1 H1 e1.j (sr'.ext e1)
  | true=>
   rw [if_pos rfl] at wk ⊢
   refine ⟨λσ2 H2=>∃J2 env2,aU J1 J2/\SR c J2 H2 σ2 env2/\cJ (lM tb u m env2) (oP c J2 E) c.T,?_,?_⟩
   ·rintro σ2 H2 ⟨J2,env2,s2,sr2,w2⟩
    exact ⟨m,Tg m,J2,env2,(s'.trans e1.j).trans s2,sr2,w2⟩
   ·refine ⟨J1,env,sr'.ext e1,aB (aK wk) λo wo=>?_⟩
    cases o with
    | nx env4=>exact λσ4 J4 H4 s4 sr4=>⟨J4,env4,s4,sr4,aB wo λo q=>q.mono (e1.j.trans s4)⟩
    | ct env4=>exact λσ4 J4 H4 s4 sr4=>⟨J4,env4,s4,sr4,aB wo λo q=>q.mono (e1.j.trans s4)⟩
    | bk env4=>exact λσ4 J4 H4 s4 sr4=>wo σ4 J4 H4 (e1.j.trans s4) sr4
    | rt r=>exact λv J4 H4 s4 h4 r4=>wo v J4 H4 (e1.j.trans s4) h4 r4⟩
theorem zU (i j:Nat){x y:Str}{p1 p2 pos' q1 q2 q3:Pos}(h:QD X c e g) (hi:X.N[i]?=some x:=by rfl) (Qp:qL X.env.scope x:=by first | exact Vt rfl | exact Ua (Vt rfl) | exact Ua (Ua rfl)) (hdx:(x == ("__debug__":Str))=false:=by decide) (P_:(x == ("__classdict__":Str))=false:=by decide)
  (hj:X.N[j]?=some y:=by rfl) (Qq:qL X.env.scope y:=by first | exact Vt rfl | exact Ua (Vt rfl) | exact Ua (Ua rfl)) (Pq:(y == ("__debug__":Str))=false:=by decide) (Qa:(y == ("__classdict__":Str))=false:=by decide)
  (hbase:VG (.Name x p1) "append" X.env (eval (.Name x p1) X.env)=eval (.Name x p1) X.env:=by rfl)
  (hfew:((SY pos' (QU [.Call (.Attribute (.Name y q1) "pop" q2) [e] [] q3] X.env)).all (λx=>!x.1) && (Zf pos' (Wz [] X.env)).all (λx=>x.1.isSome)
   && decide (([.Call (.Attribute (.Name y q1) "pop" q2) [e] [] q3]:List Rp).length + ([]:List WA).length + (if ([]:List WA).isEmpty then 0 else 1) < 30))=true:=by rfl)
  (hline:(p2.endLine == pos'.line)=true:=by rfl)
  (hst:QU [.Call (.Attribute (.Name y q1) "pop" q2) [e] [] q3] X.env=(false,eval (.Call (.Attribute (.Name y q1) "pop" q2) [e] [] q3) X.env)::QU [] X.env:=by rfl) (hplain:(SY pos' (QU [] X.env)).any (·.1)=false:=by rfl)
  (OZ:VG (.Name y q1) "pop" X.env (eval (.Name y q1) X.env)=eval (.Name y q1) X.env:=by rfl)
  (O9:((SY q3 (QU [e] X.env)).all (λx=>!x.1) && (Zf q3 (Wz [] X.env)).all (λx=>x.1.isSome)
   && decide (([e]:List Rp).length + ([]:List WA).length + (if ([]:List WA).isEmpty then 0 else 1) < 30))=true:=by rfl)
  (O1:(q2.endLine == q3.line)=true:=by rfl) (Pe:QU [e] X.env=(false,eval e X.env)::QU [] X.env:=by rfl) (OY:(SY q3 (QU [] X.env)).any (·.1)=false:=by rfl)
  (hs:T8 (.Call (.Attribute (.Name x p1) "append" p2) [.Call (.Attribute (.Name y q1) "pop" q2) [e] [] q3] [] pos') none pos.line X.env=pure false:=by rfl):iQ X c (.Expr (.Call (.Attribute (.Name x p1) "append" p2) [.Call (.Attribute (.Name y q1) "pop" q2) [e] [] q3] [] pos') pos) (m9 i j g):=have h:=h.h;⟨
 iF (qx (xq T3 Wl Wm pK (lg hi Qp hdx P_) (fk (xq T3 PySem.F.slot_list_pop PySem.F.type_list_pop FF (lg hj Qq Pq Qa) (fk h iD Pe) OZ O9 O1 Pe OY) iD hst) hbase hfew hline hst hplain) hs) λE σ H ⟨J,env,sr,w⟩=>by
  unfold m9 at w
  split at w
  ·rename_i zs xs Pu Px
   split at w
   ·exact w.elim
   ·rename_i hij
    obtain ⟨_,k1,p,us,rfl,k2,k3,k4,k5⟩:=sr.at_ i _ Pu
    obtain ⟨_,l1,q,vs,rfl,l2,l3,l4,l5⟩:=sr.at_ j _ Px
    refine ⟨.ref p,k1,.inl ⟨rfl,us,cC.of k2⟩,?_⟩
    refine ⟨.ref q,l1,.inl ⟨rfl,vs,cC.of l2⟩,?_⟩
    refine ⟨J,env,sr,aB (aK w) λr wr v J1 H1 e1 r1=>?_⟩
    split at wr
    ·rename_i k
     cases r1
     split at wr
     ·rename_i hk
      split at wr
      ·rename_i d hd
       obtain ⟨z,hz,rz⟩:=l5.get hd
       have m2:=e1.h _ _ l2
       have n2:=e1.h _ _ k2
       have hpq:q≠p:=λzz=>K8 sr hij Pu Px k1 l1 zz.symm
       refine ⟨q,vs,k,k.toNat,z,rfl,rfl,m2,by omega,?_,MR hk.1 (by rw [<-l5.length];exact hk.2.1),hz,?_⟩
       ·have z1:=hk.2.1
        have z2:=hk.2.2.2
        have z3:sizeLine=16777216:=RI
        omega
       ·refine ⟨p,us,z,rfl,rfl,by rw [bD (S8 hpq)];exact n2,by rw [<-k5.length];exact hk.2.2.1,?_⟩
        have sr1:=sr.ext e1
        have J1p:J1 p=none:=e1.frz p (by rw [k2];intro z;cases z) k3
        have J1q:J1 q=none:=e1.frz q (by rw [l2];intro z;cases z) l3
        have sr2:=sr1.upd (xs':=xs.eraseIdx k.toNat) (vs':=vs.eraseIdx k.toNat) Px l1 m2 J1q l4 ((l5.mono e1.j).eraseIdx _)
        have Pw:(env.set j (some (.own (xs.eraseIdx k.toNat))))[i]?=some (some (.own zs)):=by rw [RA (S8 hij)];exact Pu
        have sr3:=sr2.upd (xs':=zs++[d]) (vs':=us++[z]) Pw k1 (by rw [bD (S8 hpq)];exact n2) J1p k4 ((k5.mono e1.j).append (.cons (rz.mono e1.j) .nil))
        exact wr σ J1 _ e1.j sr3
      ·exact wr.elim
     ·exact wr.elim
    ·exact wr.elim
  ·exact w.elim⟩
end
section
variable {X:Cx}{c:C}{e a b tg:Rp}{es:List Rp}{ga gb g:G R}{pos:Pos}
theorem zV (i:Nat){x:Str}{p1 p2 pos':Pos}(h:QD X c e g) (hN:X.N[i]?=some x:=by rfl) (hv:qL X.env.scope x:=by first | exact Vt rfl | exact Ua (Vt rfl) | exact Ua (Ua rfl)) (hd:(x == ("__debug__":Str))=false:=by decide)
  (hcd:(x == ("__classdict__":Str))=false:=by decide)
  (hbase:VG (.Name x p1) "extend" X.env (eval (.Name x p1) X.env)=eval (.Name x p1) X.env:=by rfl)
  (hfew:((SY pos' (QU [e] X.env)).all (λx=>!x.1) && (Zf pos' (Wz [] X.env)).all (λx=>x.1.isSome)
   && decide (([e]:List Rp).length + ([]:List WA).length + (if ([]:List WA).isEmpty then 0 else 1) < 30))=true:=by rfl)
  (hline:(p2.endLine == pos'.line)=true:=by rfl) (hst:QU [e] X.env=(false,eval e X.env)::QU [] X.env:=by rfl) (hplain:(SY pos' (QU [] X.env)).any (·.1)=false:=by rfl)
  (hs:T8 (.Call (.Attribute (.Name x p1) "extend" p2) [e] [] pos') none pos.line X.env=pure false:=by rfl) (hK:X.K=c.K:=by rfl):iQ X c (.Expr (.Call (.Attribute (.Name x p1) "extend" p2) [e] [] pos') pos) (yo i g):=have h:=h.h;⟨
 iF (qx (xq T3 PySem.F.slot_list_extend PySem.F.type_list_extend KZ (lg hN hv hd hcd) (fk h iD hst) hbase hfew hline hst hplain) hs) λE σ H ⟨J,env,sr,w⟩=>by
  unfold yo at w
  split at w
  ·rename_i xs hi
   obtain ⟨v,h1,a,vs,rfl,h2,h3,h4,h5⟩:=sr.at_ i _ hi
   refine ⟨.ref a,h1,.inl ⟨rfl,vs,cC.of h2⟩,?_⟩
   refine ⟨J,env,sr,aB (aK w) λr wr y J1 H1 e1 r1=>?_⟩
   obtain ⟨ys,q,wr⟩:=nJ wr
   split at wr
   ·rename_i hz
    obtain ⟨p,ws,rfl,hq,hs⟩:=qe (sr.hp.ext e1) r1 q
    refine ⟨a,p,vs,ws,rfl,rfl,e1.h _ _ h2,by rw [hK];exact hq,by rw [<-h5.length,<-hs.length];exact hz,?_⟩
    refine wr σ J1 _ e1.j ?_
    exact (sr.ext e1).upd hi h1 (e1.h _ _ h2) (e1.frz a (by rw [h2];intro z;cases z) h3) h4 ((h5.mono e1.j).append hs)
   ·exact wr.elim
  ·exact w.elim⟩
theorem Eo (ha:QD X c a ga) (hb:QD X c b gb):QD X c (.Compare a [.Is] [b] pos) (g2 (sM false) ga gb):=have ha:=ha.h;have hb:=hb.h;⟨pO D5 (by
 intro He He' J H x y u v Q hp rx ry w
 unfold sM at w
 split at w
 ·rename_i o ho
  refine ⟨o,by rw [qu ry];exact ho,?_⟩
  rw [qu rx]
  exact w _ J H (Ext.refl hp.sub) (.bl _)
 ·exact w.elim) ha hb⟩
theorem El (ha:QD X c a ga) (hb:QD X c b gb):QB X c (.Compare a [.Is] [b] pos) (bN (g2 (sM false) ga gb)):=have ha:=ha.h;have hb:=hb.h;⟨k_ D5 (by
 intro He He' J H x y u v Q hp rx ry w
 unfold sM at w
 split at w
 ·rename_i o ho
  refine ⟨o,by rw [qu ry];exact ho,?_⟩
  rw [qu rx]
  exact w _ J H (Ext.refl hp.sub) (.bl _)
 ·exact w.elim) ha hb⟩
end
section
variable {X:Cx}{c:C}{e a b d tg:Rp}{es:List Rp}{ga gb g:G R}{pos:Pos}
theorem lD (h:QD X c e g) (hK:X.K=c.K:=by rfl):xM X c tg e (pe g):=have h:=h.h;⟨tP (Ec h) λσ H Q ⟨J,env,sr,w⟩=>by
 refine ⟨J,env,sr,aB (aK w) λr wr v J1 H1 e1 r1=>?_⟩
 rw [hK]
 split at wr
 ·cases r1 with
  | tup h1 h2=>exact ⟨_,rfl,.inr ⟨⟨_,fP e1.sub h1⟩,wr _ J1 H1 e1 (v_ (λJ H u=>u) h1 h2)⟩⟩
 ·cases r1 with
  | lst h1 h2=>exact ⟨_,rfl,.inl ⟨⟨_,e1.sub.seq h1⟩,wr _ J1 H1 e1 (qa (.inl h1) h2)⟩⟩
 ·obtain ⟨J2,e2,s2,rd⟩:=freeze e1 r1 rfl
  cases rd with
  | lst h1 h2=>exact ⟨_,rfl,.inl ⟨⟨_,e2.sub.seq h1⟩,wr _ J2 H1 e2 (qa (.inl h1) h2)⟩⟩
 ·obtain ⟨a,vs,rfl,h1,h2⟩:=r1
  exact ⟨_,rfl,.inl ⟨⟨_,(sr.hp.ext e1).ent.seq h1⟩,wr _ J1 H1 e1 (qa (.inr h1) h2)⟩⟩
 ·exact wr.elim⟩
theorem b_ (h:QD X c e g) (hK:X.K=c.K:=by rfl):qK X c tg e (fc g):=have h:=h.h;⟨tP (Ec h) λσ H Q ⟨J,env,sr,w⟩=>by
 refine ⟨J,env,sr,aB (aK w) λr wr v J1 H1 e1 r1=>?_⟩
 rw [hK]
 have lst:∀{xs:List D},j_ r=.ok xs->(∀It J1' H1',Ext J H J1' H1'->Walk c It xs J1' (λJ' H'=>aU J1' J'/\aU H1' H')->Q It H1')->∃a,v=.ref a/\(((∃xs,cC c.K H1 a xs)/\Q (GP c.K a) H1)\/((∃xs,cY c.K H1 a xs)/\Q (GR c.K a) H1)):=fun {xs} q wr=>by
  obtain ⟨a,vs,rfl,h1,h2⟩:=RR.list (sr.hp.ext e1) r1 q
  refine ⟨a,rfl,.inl ⟨⟨_,h1⟩,wr _ J1 H1 e1 λi J' H' hp u=>?_⟩⟩
  have h':=u.2.seq h1
  refine ⟨λhl=>⟨vs,h',by rw [<-h2.length];exact hl⟩,λd hd=>?_⟩
  obtain ⟨v,k1,k2⟩:=h2.get hd
  refine ⟨⟨vs,v,h',k1⟩,λx H2 ⟨e,hy⟩=>?_⟩
  subst e
  have:=hy vs h'
  rw [k1] at this
  cases this
  exact ⟨J',Ext.refl hp.sub,k2.mono u.1⟩
 cases r with
 | d y=>
  cases y with
  | tup xs=>
   cases r1 with
   | tup h1 h2=>exact ⟨_,rfl,.inr ⟨⟨_,fP e1.sub h1⟩,wr _ J1 H1 e1 (v_ (λJ H u=>u.1) h1 h2)⟩⟩
  | lst xs=>exact lst rfl wr
  | _=>exact wr.elim
 | l m xs=>exact lst rfl wr
 | mo _ _=>exact wr.elim
 | mb _ _=>exact wr.elim
 | mf _ _=>exact wr.elim⟩
end
section
variable {X:Cx}{c:C}{st:T7}{g:G O}
theorem oq (i:Nat) (h:iQ X c st g):iQ X c st (jZ i g):=have h:=h.h;⟨λpins s σ H D I ⟨J,env,sr,w⟩=>by
 unfold jZ at w
 split at w
 ·rename_i xs hi
  obtain ⟨v,h1,a,vs,rfl,h2,h3,h4,h5⟩:=sr.at_ i _ hi
  obtain ⟨J',s1,sr'⟩:=sr.frz (x:=.inl xs) hi h1 h2 h3 h4 (.lst (.inl (.inl bX)) (h5.mono (cL h3 _)))
  exact h pins s σ H D I ⟨J',_,sr',aB w λo q=>q.mono s1⟩
 ·rename_i ks vs hi
  obtain ⟨v,h1,a,rfl,⟨us,ws,ep,h2,m1,m2,m3,m4⟩,h3,h4⟩:=sr.at_ i _ hi
  obtain ⟨J',s1,sr'⟩:=sr.frz (x:=.inr (ks,vs)) hi h1 h2 h3 h4 (.dct bX (m1.mono (cL h3 _)) (m2.mono (cL h3 _)) m3 m4)
  exact h pins s σ H D I ⟨J',_,sr',aB w λo q=>q.mono s1⟩
 ·exact h pins s σ H D I ⟨J,env,sr,w⟩⟩
end
section
variable {X:Cx}{c:C}
theorem bE {P:Q8}{w:Ru}{K:Qx}{mg:Str->Option Qy}{base:Sh}{x qual:Str}{st:T7}{f:QW}{fd:Ro}{N ps:List Str}{k:Nat}{Fm:List S->M R}(F:cH K x qual st f fd) (hm:mg x=some (.ref f)) (Sc:bh N ps (aq st))
  (hbi:∀(kV doc pm:Qy) (an:Option QW) (cdv ct:Qy) (us:List Qy),us.length=ps.length->aak (QJ x qual (aH st) (aG st) (aq st) .none kV doc pm an cdv ct) ⟨us,[]⟩=pure (ps.zip us)){gB:G O}
  (hb:∀(cdv:Qy) (A:Rx) (outer:List Env) (s:QC) (H:Hp) (E:XK) (J:Hp) (T:Exc->Prop),dY k (A.deeper (WM qual (aq st) s.heap.objs.size f cdv))->
   qJ (G3 P w K mg base N qual (aq st) f cdv A outer s H E) ⟨K,H,J,T⟩ (aG st) gB)
  (hF:∀as r,as.length=ps.length->Fm as=.ok r->fin (gB (bq N as))=.ok r):bC P w K mg base (k + 1) ps.length x Fm:=
 J6 F hm Sc hbi (λcdv A outer s H E J T hr=>(hb cdv A outer s H E J T hr).h) hF
theorem Ja {P:Q8}{w:Ru}{K:Qx}{mg:Str->Option Qy}{base:Sh}{x qual:Str}{st:T7}{f:QW}{fd:Ro}{N ps:List Str}{k:Nat}{Fm:List S->M R}(F:cH K x qual st f fd) (Sc:bh N ps (aq st)){gB:G O}
  (hb:∀(cdv:Qy) (A:Rx) (outer:List Env) (s:QC) (H:Hp) (E:XK) (J:Hp) (T:Exc->Prop),dY k (A.deeper (WM qual (aq st) s.heap.objs.size f cdv))->
   qJ (G3 P w K mg base N qual (aq st) f cdv A outer s H E) ⟨K,H,J,T⟩ (aG st) gB)
  (hF:∀as r,as.length=ps.length->Fm as=.ok r->fin (gB (bq N as))=.ok r):jw P w K mg base oH (k + 1) f fd ps (pZ K ps.length Fm):=
 Dz F Sc (λcdv A outer s H E J T hr=>(hb cdv A outer s H E J T hr).h) hF
end
end DL
namespace K01
open PySem DL
def CL:List Str:=["thing"]
def vp:G O:=(bO (qi (yp "int" (af 0)) (G7 (yp "bool" (af 0)))))
def iP (as:List S):M R:=fin (vp (bq CL as))
def uY:List Str:=["thing","many"]
def pB:G O:=(bO (qi (gN (aS 1 iP) (ao (af 0) aC)) (Ko (λi j=>decide (i<=j)) (λi j=>decide (i < j)) (gC (.int 0)) (af 0) (af 1))))
def jM (as:List S):M R:=fin (pB (bq uY as))
theorem gS {n:Nat}(h:n<=1000):n<=sizeLine:=Rr h (by decide)
def Ng:D->Bool
 | .int _=>true
 | _=>false
def Lq (m:Int):D->Bool
 | .int i=>decide (0<=i) && decide (i < m)
 | _=>false
theorem uy (f:D->Bool):∀(ds:List D),jK (ds.map λd=>.bl (f d))=some (ds.map f)
 | []=>rfl
 | d::r=>by
  simp only [Q5,jK,uy f r]
  rfl
theorem all_map (f:D->Bool) (ds:List D):rG [.l .fresh (ds.map λd=>.bl (f d))]=.ok (.d (.bl (ds.all f))):=by
 unfold rG
 simp only [j_,aQ,uy]
 congr 3
 simp [Xd]
theorem HD (d:D):iP [.d d]=.ok (.d (.bl (Ng d))):=by cases d <;> rfl
theorem HA (d:D) (m:Int):jM [.d d,.d (.int m)]=.ok (.d (.bl (Lq m d))):=by
 unfold jM pB
 simp only [bO,qi,gN,ao,aC,af,bq,uY,Q5,Uj,RT,Uk,List.cons_append,U4,U5,S.rd,aQ,aS,if_true,cQ,HD,ji]
 cases d <;> try rfl
 rename_i i
 simp only [Ng,Ko,gC,af,aQ,U4,U5,S.rd]
 by_cases h:0<=i
 ·simp [h,rF,fin,Lq]
 ·simp [h,rF,fin,Lq]
theorem kF {α:Type}{xs:List α}{k:Nat}{x:α}(h:xs[k]?=some x):L2.lS xs (k:Int)=some x:=by
 have hk:k < xs.length:=(Rj.mp h).1
 unfold L2.lS L2.yx
 rw [if_pos (by omega),if_pos (by omega)]
 simpa using h
theorem kI {xs:List D}{k:Nat}{x:D}(h:xs[k]?=some x):aW (.d (.tup xs)) (.d (.int k))=.ok (.d x):=by
 unfold aW
 simp only [iB,aQ,kF h]
theorem qh {m:Md}{xs:List D}{k:Nat}{x:D}(h:xs[k]?=some x):aW (.l m xs) (.d (.int k))=.ok (.d x):=by
 unfold aW
 simp only [iB,aQ,kF h]
theorem H_ {z:Str}{k:Nat}{c:Nat}(hz:z.length<=1000) (h:z.cps.toList[k]?=some c):aW (.d (.str z)) (.d (.int k))=.ok (.d (.str ⟨#[c]⟩)):=by
 unfold aW
 simp only [gS hz,if_true,kF h]
theorem eq_int (neg:Bool) (i j:Int):fE neg (.d (.int i)) (.d (.int j))=.ok (.d (.bl (if neg then !(i == j) else i == j))):=rfl
theorem eV (a:D) (r:List D):aW (.d (.tup (a::r))) (.d (.int 0))=.ok (.d a):=kI (k:=0) rfl
theorem vB (a b:D) (r:List D):aW (.d (.tup (a::b::r))) (.d (.int 1))=.ok (.d b):=kI (k:=1) rfl
theorem Oa (a b c:D) (r:List D):aW (.d (.tup (a::b::c::r))) (.d (.int 2))=.ok (.d c):=kI (k:=2) rfl
theorem NH (n:Nat) (h:n<=1000):below 4611686018427387904 (n:Int)=true:=eF.mpr ⟨by omega,by omega⟩
def Hq (j:Int):M (List D):=if below 4611686018427387904 j then .ok (fO 0 j.toNat) else .bad
theorem LL (j:Int) (h:below 4611686018427387904 j=true):Hq j=.ok (fO 0 j.toNat):=by unfold Hq;exact if_pos h
theorem LK {gs:G (List R)}{env:Ev}{j:Int}(hg:gs env=.ok [.d (.int j)]):cu gs env=Hq j:=by
 unfold cu Hq
 rw [hg]
 rfl
theorem rO {gs:G (List R)}{env:Ev}{n:Nat}(hg:gs env=.ok [.d (.int (n:Int))]) (h:n<=1000):cu gs env=.ok (fO 0 n):=by
 rw [LK hg,LL _ (NH n h)]
 exact congrArg (λk=>M.ok (fO 0 k)) (Sz n)
theorem Km {g:G (List D)}{t:GT}{u:G O}{env:Ev}{ds:List D}(h:g env=.ok ds):iu g t u env=gM t u ds env:=by
 unfold iu
 rw [h]
 rfl
theorem zl (i j:Int):cW (.d (.int i)) (.d (.int j))=.ok (.d (.int (i + j))):=rfl
theorem BK {C:Int->Int->Bool}{f:Int->Int->D}{i j:Int}(h:C i j=true):fI C f (.d (.int i)) (.d (.int j))=.ok (.d (f i j)):=by
 show (if C i j=true then M.ok (R.d (f i j)) else M.bad)=_
 rw [if_pos h]
theorem Jy (i j:Int) (h1:-(2 ^ 64) < j) (h2:j < 2 ^ 64):gR (.d (.int i)) (.d (.int j))=.ok (.d (.int (i * j))):=BK (C:=yy) (f:=λi j=>.int (i * j)) (by unfold yy;rw [TN];exact Ua (eF.mpr ⟨h1,h2⟩))
theorem oE (i j:Int) (h1:0 < j) (h2:j < 1073741824):ig (.d (.int i)) (.d (.int j))=.ok (.d (.int (i / j))):=BK (by
 unfold BV
 rw [QK]
 exact ⟨decide_eq_true h1,eF.mpr ⟨by omega,h2⟩⟩)
theorem fJ (i j:Int) (h1:0 < j):dH (.d (.int i)) (.d (.int j))=.ok (.d (.int (i % j))):=BK (decide_eq_true h1)
theorem Hx (x y:Str) (h:x.length + y.length<=1000):cW (.d (.str x)) (.d (.str y))=.ok (.d (.str (x++y))):=by
 show (if x.length + y.length<=sizeLine then M.ok (R.d (D.str (x++y))) else M.bad)=_
 rw [if_pos (gS h)]
theorem Hw (x:Str) (n:Int) (h0:0<=n) (h:n<=1000) (hx:x.length<=1000):gR (.d (.str x)) (.d (.int n))=.ok (.d (.str (iL x n.toNat))):=by
 show (if 0<=n/\n<=1000/\x.length<=1000 then M.ok (R.d (D.str (iL x n.toNat))) else M.bad)=_
 rw [if_pos ⟨h0,h,hx⟩]
def JU:Str:="abcdefghijklmnopqrstuvwxyz"
theorem JV:∀k:Fin 26,JU.cps.toList[k.val]?=some (97 + k.val):=by decide +kernel
theorem HH:JU.length<=1000:=by decide +kernel
theorem DQ (i:Int) (h0:0<=i) (h:i < 26):aW (.d (.str "abcdefghijklmnopqrstuvwxyz")) (.d (.int i))=.ok (.d (.str ⟨#[97 + i.toNat]⟩)):=by
 have e:i=((i.toNat:Nat):Int):=by omega
 have:=H_ (z:=JU) (k:=i.toNat) HH (JV ⟨i.toNat,by omega⟩)
 rw [e]
 exact this
theorem sR (c:Array Nat):∀(k:Nat) (acc:Array Nat),((RX k c).foldl (·++·) acc).toList=acc.toList++(RX k c.toList).flatten
 | 0,acc=>by simp
 | k + 1,acc=>by
  rw [TZ,VT,sR c k]
  simp [TZ]
theorem HU (b n:Nat):(iL ⟨#[b]⟩ n).cps.toList=RX n b:=by
 unfold iL
 simp only
 rw [sR]
 induction n with
 | zero=>rfl
 | succ n ih=>simpa [TZ] using ih
theorem Iw (x:Str):x.length=x.cps.toList.length:=by
 show x.cps.size=_
 simp
theorem strs_map:∀(ss:List Str),strsOf (ss.map .str)=some ss
 | []=>rfl
 | s::r=>by
  simp only [Q5,strsOf,strs_map r]
  rfl
theorem sorted_strs (m:Md) (ss:List Str) (h:ss.length < 64):mZ [.l m (ss.map .str)]=.ok (.l .fresh ((qA ss).map .str)):=by
 unfold mZ
 simp only [j_,aQ,strs_map,h,if_true]
theorem yv {b:G Bool}{t u:G O}{env:Ev}(h:b env=.ok false):b9 b t u env=u env:=by
 unfold b9
 rw [h]
 rfl
theorem AG {b:G Bool}{t u:G O}{env:Ev}(h:b env=.ok true):b9 b t u env=t env:=by
 unfold b9
 rw [h]
 rfl
theorem Mx {g:G R}{f:List R->M R}{env:Ev}{r r':R}(h:g env=.ok r) (hf:f [r]=.ok r'):gN f (ao g aC) env=.ok r':=by
 unfold gN ao
 rw [h]
 exact hf
theorem LH {g:G R}{env:Ev}{r r':R}(h:g env=.ok r) (h2:rF r=.ok r'):bO g env=.ok (.rt r'):=by
 unfold bO
 rw [h,aQ,h2]
 rfl
abbrev dN (k:Nat):D:=.int k
abbrev dP (p:Nat×Nat):D:=.tup [.int p.1,.int p.2]
def ju (p q:Nat×Nat):Prop:=p.1 < q.1\/(p.1=q.1/\p.2 < q.2)
def wX (m:Nat) (xs:List Nat):Prop:=xs.length<=8/\xs.Pairwise (· < ·)/\∀x∈xs,x < m
def sq (m:Nat) (ps:List (Nat×Nat)):Prop:=ps.length<=64/\ps.Pairwise ju/\∀p∈ps,p.1 < m/\p.2 < m
structure Wd where
 m:Nat
 ms:List (Str×List Nat)
 ar:List (Str×List (Nat×Nat))
abbrev lF (r:Str×List Nat):D:=.tup [.str r.1,.tup (r.2.map dN)]
abbrev pS (r:Str×List (Nat×Nat)):D:=.tup [.str r.1,.tup (r.2.map dP)]
def Wd.d (w:Wd):D:=.tup [.int w.m,.tup (w.ms.map lF),.tup (w.ar.map pS)]
theorem vO {K:Qx}{J:L2.Hp}:∀(ns:List Int),aI K J (ns.map D.int) (ns.map L2.V.int)
 | []=>.nil
 | n::r=>.cons (.int n) (vO r)
end K01
namespace DX
open PySem PySem.Spec
open Builtin Builtin.ObjectAttr
end DX
namespace DX
open PySem PySem.Spec
end DX
namespace DX
open PySem PySem.Spec PyProof.Rows L2
end DX
namespace DL
open PySem PySem.Spec PyProof.Rows L2 DX
def Kn (n:Nat) (F:List S->M R):List R->M R:=λrs=>if rs.length=n then (match F (rs.map cQ) with
 | .ok r=>.ok (ji r)
 | .exc x=>.exc x
 | .bad=>.bad) else .bad
end DL
namespace DX
open PySem PySem.Spec PyProof.Rows L2
end DX
namespace DL
open PySem PySem.Spec PyProof.Rows L2 DX
end DL
namespace DX
open PySem PySem.Spec PyProof.Rows L2
end DX
namespace DL
open PySem PySem.Spec PyProof.Rows L2 DX
end DL
namespace DX
open PySem PySem.Spec PyProof.Rows L2
open Sem (wp)
end DX
namespace DL
open PySem PySem.Spec PyProof.Rows L2 DX
end DL
namespace DL
open PySem PySem.Spec PyProof.Rows L2
def uq (A:Rx) (s:QC) (y x:Qy) (b:Bool):Prop:=
 ∀(prog:Q8) (w:Ru) (E:Qy->QC->Prop) (Q:Qy->QC->Prop),Q (.bool b) s->Q7 (Rb prog w) A (richCompare .Lt y x) Q E s
inductive gx (A:Rx) (s:QC) (fin:Bool):List (Qy×Qy)->Bool->Prop
 | nil:gx A s fin [] fin
 | yes {x y:Qy}{r:List (Qy×Qy)}{b:Bool}:SN A s x y true->gx A s fin r b->gx A s fin ((x,y)::r) b
 | no {x y:Qy}{r:List (Qy×Qy)}{b:Bool}:SN A s x y false->uq A s x y b->gx A s fin ((x,y)::r) b
section
open PySem.SeqAt
open PySem.AutoSeq1 (wpAny_loadPart')
open PySem.MeetsSeq PySem.MeetsSeq2 PySem.MeetsSeq3
theorem EC (l b:QW) (items items2:Array Qy) (n n2:Nat) (dd dd2:Option QW) (sl sl2:Array (Option Qy)) (ans:Bool):
  Meets (UN.«tuple.__lt__» ⟨[.ref l,.ref b],[]⟩)
   (λA R s=>s.heap.get? l=some {cls:=.type "tuple",dict:=dd,data:=.seq items n,slots:=sl}/\s.heap.get? b=some {cls:=.type "tuple",dict:=dd2,data:=.seq items2 n2,slots:=sl2}/\
    gx A.in1 s (decide (items.size < items2.size)) (items.toList.zip items2.toList) ans/\R (.ok (.ret (.bool ans))) s):=
 .of_wp λprog w A R s h=>by
  obtain ⟨hp,g,d,tk,os⟩:=s;obtain ⟨hl,hb,hP,h⟩:=h
  have f2:=US
  wp_walk using Td hl,Td hb,Th _ (λrest b s'=>b.1=none/\s'=⟨hp,g,d,tk,os⟩/\gx A.in1 ⟨hp,g,d,tk,os⟩ (decide (items.size < items2.size)) rest ans) _
  case turn=>
   rintro ⟨y,x⟩ rest b s' ⟨hb',rfl,hq⟩
   cases hq with
   | yes he hr=>
    refine Qw (he prog w _ _ ?_)
    wp_walk
    exact ⟨rfl,rfl,hr⟩
   | no he hlt=>
    refine Qw (he prog w _ _ ?_)
    have PU:=hlt prog w
    wp_walk using PU
    exact ⟨_,rfl,by simpa using h⟩
  case fin=>
   rintro ⟨b1,b2⟩ s' ⟨hb',rfl,hq⟩
   simp only at hb'
   subst hb'
   cases hq
   wp_walk
   exact ⟨_,rfl,by simpa [Vi] using h⟩
  case h=>
   exact ⟨rfl,rfl,hP⟩
end
section
variable {K:Qx}{J:Hp}{s:QC}
theorem IB {A:Rx}{l b:QW}{items items2:Array Qy}{ans:Bool}(hl:s.heap.IsTuple l items) (hb:s.heap.IsTuple b items2) (hP:gx A.in1 s (decide (items.size < items2.size)) (items.toList.zip items2.toList) ans)
  (hu:A.units < Sy):uq A s (.ref l) (.ref b) ans:=λprog w E Q h=>by
 obtain ⟨⟨cls,dd,data,sl⟩,ho,hc,n,hd⟩:=id hl
 obtain ⟨⟨cls2,dd2,data2,sl2⟩,ho2,hc2,n2,hd2⟩:=id hb
 simp only at hc hd hc2 hd2
 subst hc hd hc2 hd2
 exact WZ (op:=.Lt) ⟨_,ho,rfl⟩ ⟨_,ho2,rfl⟩ PySem.F.slot_tuple_lt PySem.F.entry_tuple_lt (PySem.F.args_tuple_lt_2 _ _) (EC l b items items2 n n2 dd dd2 sl sl2 ans)
  ⟨ho,ho2,hP,show TF ans≠Xv/\Q (.bool ans) s from ⟨(λx=>nomatch x),h⟩⟩ hu
mutual
def dQ:D->D->Option Bool
 | .bl p,y=>match y with
  | .bl q=>some (!p && q)
  | _=>none
 | .int i,y=>match y with
  | .int j=>some (decide (i < j))
  | _=>none
 | .str x,y=>match y with
  | .str z=>some (decide (x.cps.toList < z.cps.toList))
  | _=>none
 | .tup xs,y=>match y with
  | .tup ys=>j4 xs ys
  | _=>none
 | _,_=>none
def j4:List D->List D->Option Bool
 | [],ys=>some (!ys.isEmpty)
 | x::xs,ys=>match ys with
  | []=>some false
  | y::ys=>if bw x y=true then j4 xs ys else dQ x y
end
theorem IA (A:Rx){p:Bool}{e:D}{w:V}{u':Qy}{b:Bool}(h:dQ (.bl p) e=some b) (re:Rep K J e w) (rw':RelV w u'):uq A s (.bool p) u' b:=by
 unfold dQ at h
 cases e with
 | bl q=>
  cases re
  cases rw'
  simp only [SA] at h
  subst h
  intro prog w E Q hq
  refine (lt_bool (p:=p) (q:=q) ?_:Q7 (Rb prog w) A (R0 .Lt (.bool p) (.bool q)) Q E s)
  cases p <;> cases q <;> exact hq
 | _=>cases h
theorem FA (A:Rx){p:Int}{t:Tok}{e:D}{w:V}{u':Qy}{b:Bool}(h:dQ (.int p) e=some b) (re:Rep K J e w) (rw':RelV w u'):uq A s (.int p t) u' b:=by
 unfold dQ at h
 cases e with
 | int q=>
  cases re
  obtain ⟨t',rfl⟩:=rw'
  simp only [SA] at h
  subst h
  intro prog w E Q hq
  exact (aa9 hq:Q7 (Rb prog w) A (R0 .Lt (.int p t) (.int q t')) Q E s)
 | _=>cases h
theorem FD (A:Rx){p:Str}{t:Tok}{e:D}{w:V}{u':Qy}{b:Bool}(h:dQ (.str p) e=some b) (re:Rep K J e w) (rw':RelV w u'):uq A s (.str p t) u' b:=by
 unfold dQ at h
 cases e with
 | str q=>
  cases re
  obtain ⟨t',rfl⟩:=rw'
  simp only [SA] at h
  subst h
  intro prog w E Q hq
  exact (aa_ hq:Q7 (Rb prog w) A (R0 .Lt (.str p t) (.str q t')) Q E s)
 | _=>cases h
def ES (K:Qx) (J:Hp) (s:QC) (d:D):Prop:=∀{e:D}{v w:V}{u u':Qy}{b:Bool}(A:Rx),dQ d e=some b->Rep K J d v->Rep K J e w->RelV v u->RelV w u'->A.units + dep d < Sy->dep d<=1000->dep e<=1000->uq A s u u' b
def r_ (K:Qx) (J:Hp) (s:QC) (ds:List D):Prop:=∀{es:List D}{vs ws:List V}{us us':List Qy}{b:Bool}{n1 n2:Nat}(A:Rx),j4 ds es=some b->aI K J ds vs->aI K J es ws->Vals vs us->Vals ws us'->A.units + deps ds < Sy->deps ds<=1000->deps es<=1000->
  us.length + n2=us'.length + n1->gx A s (decide (n1 < n2)) (us.zip us') b
theorem FE (F:HF K J s){ds:List D}(ih:r_ K J s ds):ES K J s (.tup ds):=by
 intro e v w u u' b A h rd re rv rw' hu k1 k2
 unfold dQ at h
 cases e with
 | tup es=>
  simp only at h
  cases rd with
  | tup h1 hs=>
   cases re with
   | tup h2 hs'=>
    cases rv;cases rw'
    obtain ⟨its,r,p⟩:=F.t _ _ h1
    obtain ⟨its',r',p'⟩:=F.t _ _ h2
    refine IB p p' ?_ (by unfold dep at hu;omega)
    have:=ih A.in1 (n1:=its.length) (n2:=its'.length) h hs hs' r r' (by rw [in1_units];unfold dep at hu;omega) (by unfold dep at k1;omega) (by unfold dep at k2;omega) (by omega)
    simpa using this
 | _=>cases h
theorem DU:r_ K J s []:=by
 intro es vs ws us us' b n1 n2 A h rd re rv rw' hu k1 k2 hl
 cases rd;cases rv
 cases re with
 | nil=>
  cases rw'
  simp only [j4,List.isEmpty_nil,S4,SA] at h
  subst h
  have:decide (n1 < n2)=false:=decide_eq_false (by simp at hl;omega)
  rw [this]
  exact .nil
 | cons _ _=>
  cases rw'
  simp only [j4,List.isEmpty_cons,Vo,SA] at h
  subst h
  have:decide (n1 < n2)=true:=decide_eq_true (by simp at hl;omega)
  rw [this]
  exact .nil
theorem B0 (F:HF K J s){x:D}{xs:List D}(ix:ES K J s x) (ih:r_ K J s xs):r_ K J s (x::xs):=by
 intro es vs ws us us' b n1 n2 A h rd re rv rw' hu k1 k2 hl
 cases rd with
 | cons q1 r1=>
  cases rv with
  | cons t1 u1=>
   cases re with
   | nil=>
    cases rw'
    simp only [j4,SA] at h
    subst h
    have:decide (n1 < n2)=false:=decide_eq_false (by simp at hl;omega)
    rw [this]
    exact .nil
   | cons q2 r2=>
    cases rw' with
    | cons t2 u2=>
     unfold deps at hu k1 k2
     rename_i y v' ys ws' u0 us0
     have he:=mV F A q1 q2 t1 t2 (by omega) (by omega) (by omega)
     simp only [j4] at h
     cases z:bw x y with
     | true=>
      rw [z,if_pos rfl] at h
      rw [z] at he
      exact .yes he (ih A h r1 r2 u1 u2 (by omega) (by omega) (by omega) (by simp at hl;omega))
     | false=>
      rw [z,if_neg Rq] at h
      rw [z] at he
      exact .no he (ix A h q1 q2 t1 t2 (by omega) (by omega) (by omega))
mutual
theorem Nz (F:HF K J s):∀d:D,ES K J s d
 | .bl p=>λA h rd re rv rw' _ _ _=>by cases rd;cases rv;exact IA A h re rw'
 | .int p=>λA h rd re rv rw' _ _ _=>by cases rd;obtain ⟨t,rfl⟩:=rv;exact FA A h re rw'
 | .str p=>λA h rd re rv rw' _ _ _=>by cases rd;obtain ⟨t,rfl⟩:=rv;exact FD A h re rw'
 | .tup ds=>FE F (xg F ds)
 | .non=>λA h _ _ _ _ _ _ _=>by unfold dQ at h;cases h
 | .lst _=>λA h _ _ _ _ _ _ _=>by unfold dQ at h;cases h
 | .emp=>λA h _ _ _ _ _ _ _=>by unfold dQ at h;cases h
 | .exn _ _ _=>λA h _ _ _ _ _ _ _=>by unfold dQ at h;cases h
 | .dct _ _=>λA h _ _ _ _ _ _ _=>by unfold dQ at h;cases h
theorem xg (F:HF K J s):∀ds:List D,r_ K J s ds
 | []=>DU
 | x::xs=>B0 F (Nz F x) (xg F xs)
end
end
end DL
namespace DL
open PySem PySem.Spec PyProof.Rows L2
open PySem.W (KasT kas_sort kas_asc kas_desc kas_rev kas_tail3 kas_descPart kas_count kas_place kas_bin)
def aX {α:Type}(q:Nat->Nat->Bool):KasT α->α
 | .ret a=>a
 | .ask i j k=>aX q (k (q i j))
inductive fR (n:Nat){α:Type}(P:α->Prop):KasT α->Prop
 | ret {a:α}:P a->fR n P (.ret a)
 | ask {i j:Nat}{k:Bool->KasT α}:i < n->j < n->(∀b,fR n P (k b))->fR n P (.ask i j k)
theorem fR.bind {n:Nat}{α β:Type}{P:α->Prop}{R:β->Prop}{f:α->KasT β}{t:KasT α}(h:fR n P t) (hf:∀a,P a->fR n R (f a)):fR n R (t.bind f):=by
 induction h with
 | ret p=>exact hf _ p
 | ask h1 h2 _ ih=>exact .ask h1 h2 ih
theorem fR.run {n:Nat}{α:Type}{P:α->Prop}{t:KasT α}(q:Nat->Nat->Bool) (h:fR n P t):P (aX q t):=by
 induction h with
 | ret p=>exact p
 | ask _ _ _ ih=>exact ih _
theorem fR.wp {n:Nat}{α:Type}{P:α->Prop}{t:KasT α}{q:Nat->Nat->Bool}{cmp:Nat->Nat->(Bool->QC->Prop)->QC->Prop}{s:QC}{G:α->QC->Prop}(h:fR n P t)
  (hc:∀i j C,i < n->j < n->C (q i j) s->cmp i j C s) (hG:G (aX q t) s):t.kasWp cmp G s:=by
 induction h with
 | ret p=>exact hG
 | ask h1 h2 _ ih=>exact hc _ _ _ h1 h2 (ih _ hG)
def eS (n:Nat) (p:Array Nat):Prop:=p.Perm (QG n).toArray
theorem eS.lt {n:Nat}{p:Array Nat}(h:eS n p) (hn:0 < n) (k:Nat):p.getD k 0 < n:=by
 by_cases hk:k < p.size
 ·have e:p.getD k 0=p[k]:=by simp [SD,hk]
  rw [e]
  have hm:p[k]∈p:=Array.getElem_mem hk
  have:=(Tn h).mp hm
  simpa using this
 ·have e:p.getD k 0=0:=by simp [SD,hk]
  rw [e];exact hn
theorem eS.rev {n:Nat}{p:Array Nat}(h:eS n p) (i j:Nat):eS n (Vy p i j):=(mirror_perm _ _ _ _).trans h
theorem eS.bub {n:Nat}{p:Array Nat}(h:eS n p) (i j:Nat):eS n (bubble p i j):=(bubble_perm _ _ _).trans h
variable {n:Nat}
theorem Bw {p:Array Nat}(hn:0 < n) (h:eS n p):∀f m,fR n (λ_:Nat=>True) (Vz p f m)
 | 0,m=>.ret trivial
 | f + 1,m=>.ask (h.lt hn _) (h.lt hn _) λb=>by cases b with
  | true=>exact .ret trivial
  | false=>exact Bw hn h f (m + 1)
theorem sD (hn:0 < n):∀f {p:Array Nat} m q,eS n p->fR n (λr:Array Nat×Nat×Nat=>eS n r.1) (S5 f p m q)
 | 0,p,m,q,h=>.ret h
 | f + 1,p,m,q,h=>.ask (h.lt hn _) (h.lt hn _) λb=>by
  cases b with
  | true=>
   simp only [if_true]
   by_cases hq:q > 0
   ·rw [if_pos hq];exact sD hn f _ _ (h.rev _ _)
   ·rw [if_neg hq];exact sD hn f _ _ h
  | false=>
   simp only [QZ,if_false]
   refine .ask (h.lt hn _) (h.lt hn _) λb=>?_
   cases b with
   | true=>exact .ret h
   | false=>exact sD hn f _ _ h
theorem CU (hn:0 < n){p:Array Nat}(h:eS n p) (m k:Nat):fR n (λr:Nat×Array Nat=>eS n r.2) (aaM m k p):=(Bw hn (h.rev 0 m) _ _).bind λa _=>.ret (h.rev _ _)
theorem Au (hn:0 < n){p:Array Nat}(h:eS n p) (m k:Nat):fR n (λr:Nat×Array Nat=>eS n r.2) (YX m k p):=(sD hn _ _ _ h).bind λr hr=>by
 split
 ·exact CU hn (hr.rev _ _) _ _
 ·exact CU hn hr _ _
theorem HM (hn:0 < n){p:Array Nat}(h:eS n p) (k:Nat):fR n (λr:Nat×Array Nat=>eS n r.2) (Zp k p):=(Bw hn h _ _).bind λm _=>by
 split
 ·exact .ret h
 ·split
  ·refine .ask (h.lt hn _) (h.lt hn _) λb=>?_
   cases b with
   | true=>exact .ret h
   | false=>exact Au hn (h.rev _ _) _ _
  ·exact Au hn h _ _
theorem ux (hn:0 < n){p:Array Nat}(h:eS n p) (k:Nat):∀f l r,fR n (λ_:Nat=>True) (To p k f l r)
 | 0,l,r=>.ret trivial
 | f + 1,l,r=>by
  unfold To
  split
  ·exact .ret trivial
  ·refine .ask (h.lt hn _) (h.lt hn _) λb=>?_
   cases b with
   | true=>exact ux hn h k f _ _
   | false=>exact ux hn h k f _ _
theorem G0 (hn:0 < n):∀f {p:Array Nat} k,eS n p->fR n (eS n) (aar f p k)
 | 0,p,k,h=>.ret h
 | f + 1,p,k,h=>(ux hn h k _ _ _).bind λl _=>G0 hn f _ (h.bub _ _)
theorem eT (hn:0 < n):fR n (eS n) (S6 n):=(HM hn (show eS n _ from abA _) n).bind λr hr=>by
 split
 ·exact G0 hn _ _ hr
 ·exact .ret hr
end DL
namespace DL
open PySem PySem.Spec PyProof.Rows L2
open PySem.W (KasT kas_sort kas_ask kas_item kat_run kat_snds KatLex kat_cons kat_yes kat_no kat_lt kat_one KatTups kat_kind Looks)
section
variable {prog:Q8}{w:Ru}{A:Rx}{E:Qy->QC->Prop}{s:QC}
def iJ (q:Nat->Nat->Bool) (vs:List Qy):List Qy:=(aX q (S6 vs.length)).toList.map λi=>vs.getD i RB
theorem FT (q:Nat->Nat->Bool){vs:List Qy}(h:0 < vs.length):(iJ q vs).length=vs.length:=by
 unfold iJ
 rw [QA,QN]
 have:=((eT h).run q:eS _ _).size_eq
 simpa using this
theorem tG {a:QW}{vs:List Qy}{n:Nat}{κ:aas}{q:Nat->Nat->Bool}{P:abB->QC->Prop}(ho:s.heap.get? a=some (S0 "list" vs.toArray n)) (h2:2<=vs.length) (h64:vs.length < 64)
  (hk:∀h' C,(∀b o,b≠a->s.heap.get? b=some o->h'.get? b=some o)->C κ {s with heap:=h'}->Q7 (Rb prog w) A (aat vs.toArray) C (λ_ _=>False) {s with heap:=h'})
  (hc:∀h',(∀b o,b≠a->s.heap.get? b=some o->h'.get? b=some o)->∀i j C,i < vs.length->j < vs.length->C (q i j) {s with heap:=h'}->kas_ask prog w A κ vs i j C {s with heap:=h'})
  (h:P (.done (.ret .none)) {s with heap:=aac s.heap a vs (iJ q vs).toArray}):Q7 (Rb prog w) A (UN.«list.sort» ⟨[.ref a],[]⟩) P E s:=by
 have la:a < s.heap.objs.size:=QY ho
 have sl:vs.length<=sizeLine:=by rw [RI];omega
 obtain ⟨e1,g1⟩:∃e1,(s.heap.update a (Sj λ_=>(#[]:Array Qy))).get? a=some (S0 "list" #[] e1):=⟨_,(Zq ho λ_=>#[])⟩
 have z1:(s.heap.update a (Sj λ_=>(#[]:Array Qy))).objs.size=s.heap.objs.size:=(WR _ _ _)
 have g3:(((s.heap.update a (Sj λ_=>(#[]:Array Qy))).push (S0 "tuple" vs.toArray 0)).push (S0 "list" #[] 0)).get? a=some (S0 "list" #[] e1):=(QI _ ((QI _ g1)))
 have kp:∀b o,b≠a->s.heap.get? b=some o->(((s.heap.update a (Sj λ_=>(#[]:Array Qy))).push (S0 "tuple" vs.toArray 0)).push (S0 "list" #[] 0)).get? b=some o:=λb o nb q=>
  QI _ (QI _ (by rw [XW _ _ _ _ nb];exact q))
 rw [Zr]
 refine Qw ((listItems_at ho rfl ?_))
 refine Qw (WD ho rfl ?_ (by rw [QO];exact sl) (Rl _))
 refine Qw ((XX g1 rfl ?_))
 refine Qw (ZT ?_ (show vs.length<=_ from sl))
 refine Qw ((VI ?_ (Rl _)))
 refine (Rn ?_)
 dsimp only
 have n2:¬vs.toArray.size < 2:=by (rw [QO]);omega
 rw [if_neg n2,if_neg n2]
 refine Qw (RJ (hk _ (λk s'=>k=κ/\s'=_) kp ⟨rfl,rfl⟩) ?_ λ_ _ x=>x.elim)
 rintro _ _ ⟨rfl,rfl⟩
 refine Qw (RJ (kat_run (E:=E) (Q:=λst' s'=>∃p:Array Nat,p.size=vs.length/\arrOf st'=p.map (kas_item (vs.toArray.zip vs.toArray))/\failedOf st'=none/\p=aX q (S6 vs.length)/\s'=_)
  rfl h2 h64 (λp' st' s' a1 a2 a3 a4=>⟨p',a1,a2,a3,a4⟩) ((eT (by omega)).wp (q:=q) (hc _ kp) ⟨rfl,rfl⟩)) ?_ λ_ _ e=>e)
 rintro ⟨⟨⟩,st'⟩ s' ⟨p,hp,har,hf,rfl,rfl⟩
 dsimp only
 have ou:(arrOf st').map (·.2)=(iJ q vs).toArray:=kat_snds rfl har
 rw [ou]
 refine Qw ((XX g3 rfl ?_))
 refine Qw (WD g3 rfl ?_ (Rl _) (Rr (aaJ (QO.trans (FT q (Rc Nat.zero_lt_two h2)))) (Nat.le_succ_of_le sl)))
 rw [hf]
 simp only [bne_self_eq_false,QZ,if_false]
 exact Qz h
theorem A6 {l:QW}{vs:List Qy}{κ:aas}{q:Nat->Nat->Bool}{Q:Qy->QC->Prop}(hl:s.heap.IsList l vs.toArray) (h2:2<=vs.length) (h64:vs.length < 64)
  (hk:∀h' C,(∀b o,s.heap.get? b=some o->h'.get? b=some o)->C κ {s with heap:=h'}->Q7 (Rb prog w) A.in1.in1 (aat vs.toArray) C (λ_ _=>False) {s with heap:=h'})
  (hc:∀h',(∀b o,s.heap.get? b=some o->h'.get? b=some o)->∀i j C,i < vs.length->j < vs.length->C (q i j) {s with heap:=h'}->kas_ask prog w A.in1.in1 κ vs i j C {s with heap:=h'})
  (h:Q (.ref (s.heap.objs.size + 1)) {s with heap:=Yj s.heap vs (iJ q vs).toArray}):Q7 (Rb prog w) A (call (.builtin "sorted") [.ref l]) Q E s:=by
 have sl:vs.length<=sizeLine:=by rw [RI];omega
 refine (UI Zs YY YZ (Y0 _) ?_)
 unfold UN.«sorted»
 refine Qw (m:=aad "sorted" 1 1 _) ((Qz ?_))
 refine Qw (collect_list hl ?_ sl)
 refine Qw (VI ?_ sl)
 have z:((s.heap.push (S0 "list" #[] 0)).update s.heap.objs.size (Sj (·++vs.toArray))).objs.size=s.heap.objs.size + 1:=(by rw [WR,size_push'])
 have gL:(((s.heap.push (S0 "list" #[] 0)).update s.heap.objs.size (Sj (·++vs.toArray))).push (S0 "list" vs.toArray 0)).get? (s.heap.objs.size + 1)=some (S0 "list" vs.toArray 0):=(by rw [<-z];exact QV _ rfl)
 have kp:∀b o,s.heap.get? b=some o->b≠s.heap.objs.size + 1/\(((s.heap.push (S0 "list" #[] 0)).update s.heap.objs.size (Sj (·++vs.toArray))).push (S0 "list" vs.toArray 0)).get? b=some o:=λb o e=>by
  have lb:b < s.heap.objs.size:=QY e
  refine ⟨Rf (SE lb),?_⟩
  rw [YL _ _ _ (z▸Rf (SE lb)),XW _ _ _ _ (Rf lb),YL _ _ _ ((Rf lb))]
  exact e
 dsimp only
 rw [z]
 refine Qw (Rn (RD V9 ⟨_,gL,rfl⟩ VV (tG (κ:=κ) (q:=q) gL h2 h64 (λh' C k c=>?_) (λh' k i j C hi hj c=>?_) ⟨_,rfl,?_⟩) (V_ _)))
 ·exact hk h' C (λb o e=>k b o (kp b o e).1 (kp b o e).2) c
 ·exact hc h' (λb o e=>k b o (kp b o e).1 (kp b o e).2) i j C hi hj c
 ·exact Qz ⟨_,rfl,h⟩
end
end DL
namespace DL
open PySem PySem.Spec PyProof.Rows L2
open PySem.W (KasT kas_sort kas_ask KatLex kat_nil kat_cons kat_yes kat_no kat_lt kat_one KatTups kat_kind Looks)
section
variable {prog:Q8}{w:Ru}{A:Rx}{E:Qy->QC->Prop}{s:QC}{K:Qx}{J:Hp}
theorem vC {fin ans:Bool}{Q:Bool->QC->Prop}{zs:List (Qy×Qy)}{b:Bool}(h:gx A s fin zs ans) (hq:Q ans s):∀{i:Nat},(b && i == 0)=false->KatLex prog w A b fin Q zs i s:=by
 induction h with
 | nil=>intro i _;exact kat_nil hq
 | yes he _ ih=>intro i _;exact aau (he prog w _ _ (kat_yes (ih hq (by cases b <;> rfl))))
 | no he hl=>
  intro i hb
  refine aau (he prog w _ _ (kat_no ?_))
  rw [hb]
  exact kat_one _ _ (hl prog w _ _ hq)
theorem Iq {fin ans e:Bool}{Q:Bool->QC->Prop}{u u':Qy}{zs:List (Qy×Qy)}(he:SN A s u u' e) (h1:e=true->gx A s fin zs ans)
  (h2:e=false->Q7 (Rb prog w) A (oneLt' true u u') Q (λ_ _=>False) s) (hq:Q ans s):KatLex prog w A true fin Q ((u,u')::zs) 0 s:=by
 cases e with
 | true=>exact aau (he prog w _ _ (kat_yes (vC (h1 rfl) hq rfl)))
 | false=>exact aau (he prog w _ _ (kat_no (h2 rfl)))
inductive Hd where
 | t | i | x
def iw:D->Option Hd
 | .tup (.tup _::_)=>some .t
 | .tup (.int _::_)=>some .i
 | .tup (.str _::_)=>some .x
 | _=>none
def Hd.flag:Hd->Bool
 | .t=>false
 | _=>true
def Hd.ty:Hd->Qy
 | .t=>.type "tuple"
 | .i=>.type "int"
 | .x=>.type "str"
theorem FP {x y:D}{v v':V}{u u':Qy}{k:Hd}{b:Bool}{C:Bool->QC->Prop}{xs ys:List D}(hd:iw (.tup (x::xs))=some k) (he:iw (.tup (y::ys))=some k) (hf:k.flag=true) (h:dQ x y=some b) (rd:Rep K J x v) (re:Rep K J y v') (rv:RelV v u) (rv':RelV v' u') (c:C b s):
  Q7 (Rb prog w) A (oneLt' true u u') C E s:=by
 cases x with
 | int x=>
  cases hd
  cases y with
  | int y=>
   cases rd;cases re
   obtain ⟨tk,rfl⟩:=rv
   obtain ⟨tk',rfl⟩:=rv'
   unfold dQ at h
   simp only [SA] at h
   refine aaN ?_
   rw [h];exact c
  | _=>cases he
 | str x=>
  cases hd
  cases y with
  | str y=>
   cases rd;cases re
   obtain ⟨tk,rfl⟩:=rv
   obtain ⟨tk',rfl⟩:=rv'
   unfold dQ at h
   simp only [SA] at h
   refine oneLt_str ?_
   rw [h];exact c
  | _=>cases he
 | tup _=>cases hd;cases hf
 | _=>cases hd
theorem AJ (F:HF K J s){d e:D}{v v':V}{u u':Qy}{k:Hd}{b:Bool}{C:Bool->QC->Prop}(hd:iw d=some k) (he:iw e=some k) (h:dQ d e=some b) (rd:Rep K J d v) (re:Rep K J e v') (rv:RelV v u) (rv':RelV v' u')
  (hu:A.units + dep d < Sy) (k1:dep d<=1000) (k2:dep e<=1000) (c:C b s):Q7 (Rb prog w) A (keyLt' (aba k.flag) u u') C E s:=by
 cases d with
 | tup ds=>
  cases e with
  | tup es=>
   unfold dQ at h
   simp only at h
   cases rd with
   | tup h1 hs=>
    cases re with
    | tup h2 hs'=>
     cases rv;cases rv'
     obtain ⟨its,r,p⟩:=F.t _ _ h1
     obtain ⟨its',r',p'⟩:=F.t _ _ h2
     obtain ⟨o,ho,hc,m,dm⟩:=id p
     obtain ⟨o',ho',hc',m',dm'⟩:=id p'
     refine kat_lt ho dm ho' dm' ?_
     simp only [QO]
     cases hf:k.flag with
     | false=>
      exact vC (xg F ds A (n1:=its.length) (n2:=its'.length) h hs hs' r r' (by unfold dep at hu;omega) (by unfold dep at k1;omega) (by unfold dep at k2;omega) (by omega)) c rfl
     | true=>
      cases hs with
      | nil=>cases hd
      | cons q1 t1=>
       cases hs' with
       | nil=>cases he
       | cons q2 t2=>
        cases r with
        | cons a1 b1=>
         cases r' with
         | cons a2 b2=>
          unfold dep deps at hu k1 k2
          rw [V6]
          unfold j4 at h
          simp only at h
          refine Iq (ans:=b) (mV F A q1 q2 a1 a2 (by omega) (by omega) (by omega)) (λz=>?_) (λz=>?_) c
          ·rw [z,if_pos rfl] at h
           exact xg F _ A h t1 t2 b1 b2 (by omega) (by omega) (by omega) (by simp;omega)
          ·rw [z,if_neg Rq] at h
           exact FP hd he hf h q1 q2 a1 a2 c
  | _=>cases he
 | _=>cases hd
def gV (k:Hd):List D->Bool
 | []=>true
 | d::r=>(match iw d,k with
  | some .t,.t=>true
  | some .i,.i=>true
  | some .x,.x=>true
  | _,_=>false) && gV k r
theorem jN {k:Hd}:∀{ds:List D},gV k ds=true->∀d∈ds,iw d=some k
 | [],_,_,hm=>nomatch hm
 | x::r,h,d,hm=>by
  unfold gV at h
  rw [QK] at h
  rcases Q3.mp hm with rfl | hm
  ·cases q:iw d with
   | none=>rw [q] at h;cases h.1
   | some k'=>rw [q] at h;cases k' <;> cases k <;> first | rfl | cases h.1
  ·exact jN h.2 d hm
theorem DK (F:HF K J s){d:D}{v:V}{u:Qy}{k:Hd}(hd:iw d=some k) (rd:Rep K J d v) (rv:RelV v u):∃a o xs n f,u=.ref a/\s.heap.get? a=some o/\o.cls=.type "tuple"/\o.data=.seq xs n/\xs[0]?=some f/\Looks (Rb prog w) s.heap (typeOf f) k.ty:=by
 cases d with
 | tup ds=>
  cases rd with
  | tup h1 hs=>
   cases rv
   obtain ⟨its,r,p⟩:=F.t _ _ h1
   obtain ⟨o,ho,hc,m,dm⟩:=id p
   cases hs with
   | nil=>cases hd
   | cons q1 t1=>
    cases r with
    | cons a1 b1=>
     refine ⟨_,o,_,m,_,rfl,ho,hc,dm,rfl,?_⟩
     rename_i x v' ds' vs' u us
     cases x with
     | tup _=>
      cases hd
      cases q1 with
      | tup h2 _=>
       cases a1
       obtain ⟨its2,_,p2⟩:=F.t _ _ h2
       obtain ⟨o2,ho2,hc2,_,_⟩:=id p2
       have:=(Looks.ld (M:=Rb prog w) (part:=none) ho2).andThen (f:=λo=>pure o.cls) (b:=o2.cls) .now
       rw [hc2] at this
       exact this
     | int _=>
      cases hd
      cases q1
      obtain ⟨tk,rfl⟩:=a1
      exact .now
     | str _=>
      cases hd
      cases q1
      obtain ⟨tk,rfl⟩:=a1
      exact .now
     | _=>cases hd
 | _=>cases hd
theorem s_ (F:HF K J s){k:Hd}:∀{ds:List D}{vs:List V}{us:List Qy},gV k ds=true->aI K J ds vs->Vals vs us->∃fs,KatTups s.heap us fs/\fs.length=us.length/\∀v∈fs,Looks (Rb prog w) s.heap (typeOf v) k.ty
 | _,_,_,_,.nil,.nil=>⟨[],trivial,rfl,λ_ h=>nomatch h⟩
 | d::ds,_,_,h,.cons q rs,.cons a b=>by
  have hd:=jN h d (QH ..)
  unfold gV at h
  rw [QK] at h
  obtain ⟨fs,h1,h2,h3⟩:=s_ F h.2 rs b
  obtain ⟨p,o,xs,n,f,rfl,e1,e2,e3,e4,e5⟩:=DK (prog:=prog) (w:=w) F hd q a
  refine ⟨f::fs,⟨⟨p,o,xs,n,rfl,e1,e2,e3,e4⟩,h1⟩,by simp [h2],λv hv=>?_⟩
  rcases Q3.mp hv with rfl | hv
  ·exact e5
  ·exact h3 v hv
theorem Ia (k:Hd):(k.ty != Um "tuple")=k.flag:=by cases k <;> decide
theorem vD (F:HF K J s){k:Hd}{ds:List D}{vs:List V}{us:List Qy}(h:gV k ds=true) (rs:aI K J ds vs) (rv:Vals vs us) (hl:0 < us.length){C:aas->QC->Prop}(c:C (aba k.flag) s):Q7 (Rb prog w) A (aat us.toArray) C E s:=by
 obtain ⟨fs,h1,h2,h3⟩:=s_ (prog:=prog) (w:=w) F h rs rv
 refine kat_kind h1 (by omega) h3 (by cases k <;> decide) ?_
 rw [Ia]
 exact c
end
end DL
namespace DL
open PySem PySem.Spec PyProof.Rows L2
open PySem.W (KasT kas_sort kas_ask)
section
variable {prog:Q8}{w:Ru}{A:Rx}{E:Qy->QC->Prop}{s:QC}
theorem tF {a:QW}{vs:List Qy}{n:Nat}{P:abB->QC->Prop}(ho:s.heap.get? a=some (S0 "list" vs.toArray n)) (h2:vs.length < 2)
  (h:P (.done (.ret .none)) {s with heap:=aac s.heap a vs vs.toArray}):Q7 (Rb prog w) A (UN.«list.sort» ⟨[.ref a],[]⟩) P E s:=by
 have sl:vs.length<=sizeLine:=by rw [RI];omega
 obtain ⟨e1,g1⟩:∃e1,(s.heap.update a (Sj λ_=>(#[]:Array Qy))).get? a=some (S0 "list" #[] e1):=⟨_,(Zq ho λ_=>#[])⟩
 have g3:(((s.heap.update a (Sj λ_=>(#[]:Array Qy))).push (S0 "tuple" vs.toArray 0)).push (S0 "list" #[] 0)).get? a=some (S0 "list" #[] e1):=(QI _ ((QI _ g1)))
 rw [Zr]
 refine Qw ((listItems_at ho rfl ?_))
 refine Qw (WD ho rfl ?_ (by rw [QO];exact sl) (Rl _))
 refine Qw ((XX g1 rfl ?_))
 refine Qw (ZT ?_ (show vs.length<=_ from sl))
 refine Qw ((VI ?_ (Rl _)))
 refine (Rn ?_)
 dsimp only
 have n2:vs.toArray.size < 2:=by (rw [QO]);omega
 rw [if_pos n2,if_pos n2]
 refine (Qw (Qz ?_))
 rw [StateT.run_pure]
 refine (Qw (Qz ?_))
 dsimp only
 have ou:(arrOf (SortSt.mk' general' (vs.toArray.zip vs.toArray) #[] 7 none)).map (·.2)=vs.toArray:=by
  show (vs.toArray.zip vs.toArray).map (·.2)=vs.toArray
  match vs,h2 with
  | [],_=>simp
  | [_],_=>simp
 rw [ou]
 refine Qw ((XX g3 rfl ?_))
 refine Qw (WD g3 rfl ?_ (Rl _) (by rw [QO];omega))
 simp only [bne_self_eq_false,QZ,if_false]
 exact Qz h
theorem A5 {l:QW}{vs:List Qy}{Q:Qy->QC->Prop}(hl:s.heap.IsList l vs.toArray) (h2:vs.length < 2)
  (h:Q (.ref (s.heap.objs.size + 1)) {s with heap:=Yj s.heap vs vs.toArray}):Q7 (Rb prog w) A (call (.builtin "sorted") [.ref l]) Q E s:=by
 have sl:vs.length<=sizeLine:=by rw [RI];omega
 refine (UI Zs YY YZ (Y0 _) ?_)
 unfold UN.«sorted»
 refine Qw (m:=aad "sorted" 1 1 _) ((Qz ?_))
 refine Qw (collect_list hl ?_ sl)
 refine Qw (VI ?_ sl)
 have z:((s.heap.push (S0 "list" #[] 0)).update s.heap.objs.size (Sj (·++vs.toArray))).objs.size=s.heap.objs.size + 1:=(by rw [WR,size_push'])
 have gL:(((s.heap.push (S0 "list" #[] 0)).update s.heap.objs.size (Sj (·++vs.toArray))).push (S0 "list" vs.toArray 0)).get? (s.heap.objs.size + 1)=some (S0 "list" vs.toArray 0):=(by rw [<-z];exact QV _ rfl)
 dsimp only
 rw [z]
 refine Qw (Rn (RD V9 ⟨_,gL,rfl⟩ VV (tF gL h2 ⟨_,rfl,?_⟩) (V_ _)))
 exact Qz ⟨_,rfl,h⟩
end
def cO (ds:List D) (i:Nat):D:=ds.getD i .non
def ltB (ds:List D) (i j:Nat):Bool:=(dQ (cO ds i) (cO ds j)).getD false
def bB (ds:List D):List D:=if ds.length < 2 then ds else (aX (ltB ds) (S6 ds.length)).toList.map (cO ds)
def sG (ds:List D):Bool:=ds.all λx=>ds.all λy=>(dQ x y).isSome
def FO (ds:List D):Bool:=match ds with
 | []=>false
 | d::_=>match iw d with
  | some k=>gV k ds
  | none=>false
def yN (ds:List D):Bool:=decide (ds.length < 2) || (decide (ds.length < 64) && (decide (deps ds<=60) && (FO ds && sG ds)))
section
variable {K:Qx}{J:Hp}
theorem eX {ds:List D}{vs:List V}(h:aI K J ds vs):∀{i:Nat},i < ds.length->Rep K J (cO ds i) (vs.getD i V.non):=by
 induction ds generalizing vs with
 | nil=>intro i hi;exact absurd hi (RU _)
 | cons x r ih=>
  intro i hi
  cases h with
  | cons q rs=>
   cases i with
   | zero=>simpa [cO] using q
   | succ i=>simpa [cO] using ih rs (i:=i) (by simpa using hi)
theorem eY {vs:List V}{us:List Qy}(h:Vals vs us):∀{i:Nat},i < vs.length->RelV (vs.getD i V.non) (us.getD i RB):=by
 induction vs generalizing us with
 | nil=>intro i hi;exact absurd hi (RU _)
 | cons x r ih=>
  intro i hi
  cases h with
  | cons q rs=>
   cases i with
   | zero=>simpa using q
   | succ i=>simpa using ih rs (i:=i) (by simpa using hi)
theorem nv {ds:List D}{vs:List V}(h:aI K J ds vs):∀ix:List Nat,(∀i∈ix,i < ds.length)->aI K J (ix.map (cO ds)) (ix.map λi=>vs.getD i V.non)
 | [],_=>.nil
 | i::r,hi=>.cons (eX h (hi i (QH ..))) (nv h r λj hj=>hi j (QF _ hj))
theorem nF {vs:List V}{us:List Qy}(h:Vals vs us):∀ix:List Nat,(∀i∈ix,i < vs.length)->Vals (ix.map λi=>vs.getD i V.non) (ix.map λi=>us.getD i RB)
 | [],_=>.nil
 | i::r,hi=>.cons (eY h (hi i (QH ..))) (nF h r λj hj=>hi j (QF _ hj))
theorem Ay {ds:List D}:∀{i:Nat},i < ds.length->dep (cO ds i)<=deps ds:=by
 induction ds with
 | nil=>intro i hi;exact absurd hi (RU _)
 | cons x r ih=>
  intro i hi
  unfold deps
  cases i with
  | zero=>show dep x<=_;omega
  | succ i=>
   have:=ih (i:=i) (by simpa using hi)
   have e:cO (x::r) (i + 1)=cO r i:=rfl
   rw [e];omega
theorem eH {ds:List D}{i:Nat}(hi:i < ds.length):cO ds i∈ds:=by
 have e:cO ds i=ds[i]:=by simp [cO,hi]
 rw [e];exact Sg hi
theorem HF.keeps {s:QC}{h':Sh}(F:HF K J s) (k:∀b o,s.heap.get? b=some o->h'.get? b=some o):HF K J {s with heap:=h'}:=
 ⟨λa xs h=>let ⟨its,r,o,ho,q⟩:=F.t a xs h;⟨its,r,o,k _ _ ho,q⟩,λa xs h=>let ⟨its,r,o,ho,q⟩:=F.l a xs h;⟨its,r,o,k _ _ ho,q⟩,λa h=>let ⟨o,ho,q⟩:=F.e a h;⟨o,k _ _ ho,q⟩,λa ep kvs h=>let ⟨o,es,ho,q⟩:=F.d a ep kvs h;⟨o,es,k _ _ ho,q⟩⟩
end
section
variable {X:Cx}{c:C}{e:Rp}{es:List Rp}{pos:Pos}
theorem x_ (hu:X.A.units + 64 < Sy):bU X (.builtin "sorted") (λxs H Q=>∃p vs ds,xs=[.ref p]/\cC X.K H p vs/\aI X.K H ds vs/\yN ds=true/\∀l vs',H l=none->(∀J,aI X.K J ds vs->aI X.K J (bB ds) vs')->Q (.ref l) (upd H l (.lst vs'))):=by
 intro pins s σ H xs us Q I r h
 obtain ⟨p,vs,ds,rfl,hq,rs,ok,q⟩:=h
 obtain ⟨u,rfl,rx⟩:=vals1 r
 cases rx
 obtain ⟨its,r',pl,hz⟩:=I.list hq
 have l1:vs.length=its.length:=r'.length
 have l2:ds.length=vs.length:=rs.length
 have fr:H (s.heap.objs.size + 1)=none:=I.hok.fresh (Sv _)
 have fin:∀(out:List Qy) (vs':List V),vs'.length=vs.length->Vals vs' out->(∀J,aI X.K J ds vs->aI X.K J (bB ds) vs')->∃v H',Inv X pins σ H' {s with heap:=Yj s.heap its out.toArray}/\RelV v (.ref (s.heap.objs.size + 1))/\Q v H':=λout vs' lv rv rr=>by
  obtain ⟨n,hn⟩:=YW s.heap its out.toArray
  exact ⟨.ref (s.heap.objs.size + 1),_,I.laid (t':=s.toks) (λb o e=>Yk e) (Sv _) (show cg X.prog X.w _ _ _ (.lst vs') from ⟨by rw [lv];exact hz,out,n,rv,by simpa [S0] using hn⟩),rfl,q _ vs' fr rr⟩
 by_cases h2:ds.length < 2
 ·refine A5 pl.isList (by omega) (fin its vs rfl r' ?_)
  intro J rj
  unfold bB
  rw [if_pos h2]
  exact rj
 ·unfold yN at ok
  rw [decide_eq_false h2,aav,QK,QK,QK] at ok
  obtain ⟨o1,o2,o3,o4⟩:=ok
  have o1:=of_decide_eq_true o1
  have o2:=of_decide_eq_true o2
  obtain ⟨k,hk⟩:∃k,gV k ds=true:=by
   unfold FO at o3
   cases ds with
   | nil=>cases o3
   | cons d r=>
    simp only at o3
    cases z:iw d with
    | none=>rw [z] at o3;cases o3
    | some k=>rw [z] at o3;exact ⟨k,o3⟩
  have F:HF X.K H s:=iT I
  have un:X.A.in1.in1.units=X.A.units + 2:=rfl
  have ib:∀i∈(aX (ltB ds) (S6 ds.length)).toList,i < ds.length:=λi hi=>by
   have:=((eT (n:=ds.length) (by omega)).run (ltB ds):eS _ _)
   have:=(Tn this).mp (UB.mp hi)
   simpa using this
  refine A6 (κ:=aba k.flag) (q:=ltB ds) pl.isList (by omega) (by omega) (λh' C kp cc=>?_) (λh' kp i j C hi hj cc=>?_) ?_
  ·exact vD (F.keeps kp) hk rs r' (by omega) cc
  ·have hi':i < ds.length:=by omega
   have hj':j < ds.length:=by omega
   have hb:dQ (cO ds i) (cO ds j)=some (ltB ds i j):=by
    unfold sG at o4
    have:=Rw.mp (Rw.mp o4 _ (eH hi')) _ (eH hj')
    unfold ltB
    cases z:dQ (cO ds i) (cO ds j) with
    | none=>rw [z] at this;cases this
    | some b=>rfl
   have d1:=Ay hi'
   have d2:=Ay hj'
   exact AJ (F.keeps kp) (jN hk _ (eH hi')) (jN hk _ (eH hj')) hb (eX rs hi') (eX rs hj') (eY r' (by omega)) (eY r' (by omega)) (by rw [un];omega) (by omega) (by omega) cc
  ·have e1:iJ (ltB ds) its=(aX (ltB ds) (S6 ds.length)).toList.map λi=>its.getD i RB:=by unfold iJ;rw [l2,l1]
   rw [e1]
   refine fin _ _ ?_ (nF r' _ λi hi=>l2▸ib i hi) ?_
   ·rw [QA,<-l2]
    have:=((eT (n:=ds.length) (by omega)).run (ltB ds):eS _ _).size_eq
    simpa using this
   ·intro J rj
    unfold bB
    rw [if_neg h2]
    exact nv rj _ ib
end
end DL
namespace DL
open PySem PySem.Spec PyProof.Rows L2
section
variable {X:Cx}{c:C}{e:Rp}{g:G R}{pos:Pos}
def uG (i:Nat) (f:R->R->M R) (g:G R):G O:=λenv=>match env[i]? with
 | some (some (.d d))=>g env >>= λy=>f (.d d) y >>= λz=>toS z >>= λx=>.ok (.nx (env.set i (some x)))
 | _=>.bad
theorem IL (i:Nat){x:Str}{pos':Pos}{op:X4}{r:R2}{f:R->R->M R}(hN:X.N.Nodup) (ho:cT X (W_ op) r) (hb:BD c r f) (h:PD X c e g) (hi:X.N[i]?=some x:=by rfl) (hx:Loc X.env.scope x:=by first | exact Vt rfl | exact Ua rfl)
  (hf:X.fn x=true\/X.env.scope.names.lookup x=some .local:=by first | exact .inl rfl | exact .inr rfl):Ak X c (.AugAssign (.Name x pos') op e pos) (uG i f g):=
 iF (Lm hN hi hx h (λpins s σ H x y v u Q I rx ry q=>Nq ho I rx ry q) hf) λE σ H ⟨J,env,sr,w⟩=>by
 unfold uG at w
 split at w
 ·rename_i d hd
  obtain ⟨v,h1,h2⟩:=sr.at_ i _ hd
  refine ⟨v,h1,J,env,sr,aB (aK w) λy wr v' J1 H1 e1 r1=>?_⟩
  have sr1:=sr.ext e1
  refine hb H H J1 H1 (.d d) y v v' _ sr1.hp (Rep.mono e1.j h2) r1 (aB (aK wr) λz wz w' J2 H2 e2 r2=>?_)
  obtain ⟨x,q,wz⟩:=nK wz
  exact wz (σ.set i (some w')) J2 H2 (e1.j.trans e2.j) (sr1.set e2 r2 q)
 ·exact w.elim
end
end DL
namespace DL
open PySem PySem.Spec PyProof.Rows L2 DX
section
variable {M:abn}{A:Rx}{E:Qy->QC->Prop}{s:QC}
theorem B3 {scope:Te}{globals:QW}{closure:List (Str×QW)}{qual:Str}{func:Option QW}{code:Qy}{outer:Env}{builtins:QW}{Q:Env->QC->Prop}
  (hQ:Q (newEnv scope s.heap.objs.size globals (RK (s.heap.objs.size + 1) scope.names closure) qual func code (some outer) builtins) {s with heap:=Zt (s.heap.push {cls:=.type "dict",data:=.dict #[]}) scope.names}):
  Q7 M A (ZU scope globals closure [] qual func code (some outer) builtins) Q E s:=by
 simp only [ZU,Option.isSome_some,if_true]
 refine Qw (wpAny_alloc ?_)
 refine Qw (wpAny_layCells _ (λname kind cells=>by cases hkc:kind == U3 <;> simp [hkc]) _ _ _ _ ?_)
 rw [show ({s with heap:=s.heap.push {cls:=.type "dict",data:=.dict #[]}}:QC).heap.objs.size=s.heap.objs.size + 1 from Ud ..]
 simp only [List.forIn_nil]
 exact Qw (Qz (Qz hQ))
theorem jA:∀(names:List (Str×SH)) (n:Nat) (acc:List (Str×QW)) (x:Str),(∀y∈names,y.2=.cell->y.1≠x)->(RK n names acc).lookup x=acc.lookup x
 | [],_,_,_,_=>by unfold RK;rfl
 | (y,k)::r,n,acc,x,h=>by
  have hr:∀z∈r,z.2=.cell->z.1≠x:=λz hz=>h z (QF _ hz)
  unfold RK
  split
  ·rename_i hk
   rw [jA r _ _ x hr]
   have hy:y≠x:=h (y,k) (QH ..) (by simpa using hk)
   have:(x == y)=false:=by
    cases q:x == y with
    | false=>rfl
    | true=>exact absurd (eq_of_beq q).symm hy
   rw [Se,this]
  ·exact jA r _ _ x hr
end
theorem wI:∀(names:List (Str×SH)) (n:Nat) (acc:List (Str×QW)),RK n names acc=RK n names []++acc:=by
 intro names
 suffices ∀(n:Nat) (a b:List (Str×QW)),RK n names (a++b)=RK n names a++b by
  intro n acc
  exact this n [] acc
 induction names with
 | nil=>intro n a b;unfold RK;rfl
 | cons p r ih=>
  obtain ⟨y,k⟩:=p
  intro n a b
  unfold RK
  split
  ·exact ih _ (_::a) b
  ·exact ih _ a b
def cU (names:List (Str×SH)) (x:Str):Bool:=names.any λy=>y.1 == x && y.2 == .cell
theorem gp:∀(names:List (Str×SH)) (n:Nat) (acc:List (Str×QW)) (x:Str),((acc.lookup x).isSome=true\/cU names x=true)->((RK n names acc).lookup x).isSome=true
 | [],_,_,_,h=>by
  unfold RK
  rcases h with h | h
  ·exact h
  ·cases h
 | (y,k)::r,n,acc,x,h=>by
  unfold RK
  have e:cU ((y,k)::r) x=((y == x && k == .cell) || cU r x):=rfl
  rw [e] at h
  split
  ·rename_i hk
   refine gp r _ _ x ?_
   by_cases hx:x=y
   ·left;subst hx;rw [Se];simp
   ·rcases h with h | h
    ·left
     rw [Se]
     cases q:x == y with
     | true=>exact absurd (eq_of_beq q) hx
     | false=>exact h
    ·rw [TN,QK] at h
     rcases h with h | h
     ·exact absurd (eq_of_beq h.1).symm hx
     ·exact .inr h
  ·rename_i hk
   refine gp r _ _ x ?_
   rcases h with h | h
   ·exact .inl h
   ·rw [TN,QK] at h
    rcases h with h | h
    ·exact absurd h.2 hk
    ·exact .inr h
theorem fZ {names:List (Str×SH)}{n:Nat}{cl:List (Str×QW)}{x:Str}{d:QW}(h:(RK n names cl).lookup x=some d):
  (RK n names []).lookup x=some d\/(cU names x=false/\cl.lookup x=some d):=by
 rw [wI,List.lookup_append] at h
 cases q:(RK n names []).lookup x with
 | some e=>rw [q] at h;left;simpa using h
 | none=>
  rw [q] at h
  right
  refine ⟨?_,by simpa using h⟩
  cases z:cU names x with
  | false=>rfl
  | true=>
   have:=gp names n [] x (.inr z)
   rw [q] at this
   cases this
theorem oR {scope:Te}{env:Env}{x:Str}(h:(relabel scope env).names.lookup x=some .cell\/(relabel scope env).names.lookup x=some .free):(x,R1)∈scope.names\/cU scope.names x=true:=by
 unfold relabel at h
 revert h
 generalize scope.names=names
 induction names with
 | nil=>intro h;simp at h
 | cons p r ih=>
  obtain ⟨n,k⟩:=p
  intro h
  rw [Q5] at h
  simp only at h
  by_cases hx:x=n
  ·subst hx
   cases k with
   | free=>exact .inl (QH ..)
   | cell=>right;unfold cU;simp
   | _=>simp [Se] at h
  ·have e:(x == n)=false:=by simpa using hx
   have h':(r.map λ(n,k)=>if (k == R1 && env.scope.kind == .function && env.kindOf n == some .cell) then (n,U3) else (n,k)).lookup x=some .cell\/(r.map λ(n,k)=>if (k == R1 && env.scope.kind == .function && env.kindOf n == some .cell) then (n,U3) else (n,k)).lookup x=some .free:=by
    split at h <;> simpa [Se,e] using h
   rcases ih h' with z | z
   ·exact .inl (QF _ z)
   ·right
    unfold cU at z ⊢
    rw [VH,z,Bool.or_true]
section
variable {X:Cx}
def aV (X:Cx) (own:List Str) (cap:List Nat) (scope:Te) (cl:List (Str×QW)) (C:QW) (s:QC) (H:Hp) (fp:List QW):Cx:=
 {Kc X own cap scope (RK (C + 1) scope.names cl) C s H fp with fn:=cU scope.names}
theorem HV {pins:List (QW×Obj)}{σ:L2.St}{H:Hp}{s:QC}{own:List Str}{cap:List Nat}{scope:Te}{cl:List (Str×QW)}{fp:List QW}{h1:Sh}(I:Inv X pins σ H s) (hk:scope.kind=.function)
  (hcl:bF X.env.cells scope.names []=some cl) (ck:abb h1 (s.heap.objs.size + 1) (RK (s.heap.objs.size + 1) scope.names [])) (hfp:∀b∈fp,jW X pins H b) (hin:∀b∈fp,b < s.heap.objs.size):(aV X own cap scope cl s.heap.objs.size s H fp).Ok:=by
 obtain ⟨m1,m2⟩:=gP scope.names [] cl hcl (λx c h=>by simp at h)
 have lo:∀{x:Str}{d:QW},(RK (s.heap.objs.size + 1) scope.names []).lookup x=some d->s.heap.objs.size + 1<=d:=fun {x d} h=>(ck.empty _ _ (U6 h)).2
 have old:∀{x:Str}{d:QW},cl.lookup x=some d->d < s.heap.objs.size:=fun {x d} h=>by
  obtain ⟨v,z⟩:=I.cell x d (m1 x d h)
  exact z.lt
 refine ⟨I.ok.mod,hk,I.ok.glob,I.ok.blt,QL _,λx y d h1 h2=>?_,λx hx=>?_,λx d hf h=>?_,λhc=>I.ok.hd hc,I.ok.frames,.inl rfl,λb hb=>⟨Rf (hin b hb),λx d h=>?_⟩,
  I.bs,Rr I.ok.bsz I.sz,λb o h hb=>?_,λb hb hf=>?_,I.stack,I.stkFree⟩
 ·rcases fZ h1 with h1 | ⟨_,h1⟩
  ·rcases fZ h2 with h2 | ⟨_,h2⟩
   ·exact name_of_addr ck.apart (U6 h1) (U6 h2)
   ·exact absurd (Rc (old h2) (TQ (lo h1))) (SG _)
  ·rcases fZ h2 with h2 | ⟨_,h2⟩
   ·exact absurd (Rc (old h1) (TQ (lo h2))) (SG _)
   ·exact I.ok.inj x y d (m1 x d h1) (m1 y d h2)
 ·refine R3.mp (gp _ _ _ x ?_)
  rcases oR hx with z | z
  ·exact .inl (m2 x (.inr z))
  ·exact .inr z
 ·rcases fZ h with h | ⟨z,h⟩
  ·exact TQ (lo h)
  ·have hf':cU scope.names x=true:=hf
   rw [z] at hf'
   cases hf'
 ·rcases fZ h with h | ⟨_,h⟩
  ·exact Ui (Rc (hin b hb) (TQ (lo h)))
  ·exact (hfp b hb).2.2.2.2.1 x d (m1 x d h)
 ·rcases (hfp b hb).2.2.2.1 with z | z
  ·exact I.ok.noex b o h z
  ·exact absurd (Rc (QY (I.ok.bs b o h).1) z) (SG _)
 ·rcases Q3.mp (I.stkSub b hf) with e | e
  ·exact (hfp b hb).2.1 e
  ·exact (hfp b hb).2.2.1 e
end
theorem yG {names:List (Str×SH)}{n:Nat}{cl:List (Str×QW)}{x:Str}(h:cU names x=false):(RK n names cl).lookup x=cl.lookup x:=
 jA names n cl x λy hy hk e=>by
  unfold cU at h
  have:=List.any_eq_false.mp h y hy
  simp [hk,e] at this
section
variable {X:Cx}
theorem E5 {pins:List (QW×Obj)}{σ:L2.St}{H:Hp}{s:QC}{own:List Str}{cap:List Nat}{scope:Te}{cl:List (Str×QW)}{fp:List QW}{h1:Sh}{m:Str->Option Qy}{tk:Nat}(I:Inv X pins σ H s) (ok:(aV X own cap scope cl s.heap.objs.size s H fp).Ok)
  (hcl:bF X.env.cells scope.names []=some cl) (ck:abb h1 (s.heap.objs.size + 1) (RK (s.heap.objs.size + 1) scope.names [])) (hcap:dD X cap=true) (OG:∀j∈cap,∀x,X.N[j]?=some x->(relabel scope X.env).names.lookup x≠some .local)
  (hno:∀j∈cap,∀x,X.N[j]?=some x->cU scope.names x=false) (hns:h1.Ns s.heap.objs.size m) (old:∀b o,s.heap.get? b=some o->h1.get? b=some o):
  Inv (aV X own cap scope cl s.heap.objs.size s H fp) [] (RX own.length none++cap.map λ(j:Nat)=>(σ[j]?).getD none) H {s with heap:=h1,toks:=tk}:=by
 obtain ⟨m1,m2⟩:=gP scope.names [] cl hcl (λx c h=>by simp at h)
 refine ⟨ok,rfl,I.bare,Un.kept old,⟨m,hns,λi x v q1 q2 q3=>?_⟩,λx d h=>?_,I.hok.fresh (QL _),λx d h=>?_,λp hp=>absurd (show p∈([]:List (QW×Obj)) from hp) (by simp),I.hok.kept old,?_⟩
 ·obtain ⟨j,h2,h3,h4⟩:=ki q2
  have q1':(own++cap.map λ(j:Nat)=>(X.N[j]?).getD ("":Str))[i]?=some x:=q1
  rw [R8 (by exact h2),Q_,h3] at q1'
  have hj:j∈cap:=R9 h3
  have hc:(match X.N[j]? with
   | some x=>(match X.env.scope.names.lookup x with
    | some .cell=>true
    | some .free=>true
    | _=>false)
   | none=>false)=true:=by
   unfold dD at hcap
   exact Rw.mp hcap j hj
  cases hx:X.N[j]? with
  | none=>rw [hx] at hc;cases hc
  | some y=>
   rw [Zn,hx] at q1'
   rw [hx] at hc
   have e:y=x:=by simpa using q1'
   subst e
   have kd:X.env.kindOf y=some .cell\/X.env.kindOf y=some .free:=by
    unfold abp
    simp only at hc
    split at hc
    ·rename_i z;exact .inl z
    ·rename_i z;exact .inr z
    ·cases hc
   obtain ⟨mX,nX,lX⟩:=I.loc
   obtain ⟨u,ru,lu⟩:=lX j y v hx h4 (kd.elim (λz=>.inr (.inl z)) λz=>.inr (.inr z))
   refine ⟨u,ru,.inr ?_⟩
   have kd':(relabel scope X.env).names.lookup y=some .cell\/(relabel scope X.env).names.lookup y=some .free:=by
    rcases q3 with z | z | z
    ·exact absurd z (OG j hj y hx)
    ·exact .inl z
    ·exact .inr z
   refine ⟨kd',?_⟩
   have no:=hno j hj y hx
   have fr:(y,R1)∈scope.names:=by
    rcases oR kd' with z | z
    ·exact z
    ·rw [no] at z;cases z
   obtain ⟨d,hd⟩:=R3.mp (m2 y (.inr fr))
   refine ⟨d,(yG no).trans hd,?_⟩
   rcases lu with ⟨z,_⟩ | ⟨_,d',hd',z⟩
   ·rcases kd with k | k <;> (rw [k] at z;cases z)
   ·have:=m1 y d hd
    rw [hd'] at this
    cases this
    obtain ⟨o,ho,hod⟩:=z
    exact ⟨o,old _ _ ho,hod⟩
 ·rcases fZ h with h | ⟨_,h⟩
  ·exact ⟨none,(ck.empty _ _ (U6 h)).1⟩
  ·obtain ⟨v,o,ho,hod⟩:=I.cell x d (m1 x d h)
   exact ⟨v,o,old _ _ ho,hod⟩
 ·rcases fZ h with h | ⟨_,h⟩
  ·exact I.hok.fresh (TQ (ck.empty _ _ (U6 h)).2)
  ·exact I.freeC x d (m1 x d h)
 ·show _=(own++cap.map λ(j:Nat)=>(X.N[j]?).getD ("":Str)).length
  simp
end
theorem K0 (h:Sh) (names:List (Str×SH)):(Zt (h.push {cls:=.type "dict",data:=.dict #[]}) names).Ns h.objs.size (λ_=>none):=
 (Heap.Ns.new h (.type "dict")).keeps λb o e=>Zu _ _ _ _ e
theorem Dm (h:Sh) (names:List (Str×SH)):abb (Zt (h.push {cls:=.type "dict",data:=.dict #[]}) names) (h.objs.size + 1) (RK (h.objs.size + 1) names []):=by
 have:=cellsFrom_ok names (h.push {cls:=.type "dict",data:=.dict #[]}) (h.objs.size + 1) [] ⟨λ_ _ hm=>(nomatch hm),TM⟩ (by rw [Ud];exact QL _)
 rw [Ud] at this
 exact this
def fC (X:Cx) (cap:List Nat) (scope:Te):Bool:=cap.all λj=>match X.N[j]? with
 | some x=>!cU scope.names x
 | none=>true
section
variable {X:Cx}{c:C}
theorem kG {cells:List (Str×QW)}{names names2:List (Str×SH)}{cl:List (Str×QW)}{n:Nat}(h:bF cells names []=some cl)
  (hn:(names2.all λy=>!(y.2 == .free) || ((names.any λz=>z.1 == y.1 && z.2 == .free) || cU names y.1))=true):(bF (RK n names cl) names2 []).isSome=true:=by
 obtain ⟨_,m2⟩:=gP names [] cl h (λx c h=>by simp at h)
 have go:∀(l:List (Str×SH)) (cs:List (Str×QW)),(l.all λy=>!(y.2 == .free) || ((names.any λz=>z.1 == y.1 && z.2 == .free) || cU names y.1))=true->(bF (RK n names cl) l cs).isSome=true:=by
  intro l
  induction l with
  | nil=>intro cs _;rfl
  | cons y r ih=>
   obtain ⟨y,k⟩:=y
   intro cs hl
   rw [Us,QK] at hl
   unfold bF
   split
   ·rename_i hk
    have h1:=hl.1
    simp only [hk,S4,aav,TN] at h1
    have:((RK n names cl).lookup y).isSome=true:=by
     refine gp names n cl y ?_
     rcases h1 with z | z
     ·obtain ⟨q,hq,e⟩:=SS.mp z
      rw [QK] at e
      have e1:q=(y,R1):=by
       obtain ⟨q1,q2⟩:=q
       have a1:q1=y:=eq_of_beq e.1
       have a2:q2=R1:=by simpa using e.2
       rw [a1,a2]
      exact .inl (m2 y (.inr (e1▸hq)))
     ·exact .inr z
    obtain ⟨a,ha⟩:=R3.mp this
    rw [ha]
    exact ih _ hl.2
   ·exact ih _ hl.2
 exact go names2 [] hn
end
section
variable {X:Cx}{c:C}{e:Rp}{es:List Rp}{g:G R}{pos:Pos}
theorem Em (i:Nat){x:Str}{pos':Pos}(hN:X.N.Nodup) (h:QD X c e g) (hi:X.N[i]?=some x:=by rfl) (hx:Loc X.env.scope x:=by first | exact Vt rfl | exact Ua rfl) (hf:X.fn x=true\/X.env.scope.names.lookup x=some .local:=by first | exact .inl rfl | exact .inr rfl):
  iQ X c (.AugAssign (.Name x pos') .Add e pos) (uG i yk g):=have h:=h.h;⟨IL i hN Ih (gW λ_ _ _=>.int _) h hi hx hf⟩
end
end DL
namespace K51
open PySem DL
def Bh:List Str:=["_law_script","_law_k"]
def sV:G O:=(aM (b9 (bN (g2 (jO λi j=>.bl (decide (i < j))) (af 1) (gN gQ (ao (af 0) aC)))) (bO (g2 dH (g2 aW (af 0) (af 1)) (g2 Kl (gC (.int 10)) (gC (.int 64))))) eU)
 (bO (gC (.int 0))))
def bV (as:List S):M R:=fin (sV (bq Bh as))
def zA:List Str:=["_law_cell_here","_law_many","_law_letters","_law_sign","_law_stem","_law_found","_law_k","_law_other","_law_name"]
def qP:G O:=(aM (bg 2 (gC (.str "abcdefghijklmnopqrstuvwxyz")))
 (aM (bg 3 (g2 aW (af 2) (g2 dH (g2 ig (af 0) (gC (.int 3))) (gC (.int 26)))))
 (aM (bg 4 (g2 gR (af 3) (g2 cW (gC (.int 1)) (g2 dH (g2 ig (af 0) (gC (.int 78))) (gC (.int 7))))))
 (aM (bg 5 (gK aT))
 (aM (iu (cu (ao (af 1) aC)) (aD 6) (aM (bg 7 (g2 aW (af 2) (g2 dH (g2 cW (g2 ig (af 0) (gC (.int 546))) (g2 gR (gC (.int 9)) (af 6))) (gC (.int 26)))))
 (aM (bg 8 (g2 aW (gK (aA (g2 cW (af 4) (af 7)) (aA (g2 cW (af 7) (af 4)) (aA (g2 gR (af 3) (g2 cW (af 6) (gC (.int 2)))) aT)))) (g2 dH (af 0) (gC (.int 3)))))
 (aM (b9 (bN (g2 (fE false) (af 8) (gC (.str "or")))) (bg 8 (gC (.str "orx"))) eU)
 (kX 5 (af 8))))))
 (bO (gN mZ (ao (af 5) aC))))))))
def gu (as:List S):M R:=fin (qP (bq zA as))
def Bg:List Str:=["_law_cell_here","_law_size","_law_found","_law_k"]
def sU:G O:=(aM (bg 2 (gK aT))
 (aM (iu (cu (ao (af 1) aC)) (aD 3) (aM (kX 2 (g2 (fE false) (g2 dH (af 0) (gC (.int 2))) (gC (.int 1))))
 (bg 0 (g2 ig (af 0) (gC (.int 2))))))
 (bO (af 2))))
def gT (as:List S):M R:=fin (sU (bq Bg as))
def zC:List Str:=["_law_names_here","_law_many","_law_cells","_law_marks","_law_k","_law_bits_here","_law_arrows"]
def qR:G O:=(aM (bg 3 (gK aT))
 (aM (iu (cu (ao (gN gQ (ao (g2 aW (af 0) (gC (.int 0))) aC)) aC)) (aD 4) (aM (bg 5 (gN (aS 2 K51.gT) (ao (g2 aW (af 2) (af 4)) (ao (af 1) aC))))
 (kX 3 (bz (aA (g2 aW (g2 aW (af 0) (gC (.int 0))) (af 4)) (aA (gN cI (ao (bJ 1 [5] (cu (ao (af 1) aC)) (aD 0) (uI (g2 aW (af 1) (af 0))) (af 0)) aC)) aT))))))
 (aM (bg 6 (gK aT))
 (aM (iu (cu (ao (gN gQ (ao (g2 aW (af 0) (gC (.int 1))) aC)) aC)) (aD 4) (aM (bg 5 (gN (aS 2 K51.gT) (ao (g2 aW (af 2) (g2 cW (gC (.int 3)) (af 4))) (ao (g2 gR (af 1) (af 1)) aC))))
 (kX 6 (bz (aA (g2 aW (g2 aW (af 0) (gC (.int 1))) (af 4)) (aA (gN cI (ao (bJ 1 [5,1] (cu (ao (g2 gR (af 1) (af 1)) aC)) (aD 0) (uI (g2 aW (af 1) (af 0))) (bz (aA (g2 ig (af 0) (af 2)) (aA (g2 dH (af 0) (af 2)) aT)))) aC)) aT))))))
 (bO (bz (aA (af 1) (aA (gN cI (ao (af 3) aC)) (aA (gN cI (ao (af 6) aC)) aT)))))))))
def fM (as:List S):M R:=fin (qR (bq zC as))
end K51
namespace WP
open PySem DL K01
def Wp {α:Type}(m:M α) (P:α->Prop):Prop:=∃a,m=.ok a/\P a
section
variable {α β:Type}{m:M α}{P P':α->Prop}{a:α}{env:Ev}{Q:O->Prop}{t u:G O}{g:G R}{r r':R}{i:Nat}{b:G Bool}
theorem Wp.of (h:m=.ok a) (p:P a):Wp m P:=⟨a,h,p⟩
theorem Wp.mono (h:Wp m P) (k:∀a,P a->P' a):Wp m P':=let ⟨a,h1,h2⟩:=h;⟨a,h1,k a h2⟩
theorem Wp.eq (h:Wp m (·=a)):m=.ok a:=let ⟨_,h1,h2⟩:=h;h2▸h1
theorem oG {P:R->Prop}(h:Wp (t env) λo=>∃r,o=.rt r/\P r):Wp (fin (t env)) P:=by
 obtain ⟨_,h1,r,rfl,h2⟩:=h
 exact ⟨r,by rw [h1];rfl,h2⟩
theorem nG (h:Wp (t env) λo=>∃e,o=.nx e):fin (t env)=.ok (.d .non):=by
 obtain ⟨_,h1,r,rfl⟩:=h
 rw [h1];rfl
theorem cD (h:Wp (t env) (·=.rt r)):fin (t env)=.ok r:=by
 rw [h.eq];rfl
theorem cG (h:Wp (t env) λo=>match o with
 | .nx e=>Wp (u e) Q
 | o=>Q o):Wp (aM t u env) Q:=by
 obtain ⟨o,h1,h2⟩:=h
 show Wp (t env >>= _) Q
 rw [h1]
 cases o with
 | nx e=>exact h2
 | rt r=>exact ⟨_,rfl,h2⟩
 | bk e=>exact ⟨_,rfl,h2⟩
 | ct e=>exact ⟨_,rfl,h2⟩
theorem gj {x:S}(h:g env=.ok r) (h2:toS r=.ok x) (k:Q (.nx (env.set i (some x)))):Wp (bg i g env) Q:=⟨_,by show (g env >>= _)=_;rw [h,aQ,h2];rfl,k⟩
theorem bA {x:S}(h:g env=.ok r) (h2:toS r=.ok x) (k:Wp (u (env.set i (some x))) Q):Wp (aM (bg i g) u env) Q:=cG (gj h h2 k)
theorem bR (h:g env=.ok r) (h2:rF r=.ok r') (k:Q (.rt r')):Wp (bO g env) Q:=⟨_,LH h h2,k⟩
theorem jC (k:Q (.nx env)):Wp (eU env) Q:=⟨_,rfl,k⟩
theorem NR (k:Wp (u env) Q):Wp (aM eU u env) Q:=cG (jC k)
theorem jk (h:b env=.ok true) (k:Wp (t env) Q):Wp (b9 b t u env) Q:=by rw [AG h];exact k
theorem pI (h:b env=.ok false) (k:Wp (u env) Q):Wp (b9 b t u env) Q:=by rw [yv h];exact k
theorem yE {c:Bool}(h:b env=.ok c) (k1:c=true->Wp (t env) Q) (k2:c=false->Wp (u env) Q):Wp (b9 b t u env) Q:=by
 cases c with
 | true=>exact jk h (k1 rfl)
 | false=>exact pI h (k2 rfl)
theorem NQ {v:G O}(h:b env=.ok false) (k:Wp (aM u v env) Q):Wp (aM (b9 b t u) v env) Q:=by
 have:aM (b9 b t u) v env=aM u v env:=by unfold aM;rw [yv h]
 rw [this];exact k
theorem fH {v:G O}(h:b env=.ok false) (k:Wp (v env) Q):Wp (aM (b9 b t eU) v env) Q:=NQ h (NR k)
theorem qm {xs:List D}{d:D}(h0:env[i]?=some (some (.own xs))) (h:g env=.ok r) (h2:toD r=.ok d) (hl:xs.length<=1000) (k:Q (.nx (env.set i (some (.own (xs++[d])))))):Wp (kX i g env) Q:=by
 refine ⟨_,?_,k⟩
 unfold kX
 rw [h0]
 show (g env >>= _)=_
 rw [h,aQ,h2,aQ,if_pos (Yl hl (by decide))]
theorem Hr {xs:List D}{d:D}(h0:env[i]?=some (some (.own xs))) (h:g env=.ok r) (h2:toD r=.ok d) (hl:xs.length<=1000) (k:Wp (u (env.set i (some (.own (xs++[d]))))) Q):Wp (aM (kX i g) u env) Q:=cG (qm h0 h h2 hl k)
theorem BW {gi:G (List D)}{tg:GT}{ds:List D}(h:gi env=.ok ds) (k:Wp (gM tg u ds env) Q):Wp (iu gi tg u env) Q:=by rw [Km h];exact k
theorem mw {gi:G (List D)}{tg:GT}{ds:List D}{v:G O}(h:gi env=.ok ds) (k:Wp (gM tg t ds env) λo=>match o with
 | .nx e=>Wp (v e) Q
 | o=>Q o):Wp (aM (iu gi tg t) v env) Q:=cG (BW h k)
theorem ue {tg:GT}(I:Nat->Ev->Prop) (ds:List D) (h0:I 0 env) (step:∀(k:Nat) (hk:k < ds.length) (env:Ev),I k env->∃e,tg ds[k] env=.ok e/\Wp (u e) λo=>∃e,o=.nx e/\I (k + 1) e)
  (k:∀e,I ds.length e->Q (.nx e)):Wp (gM tg u ds env) Q:=by
 have key:∀(es:List D) (i:Nat) (env:Ev),ds.drop i=es->i<=ds.length->I i env->Wp (gM tg u es env) Q:=by
  intro es
  induction es with
  | nil=>
   intro i env hd hi hI
   have:i=ds.length:=by
    have:=congrArg Vg hd
    rw [T_] at this
    simp at this;omega
   subst this
   exact ⟨_,rfl,k _ hI⟩
  | cons d es ih=>
   intro i env hd hi hI
   have hlt:i < ds.length:=by
    have:=congrArg Vg hd
    rw [T_] at this
    simp at this;omega
   have e1:=UH hlt
   rw [hd] at e1
   obtain ⟨q1,q2⟩:=abH e1
   obtain ⟨e,h1,_,h2,e2,rfl,h3⟩:=step i hlt env hI
   unfold gM
   rw [q1,h1,aQ,h2,aQ]
   exact ih (i + 1) e2 q2.symm (by omega) h3
 exact key ds 0 env rfl (Rl _) h0
theorem qC {tg:GT}{n:Nat}(I:Nat->Ev->Prop) (h0:I 0 env) (step:∀(k:Nat),k < n->∀env,I k env->∃e,tg (.int k) env=.ok e/\Wp (u e) λo=>∃e,o=.nx e/\I (k + 1) e)
  (k:∀e,I n e->Q (.nx e)):Wp (gM tg u (fO 0 n) env) Q:=by
 have hl:(fO 0 n).length=n:=by simp [fO]
 refine ue I (fO 0 n) h0 (λj hj env hI=>?_) (by rw [hl];exact k)
 obtain ⟨e,h1,h2⟩:=step j (by rw [hl] at hj;exact hj) env hI
 refine ⟨e,?_,h2⟩
 rw [<-h1]
 simp [fO]
theorem n1 {f:List R->M R}{x z:R}(hx:g env=.ok x) (hf:f [x]=.ok z):gN f (ao g aC) env=.ok z:=Mx hx hf
theorem two {f:R->R->M R}{h:G R}{x y z:R}(hx:g env=.ok x) (hy:h env=.ok y) (hf:f x y=.ok z):g2 f g h env=.ok z:=by
 show (g env >>= _)=_
 rw [hx,aQ,hy,aQ,hf]
theorem c1 {F:List S->M R}{x z:R}(hx:g env=.ok x) (hF:F [cQ x]=.ok z):gN (aS 1 F) (ao g aC) env=.ok (ji z):=by
 show (ao g aC env >>= _)=_
 unfold ao aC
 rw [hx]
 show (match F [cQ x] with | .ok r=>M.ok (ji r) | _=>M.bad)=_
 rw [hF]
theorem c2 {F:List S->M R}{h:G R}{x y z:R}(hx:g env=.ok x) (hy:h env=.ok y) (hF:F [cQ x,cQ y]=.ok z):gN (aS 2 F) (ao g (ao h aC)) env=.ok (ji z):=by
 show (ao g (ao h aC) env >>= _)=_
 unfold ao aC
 rw [hx,hy]
 show (match F [cQ x,cQ y] with | .ok r=>M.ok (ji r) | _=>M.bad)=_
 rw [hF]
theorem c3 {F:List S->M R}{h k:G R}{x y w z:R}(hx:g env=.ok x) (hy:h env=.ok y) (hw:k env=.ok w) (hF:F [cQ x,cQ y,cQ w]=.ok z):gN (aS 3 F) (ao g (ao h (ao k aC))) env=.ok (ji z):=by
 show (ao g (ao h (ao k aC)) env >>= _)=_
 unfold ao aC
 rw [hx,hy,hw]
 show (match F [cQ x,cQ y,cQ w] with | .ok r=>M.ok (ji r) | _=>M.bad)=_
 rw [hF]
theorem c4 {F:List S->M R}{h k l:G R}{x y w v z:R}(hx:g env=.ok x) (hy:h env=.ok y) (hw:k env=.ok w) (hv:l env=.ok v) (hF:F [cQ x,cQ y,cQ w,cQ v]=.ok z):gN (aS 4 F) (ao g (ao h (ao k (ao l aC)))) env=.ok (ji z):=by
 show (ao g (ao h (ao k (ao l aC))) env >>= _)=_
 unfold ao aC
 rw [hx,hy,hw,hv]
 show (match F [cQ x,cQ y,cQ w,cQ v] with | .ok r=>M.ok (ji r) | _=>M.bad)=_
 rw [hF]
theorem x3 {F:List S->M R}{h k:G R}{x y w z:R}(hx:g env=.ok x) (hy:h env=.ok y) (hw:k env=.ok w) (hF:F [cQ x,cQ y,cQ w]=.ok z):gN (Kn 3 F) (ao g (ao h (ao k aC))) env=.ok (ji z):=by
 show (ao g (ao h (ao k aC)) env >>= _)=_
 unfold ao aC
 rw [hx,hy,hw]
 show (match F [cQ x,cQ y,cQ w] with | .ok r=>M.ok (ji r) | .exc x=>.exc x | .bad=>M.bad)=_
 rw [hF]
theorem gX (h:g env=.ok r) (k:Wp (u env) Q):Wp (aM (gZ g) u env) Q:=cG ⟨.nx env,by show (g env >>= _)=_;rw [h];rfl,k⟩
theorem lT {cap:List Nat}{gi:G (List D)}{ge:G R}{α:Type}{xs:List α}(a b:α->D) (f:α->D) (hi:gi env=.ok (xs.map λx=>.tup [a x,b x])) (hl:xs.length<=1000)
  (h:∀x∈xs,∃r,ge (some (.d (a x))::some (.d (b x))::cE 0 cap env)=.ok r/\toD r=.ok (f x)):bJ 2 cap gi (eZ 2 (bL (aD 0) (bL (aD 1) fK))) cA ge env=.ok (.l .fresh (xs.map f)):=by
 have key:∀(es:List α) (x y:Option S),(∀d∈es,d∈xs)->cR (eZ 2 (bL (aD 0) (bL (aD 1) fK))) cA ge (es.map λx=>.tup [a x,b x]) (x::y::cE 0 cap env)=.ok (es.map f):=by
  intro es
  induction es with
  | nil=>exact λ_ _ _=>rfl
  | cons d es ih=>
   intro x y hm
   obtain ⟨r,h1,h2⟩:=h d (hm d QH)
   rw [Q5]
   unfold cR
   show (ge (some (.d (a d))::some (.d (b d))::cE 0 cap env) >>= _)=_
   rw [h1,aQ,h2,aQ]
   show (cR _ cA ge _ (some (.d (a d))::some (.d (b d))::cE 0 cap env) >>= _)=_
   rw [ih _ _ λe he=>hm e (QF _ he)]
   rfl
 unfold bJ
 rw [hi,aQ,if_pos (gS (by rw [QA];exact hl))]
 show (cR _ cA ge _ (none::none::cE 0 cap env) >>= _)=_
 rw [key xs none none λ_ h=>h]
 rfl
theorem LJ (n:Nat):fO 0 n=(QG n).map dN:=by simp [fO]
theorem iN {gs:G (List R)}{n:Nat}(hg:gs env=.ok [.d (.int (n:Int))]) (h:n<=1000):cu gs env=.ok ((QG n).map dN):=by rw [rO hg h,LJ]
theorem jY {cap:List Nat}{gi:G (List D)}{ge:G R}{α:Type}{xs:List α}{h:α->D}(f:α->D) (hi:gi env=.ok (xs.map h)) (hl:xs.length<=1000000)
  (hb:∀x∈xs,∃r,ge (some (.d (h x))::cE 0 cap env)=.ok r/\toD r=.ok (f x)):bJ 1 cap gi (aD 0) cA ge env=.ok (.l .fresh (xs.map f)):=by
 have key:∀(es:List α) (x:Option S),(∀d∈es,d∈xs)->cR (aD 0) cA ge (es.map h) (x::cE 0 cap env)=.ok (es.map f):=by
  intro es
  induction es with
  | nil=>exact λ_ _=>rfl
  | cons d es ih=>
   intro x hm
   obtain ⟨r,h1,h2⟩:=hb d (hm d QH)
   rw [Q5]
   unfold cR
   show (ge (some (.d (h d))::cE 0 cap env) >>= _)=_
   rw [h1,aQ,h2,aQ]
   show (cR (aD 0) cA ge _ (some (.d (h d))::cE 0 cap env) >>= _)=_
   rw [ih _ λe he=>hm e (QF _ he)]
   rfl
 unfold bJ
 rw [hi,aQ,if_pos (by rw [RI,QA];omega)]
 show (cR (aD 0) cA ge _ (none::cE 0 cap env) >>= _)=_
 rw [key xs none λ_ h=>h]
 rfl
theorem kj {cap:List Nat}{gi:G (List D)}{ge:G R}{gts:G Bool}{α:Type}{xs:List α}{h:α->D}(p:α->Bool) (f:α->D) (hi:gi env=.ok (xs.map h)) (hl:xs.length<=1000000)
  (hb:∀x∈xs,gts (some (.d (h x))::cE 0 cap env)=.ok (p x)/\(p x=true->∃r,ge (some (.d (h x))::cE 0 cap env)=.ok r/\toD r=.ok (f x))):bJ 1 cap gi (aD 0) gts ge env=.ok (.l .fresh ((xs.filter p).map f)):=by
 have key:∀(es:List α) (x:Option S),(∀d∈es,d∈xs)->cR (aD 0) gts ge (es.map h) (x::cE 0 cap env)=.ok ((es.filter p).map f):=by
  intro es
  induction es with
  | nil=>exact λ_ _=>rfl
  | cons d es ih=>
   intro x hm
   obtain ⟨h0,h1⟩:=hb d (hm d QH)
   rw [Q5]
   unfold cR
   show (gts (some (.d (h d))::cE 0 cap env) >>= _)=_
   rw [h0,aQ]
   cases q:p d with
   | true=>
    obtain ⟨r,h1,h2⟩:=h1 q
    rw [if_pos rfl]
    show (ge (some (.d (h d))::cE 0 cap env) >>= _)=_
    rw [h1,aQ,h2,aQ]
    show (cR (aD 0) gts ge _ (some (.d (h d))::cE 0 cap env) >>= _)=_
    rw [ih _ λe he=>hm e (QF _ he),WE q]
    rfl
   | false=>
    rw [if_neg (by decide),WG (by simp [q])]
    exact ih _ λe he=>hm e (QF _ he)
 unfold bJ
 rw [hi,aQ,if_pos (by rw [RI,QA];omega)]
 show (cR (aD 0) gts ge _ (none::cE 0 cap env) >>= _)=_
 rw [key xs none λ_ h=>h]
 rfl
theorem c_ {x:R}(h:g env=.ok x):ao g aC env=.ok [x]:=by
 show (g env >>= _)=_
 rw [h]
 rfl
theorem bf:aT env=.ok []:=rfl
theorem aF {gs:G (List D)}{d:D}{ds:List D}(h:g env=.ok r) (h2:toD r=.ok d) (k:gs env=.ok ds):aA g gs env=.ok (d::ds):=by
 show (g env >>= _)=_
 rw [h,aQ,h2,aQ,k]
 rfl
theorem bu {gs:G (List D)}{ds:List D}(h:gs env=.ok ds) (hl:ds.length<=1000):bz gs env=.ok (.d (.tup ds)):=by
 show (gs env >>= _)=_
 rw [h,aQ,if_pos (gS hl)]
theorem kZ {gs:G (List D)}{ds:List D}(h:gs env=.ok ds) (hl:ds.length<=1000):gK gs env=.ok (.l .fresh ds):=by
 show (gs env >>= _)=_
 rw [h,aQ,if_pos (gS hl)]
theorem ng {α:Type}{xs:List α}{h:α->D}(f:R) (hf:iB f=.ok (xs.map h)) (i:Int) (h0:0<=i) (hi:i < xs.length):∃x∈xs,aW f (.d (.int i))=.ok (.d (h x)):=by
 obtain ⟨k,rfl⟩:=Int.eq_ofNat_of_zero_le h0
 have hk:k < xs.length:=by omega
 refine ⟨xs[k],Sg hk,?_⟩
 have h1:(xs.map h)[k]?=some (h xs[k]):=by rw [Q_,QS hk];rfl
 cases f with
 | d x=>
  cases x with
  | tup ys=>cases hf;exact kI h1
  | lst ys=>cases hf;unfold aW;simp only [iB,aQ,kF h1]
  | _=>cases hf
 | l m x=>cases hf;exact qh h1
 | mo _ _=>cases hf
 | mb _ _=>cases hf
 | mf _ _=>cases hf
theorem CC {xs:List D}(h:env[i]?=some (some (.own xs))) (k:Wp (t (env.set i (some (.d (.lst xs))))) Q):Wp (jZ i t env) Q:=by
 have:jZ i t env=t (env.set i (some (.d (.lst xs)))):=by unfold jZ;rw [h]
 rw [this];exact k
theorem Ms {tg:GT}{d:D}{e:Ev}(h:g env=.ok r) (h2:toD r=.ok d) (h3:tg d env=.ok e) (k:Q (.nx e)):Wp (mK tg g env) Q:=⟨_,by show (g env >>= _)=_;rw [h,aQ,h2,aQ,h3];rfl,k⟩
theorem tY {tg:GT}{d:D}{e:Ev}(h:g env=.ok r) (h2:toD r=.ok d) (h3:tg d env=.ok e) (k:Wp (u e) Q):Wp (aM (mK tg g) u env) Q:=cG (Ms h h2 h3 k)
theorem xQ {α:Type}(xs:List α) (z:α):L2.lS (xs++[z]) (-1)=some z:=by
 unfold L2.lS L2.yx
 rw [if_neg (by decide),if_pos (by simp;omega)]
 rw [show ((-1:Int) + ((xs++[z]).length:Nat)).toNat=xs.length by simp;omega]
 simp
theorem Il (xs:List D) (z:D):aW (.d (.tup (xs++[z]))) (.d (.int (-1)))=.ok (.d z):=by
 unfold aW
 simp only [iB,aQ,xQ]
theorem Ik (m:Md) (xs:List D) (z:D):aW (.l m (xs++[z])) (.d (.int (-1)))=.ok (.d z):=by
 unfold aW
 simp only [iB,aQ,xQ]
theorem BQ (neg:Bool) (x:D) (ys:List D) (h:deps ys<=60) (hx:dep x<=60):jt neg (.d x) (.d (.tup ys))=.ok (.d (.bl (if neg then !inD x ys else inD x ys))):=by
 show (if deps ys<=60/\dep x<=60 then M.ok (R.d (.bl (if neg then !inD x ys else inD x ys))) else M.bad)=_
 rw [if_pos ⟨h,hx⟩]
theorem qf (neg:Bool) (x y:R) (h:dep x.dat<=60) (hx:dep y.dat<=60):fE neg x y=.ok (.d (.bl (if neg then !bw x.dat y.dat else bw x.dat y.dat))):=by
 unfold fE
 rw [if_pos ⟨h,hx⟩]
theorem fj {n:Nat}:∀{xs:List D},(∀x∈xs,dep x<=n)->deps xs<=n
 | [],_=>Rl _
 | x::xs,h=>by
  have h1:=h x QH
  have h2:=fj (xs:=xs) λy hy=>h y (QF _ hy)
  simp only [deps]
  omega
theorem Ke (xs:List Nat):deps (xs.map dN)<=60:=fj λx hx=>by
 obtain ⟨k,_,rfl⟩:=QE.mp hx
 exact Rl _
theorem Dv (xs:List (Nat×Nat)):deps (xs.map dP)<=60:=fj λx hx=>by
 obtain ⟨k,_,rfl⟩:=QE.mp hx
 exact (by decide:(1:Nat)<=60)
theorem Bb {tb:G Bool}(I:Nat->Ev->Prop) (step:∀d env,I d env->(tb env=.ok false/\Q (.nx env))\/(tb env=.ok true/\Wp (t env) λo=>match o with
  | .nx e=>∃d',d' < d/\I d' e
  | .rt r=>Q (.rt r)
  | _=>False)):∀(n d:Nat) (env:Ev),I d env->d < n->Wp (lM tb t n env) Q
 | 0,d,env,_,h=>absurd h (RU _)
 | n + 1,d,env,hI,h=>by
  unfold lM
  rcases step d env hI with ⟨h1,h2⟩ | ⟨h1,o,h2,h3⟩
  ·rw [h1]
   exact ⟨_,rfl,h2⟩
  ·rw [h1,aQ,if_pos rfl,h2,aQ]
   cases o with
   | nx e=>
    obtain ⟨d',hd,hI'⟩:=h3
    exact Bb I step n d' e hI' (by omega)
   | rt r=>exact ⟨_,rfl,h3⟩
   | bk e=>exact h3.elim
   | ct e=>exact h3.elim
theorem Jp {tb:G Bool}{n:Nat}(I:Nat->Ev->Prop) (d:Nat) (hd:d < n) (h0:I d env) (step:∀d env,I d env->(tb env=.ok false/\Wp (u env) Q)\/(tb env=.ok true/\Wp (t env) λo=>match o with
  | .nx e=>∃d',d' < d/\I d' e
  | .rt r=>Q (.rt r)
  | _=>False)):Wp (aM (yt n tb t) u env) Q:=cG (Bb I (λd env h=>by
  rcases step d env h with h | ⟨h1,h2⟩
  ·exact .inl h
  ·refine .inr ⟨h1,h2.mono λo ho=>?_⟩
   cases o <;> exact ho) n d env h0 hd)
theorem Mt {d:D}{f:R->R->M R}{y z:R}{x:S}(h0:env[i]?=some (some (.d d))) (h:g env=.ok y) (hf:f (.d d) y=.ok z) (h2:toS z=.ok x) (k:Q (.nx (env.set i (some x)))):Wp (uG i f g env) Q:=by
 refine ⟨_,?_,k⟩
 unfold uG
 rw [h0]
 show (g env >>= _)=_
 rw [h,aQ,hf,aQ,h2]
 rfl
end
end WP
namespace K51
open PySem DL K01 WP
def cP (ns:List Int) (k:Nat):Int:=(ns.map λx=>x % 10 ^ 64).getD k 0
theorem jz (ns:List Int) (k:Nat):0<=cP ns k:=by
 unfold cP
 rw [RE,Q_]
 cases ns[k]? with
 | none=>exact Int.le_refl _
 | some x=>exact TR _ (by decide)
theorem CI (ns:List Int) (k:Nat):bV [.bor (ns.map D.int),.d (.int k)]=.ok (.d (.int (cP ns k))):=by
 refine cD (cG (yE (c:=decide ((k:Int) < ((ns.map D.int).length:Nat))) rfl (λh=>?_) λh=>?_))
 ·have h:k < ns.length:=by simpa using h
  have e:(ns.map D.int)[k]?=some (.int ns[k]):=by rw [Q_,QS h];rfl
  refine bR (two (two rfl rfl (qh e)) rfl (fJ _ _ (by decide))) rfl ?_
  unfold cP
  rw [RE,Q_,QS h]
  rfl
 ·have h:ns.length<=k:=by simpa using h
  refine jC (bR rfl rfl ?_)
  unfold cP
  rw [RE,Q_,List.getElem?_eq_none (by omega)]
  rfl
theorem Jm (b n:Nat):(iL ⟨#[b]⟩ n).length=n:=by
 rw [Iw,HU,SJ]
theorem Af (c:Int) (hc:0<=c) (m:Nat) (hm:m<=3):∃ss:List Str,gu [.d (.int c),.d (.int m)]=.ok (.l .fresh (ss.map .str))/\ss.length=m:=by
 have key:Wp (gu [.d (.int c),.d (.int m)]) λr=>∃ss:List Str,r=.l .fresh (ss.map .str)/\ss.length=m:=by
  refine oG (bA rfl rfl (bA (two rfl rfl (DQ (c / 3 % 26) (by omega) (by omega))) rfl ?_))
  generalize 97 + (c / 3 % 26).toNat=b
  refine bA (two rfl rfl (Hw _ (1 + c / 78 % 7) (by omega) (by omega) (show 1<=1000 by decide))) rfl ?_
  have hst:(iL ⟨#[b]⟩ (1 + c / 78 % 7).toNat).length<=8:=by rw [Jm];omega
  generalize iL ⟨#[b]⟩ (1 + c / 78 % 7).toNat=stem at hst
  refine bA rfl rfl (mw (rO (n:=m) rfl (by omega)) ?_)
  refine qC (n:=m) (λk env=>∃(ss:List Str) (x y z:Option S),env=[some (.d (.int c)),some (.d (.int m)),some (.d (.str "abcdefghijklmnopqrstuvwxyz")),some (.d (.str ⟨#[b]⟩)),some (.d (.str stem)),some (.own (ss.map .str)),x,y,z]/\ss.length=k) ⟨[],none,none,none,rfl,rfl⟩ ?_ ?_
  ·rintro k hk _ ⟨ss,x,y,z,rfl,hl⟩
   refine ⟨_,rfl,?_⟩
   refine bA (two rfl rfl (DQ ((c / 546 + 9 * k) % 26) (by omega) (by omega))) rfl ?_
   generalize 97 + ((c / 546 + 9 * k) % 26).toNat=o
   obtain ⟨nm,hnm⟩:∃nm:Str,g2 aW (gK (aA (g2 cW (af 4) (af 7)) (aA (g2 cW (af 7) (af 4)) (aA (g2 gR (af 3) (g2 cW (af 6) (gC (.int 2)))) aT)))) (g2 dH (af 0) (gC (.int 3))) [some (.d (.int c)),some (.d (.int m)),some (.d (.str "abcdefghijklmnopqrstuvwxyz")),some (.d (.str ⟨#[b]⟩)),some (.d (.str stem)),some (.own (ss.map .str)),some (.d (.int k)),some (.d (.str ⟨#[o]⟩)),z]=.ok (.d (.str nm)):=by
    have h1:=Hx stem ⟨#[o]⟩ (by show _ + 1<=1000;omega)
    have h2:=Hx ⟨#[o]⟩ stem (by show 1 + _<=1000;omega)
    have h3:=Hw ⟨#[b]⟩ (k + 2) (by omega) (by omega) (show 1<=1000 by decide)
    have hg:gK (aA (g2 cW (af 4) (af 7)) (aA (g2 cW (af 7) (af 4)) (aA (g2 gR (af 3) (g2 cW (af 6) (gC (.int 2)))) aT))) [some (.d (.int c)),some (.d (.int m)),some (.d (.str "abcdefghijklmnopqrstuvwxyz")),some (.d (.str ⟨#[b]⟩)),some (.d (.str stem)),some (.own (ss.map .str)),some (.d (.int k)),some (.d (.str ⟨#[o]⟩)),z]=.ok (.l .fresh [.str (stem++⟨#[o]⟩),.str (⟨#[o]⟩++stem),.str (iL ⟨#[b]⟩ ((k:Int) + 2).toNat)]):=by
     have l3:(3:Nat)<=sizeLine:=by decide
     simp only [gK,aA,aT,g2,af,gC,S.rd,U4,U5,aQ,h1,h2,zl,h3,toD,RT,Uk,l3,if_true]
    have hcs:c % 3=0\/c % 3=1\/c % 3=2:=by omega
    rcases hcs with h | h | h
    ·exact ⟨_,two hg (fJ c 3 (by decide)) (by rw [h];rfl)⟩
    ·exact ⟨_,two hg (fJ c 3 (by decide)) (by rw [h];rfl)⟩
    ·exact ⟨_,two hg (fJ c 3 (by decide)) (by rw [h];rfl)⟩
   refine bA hnm rfl (cG (yE (c:=bw (.str nm) (.str "or")) rfl (λh=>gj rfl rfl ?_) λh=>jC ?_))
   ·exact qm rfl rfl rfl (by rw [QA];omega) ⟨_,rfl,ss++[("orx":Str)],_,_,_,by rw [Rg];rfl,by rw [Rh,hl];rfl⟩
   ·exact qm rfl rfl rfl (by rw [QA];omega) ⟨_,rfl,ss++[nm],_,_,_,by rw [Rg];rfl,by rw [Rh,hl];rfl⟩
  ·rintro _ ⟨ss,x,y,z,rfl,hl⟩
   refine bR (n1 rfl (sorted_strs _ _ (by omega))) rfl ⟨_,rfl,_,rfl,?_⟩
   unfold qA
   simp [hl]
 obtain ⟨_,h,ss,rfl,hl⟩:=key
 exact ⟨ss,h,hl⟩
theorem CH (c:Int) (m:Nat) (hm:m<=64):∃bs:List Bool,gT [.d (.int c),.d (.int m)]=.ok (.l .fresh (bs.map .bl))/\bs.length=m:=by
 have key:Wp (gT [.d (.int c),.d (.int m)]) λr=>∃bs:List Bool,r=.l .fresh (bs.map .bl)/\bs.length=m:=by
  refine oG (bA rfl rfl (mw (rO (n:=m) rfl (by omega)) ?_))
  refine qC (n:=m) (λk env=>∃(bs:List Bool) (c:Int) (x:Option S),env=[some (.d (.int c)),some (.d (.int m)),some (.own (bs.map .bl)),x]/\bs.length=k) ⟨[],c,none,rfl,rfl⟩ ?_ ?_
  ·rintro k hk _ ⟨bs,c,x,rfl,hl⟩
   refine ⟨_,rfl,Hr rfl rfl rfl (by rw [QA];omega) (gj rfl rfl ⟨_,rfl,bs++[c % 2 == 1],c / 2,_,by rw [Rg];rfl,by rw [Rh,hl];rfl⟩)⟩
  ·rintro _ ⟨ss,x,y,rfl,hl⟩
   exact bR rfl rfl ⟨_,rfl,_,rfl,hl⟩
 obtain ⟨_,h,ss,rfl,hl⟩:=key
 exact ⟨ss,h,hl⟩
theorem Lu (bs:List Bool) (m:Nat) (hm:m<=8):wX m ((QG m).filter λp=>bs.getD p false):=by
 refine ⟨?_,Xw _ Ue,λx hx=>?_⟩
 ·exact Rr (RG _ _) (by simpa using hm)
 ·simpa using (Rv.mp hx).1
theorem Ll (bs:List Bool) (m:Nat) (h1:1<=m) (hm:m<=8):sq m (((QG (m * m)).filter λp=>bs.getD p false).map λp=>(p / m,p % m)):=by
 have OR:m * m<=64:=Vn hm hm
 refine ⟨?_,?_,λx hx=>?_⟩
 ·rw [QA]
  refine Rr (RG _ _) (by simpa using OR)
 ·rw [RC]
  refine Vj ?_ (Xw _ Ue)
  intro p q hpq
  have e1:=Zv p m
  have e2:=Zv q m
  have h3:p / m<=q / m:=Nat.div_le_div_right (by omega)
  by_cases h:p / m < q / m
  ·exact .inl h
  ·have e:p / m=q / m:=by omega
   refine .inr ⟨e,?_⟩
   rw [e] at e1
   show p % m < q % m
   omega
 ·obtain ⟨p,hp,rfl⟩:=QE.mp hx
  have:p < m * m:=by simpa using (Rv.mp hp).1
  exact ⟨Nat.div_lt_of_lt_mul this,Wn _ (by omega)⟩
theorem N_ (bs:List Bool) (m k:Nat) (hl:bs.length=m) (hk:k < m):aW (.l .bor (bs.map D.bl)) (.d (.int k))=.ok (.d (.bl (bs.getD k false))):=by
 refine qh ?_
 rw [Q_,QS (by omega),RE,QS (by omega)]
 rfl
theorem Av (bs:List Bool) (m k:Nat) (hl:bs.length=m) (hk:k < m):aW (.l .own (bs.map D.bl)) (.d (.int k))=.ok (.d (.bl (bs.getD k false))):=by
 refine qh ?_
 rw [Q_,QS (by omega),RE,QS (by omega)]
 rfl
theorem JH (m:Nat) (h1:1<=m) (hm:m<=8) (A B:List Str) (hA:A.length<=3) (hB:B.length<=3) (cs:List Int) (hc:cs.length=6):
  ∃ms rs,fM [.d (.tup [.lst (A.map .str),.lst (B.map .str)]),.d (.int m),.bor (cs.map .int)]=.ok (.d (Wd.d ⟨m,ms,rs⟩))/\ms.map R7=A/\rs.map R7=B/\(∀r∈ms,wX m r.2)/\∀r∈rs,sq m r.2:=by
 have key:Wp (fM [.d (.tup [.lst (A.map .str),.lst (B.map .str)]),.d (.int m),.bor (cs.map .int)]) λr=>∃ms rs,r=.d (Wd.d ⟨m,ms,rs⟩)/\ms.map R7=A/\rs.map R7=B/\(∀r∈ms,wX m r.2)/\∀r∈rs,sq m r.2:=by
  have OR:m * m<=64:=Vn hm hm
  have tm:gR (.d (.int m)) (.d (.int m))=.ok (.d (.int ((m * m:Nat):Int))):=by rw [Jy _ _ (by omega) (by omega)];simp
  refine oG (bA rfl rfl (mw (rO (n:=(A.map D.str).length) rfl (by rw [QA];omega)) ?_))
  refine qC (n:=(A.map D.str).length) (λk env=>∃(ms:List (Str×List Nat)) (x y:Option S),env=[some (.d (.tup [.lst (A.map .str),.lst (B.map .str)])),some (.d (.int m)),some (.bor (cs.map .int)),some (.own (ms.map lF)),x,y,none]/\ms.map R7=A.take k/\∀r∈ms,wX m r.2) ⟨[],none,none,rfl,rfl,λ_ h=>by cases h⟩ ?_ ?_
  ·rintro k hk _ ⟨ms,x,y,rfl,hf,hp⟩
   rw [QA] at hk
   refine ⟨_,rfl,?_⟩
   obtain ⟨c,_,hcc⟩:=ng (xs:=cs) (h:=D.int) (.l .bor (cs.map .int)) rfl k (by omega) (by omega)
   obtain ⟨bs,hb,Pp⟩:=CH c m (by omega)
   have hlen:ms.length<=3:=by
    have:=congrArg Vg hf
    rw [QA,T9] at this
    omega
   refine bA (c2 (two rfl rfl hcc) rfl hb) rfl ?_
   refine qm rfl (bu (aF (two rfl rfl (show aW (.d (.lst (A.map D.str))) _=.ok (.d (.str A[k])) from ?_)) rfl (aF (n1 (kj (xs:=QG m) (h:=dN) (λp=>bs.getD p false) dN (iN rfl (by omega)) (by simp;omega) ?_) rfl) rfl bf)) (by show 2<=1000;decide)) rfl (by rw [QA];omega) ?_
   ·show aW (.d (.lst (A.map D.str))) (.d (.int k))=_
    unfold aW
    have:(A.map D.str)[k]?=some (.str A[k]):=by rw [Q_,QS hk];rfl
    simp only [iB,aQ,kF this]
   ·intro p hp'
    have hp':p < m:=by simpa using hp'
    have hb:=Av bs m p Pp hp'
    refine ⟨?_,λ_=>⟨_,rfl,rfl⟩⟩
    show (g2 aW (af 1) (af 0) [some (.d (dN p)),some (.own (bs.map D.bl))] >>= zp)=_
    rw [two (x:=.l .own (bs.map D.bl)) (y:=.d (dN p)) rfl rfl hb]
    rfl
   ·refine ⟨_,rfl,ms++[(A[k],(QG m).filter λp=>bs.getD p false)],_,_,by rw [Rg];rfl,?_,λr hr=>?_⟩
    ·rw [Rg,hf,XH,QS hk]
     rfl
    ·rw [Rt,Q6] at hr
     rcases hr with h | h
     ·exact hp r h
     ·rw [h];exact Lu bs m hm
  ·rintro _ ⟨ms,x,y,rfl,hf,hp⟩
   refine bA rfl rfl (mw (rO (n:=(B.map D.str).length) rfl (by rw [QA];omega)) ?_)
   refine qC (n:=(B.map D.str).length) (λk env=>∃(rs:List (Str×List (Nat×Nat))) (x y:Option S),env=[some (.d (.tup [.lst (A.map .str),.lst (B.map .str)])),some (.d (.int m)),some (.bor (cs.map .int)),some (.own (ms.map lF)),x,y,some (.own (rs.map pS))]/\rs.map R7=B.take k/\∀r∈rs,sq m r.2) ⟨[],_,_,rfl,rfl,λ_ h=>by cases h⟩ ?_ ?_
   ·rintro k hk _ ⟨rs,x,y,rfl,hf,hp⟩
    rw [QA] at hk
    refine ⟨_,rfl,?_⟩
    obtain ⟨c,_,hcc⟩:=ng (xs:=cs) (h:=D.int) (.l .bor (cs.map .int)) rfl (3 + k) (by omega) (by omega)
    obtain ⟨bs,hb,Pp⟩:=CH c (m * m) (by omega)
    have hlen:rs.length<=3:=by
     have:=congrArg Vg hf
     rw [QA,T9] at this
     omega
    refine bA (c2 (two rfl rfl hcc) (two rfl rfl tm) hb) rfl ?_
    refine qm rfl (bu (aF (two rfl rfl (show aW (.d (.lst (B.map D.str))) _=.ok (.d (.str B[k])) from ?_)) rfl (aF (n1 (kj (xs:=QG (m * m)) (h:=dN) (λp=>bs.getD p false) (λp=>dP (p / m,p % m)) (iN (c_ (two rfl rfl tm)) (by omega)) (by simp;omega) ?_) rfl) rfl bf)) (by show 2<=1000;decide)) rfl (by rw [QA];omega) ?_
    ·show aW (.d (.lst (B.map D.str))) (.d (.int k))=_
     unfold aW
     have:(B.map D.str)[k]?=some (.str B[k]):=by rw [Q_,QS hk];rfl
     simp only [iB,aQ,kF this]
    ·intro p hp'
     have hp':p < m * m:=by simpa using hp'
     have hb:=Av bs (m * m) p Pp hp'
     refine ⟨?_,λ_=>⟨_,bu (aF (two rfl rfl (oE p m (by omega) (by omega))) rfl (aF (two rfl rfl (fJ p m (by omega))) rfl bf)) (by show 2<=1000;decide),?_⟩⟩
     ·show (g2 aW (af 1) (af 0) [some (.d (dN p)),some (.own (bs.map D.bl)),some (.d (.int m))] >>= zp)=_
      rw [two (x:=.l .own (bs.map D.bl)) (y:=.d (dN p)) rfl rfl hb]
      rfl
     ·simp [toD,dP]
    ·refine ⟨_,rfl,rs++[(B[k],((QG (m * m)).filter λp=>bs.getD p false).map λp=>(p / m,p % m))],_,_,by rw [Rg,Ym,pS,Rk];rfl,?_,λr hr=>?_⟩
     ·rw [Rg,hf,XH,QS hk]
      rfl
     ·rw [Rt,Q6] at hr
      rcases hr with h | h
      ·exact hp r h
      ·rw [h];exact Ll bs m h1 hm
   ·rintro _ ⟨rs,x,y,rfl,hf2,hp2⟩
    rw [QA] at hf hf2
    refine bR (bu (aF rfl rfl (aF rfl rfl (aF rfl rfl bf))) (by show 3<=1000;decide)) rfl ⟨_,rfl,ms,rs,rfl,by rw [hf,WS],by rw [hf2,WS],hp,hp2⟩
 obtain ⟨_,h,ms,rs,rfl,hk⟩:=key
 exact ⟨ms,rs,h,hk⟩
theorem ff (ns:List Int) (i:Int) (k:Nat) (h:i=k):bV [.bor (ns.map D.int),.d (.int i)]=.ok (.d (.int (cP ns k))):=by
 rw [h];exact CI ns k
structure mQ (w:Wd):Prop where
 lo:1<=w.m
 hi:w.m<=8
 ml:w.ms.length<=3
 al:w.ar.length<=3
theorem t_ (xs ys:List D) (h:xs.length + ys.length<=1000):dO (.d (.tup xs)) (.d (.tup ys))=.ok (.d (.tup (xs++ys))):=by
 show (if xs.length + ys.length<=sizeLine then M.ok (R.d (.tup (xs++ys))) else M.bad)=_
 rw [if_pos (gS h)]
theorem Nx (l:Nat) (xs:List Nat):jt false (.d (dN l)) (.d (.tup (xs.map dN)))=.ok (.d (.bl (inD (dN l) (xs.map dN)))):=BQ false _ _ (Ke xs) (Rl _)
theorem Ku (l:Nat×Nat) (xs:List (Nat×Nat)):jt false (.d (dP l)) (.d (.tup (xs.map dP)))=.ok (.d (.bl (inD (dP l) (xs.map dP)))):=BQ false _ _ (Dv xs) (by show (1:Nat)<=60;decide)
theorem t2:(2:Nat)<=1000:=by decide
end K51
namespace K51
open PySem DL K01 WP
open PySem.W (kas_sort)
theorem pX (ds:List D):(bB ds).length=ds.length:=by
 unfold bB
 by_cases h:ds.length < 2
 ·rw [if_pos h]
 ·rw [if_neg h,QA]
  have:=(eT (n:=ds.length) (by omega)).run (ltB ds)
  have:=this.size_eq
  simpa using this
theorem mz {ds:List D}{x:D}(hx:x∈bB ds):x∈ds:=by
 unfold bB at hx
 by_cases h:ds.length < 2
 ·rwa [if_pos h] at hx
 ·rw [if_neg h] at hx
  have hp:=(eT (n:=ds.length) (by omega)).run (ltB ds)
  obtain ⟨i,hi,rfl⟩:=QE.mp hx
  have hi:i∈aX (ltB ds) (S6 ds.length):=by simpa using hi
  have:=(Tn hp).mp hi
  exact eH (by simpa using this)
end K51
namespace K51
open PySem DL K01 WP
end K51
namespace DL
open PySem PySem.Spec PyProof.Rows L2
open PySem.W (KasT kas_sort kas_asc kas_desc kas_rev kas_tail3 kas_descPart kas_count kas_place kas_bin)
theorem run_bind {α β:Type}(q:Nat->Nat->Bool) (f:α->KasT β):∀t:KasT α,aX q (t.bind f)=aX q (f (aX q t))
 | .ret _=>rfl
 | .ask i j k=>run_bind q f (k (q i j))
theorem Gw {n:Nat}{α:Type}{P:α->Prop}{t:KasT α}{q q':Nat->Nat->Bool}(h:fR n P t) (e:∀i j,i < n->j < n->q i j=q' i j):aX q t=aX q' t:=by
 induction h with
 | ret _=>rfl
 | @ask i j k h1 h2 _ ih=>
  show aX q (k (q i j))=aX q' (k (q' i j))
  rw [e _ _ h1 h2]
  exact ih _
structure Ord (q:Nat->Nat->Bool):Prop where
 asy:∀a b,q a b=true->q b a=false
 tra:∀a b c,q b a=false->q c b=false->q c a=false
section
variable {q:Nat->Nat->Bool}{n:Nat}
abbrev bG (p:Array Nat) (k:Nat):Nat:=p.getD k 0
def Up (q:Nat->Nat->Bool) (p:Array Nat) (k:Nat):Prop:=∀i j,i<=j->j < k->q (bG p j) (bG p i)=false
def Down (q:Nat->Nat->Bool) (p:Array Nat) (k:Nat):Prop:=∀i j,i<=j->j < k->q (bG p i) (bG p j)=false
theorem Ord.irr (O:Ord q) (a:Nat):q a a=false:=by
 cases h:q a a with
 | false=>rfl
 | true=>rw [<-h];exact (O.asy a a h)
theorem getD_eq {p p':Array Nat}{i j:Nat}(h:p[i]?=p'[j]?):bG p i=bG p' j:=by
 show p.getD i 0=p'.getD j 0
 rw [VX,VX,h]
theorem jh {p:Array Nat}{i j:Nat}(hj:j<=p.size) (k:Nat):bG (Vy p i j) k=if i<=k/\k < j then bG p (i + j - 1 - k) else bG p k:=by
 have e:=getElem?_mirror_all (xs:=p) (i:=i) hj k
 by_cases c:i<=k/\k < j
 ·rw [if_pos c] at e ⊢;exact getD_eq e
 ·rw [if_neg c] at e ⊢;exact getD_eq e
theorem CT {p:Array Nat}{src d:Nat}(hs:src < p.size) (hd:d<=src) (k:Nat):bG (bubble p src d) k=if k=src - d then bG p src else if src - d < k/\k<=src then bG p (k - 1) else bG p k:=by
 have e:=getElem?_bubble hs d hd k
 by_cases c:k=src - d
 ·rw [if_pos c] at e ⊢;exact getD_eq e
 ·rw [if_neg c] at e ⊢
  by_cases c':src - d < k/\k<=src
  ·rw [if_pos c'] at e ⊢;exact getD_eq e
  ·rw [if_neg c'] at e ⊢;exact getD_eq e
theorem iM (p:Array Nat) (i j:Nat):(Vy p i j).size=p.size:=mirror_size _ _ _ _
theorem Up.one (O:Ord q) (p:Array Nat):Up q p 1:=λi j h1 h2=>by
 have:i=j:=by omega
 rw [this];exact O.irr _
theorem Up.more (O:Ord q){p:Array Nat}{k:Nat}(h:Up q p k) (h1:1<=k) (e:q (bG p k) (bG p (k - 1))=false):Up q p (k + 1):=λi j hi hj=>by
 by_cases c:j < k
 ·exact h i j hi c
 ·have:j=k:=by omega
  subst this
  by_cases c':i=j
  ·rw [c'];exact O.irr _
  ·exact O.tra _ _ _ (h i (j - 1) (by omega) (by omega)) e
theorem Down.more (O:Ord q){p:Array Nat}{k:Nat}(h:Down q p k) (h1:1<=k) (e:q (bG p (k - 1)) (bG p k)=false):Down q p (k + 1):=λi j hi hj=>by
 by_cases c:j < k
 ·exact h i j hi c
 ·have:j=k:=by omega
  subst this
  by_cases c':i=j
  ·rw [c'];exact O.irr _
  ·exact O.tra _ _ _ e (h i (j - 1) (by omega) (by omega))
theorem xP (O:Ord q) (p:Array Nat):∀(f m:Nat),1<=m->Up q p m->m<=aX q (Vz p f m)/\aX q (Vz p f m)<=m + f/\Up q p (aX q (Vz p f m))/\(aX q (Vz p f m)=m + f\/q (bG p (aX q (Vz p f m))) (bG p (aX q (Vz p f m) - 1))=true)
 | 0,m,h1,h=>⟨QL _,QL _,h,.inl rfl⟩
 | f + 1,m,h1,h=>by
  have e:aX q (Vz p (f + 1) m)=if q (bG p m) (bG p (m - 1))=true then m else aX q (Vz p f (m + 1)):=by
   show aX q (if q (bG p m) (bG p (m - 1))=true then KasT.ret m else Vz p f (m + 1))=_
   by_cases c:q (bG p m) (bG p (m - 1))=true
   ·rw [if_pos c,if_pos c];rfl
   ·rw [if_neg c,if_neg c]
  rw [e]
  by_cases c:q (bG p m) (bG p (m - 1))=true
  ·rw [if_pos c]
   exact ⟨QL _,by omega,h,.inr c⟩
  ·rw [if_neg c]
   obtain ⟨a1,a2,a3,a4⟩:=xP O p f (m + 1) (by omega) (h.more O h1 (by simpa using c))
   refine ⟨by omega,by omega,a3,?_⟩
   rcases a4 with a4 | a4
   ·exact .inl (by omega)
   ·exact .inr a4
def Alike (q:Nat->Nat->Bool) (p:Array Nat) (i j:Nat):Prop:=∀a b,i<=a->a < j->i<=b->b < j->q (bG p a) (bG p b)=false
theorem vQ {p:Array Nat}{i j k:Nat}(hj:j<=p.size) (ha:Alike q p i j) (hd:Down q p j) (O:Ord q):Down q (Vy p i j) j:=λa b h1 h2=>by
 rw [jh hj,jh hj]
 by_cases c:i<=a/\a < j
 ·rw [if_pos c]
  by_cases c':i<=b/\b < j
  ·rw [if_pos c'];exact ha _ _ (by omega) (by omega) (by omega) (by omega)
  ·omega
 ·rw [if_neg c]
  by_cases c':i<=b/\b < j
  ·rw [if_pos c']
   exact hd _ _ (by omega) (by omega)
  ·rw [if_neg c'];exact hd _ _ h1 h2
theorem LI {p:Array Nat}{j:Nat}(hj:j<=p.size) (hd:Down q p j):Up q (Vy p 0 j) j:=λa b h1 h2=>by
 rw [jh hj,jh hj,if_pos (by omega),if_pos (by omega)]
 exact hd _ _ (by omega) (by omega)
theorem tW {p:Array Nat}{i j k:Nat}(hj:j<=p.size) (h:j<=k):bG (Vy p i j) k=bG p k:=by
 rw [jh hj,if_neg (by omega)]
theorem lU (O:Ord q):∀(f:Nat) (p:Array Nat) (m e:Nat),1<=m->e + 1<=m->m + f<=p.size->Down q p m->Alike q p (m - (e + 1)) m->
  (aX q (S5 f p m e)).1.size=p.size/\m<=(aX q (S5 f p m e)).2.1/\(aX q (S5 f p m e)).2.1<=m + f/\(aX q (S5 f p m e)).2.2 + 1<=(aX q (S5 f p m e)).2.1/\
  Down q (aX q (S5 f p m e)).1 (aX q (S5 f p m e)).2.1/\Alike q (aX q (S5 f p m e)).1 ((aX q (S5 f p m e)).2.1 - ((aX q (S5 f p m e)).2.2 + 1)) (aX q (S5 f p m e)).2.1
 | 0,p,m,e,h1,h2,h3,h4,h5=>⟨rfl,QL _,QL _,h2,h4,h5⟩
 | f + 1,p,m,e,h1,h2,h3,h4,h5=>by
  have solo:∀(p:Array Nat) (m:Nat),Alike q p (m + 1 - (0 + 1)) (m + 1):=λp m a b c1 c2 c3 c4=>by
   have:a=b:=by omega
   rw [this];exact O.irr _
  cases c:q (bG p m) (bG p (m - 1)) with
  | true=>
   have c2:=O.asy _ _ c
   by_cases he:e > 0
   ·have er:aX q (S5 (f + 1) p m e)=aX q (S5 f (Vy p (m - (e + 1)) m) (m + 1) 0):=by
     show aX q (if q (bG p m) (bG p (m - 1))=true then _ else _)=_
     rw [if_pos c,if_pos he]
    rw [er]
    have hr:=vQ (k:=0) (i:=m - (e + 1)) (by omega:m<=p.size) h5 h4 O
    have hl:bG (Vy p (m - (e + 1)) m) (m - 1)=bG p (m - (e + 1)):=by
     rw [jh (by omega),if_pos (by omega)]
     congr 1;omega
    obtain ⟨a0,a1,a2,a3,a4,a5⟩:=lU O f (Vy p (m - (e + 1)) m) (m + 1) 0 (by omega) (by omega) (by rw [iM];omega)
     (hr.more O h1 (by
      rw [hl,tW (by omega) (QL _)]
      exact O.tra _ _ _ c2 (h5 _ _ (by omega) (by omega) (by omega) (by omega)))) (solo _ _)
    rw [iM] at a0
    exact ⟨a0,by omega,by omega,a3,a4,a5⟩
   ·have er:aX q (S5 (f + 1) p m e)=aX q (S5 f p (m + 1) 0):=by
     show aX q (if q (bG p m) (bG p (m - 1))=true then _ else _)=_
     rw [if_pos c,if_neg he]
    rw [er]
    obtain ⟨a0,a1,a2,a3,a4,a5⟩:=lU O f p (m + 1) 0 (by omega) (by omega) (by omega) (h4.more O h1 c2) (solo _ _)
    exact ⟨a0,by omega,by omega,a3,a4,a5⟩
  | false=>
   cases c2:q (bG p (m - 1)) (bG p m) with
   | true=>
    have er:aX q (S5 (f + 1) p m e)=(p,m,e):=by
     show aX q (if q (bG p m) (bG p (m - 1))=true then _ else _)=_
     rw [if_neg (by rw [c];decide)]
     show aX q (if q (bG p (m - 1)) (bG p m)=true then _ else _)=_
     rw [if_pos c2]
     rfl
    rw [er]
    exact ⟨rfl,QL _,UK _ _,h2,h4,h5⟩
   | false=>
    have er:aX q (S5 (f + 1) p m e)=aX q (S5 f p (m + 1) (e + 1)):=by
     show aX q (if q (bG p m) (bG p (m - 1))=true then _ else _)=_
     rw [if_neg (by rw [c];decide)]
     show aX q (if q (bG p (m - 1)) (bG p m)=true then _ else _)=_
     rw [if_neg (by rw [c2];decide)]
    rw [er]
    have hal:Alike q p (m + 1 - (e + 1 + 1)) (m + 1):=λa b d1 d2 d3 d4=>by
     by_cases ea:a=m
     ·subst ea
      by_cases eb:b=a
      ·rw [eb];exact O.irr _
      ·exact O.tra _ _ _ (h5 (a - 1) b (by omega) (by omega) (by omega) (by omega)) c
     ·by_cases eb:b=m
      ·subst eb
       exact O.tra _ _ _ c2 (h5 a (b - 1) (by omega) (by omega) (by omega) (by omega))
      ·exact h5 a b (by omega) (by omega) (by omega) (by omega)
    obtain ⟨a0,a1,a2,a3,a4,a5⟩:=lU O f p (m + 1) (e + 1) (by omega) (by omega) (by omega) (h4.more O h1 c2) hal
    exact ⟨a0,by omega,by omega,a3,a4,a5⟩
def Got (q:Nat->Nat->Bool) (N s:Nat) (r:Nat×Array Nat):Prop:=r.2.size=s/\1<=r.1/\r.1<=N/\Up q r.2 r.1
theorem A7 (O:Ord q){p:Array Nat}{m N:Nat}(h1:1<=m) (hm:m<=N) (hN:N<=p.size) (hd:Down q p m):Got q N p.size (aX q (aaM m N p)):=by
 unfold aaM
 rw [run_bind]
 obtain ⟨a1,a2,a3,_⟩:=xP O (Vy p 0 m) (N - m) m h1 (LI (by omega) hd)
 exact ⟨iM _ _ _,by show 1<=aX q (Vz _ _ _);omega,by show aX q (Vz _ _ _)<=N;omega,a3⟩
theorem AR (O:Ord q){p:Array Nat}{m N:Nat}(h1:1<=m) (hm:m + 1<=N) (hN:N<=p.size) (hd:Down q p (m + 1)):Got q N p.size (aX q (YX m N p)):=by
 unfold YX
 rw [run_bind]
 obtain ⟨a0,a1,a2,a3,a4,a5⟩:=lU O (N - (m + 1)) p (m + 1) 0 (by omega) (by omega) (by omega) hd (λa b c1 c2 c3 c4=>by
  have:a=b:=by omega
  rw [this];exact O.irr _)
 generalize aX q (S5 (N - (m + 1)) p (m + 1) 0)=r at *
 obtain ⟨p',m',e'⟩:=r
 simp only at *
 by_cases c:e' > 0
 ·rw [if_pos c]
  have:=A7 (N:=N) O (p:=Vy p' (m' - (e' + 1)) m') (m:=m') (by omega) (by omega) (by rw [iM];omega) (vQ (k:=0) (by omega) a5 a4 O)
  rw [iM,a0] at this
  exact this
 ·rw [if_neg c]
  have:=A7 (N:=N) O (p:=p') (m:=m') (by omega) (by omega) (by omega) a4
  rw [a0] at this
  exact this
theorem E3 (O:Ord q){p:Array Nat}{N:Nat}(h1:1<=N) (hN:N<=p.size):Got q N p.size (aX q (Zp N p)):=by
 unfold Zp
 rw [run_bind]
 obtain ⟨a1,a2,a3,a4⟩:=xP O p (N - 1) 1 (QL _) (Up.one O p)
 generalize aX q (Vz p (N - 1) 1)=m at *
 by_cases c:(m == N)=true
 ·rw [if_pos c]
  exact ⟨rfl,a1,by show m<=N;omega,a3⟩
 ·rw [if_neg c]
  have hm:m + 1<=N:=by
   have:m≠N:=by simpa using c
   omega
  have a4:q (bG p m) (bG p (m - 1))=true:=by
   rcases a4 with h | h
   ·omega
   ·exact h
  have a5:=O.asy _ _ a4
  by_cases c':m > 1
  ·rw [if_pos c']
   show Got q N p.size (aX q (if q (bG p 0) (bG p (m - 1))=true then _ else _))
   by_cases d:q (bG p 0) (bG p (m - 1))=true
   ·rw [if_pos d]
    exact ⟨rfl,a1,by show m<=N;omega,a3⟩
   ·rw [if_neg d]
    have d:q (bG p 0) (bG p (m - 1))=false:=by simpa using d
    have all:∀a b,a < m->b < m->q (bG p a) (bG p b)=false:=λa b ha hb=>O.tra _ _ _ (O.tra _ _ _ (a3 b (m - 1) (by omega) (by omega)) d) (a3 0 a (by omega) (by omega))
    have hd:Down q (Vy p 0 m) m:=λa b h1 h2=>by
     rw [jh (by omega),jh (by omega),if_pos (by omega),if_pos (by omega)]
     exact all _ _ (by omega) (by omega)
    have:=AR O (p:=Vy p 0 m) (m:=m) (N:=N) (by omega) hm (by rw [iM];exact hN) (hd.more O (by omega) (by
     rw [tW (by omega) (QL _),jh (by omega),if_pos (by omega),show 0 + m - 1 - (m - 1)=0 by omega]
     exact O.tra _ _ _ a5 d))
    rw [iM] at this
    exact this
  ·rw [if_neg c']
   have:m=1:=by omega
   subst this
   refine AR O (QL _) hm hN ?_
   exact Down.more O (λi j h1 h2=>by
    have:i=j:=by omega
    rw [this];exact O.irr _) (QL _) a5
theorem rN (O:Ord q){p:Array Nat}{k:Nat}(hs:Up q p k):∀(f l r:Nat),l<=r->r<=k->r - l<=f->(∀i,i < l->q (bG p k) (bG p i)=false)->(∀i,r<=i->i < k->q (bG p k) (bG p i)=true)->
  aX q (To p k f l r)<=k/\(∀i,i < aX q (To p k f l r)->q (bG p k) (bG p i)=false)/\∀i,aX q (To p k f l r)<=i->i < k->q (bG p k) (bG p i)=true
 | 0,l,r,h1,h2,h3,h4,h5=>⟨by show l<=k;omega,h4,λi hi=>h5 i (by show r<=i;have:l<=i:=hi;omega)⟩
 | f + 1,l,r,h1,h2,h3,h4,h5=>by
  by_cases c:l ≥ r
  ·have e:aX q (To p k (f + 1) l r)=l:=by
    unfold To
    rw [if_pos c]
    rfl
   rw [e]
   exact ⟨by omega,h4,λi hi=>h5 i (by omega)⟩
  ·cases d:q (bG p k) (bG p ((l + r) / 2)) with
   | true=>
    have e:aX q (To p k (f + 1) l r)=aX q (To p k f l ((l + r) / 2)):=by
     rw [To,if_neg c]
     show aX q (if q (bG p k) (bG p ((l + r) / 2))=true then _ else _)=_
     rw [if_pos d]
    rw [e]
    refine rN O hs f l ((l + r) / 2) (by omega) (by omega) (by omega) h4 λi i1 i2=>?_
    by_cases ci:r<=i
    ·exact h5 i ci i2
    ·cases dd:q (bG p k) (bG p i) with
     | true=>rfl
     | false=>
      have:=O.tra _ _ _ (hs ((l + r) / 2) i i1 i2) dd
      rw [d] at this
      cases this
   | false=>
    have e:aX q (To p k (f + 1) l r)=aX q (To p k f ((l + r) / 2 + 1) r):=by
     rw [To,if_neg c]
     show aX q (if q (bG p k) (bG p ((l + r) / 2))=true then _ else _)=_
     rw [if_neg (by rw [d];decide)]
    rw [e]
    refine rN O hs f ((l + r) / 2 + 1) r (by omega) (by omega) (by omega) (λi hi=>?_) h5
    exact O.tra _ _ _ (hs i ((l + r) / 2) (by omega) (by omega)) d
theorem JZ (O:Ord q){p:Array Nat}{k l:Nat}(hk:k < p.size) (hl:l<=k) (hs:Up q p k) (h1:∀i,i < l->q (bG p k) (bG p i)=false) (h2:∀i,l<=i->i < k->q (bG p k) (bG p i)=true):Up q (bubble p k (k - l)) (k + 1):=λi j hi hj=>by
 rw [CT hk (by omega),CT hk (by omega),show k - (k - l)=l by omega]
 by_cases a:i=l
 ·rw [if_pos a]
  by_cases b:j=l
  ·rw [if_pos b];exact O.irr _
  ·rw [if_neg b,if_pos (by omega)]
   exact O.asy _ _ (h2 (j - 1) (by omega) (by omega))
 ·rw [if_neg a]
  by_cases b:j=l
  ·rw [if_pos b,if_neg (by omega)]
   exact h1 i (by omega)
  ·rw [if_neg b]
   by_cases a':l < i/\i<=k
   ·rw [if_pos a',if_pos (by omega)]
    exact hs _ _ (by omega) (by omega)
   ·rw [if_neg a']
    by_cases b':l < j/\j<=k
    ·rw [if_pos b']
     exact hs _ _ (by omega) (by omega)
    ·rw [if_neg b']
     exact hs _ _ hi (by omega)
theorem CW (O:Ord q):∀(f:Nat) (p:Array Nat) (k:Nat),k + f<=p.size->Up q p k->Up q (aX q (aar f p k)) (k + f)
 | 0,p,k,_,h=>h
 | f + 1,p,k,hs,h=>by
  have e:aX q (aar (f + 1) p k)=aX q (aar f (bubble p k (k - aX q (To p k k 0 k))) (k + 1)):=by
   rw [aar,run_bind]
  rw [e]
  obtain ⟨a1,a2,a3⟩:=rN O h k 0 k (Rl _) (QL _) (by omega) (λi hi=>by omega) (λi h1 h2=>by omega)
  have:=CW O f (bubble p k (k - aX q (To p k k 0 k))) (k + 1) (by rw [bubble_size];omega) (JZ O (by omega) a1 h a2 a3)
  rw [show k + (f + 1)=k + 1 + f by omega]
  exact this
theorem Ju (O:Ord q) (n:Nat) (hn:1<=n):Up q (aX q (S6 n)) n:=by
 unfold S6
 rw [run_bind]
 obtain ⟨a0,a1,a2,a3⟩:=E3 O (p:=(QG n).toArray) (N:=n) hn (by simp)
 generalize aX q (Zp n (QG n).toArray)=r at *
 have a0:r.2.size=n:=by simpa using a0
 by_cases c:r.1 < n
 ·rw [if_pos c]
  have:=CW O (n - max r.1 1) r.2 (max r.1 1) (by omega) (by rw [show max r.1 1=r.1 by omega];exact a3)
  rwa [show max r.1 1 + (n - max r.1 1)=n by omega] at this
 ·rw [if_neg c]
  have:r.1=n:=by omega
  rw [this] at a3
  exact a3
end
end DL
namespace DL
open PySem PySem.Spec PyProof.Rows L2
open PySem.W (kas_sort)
def eu (x y:D):Bool:=(dQ x y).getD false
structure gf (P:D->Prop):Prop where
 eq:∀x y,P x->P y->(bw x y=true↔x=y)
 lt:∀x y,P x->P y->(dQ x y).isSome=true
 asy:∀x y,P x->P y->eu x y=true->eu y x=false
 tri:∀x y,P x->P y->eu x y=false->eu y x=false->x=y
 tra:∀x y z,P x->P y->P z->eu x y=true->eu y z=true->eu x z=true
def iz (xs ys:List D):Bool:=eu (.tup xs) (.tup ys)
theorem jD (x y:D) (xs ys:List D):iz (x::xs) (y::ys)=if bw x y=true then iz xs ys else eu x y:=by
 show (if bw x y=true then j4 xs ys else dQ x y).getD false=_
 by_cases h:bw x y=true
 ·rw [if_pos h,if_pos h];rfl
 ·rw [if_neg h,if_neg h];rfl
variable {P R:D->Prop}
theorem kH (xs ys:List D):bw (.tup xs) (.tup ys)=cj xs ys:=by rw [bw]
theorem gY (x y:D) (xs ys:List D):cj (x::xs) (y::ys)=(bw x y && cj xs ys):=by rw [cj]
structure kT (Q:List D->Prop):Prop where
 eq:∀x y,Q x->Q y->(cj x y=true↔x=y)
 lt:∀x y,Q x->Q y->(j4 x y).isSome=true
 asy:∀x y,Q x->Q y->iz x y=true->iz y x=false
 tri:∀x y,Q x->Q y->iz x y=false->iz y x=false->x=y
 tra:∀x y z,Q x->Q y->Q z->iz x y=true->iz y z=true->iz x z=true
theorem kT.tot {Q:List D->Prop}(h:kT Q):gf λd=>∃xs,d=.tup xs/\Q xs where
 eq:=by
  rintro _ _ ⟨x,rfl,hx⟩ ⟨y,rfl,hy⟩
  rw [kH,h.eq x y hx hy]
  exact ⟨λe=>e▸rfl,λe=>by cases e;rfl⟩
 lt:=by
  rintro _ _ ⟨x,rfl,hx⟩ ⟨y,rfl,hy⟩
  exact h.lt x y hx hy
 asy:=by
  rintro _ _ ⟨x,rfl,hx⟩ ⟨y,rfl,hy⟩
  exact h.asy x y hx hy
 tri:=by
  rintro _ _ ⟨x,rfl,hx⟩ ⟨y,rfl,hy⟩ h1 h2
  rw [h.tri x y hx hy h1 h2]
 tra:=by
  rintro _ _ _ ⟨x,rfl,hx⟩ ⟨y,rfl,hy⟩ ⟨z,rfl,hz⟩
  exact h.tra x y z hx hy hz
theorem AL (p:gf P){x y z:D}{r s t:List D}(px:P x) (py:P y) (pz:P z) (h:iz r s=true->iz s t=true->iz r t=true) (h1:iz (x::r) (y::s)=true) (h2:iz (y::s) (z::t)=true):iz (x::r) (z::t)=true:=by
 rw [jD] at h1 h2 ⊢
 by_cases e:x=y
 ·subst e
  rw [if_pos ((p.eq x x px px).mpr rfl)] at h1
  by_cases f:x=z
  ·subst f
   rw [if_pos ((p.eq x x px px).mpr rfl)] at h2 ⊢
   exact h h1 h2
  ·rw [if_neg λq=>f ((p.eq x z px pz).mp q)] at h2 ⊢
   exact h2
 ·rw [if_neg λq=>e ((p.eq x y px py).mp q)] at h1
  by_cases f:y=z
  ·subst f
   rw [if_neg λq=>e ((p.eq x y px py).mp q)]
   exact h1
  ·rw [if_neg λq=>f ((p.eq y z py pz).mp q)] at h2
   have h3:=p.tra x y z px py pz h1 h2
   by_cases g:x=z
   ·subst g
    have:=p.asy x x px px h3
    rw [h3] at this
    cases this
   ·rw [if_neg λq=>g ((p.eq x z px pz).mp q)]
    exact h3
theorem kT.cons {Q:List D->Prop}(p:gf P) (h:kT Q):kT λxs=>∃x r,xs=x::r/\P x/\Q r where
 eq:=by
  rintro _ _ ⟨x,r,rfl,px,qr⟩ ⟨y,s,rfl,py,qs⟩
  rw [gY,QK,p.eq x y px py,h.eq r s qr qs]
  exact ⟨λe=>by rw [e.1,e.2],λe=>by cases e;exact ⟨rfl,rfl⟩⟩
 lt:=by
  rintro _ _ ⟨x,r,rfl,px,qr⟩ ⟨y,s,rfl,py,qs⟩
  show (if bw x y=true then j4 r s else dQ x y).isSome=true
  split
  ·exact h.lt r s qr qs
  ·exact p.lt x y px py
 asy:=by
  rintro _ _ ⟨x,r,rfl,px,qr⟩ ⟨y,s,rfl,py,qs⟩ hl
  rw [jD] at hl ⊢
  by_cases e:x=y
  ·subst e
   rw [if_pos ((p.eq x x px px).mpr rfl)] at hl ⊢
   exact h.asy r s qr qs hl
  ·rw [if_neg λz=>e ((p.eq x y px py).mp z)] at hl
   rw [if_neg λz=>e ((p.eq y x py px).mp z).symm]
   exact p.asy x y px py hl
 tri:=by
  rintro _ _ ⟨x,r,rfl,px,qr⟩ ⟨y,s,rfl,py,qs⟩ h1 h2
  rw [jD] at h1 h2
  by_cases e:x=y
  ·subst e
   rw [if_pos ((p.eq x x px px).mpr rfl)] at h1 h2
   rw [h.tri r s qr qs h1 h2]
  ·rw [if_neg λz=>e ((p.eq x y px py).mp z)] at h1
   rw [if_neg λz=>e ((p.eq y x py px).mp z).symm] at h2
   exact absurd (p.tri x y px py h1 h2) e
 tra:=by
  rintro _ _ _ ⟨x,r,rfl,px,qr⟩ ⟨y,s,rfl,py,qs⟩ ⟨z,t,rfl,pz,qt⟩ h1 h2
  exact AL p px py pz (h.tra r s t qr qs qt) h1 h2
theorem kT.nil:kT λxs=>xs=[] where
 eq:=by rintro _ _ rfl rfl;simp [cj]
 lt:=by rintro _ _ rfl rfl;rfl
 asy:=by rintro _ _ rfl rfl h;cases h
 tri:=by rintro _ _ rfl rfl _ _;rfl
 tra:=by rintro _ _ _ rfl rfl rfl h;cases h
theorem gf.list (p:gf P):kT λxs=>∀x∈xs,P x where
 eq:=by
  intro xs
  induction xs with
  | nil=>intro ys _ _;cases ys <;> simp [cj]
  | cons x xs ih=>
   intro ys hx hy
   cases ys with
   | nil=>simp [cj]
   | cons y ys=>
    rw [gY,QK,p.eq x y (hx x QH) (hy y QH),ih ys (λz hz=>hx z (QF _ hz)) λz hz=>hy z (QF _ hz)]
    exact ⟨λe=>by rw [e.1,e.2],λe=>by cases e;exact ⟨rfl,rfl⟩⟩
 lt:=by
  intro xs
  induction xs with
  | nil=>intro ys _ _;rfl
  | cons x xs ih=>
   intro ys hx hy
   cases ys with
   | nil=>rfl
   | cons y ys=>
    show (if bw x y=true then j4 xs ys else dQ x y).isSome=true
    split
    ·exact ih ys (λz hz=>hx z (QF _ hz)) λz hz=>hy z (QF _ hz)
    ·exact p.lt x y (hx x QH) (hy y QH)
 asy:=by
  intro xs
  induction xs with
  | nil=>
   intro ys _ _ h
   cases ys with
   | nil=>cases h
   | cons y ys=>rfl
  | cons x xs ih=>
   intro ys hx hy hl
   cases ys with
   | nil=>cases hl
   | cons y ys=>
    have px:=hx x QH
    have py:=hy y QH
    rw [jD] at hl ⊢
    by_cases e:x=y
    ·subst e
     rw [if_pos ((p.eq x x px px).mpr rfl)] at hl ⊢
     exact ih ys (λz hz=>hx z (QF _ hz)) (λz hz=>hy z (QF _ hz)) hl
    ·rw [if_neg λz=>e ((p.eq x y px py).mp z)] at hl
     rw [if_neg λz=>e ((p.eq y x py px).mp z).symm]
     exact p.asy x y px py hl
 tri:=by
  intro xs
  induction xs with
  | nil=>
   intro ys _ _ h1 h2
   cases ys with
   | nil=>rfl
   | cons y ys=>cases h1
  | cons x xs ih=>
   intro ys hx hy h1 h2
   cases ys with
   | nil=>cases h2
   | cons y ys=>
    have px:=hx x QH
    have py:=hy y QH
    rw [jD] at h1 h2
    by_cases e:x=y
    ·subst e
     rw [if_pos ((p.eq x x px px).mpr rfl)] at h1 h2
     rw [ih ys (λz hz=>hx z (QF _ hz)) (λz hz=>hy z (QF _ hz)) h1 h2]
    ·rw [if_neg λz=>e ((p.eq x y px py).mp z)] at h1
     rw [if_neg λz=>e ((p.eq y x py px).mp z).symm] at h2
     exact absurd (p.tri x y px py h1 h2) e
 tra:=by
  intro xs
  induction xs with
  | nil=>
   intro ys zs _ _ _ h1 h2
   cases ys with
   | nil=>cases h1
   | cons y ys=>
    cases zs with
    | nil=>cases h2
    | cons z zs=>rfl
  | cons x xs ih=>
   intro ys zs hx hy hz h1 h2
   cases ys with
   | nil=>cases h1
   | cons y ys=>
    cases zs with
    | nil=>cases h2
    | cons z zs=>
     have px:=hx x QH
     have py:=hy y QH
     have pz:=hz z QH
     exact AL p px py pz (ih ys zs (λz hz=>hx z (QF _ hz)) (λz hz=>hy z (QF _ hz)) λw hw=>hz w (QF _ hw)) h1 h2
theorem M0:gf λd=>∃k,d=.bl k where
 eq:=by rintro _ _ ⟨x,rfl⟩ ⟨y,rfl⟩;simp [bw]
 lt:=by rintro _ _ ⟨x,rfl⟩ ⟨y,rfl⟩;rfl
 asy:=by rintro _ _ ⟨x,rfl⟩ ⟨y,rfl⟩;revert x y;decide
 tri:=by
  rintro _ _ ⟨x,rfl⟩ ⟨y,rfl⟩ h1 h2
  revert h1 h2
  cases x <;> cases y <;> intro h1 h2
  ·rfl
  ·exact absurd h1 (by decide)
  ·exact absurd h2 (by decide)
  ·rfl
 tra:=by rintro _ _ _ ⟨x,rfl⟩ ⟨y,rfl⟩ ⟨z,rfl⟩;revert x y z;decide
theorem ni (x y:Int):eu (.int x) (.int y)=decide (x < y):=rfl
theorem M1:gf λd=>∃k,d=.int k where
 eq:=by rintro _ _ ⟨x,rfl⟩ ⟨y,rfl⟩;simp [bw]
 lt:=by rintro _ _ ⟨x,rfl⟩ ⟨y,rfl⟩;rfl
 asy:=by
  rintro _ _ ⟨x,rfl⟩ ⟨y,rfl⟩ h
  rw [ni,decide_eq_true_eq] at h
  rw [ni,decide_eq_false_iff_not]
  omega
 tri:=by
  rintro _ _ ⟨x,rfl⟩ ⟨y,rfl⟩ h1 h2
  rw [ni,decide_eq_false_iff_not] at h1 h2
  rw [show x=y by omega]
 tra:=by
  rintro _ _ _ ⟨x,rfl⟩ ⟨y,rfl⟩ ⟨z,rfl⟩ h1 h2
  rw [ni,decide_eq_true_eq] at h1 h2 ⊢
  omega
theorem qo (x y:Str):eu (.str x) (.str y)=decide (x.cps.toList < y.cps.toList):=rfl
theorem Jw {x y:Str}(h:x.cps.toList=y.cps.toList):x=y:=by
 obtain ⟨⟨cx⟩⟩:=x
 obtain ⟨⟨cy⟩⟩:=y
 simp only at h
 rw [h]
theorem M3:gf λd=>∃k,d=.str k where
 eq:=by rintro _ _ ⟨x,rfl⟩ ⟨y,rfl⟩;simp [bw]
 lt:=by rintro _ _ ⟨x,rfl⟩ ⟨y,rfl⟩;rfl
 asy:=by
  rintro _ _ ⟨x,rfl⟩ ⟨y,rfl⟩ h
  rw [qo,decide_eq_true_eq] at h
  rw [qo,decide_eq_false_iff_not]
  exact List.lt_asymm h
 tri:=by
  rintro _ _ ⟨x,rfl⟩ ⟨y,rfl⟩ h1 h2
  rw [qo,decide_eq_false_iff_not] at h1 h2
  rw [Jw (Y9 h2 h1)]
 tra:=by
  rintro _ _ _ ⟨x,rfl⟩ ⟨y,rfl⟩ ⟨z,rfl⟩ h1 h2
  rw [qo,decide_eq_true_eq] at h1 h2 ⊢
  exact List.lt_trans h1 h2
inductive Fm where
 | b | i | s | hom (t:Fm) | tn | tc (x r:Fm)
def jx:Fm->D->Prop
 | .b,d=>∃k,d=.bl k
 | .i,d=>∃k,d=.int k
 | .s,d=>∃k,d=.str k
 | .hom t,d=>∃xs,d=.tup xs/\∀x∈xs,jx t x
 | .tn,d=>∃xs,d=.tup xs/\xs=[]
 | .tc x r,d=>∃xs,d=.tup xs/\∃y ys,xs=y::ys/\jx x y/\jx r (.tup ys)
theorem gf.tail {Q:List D->Prop}(h:gf R) (k:∀xs,Q xs->R (.tup xs)):kT Q where
 eq:=λx y hx hy=>by
  have:=h.eq _ _ (k x hx) (k y hy)
  rw [kH] at this
  rw [this]
  exact ⟨λe=>by cases e;rfl,λe=>e▸rfl⟩
 lt:=λx y hx hy=>h.lt _ _ (k x hx) (k y hy)
 asy:=λx y hx hy=>h.asy _ _ (k x hx) (k y hy)
 tri:=λx y hx hy h1 h2=>by
  have:=h.tri _ _ (k x hx) (k y hy) h1 h2
  cases this;rfl
 tra:=λx y z hx hy hz=>h.tra _ _ _ (k x hx) (k y hy) (k z hz)
theorem fQ:∀t:Fm,gf (jx t)
 | .b=>M0
 | .i=>M1
 | .s=>M3
 | .hom t=>(fQ t).list.tot
 | .tn=>kT.nil.tot
 | .tc x r=>(kT.cons (fQ x) (gf.tail (Q:=λys=>jx r (.tup ys)) (fQ r) λ_ h=>h)).tot
theorem MS (ds:List D):(bB ds).length=ds.length:=by
 unfold bB
 by_cases h:ds.length < 2
 ·rw [if_pos h]
 ·rw [if_neg h,QA]
  have:=((eT (n:=ds.length) (by omega)).run (ltB ds)).size_eq
  simpa using this
theorem ID (ds:List D):(QG ds.length).map (cO ds)=ds:=by
 refine UL (by simp) λi h1 h2=>?_
 rw [WT,List.getElem_range]
 unfold cO
 rw [RE,QS h2]
 rfl
theorem jo (ds:List D):(bB ds).Perm ds:=by
 unfold bB
 by_cases h:ds.length < 2
 ·rw [if_pos h]
 ·rw [if_neg h]
  have hp:=(eT (n:=ds.length) (by omega)).run (ltB ds)
  have hq:(aX (ltB ds) (S6 ds.length)).toList.Perm (QG ds.length):=by
   have:=Array.perm_iff_toList_perm.mp hp
   simpa using this
  have:=hq.map (cO ds)
  rwa [ID] at this
theorem GC (p:gf P) (ds:List D) (h:∀x∈ds,P x):(bB ds).Pairwise λx y=>eu y x=false:=by
 unfold bB
 by_cases h2:ds.length < 2
 ·rw [if_pos h2]
  match ds,h2 with
  | [],_=>exact .nil
  | [x],_=>exact T5 _ _
 ·rw [if_neg h2]
  have hn:0 < ds.length:=by omega
  have hb:=eT (n:=ds.length) hn
  have at_P:∀i,i < ds.length->P (cO ds i):=λi hi=>h _ (eH hi)
  let q':Nat->Nat->Bool:=λi j=>if i < ds.length then (if j < ds.length then ltB ds i j else true) else false
  have hq:aX (ltB ds) (S6 ds.length)=aX q' (S6 ds.length):=Gw hb λi j hi hj=>by simp [q',hi,hj]
  have O:Ord q':=by
   constructor
   ·intro a b hab
    by_cases ha:a < ds.length <;> by_cases hb:b < ds.length <;> simp [q',ha,hb] at hab ⊢
    exact p.asy _ _ (at_P a ha) (at_P b hb) hab
   ·intro a b c hab hbc
    by_cases ha:a < ds.length <;> by_cases hb:b < ds.length <;> by_cases hc:c < ds.length <;> simp [q',ha,hb,hc] at hab hbc ⊢
    have h1:eu (cO ds b) (cO ds a)=false:=hab
    have h2:eu (cO ds c) (cO ds b)=false:=hbc
    show eu (cO ds c) (cO ds a)=false
    cases g:eu (cO ds c) (cO ds a) with
    | false=>rfl
    | true=>
     have pa:=at_P a ha
     have pb:=at_P b hb
     have pc:=at_P c hc
     cases g2:eu (cO ds a) (cO ds b) with
     | true=>
      have:=p.tra _ _ _ pc pa pb g g2
      rw [this] at h2;cases h2
     | false=>
      rw [<-p.tri _ _ pb pa h1 g2] at g
      rw [g] at h2;cases h2
  have up:=Ju O ds.length (by omega)
  have hs:=(hb.run (ltB ds))
  rw [hq] at hs ⊢
  have hsz:(aX q' (S6 ds.length)).size=ds.length:=by simpa using hs.size_eq
  generalize aX q' (S6 ds.length)=A at *
  rw [RC,Sa]
  intro i j hi hj hij
  rw [QN] at hi hj
  have:=up i j (by omega) (by omega)
  have e:∀k (hk:k < A.size),bG A k=A.toList[k]'(by rw [QN];exact hk):=λk hk=>by
   show A.getD k 0=_
   simp [SD,hk]
  rw [e i hi,e j hj] at this
  have l:∀k (hk:k < A.size),A.toList[k]'(by rw [QN];exact hk) < ds.length:=λk hk=>by
   rw [<-e k hk];exact hs.lt hn k
  have li:=l i hi
  have lj:=l j hj
  simp only [q',li,lj,if_true] at this
  exact this
end DL
namespace K52
open PySem DL
end K52
namespace K52
open PySem DL K01 WP K51
variable {P:D->Prop}
end K52
namespace DL
open PySem PySem.Spec PyProof.Rows L2
section
variable {X:Cx}{c:C}{e a b:Rp}{es elts:List Rp}{pos tp:Pos}{kk:Nat}
def JX:R->M (List D)
 | .d (.tup xs)=>.ok xs
 | .d (.lst xs)=>.ok xs
 | _=>.bad
def Oo (gs:G (List R)):G (List D):=λenv=>gs env >>= λrs=>match rs with
 | [x,y]=>JX x >>= λxs=>JX y >>= λys=>.ok (List.zipWith (λa b=>.tup [a,b]) xs ys)
 | _=>.bad
theorem EY:bU X (.type "range") (λxs H Q=>∃j:Int,xs=[.int j]/\∀p,H p=none->Q (.ref p) (upd H p (.rng 0 j))):=by
 intro pins s σ H xs us Q I r h
 obtain ⟨j,rfl,q⟩:=h
 obtain ⟨u,rfl,t,rfl⟩:=vals1 r
 refine call_range_1 ⟨.ref s.heap.objs.size,_,I.laid (λb o e=>QI _ e) (QL _) (show cg X.prog X.w _ _ _ (.rng 0 j) from ⟨_,_,_,QV _ rfl⟩),rfl,q _ (I.hok.fresh (QL _))⟩
def lY (n:Nat):List V:=(QG n).map λ(k:Nat)=>V.int k
theorem GK {n:Nat}{acc:Array Qy}(h:ItemsOf (λi v=>∃t,v=.int (0 + (i:Int) * 1) t) acc n):Vals (lY n) acc.toList:=by
 have key:∀(us:List Qy) (i:Nat),(∀j v,us[j]?=some v->∃t:Tok,v=Zg ((i + j:Nat):Int) t)->Vals ((List.range' i us.length).map λ(k:Nat)=>V.int k) us:=by
  intro us
  induction us with
  | nil=>exact λi _=>.nil
  | cons u us ih=>
   intro i hj
   obtain ⟨t,e⟩:=hj 0 u rfl
   rw [RT,List.range'_succ,Q5]
   refine .cons ⟨t,by rw [e];rfl⟩ (ih (i + 1) λj v hv=>?_)
   obtain ⟨t,e⟩:=hj (j + 1) v (by simpa using hv)
   exact ⟨t,by rw [e];congr 2;omega⟩
 have e:acc.toList.length=n:=by rw [QN];exact h.1
 unfold lY
 rw [List.range_eq_range',<-e]
 refine key acc.toList 0 λj v hv=>?_
 obtain ⟨t,q⟩:=h.2 j v (by simpa using hv)
 exact ⟨t,by rw [q];congr 1;omega⟩
theorem wB (hc:X.calm=true):bU X (.type "list") (λxs H Q=>∃(p:QW) (j:Int),xs=[.ref p]/\H p=some (.rng 0 j)/\-(2 ^ 24)<=j/\j<=2 ^ 24/\∀l,H l=none->Q (.ref l) (upd H l (.lst (lY j.toNat)))):=by
 intro pins s σ H xs us Q I r h
 obtain ⟨p,j,rfl,hp,h0,h1,q⟩:=h
 obtain ⟨u,rfl,rx⟩:=vals1 r
 cases rx
 obtain ⟨t,u,v,ho⟩:=I.hok p _ hp
 have hn:Wy 0 j 1=(j.toNat:Int):=by rw [aai];split <;> omega
 refine call_list_range (I.ok.hd hc) ho (small_one (by decide) (by decide) (by omega) (by omega)) hn (by omega) λh' tk acc' c' kp e hi=>?_
 have hv:=GK hi
 refine ⟨.ref s.heap.objs.size,_,I.laid kp (QL _) (show cg X.prog X.w _ h' _ (.lst (lY j.toNat)) from ⟨?_,acc'.toList,c',hv,e⟩),rfl,q _ (I.hok.fresh (QL _))⟩
 unfold lY
 rw [QA,Sk]
 show j.toNat<=2 ^ 24
 omega
def G5 (gs:G (List R)):G R:=λenv=>gs env >>= λrs=>match rs with
 | [.d (.int j)]=>if below 16777216 j then .ok (.l .fresh (fO 0 j.toNat)) else .bad
 | _=>.bad
theorem Gv {K:Qx}{J:Hp}(n:Nat):aI K J (fO 0 n) (lY n):=by
 unfold fO lY
 generalize QG n=ks
 induction ks with
 | nil=>exact .nil
 | cons k ks ih=>
  rw [Q5,Q5,Int.zero_add]
  exact .cons (.int _) ih
end
end DL
namespace DL
open PySem PySem.Spec PyProof.Rows L2 DX
section
variable {X:Cx}{c:C}{e a:Rp}{es:List Rp}{ga g:G R}{pos:Pos}{L:List Str}{T:Str->Bool}
theorem Cf {p p2 pos2:Pos}{gs:G (List R)}(ha:kQ X c [a] gs) (hm:X.mg "range"=none) (hm2:X.mg "list"=none) (hc:X.calm=true:=by rfl) (hK:X.K=c.K:=by rfl) (hg:Gl X "range":=by rfl) (O_:Gl X "list":=by rfl)
  (hs:QU [a] X.env=(false,eval a X.env)::QU [] X.env:=by rfl) (hs0:(SY pos (QU [] X.env)).any (·.1)=false:=by rfl) (hs2:QU [abC (.Name "range" p) [a] [] pos] X.env=(false,eval (abC (.Name "range" p) [a] [] pos) X.env)::QU [] X.env:=by rfl) (Qo:(SY pos2 (QU [] X.env)).any (·.1)=false:=by rfl):
  QD X c (.Call (.Name "list" p2) [.Call (.Name "range" p) [a] [] pos] [] pos2) (G5 gs):=by
 have ha:=ha.h
 refine ⟨?_⟩
 have h1:=l_ (p:=p) (pos:=pos) EY hg hm boot_range ha (by decide) (by decide) hs hs0
 have h2:=l_ (p:=p2) (pos:=pos2) (wB hc) O_ hm2 BC (fk h1 iD hs2) (by decide) (by decide) hs2 Qo
 refine fG h2 λσ H Q ⟨J,env,sr,w⟩=>?_
 refine ⟨J,env,sr,aB (aK w) λrs wr vs J1 H1 e1 r1=>?_⟩
 split at wr
 ·rename_i j
  obtain ⟨v,rfl,r⟩:=r1.one
  cases r
  split at wr
  ·rename_i hb
   obtain ⟨b1,b2⟩:=eF.mp hb
   refine ⟨j,rfl,λq hq=>?_⟩
   refine ⟨q,j,rfl,bX,by omega,by omega,λl hl=>?_⟩
   have hp1:=sr.hp.ext e1
   have e2:=Ext.new hp1.sub hq (.rng 0 j)
   have hp2:=hp1.ext e2
   have hr:RR c H1 J1 (upd (upd H1 q (.rng 0 j)) l (.lst (lY j.toNat))) (.l .fresh (fO 0 j.toNat)) (.ref l):=by
    obtain ⟨a,us,x1,x2,x3,x4,x5⟩:=jn (c:=c) hp2 hl (Gv j.toNat)
    exact ⟨a,us,x1,x2,x3,e2.h.free x4,x5⟩
   exact wr _ _ _ ((e1.trans e2).trans (Ext.new hp2.sub hl _)) (by
    obtain ⟨a,us,x1,x2,x3,x4,x5⟩:=hr
    exact ⟨a,us,x1,x2,x3,e1.h.free x4,x5⟩)
  ·exact wr.elim
 ·exact wr.elim
end
end DL
namespace DL
open PySem PySem.Spec PyProof.Rows L2
end DL
namespace DL
open PySem PySem.Spec PyProof.Rows L2 DX
open PySem.W (KasT kas_sort kas_ask)
def isInt:D->Bool
 | .int _=>true
 | _=>false
def qX (ds:List D):Bool:=decide (ds.length < 64) && ds.all isInt
theorem AI {K:Qx}{J:Hp}:∀{ds:List D}{vs:List V}{us:List Qy},ds.all isInt=true->aI K J ds vs->Vals vs us->∃ns,UM us ns
 | _,_,_,_,.nil,.nil=>⟨[],.nil⟩
 | d::ds,_,_,h,.cons r rs,.cons v vs=>by
  (rw [Us,QK] at h)
  obtain ⟨ns,hn⟩:=AI h.2 rs vs
  cases d with
  | int i=>
   cases r
   obtain ⟨t,rfl⟩:=v
   exact ⟨i::ns,.cons i t hn⟩
  | _=>cases h.1
section
variable {X:Cx}{c:C}{e:Rp}{es:List Rp}{pos:Pos}
theorem xY:bU X (.builtin "sorted") (λxs H Q=>∃p vs ds,xs=[.ref p]/\cC X.K H p vs/\aI X.K H ds vs/\qX ds=true/\∀l vs',H l=none->(∀J,aI X.K J ds vs->aI X.K J (bB ds) vs')->Q (.ref l) (upd H l (.lst vs'))):=by
 intro pins s σ H xs us Q I r h
 obtain ⟨p,vs,ds,rfl,hq,rs,ok,q⟩:=h
 obtain ⟨u,rfl,rx⟩:=vals1 r
 cases rx
 obtain ⟨its,r',pl,hz⟩:=I.list hq
 have l1:vs.length=its.length:=r'.length
 have l2:ds.length=vs.length:=rs.length
 have fr:H (s.heap.objs.size + 1)=none:=I.hok.fresh (Sv _)
 have fin:∀(out:List Qy) (vs':List V),vs'.length=vs.length->Vals vs' out->(∀J,aI X.K J ds vs->aI X.K J (bB ds) vs')->∃v H',Inv X pins σ H' {s with heap:=Yj s.heap its out.toArray}/\RelV v (.ref (s.heap.objs.size + 1))/\Q v H':=λout vs' lv rv rr=>by
  obtain ⟨n,hn⟩:=YW s.heap its out.toArray
  exact ⟨.ref (s.heap.objs.size + 1),_,I.laid (t':=s.toks) (λb o e=>Yk e) (Sv _) (show cg X.prog X.w _ _ _ (.lst vs') from ⟨by rw [lv];exact hz,out,n,rv,by simpa [S0] using hn⟩),rfl,q _ vs' fr rr⟩
 unfold qX at ok
 rw [QK] at ok
 obtain ⟨o1,o2⟩:=ok
 have o1:=of_decide_eq_true o1
 by_cases h2:ds.length < 2
 ·refine A5 pl.isList (by omega) (fin its vs rfl r' ?_)
  intro J rj
  unfold bB
  rw [if_pos h2]
  exact rj
 ·have ib:∀i∈(aX (ltB ds) (S6 ds.length)).toList,i < ds.length:=λi hi=>by
   have:=((eT (n:=ds.length) (by omega)).run (ltB ds):eS _ _)
   have:=(Tn this).mp (UB.mp hi)
   simpa using this
  obtain ⟨ns,hI⟩:=AI o2 rs r'
  refine A6 (κ:=aaw) (q:=ltB ds) pl.isList (by omega) (by omega) (λh' C kp cc=>?_) (λh' kp i j C hi hj cc=>?_) ?_
  ·have hl:2<=its.length:=by omega
   clear fin l1 r' pl
   match its,hI,hl with
   | v1::v2::r,hI,_=>rw [keyKind_ints hI];exact Qz cc
  ·have hi':i < ds.length:=by omega
   have hj':j < ds.length:=by omega
   have ai:=Rw.mp o2 _ (eH hi')
   have aj:=Rw.mp o2 _ (eH hj')
   have r1:=eX rs hi'
   have r2:=eX rs hj'
   have v1:=eY r' (i:=i) (by omega)
   have v2:=eY r' (i:=j) (by omega)
   show Q7 _ _ (keyLt' aaw (its.getD i RB) (its.getD j RB)) _ _ _
   rw [ZV]
   have e:ltB ds i j=(dQ (cO ds i) (cO ds j)).getD false:=rfl
   rw [e] at cc
   generalize cO ds i=di at ai r1 cc
   generalize cO ds j=dj at aj r2 cc
   generalize vs.getD i V.non=wi at r1 v1
   generalize vs.getD j V.non=wj at r2 v2
   cases di with
   | int a=>
    cases dj with
    | int b=>
     cases r1;cases r2
     obtain ⟨t1,q1⟩:=v1
     obtain ⟨t2,q2⟩:=v2
     rw [q1,q2]
     refine aaN ?_
     unfold dQ at cc
     exact cc
    | _=>cases aj
   | _=>cases ai
  ·have e1:iJ (ltB ds) its=(aX (ltB ds) (S6 ds.length)).toList.map λi=>its.getD i RB:=by unfold iJ;rw [l2,l1]
   rw [e1]
   refine fin _ _ ?_ (nF r' _ λi hi=>l2▸ib i hi) ?_
   ·rw [QA,<-l2]
    have:=((eT (n:=ds.length) (by omega)).run (ltB ds):eS _ _).size_eq
    simpa using this
   ·intro J rj
    unfold bB
    rw [if_neg h2]
    exact nv rj _ ib
def mY:List R->M R
 | [r]=>j_ r >>= λxs=>if yN xs=true then .ok (.l .fresh (bB xs)) else if qX xs=true then .ok (.l .fresh (bB xs)) else .bad
 | _=>.bad
theorem bU.or {f:Qy}{r1 r2:List V->Hp->VK->Prop}(h1:bU X f r1) (h2:bU X f r2):bU X f (λxs H Q=>r1 xs H Q\/r2 xs H Q):=λpins s σ H xs us Q I rv h=>h.elim (h1 pins s σ H xs us Q I rv) (h2 pins s σ H xs us Q I rv)
theorem vI {p:Pos}{gs:G (List R)}(hu:X.A.units + 64 < Sy) (ha:kQ X c (e::es) gs) (hm:X.mg "sorted"=none) (hK:X.K=c.K:=by rfl) (hg:Gl X "sorted":=by rfl)
  (he:QU (e::es) X.env=(false,eval e X.env)::QU es X.env:=by rfl) (hpl:(SY pos (QU es X.env)).any (·.1)=false:=by rfl):QD X c (.Call (.Name "sorted" p) (e::es) [] pos) (gN mY gs):=have ha:=ha.h;⟨
 jE (bU.or (x_ hu) xY) (by
  intro He J H xs vs Q hp rs w
  unfold mY at w
  split at w
  ·obtain ⟨v,rfl,r⟩:=rs.one
   obtain ⟨xs,q,w⟩:=nI w
   obtain ⟨p,vs,rfl,h1,h2⟩:=RR.list hp r q
   rw [hK]
   split at w
   ·rename_i ok
    exact .inl ⟨p,vs,xs,rfl,h1,h2.mono hp.sub,ok,λl vs' hl rr=>w _ _ _ (Ext.new hp.sub hl _) (jn hp hl (rr _ h2))⟩
   ·split at w
    ·rename_i ok
     exact .inr ⟨p,vs,xs,rfl,h1,h2.mono hp.sub,ok,λl vs' hl rr=>w _ _ _ (Ext.new hp.sub hl _) (jn hp hl (rr _ h2))⟩
    ·exact w.elim
  ·exact w.elim) kU hm ha hg (by decide) (by decide) he hpl⟩
end
end DL
namespace DL
open PySem PySem.Spec PyProof.Rows L2 DX
section
variable {X:Cx}{c:C}{e:Rp}{es:List Rp}{pos:Pos}
theorem any_range (ks:List Bool):(QG ks.length).any (λi=>ks.getD i false)=ks.any id:=by
 induction ks with
 | nil=>rfl
 | cons k r ih=>
  rw [RT,Ve,VH,V7,VH]
  simp only [XU]
  rw [<-ih]
  rfl
theorem De (hc:X.calm=true):bU X (.builtin "any") (λxs H Q=>∃(p:QW) (ks:List Bool),xs=[.ref p]/\cC X.K H p (ks.map V.bl)/\Q (.bl (ks.any id)) H):=by
 intro pins s σ H xs us Q I r h
 obtain ⟨p,ks,rfl,hq,q⟩:=h
 obtain ⟨u,rfl,rx⟩:=vals1 r
 cases rx
 obtain ⟨its,r',pl,hz⟩:=I.list hq
 have hi:=rT r'
 subst hi
 have PR:p≠s.heap.objs.size:=by
  obtain ⟨o,h1,_⟩:=pl.isList
  exact Rf (QY h1)
 refine call_any_walk (Wj pl.isList ⟨s.heap.objs.size,_,_,_,_,_,(λi=>ks.getD i false),rfl,abq (A:=X.A.in1) (show X.A.in1.handled=none from I.ok.hd hc) s.heap.objs.size p PR (ks.map TF).toArray,⟨⟨_,QV _ rfl,rfl,rfl⟩,Y_ pl.isList _⟩,?_,λh' tk k=>?_⟩)
 ·intro i v s' Q' E' hP hQ
  have e:∃k,ks[i]?=some k/\v=.bool k:=by
   have hP':(ks.map TF)[i]?=some v:=by simpa using hP
   rw [Q_] at hP'
   cases z:ks[i]? with
   | none=>rw [z] at hP';cases hP'
   | some k=>rw [z] at hP';cases hP';exact ⟨k,rfl,rfl⟩
  obtain ⟨k,e1,rfl⟩:=e
  simp only at hQ
  rw [RE,e1] at hQ
  exact RN hQ
 ·have sz:(ks.map TF).toArray.size=ks.length:=by simp
  rw [sz,any_range]
  refine ⟨.bl (ks.any id),H,?_,rfl,q⟩
  refine I.kept λb o e=>k b o (λz=>?_) (QI _ e)
  have:b=s.heap.objs.size:=by simpa using z
  exact absurd (this▸QY e) (SG _)
def uE:List R->M R
 | [r]=>j_ r >>= λxs=>match jK xs with
  | some ks=>.ok (.d (.bl (ks.any id)))
  | none=>.bad
 | _=>.bad
theorem CZ:RL "any"=some (.builtin "any"):=by decide +kernel
theorem AY {p:Pos}{gs:G (List R)}(ha:kQ X c (e::es) gs) (hm:X.mg "any"=none) (hK:X.K=c.K:=by rfl) (hc:X.calm=true:=by rfl) (hg:Gl X "any":=by rfl)
  (he:QU (e::es) X.env=(false,eval e X.env)::QU es X.env:=by rfl) (hpl:(SY pos (QU es X.env)).any (·.1)=false:=by rfl):QD X c (.Call (.Name "any" p) (e::es) [] pos) (gN uE gs):=have ha:=ha.h;⟨
 jE (De hc) (by
  intro He J H xs vs Q hp rs w
  unfold uE at w
  split at w
  ·obtain ⟨v,rfl,r⟩:=rs.one
   obtain ⟨xs,q,w⟩:=nI w
   obtain ⟨p,vs,rfl,h1,h2⟩:=RR.list hp r q
   split at w
   ·rename_i ks z
    have:=oY z h2
    subst this
    exact ⟨p,ks,rfl,by rw [hK];exact h1,w _ J H (Ext.refl hp.sub) (.bl _)⟩
   ·exact w.elim
  ·exact w.elim) CZ hm ha hg (by decide) (by decide) he hpl⟩
end
end DL
namespace ST
open PySem PySem.SetTable
theorem uJ (xs:Array Nat) (j:Nat) (hs:xs.toList.Pairwise (· < ·)):∀(f lo hi:Nat),hi<=xs.size->lo<=hi->hi - lo<=f->(∀i,i < lo->xs.getD i 0 < j)->(∀i,hi<=i->i < xs.size->j<=xs.getD i 0)->
  below.go xs j f lo hi<=xs.size/\(∀i,i < below.go xs j f lo hi->xs.getD i 0 < j)/\∀i,below.go xs j f lo hi<=i->i < xs.size->j<=xs.getD i 0
 | 0,lo,hi,h1,h2,h3,h4,h5=>by
  have:lo=hi:=by omega
  subst this
  exact ⟨h1,h4,h5⟩
 | f + 1,lo,hi,h1,h2,h3,h4,h5=>by
  have mono:∀a b,a<=b->b < xs.size->xs.getD a 0<=xs.getD b 0:=λa b hab hb=>by
   rcases Yn hab with h | h
   ·have:=Sa.mp hs a b (by simpa using UR h hb) (by simpa using hb) h
    simp [SD,UR h hb,hb] at this ⊢
    omega
   ·rw [h];exact QL _
  unfold below.go
  by_cases c:lo < hi
  ·rw [if_pos c]
   have hm:(lo + hi) / 2 < xs.size:=by omega
   have e:xs.getD ((lo + hi) / 2) j=xs.getD ((lo + hi) / 2) 0:=by simp [SD,hm]
   by_cases d:xs.getD ((lo + hi) / 2) j < j
   ·simp only [d,if_true]
    rw [e] at d
    exact uJ xs j hs f _ hi h1 (by omega) (by omega) (λi hi'=>Yl (mono i ((lo + hi) / 2) (by omega) hm) d) h5
   ·simp only [d,if_false]
    rw [e] at d
    exact uJ xs j hs f lo _ (by omega) (by omega) (by omega) h4 (λi hi' hs'=>Rr (by omega) (mono ((lo + hi) / 2) i hi' hs'))
  ·rw [if_neg c]
   have:lo=hi:=by omega
   subst this
   exact ⟨h1,h4,h5⟩
theorem nM (xs:Array Nat) (j:Nat) (hs:xs.toList.Pairwise (· < ·)):below xs j<=xs.size/\(∀i,i < below xs j->xs.getD i 0 < j)/\∀i,below xs j<=i->i < xs.size->j<=xs.getD i 0:=
 uJ xs j hs xs.size 0 xs.size (QL _) (Rl _) (by omega) (λi h=>absurd h (RU _)) (λi h1 h2=>by omega)
theorem below_at {xs:Array Nat}{i j:Nat}(hs:xs.toList.Pairwise (· < ·)) (h:xs[i]?=some j):below xs j=i:=by
 obtain ⟨hi,e⟩:=RQ.mp h
 obtain ⟨b1,b2,b3⟩:=nM xs j hs
 have g:xs.getD i 0=j:=by simp [SD,hi,e]
 rcases Uu (below xs j) i with c | c | c
 ·have h1:=b3 (below xs j) (QL _) (by omega)
  have:=Sa.mp hs (below xs j) i (by simpa using UR c hi) (by simpa using hi) c
  simp [SD,UR c hi] at h1
  simp at this
  omega
 ·exact c
 ·have:=b2 i c
  omega
theorem pV {t:RM}{i j:Nat}(hs:t.place.toList.Pairwise (· < ·)) (h:t.place[i]?=some j):t.slot j=.live i:=by
 unfold slot
 rw [below_at hs h]
 show (if (t.place[i]? == some j)=true then Slot.live i else _)=_
 rw [h]
 simp
theorem t7 {t:RM}{j:Nat}(hd:t.dummies=#[]) (h:j∉t.place.toList):t.slot j=.empty:=by
 unfold slot
 have h1:(t.place[below t.place j]? == some j)=false:=by
  rw [beq_eq_false_iff_ne]
  intro z
  exact h (by
   obtain ⟨hi,e⟩:=RQ.mp z
   rw [<-e]
   simp)
 have h2:has t.dummies j=false:=by rw [hd];rfl
 simp only [h1,h2,QZ,if_false]
def st (mask:Nat) (h:Int):Nat->Probe
 | 0=>({mask:=mask,place:=#[],dummies:=#[],finger:=0,led:=true,moves:=0,plain:=true}:RM).probeStart h
 | n + 1=>({mask:=mask,place:=#[],dummies:=#[],finger:=0,led:=true,moves:=0,plain:=true}:RM).advance (st mask h n)
abbrev pos (mask:Nat) (h:Int) (n:Nat):Nat:=(st mask h n).j
theorem oB (mask:Nat) (h:Int):∀n,(st mask h n).dummy=none
 | 0=>rfl
 | n + 1=>by
  unfold st advance
  split
  ·exact oB mask h n
  ·exact oB mask h n
def tn (mask:Nat) (h:Int):Nat->Nat×Nat
 | 0=>(bits h % (mask + 1),bits h)
 | k + 1=>leap mask (tn mask h k).1 (tn mask h k).2
theorem vR (mask:Nat) (h:Int):∀(m n:Nat) (i p j:Nat),st mask h n={j:=j,more:=m,i:=i,perturb:=p,dummy:=none}->st mask h (n + m)={j:=j + m,more:=0,i:=i,perturb:=p,dummy:=none}
 | 0,n,i,p,j,e=>e
 | m + 1,n,i,p,j,e=>by
  have e1:st mask h (n + 1)={j:=j + 1,more:=m,i:=i,perturb:=p,dummy:=none}:=by
   show advance _ (st mask h n)=_
   rw [e]
   unfold advance
   simp
  have:=vR mask h m (n + 1) i p (j + 1) e1
  rw [show n + (m + 1)=n + 1 + m by omega,this]
  congr 1;omega
theorem A_ (mask:Nat) (h:Int):∀k,∃n,n<=10 * k/\st mask h n={j:=(tn mask h k).1,more:=runEnd mask (tn mask h k).1 - (tn mask h k).1,i:=(tn mask h k).1,perturb:=(tn mask h k).2,dummy:=none}
 | 0=>⟨0,QL _,rfl⟩
 | k + 1=>by
  obtain ⟨n,hn,e⟩:=A_ mask h k
  have hm:runEnd mask (tn mask h k).1 - (tn mask h k).1<=9:=by unfold runEnd;split <;> omega
  have:=vR mask h _ n _ _ _ e
  refine ⟨n + (runEnd mask (tn mask h k).1 - (tn mask h k).1) + 1,by omega,?_⟩
  show advance _ (st mask h (n + (runEnd mask (tn mask h k).1 - (tn mask h k).1)))=_
  rw [this]
  unfold advance
  simp
  exact ⟨rfl,rfl,rfl,rfl⟩
theorem ua (mask:Nat) (h:Int):∀k,(tn mask h k).2=bits h / 32 ^ k
 | 0=>by simp [tn]
 | k + 1=>by
  show (tn mask h k).2 / 32=_
  rw [ua mask h k,W0,Y3]
theorem HP (h:Int):bits h < 2 ^ 64:=by
 unfold bits
 have:=SQ h (b:=2 ^ 64) (by decide)
 omega
def DS (mask i:Nat):Nat:=(i * 5 + 1) % (mask + 1)
def iy (mask:Nat):Nat->Nat->Nat
 | 0,i=>i
 | r + 1,i=>DS mask (iy mask r i)
theorem zm (mask:Nat) (h:Int):∀r,(tn mask h (12 + r)).1=iy mask r (tn mask h 12).1
 | 0=>rfl
 | r + 1=>by
  show (leap mask (tn mask h (12 + r)).1 (tn mask h (12 + r)).2).1=DS mask (iy mask r (tn mask h 12).1)
  rw [<-zm mask h r,ua]
  unfold leap DS
  have:bits h / 32 ^ (12 + r) / 32=0:=by
   rw [W0,<-Y3]
   refine Nat.div_eq_of_lt (Rc (HP h) ?_)
   refine Rr (show 2 ^ 64<=32 ^ 13 by decide) (UC (by decide) (by omega))
  rw [this]
theorem Nr:∀i:Fin 8,∀j:Fin 8,(QG 8).any (λr=>iy 7 r i.val == j.val)=true:=by decide +kernel
theorem Mm:∀i:Fin 32,∀j:Fin 32,(QG 32).any (λr=>iy 31 r i.val == j.val)=true:=by decide +kernel
def Kd:List Nat:=(QG 128).map λr=>iy 127 r 0
theorem Ax:∀j:Fin 128,Kd.contains j.val=true:=by decide +kernel
theorem HS:iy 127 128 0=0:=by decide +kernel
theorem nY (mask:Nat):∀a b i,iy mask (a + b) i=iy mask a (iy mask b i)
 | 0,b,i=>by rw [Y4];rfl
 | a + 1,b,i=>by
  rw [show a + 1 + b=(a + b) + 1 by omega]
  show DS mask (iy mask (a + b) i)=DS mask (iy mask a (iy mask b i))
  rw [nY mask a b i]
def lR (mask:Nat):Prop:=mask=7\/mask=31\/mask=127
theorem Du {mask:Nat}(hm:lR mask) (i j:Nat) (hi:i<=mask) (hj:j<=mask):∃r,r<=mask/\iy mask r i=j:=by
 rcases hm with rfl | rfl | rfl
 ·have:=Nr ⟨i,by omega⟩ ⟨j,by omega⟩
  rw [SS] at this
  obtain ⟨r,h1,h2⟩:=this
  exact ⟨r,by have:=Ra.mp h1;omega,by simpa using h2⟩
 ·have:=Mm ⟨i,by omega⟩ ⟨j,by omega⟩
  rw [SS] at this
  obtain ⟨r,h1,h2⟩:=this
  exact ⟨r,by have:=Ra.mp h1;omega,by simpa using h2⟩
 ·have hi':=Ax ⟨i,by omega⟩
  have hj':=Ax ⟨j,by omega⟩
  rw [List.contains_iff_mem] at hi' hj'
  obtain ⟨a,ha,ea⟩:=QE.mp hi'
  obtain ⟨b,hb,eb⟩:=QE.mp hj'
  have ha:=Ra.mp ha
  have hb:=Ra.mp hb
  have ea:iy 127 a 0=i:=ea
  have eb:iy 127 b 0=j:=eb
  by_cases c:a<=b
  ·refine ⟨b - a,by omega,?_⟩
   rw [<-ea,<-nY,show b - a + a=b by omega]
   exact eb
  ·refine ⟨128 + b - a,by omega,?_⟩
   rw [<-ea,<-nY,show 128 + b - a + a=b + 128 by omega,nY,HS]
   exact eb
theorem Cz (mask:Nat) (h:Int) (k:Nat):(tn mask h k).1<=mask:=by
 cases k with
 | zero=>exact Vk (Wn _ (by omega))
 | succ k=>exact Vk (Wn _ (by omega))
theorem visits {mask:Nat}(hm:lR mask) (h:Int) (j:Nat) (hj:j<=mask):∃n,n<=10 * (mask + 12)/\pos mask h n=j:=by
 obtain ⟨r,hr,e⟩:=Du hm (tn mask h 12).1 j (Cz mask h 12) hj
 obtain ⟨n,hn,q⟩:=A_ mask h (12 + r)
 refine ⟨n,by omega,?_⟩
 show (st mask h n).j=j
 rw [q]
 show (tn mask h (12 + r)).1=j
 rw [zm,e]
theorem sN {mask:Nat}(hm:lR mask) (h:Int) (P:List Nat) (hP:P.length<=mask):∃n,n<=10 * (mask + 12)/\pos mask h n∉P/\∀m,m < n->pos mask h m∈P:=by
 have ex:∃j,j<=mask/\j∉P:=by
  by_cases c:∀j,j<=mask->j∈P
  ·exfalso
   have:(QG (mask + 1)).length<=P.length:=Ri SV λj hj=>c j (by have:=Ra.mp hj;omega)
   rw [Sk] at this
   omega
  ·exact Sb λz=>c λj hj=>Sb λy=>z ⟨j,hj,y⟩
 obtain ⟨j,hj,hn⟩:=ex
 obtain ⟨n,hn1,hn2⟩:=visits hm h j hj
 have key:∀k,k<=n->(∃m,m<=k/\pos mask h m∉P/\∀m',m' < m->pos mask h m'∈P)\/∀m,m<=k->pos mask h m∈P:=by
  intro k
  induction k with
  | zero=>
   intro _
   by_cases c:pos mask h 0∈P
   ·exact .inr λm hm=>by rw [show m=0 by omega];exact c
   ·exact .inl ⟨0,QL _,c,λm' h'=>absurd h' (RU _)⟩
  | succ k ih=>
   intro hk
   rcases ih (by omega) with ⟨m,h1,h2⟩ | h1
   ·exact .inl ⟨m,by omega,h2⟩
   ·by_cases c:pos mask h (k + 1)∈P
    ·exact .inr λm hm=>by
      by_cases d:m<=k
      ·exact h1 m d
      ·rw [show m=k + 1 by omega];exact c
    ·exact .inl ⟨k + 1,QL _,c,λm' h'=>h1 m' (by omega)⟩
 rcases key n (QL _) with ⟨m,h1,h2,h3⟩ | h1
 ·exact ⟨m,by omega,h2,h3⟩
 ·exact absurd (h1 n (QL _)) (by rw [hn2];exact hn)
def Reach (mask:Nat) (P:List Nat) (h:Int) (j:Nat):Prop:=∃n,pos mask h n=j/\∀m,m < n->pos mask h m∈P
theorem Reach.mono {mask:Nat}{P P':List Nat}{h:Int}{j:Nat}(r:Reach mask P h j) (s:∀x∈P,x∈P'):Reach mask P' h j:=
 let ⟨n,h1,h2⟩:=r;⟨n,h1,λm hm=>s _ (h2 m hm)⟩
structure Tab (t:RM) (es:Array (Int×Qy)) (L:List (Nat×Int×Qy)):Prop where
 dm:t.dummies=#[]
 pl:t.place.toList=L.map (·.1)
 en:es.toList=L.map (·.2)
 so:(L.map (·.1)).Pairwise (· < ·)
 bd:∀e∈L,e.1<=t.mask
 mo:lR t.mask
 fl:L.length<=t.mask
 pr:∀e∈L,Reach t.mask (L.map (·.1)) e.2.1 e.1
section
variable {t:RM}{es:Array (Int×Qy)}{L:List (Nat×Int×Qy)}
theorem Tab.at_ (T:Tab t es L){i:Nat}{e:Nat×Int×Qy}(h:L[i]?=some e):t.place[i]?=some e.1/\es[i]?=some e.2:=by
 constructor
 ·rw [<-R4,T.pl,Q_,h];rfl
 ·rw [<-R4,T.en,Q_,h];rfl
theorem Tab.sop (T:Tab t es L):t.place.toList.Pairwise (· < ·):=by rw [T.pl];exact T.so
theorem yQ (T:Tab t es L) (hashAt:Nat->Int) (hA:∀i e,es[i]?=some e->hashAt i=e.1) (h:Int) (n0:Nat) (hf:pos t.mask h n0∉L.map (·.1)) (hb:∀m,m < n0->pos t.mask h m∈L.map (·.1)):
  ∀(d n F:Nat),n0 - n=d->n<=n0->d < F->∃m,n<=m/\m<=n0/\(∀k,n<=k->k < m->∀e∈L,e.1=pos t.mask h k->e.2.1≠h)/\
   ((m=n0/\probe.go t hashAt h F (st t.mask h n)=some (.empty (pos t.mask h n0) none))\/(m < n0/\∃i e,L[i]?=some e/\e.1=pos t.mask h m/\e.2.1=h/\probe.go t hashAt h F (st t.mask h n)=some (.candidate (pos t.mask h m) i (st t.mask h (m + 1)))))
 | d,n,0,_,_,h=>absurd h (RU _)
 | d,n,F + 1,hd,hn,hF=>by
  by_cases c:n=n0
  ·subst c
   refine ⟨n,QL _,QL _,λk h1 h2=>by omega,.inl ⟨rfl,?_⟩⟩
   unfold probe.go
   rw [t7 T.dm (by rw [T.pl];exact hf)]
   show some (Met.empty _ (st t.mask h n).dummy)=_
   rw [oB]
  ·obtain ⟨e,he,ej⟩:=QE.mp (hb n (by omega))
   obtain ⟨i,hi,rfl⟩:=S3.mp he
   have hL:L[i]?=some L[i]:=QS hi
   obtain ⟨p1,p2⟩:=T.at_ hL
   have hs:t.slot (pos t.mask h n)=.live i:=pV T.sop (by rw [p1,ej])
   have hh:=hA i _ p2
   have uniq:∀e∈L,e.1=pos t.mask h n->e=L[i]:=λe he q=>by
    obtain ⟨k,hk,rfl⟩:=S3.mp he
    have:k=i:=by
     have sw:=Sa.mp T.so
     rcases Uu k i with c | c | c
     ·have:=sw k i (by simpa using hk) (by simpa using hi) c
      simp at this
      omega
     ·exact c
     ·have:=sw i k (by simpa using hi) (by simpa using hk) c
      simp at this
      omega
    subst this;rfl
   by_cases q:L[i].2.1=h
   ·refine ⟨n,QL _,by omega,λk h1 h2=>by omega,.inr ⟨by omega,i,L[i],hL,ej,q,?_⟩⟩
    unfold probe.go
    rw [hs]
    show (if (hashAt i == h)=true then _ else _)=_
    rw [hh,q,if_pos (by simp)]
    rfl
   ·obtain ⟨m,m1,m2,m3,m4⟩:=yQ T hashAt hA h n0 hf hb (n0 - (n + 1)) (n + 1) F rfl (by omega) (by omega)
    have eg:probe.go t hashAt h (F + 1) (st t.mask h n)=probe.go t hashAt h F (st t.mask h (n + 1)):=by
     rw [probe.go,hs]
     show (if (hashAt i == h)=true then _ else _)=_
     rw [hh,if_neg (by simpa using q)]
     rfl
    rw [eg]
    refine ⟨m,by omega,m2,λk h1 h2 e he' ek=>?_,m4⟩
    by_cases z:k=n
    ·subst z
     rw [uniq e he' ek];exact q
    ·exact m3 k (by omega) h2 e he' ek
theorem oM {α:Type}(xs:Array α) (p:Nat) (x:α) (hp:p<=xs.size):(insertAt xs p x).toList=xs.toList.take p++x::xs.toList.drop p:=by
 unfold insertAt
 simp
 (exact W2 (by simp))
theorem Tab.put (T:Tab t es L) (h:Int) (x:Qy) (n0:Nat) (hf:pos t.mask h n0∉L.map (·.1)) (hb:∀m,m < n0->pos t.mask h m∈L.map (·.1)) (hj:pos t.mask h n0<=t.mask) (hl:L.length + 1<=t.mask):
  ∃L',Tab (t.put (pos t.mask h n0)).1 (insertAt es (t.put (pos t.mask h n0)).2 (h,x)) L'/\L'.Perm ((pos t.mask h n0,h,x)::L):=by
 obtain ⟨b1,b2,b3⟩:=nM t.place (pos t.mask h n0) T.sop
 generalize hp:below t.place (pos t.mask h n0)=p at b1 b2 b3
 have hsz:t.place.size=L.length:=by rw [<-QN,T.pl,QA]
 have hes:es.size=L.length:=by rw [<-QN,T.en,QA]
 have perm:(L.take p++(pos t.mask h n0,h,x)::L.drop p).Perm ((pos t.mask h n0,h,x)::L):=by
  have:=WU (a:=(pos t.mask h n0,h,x)) (l₁:=L.take p) (l₂:=L.drop p)
  rwa [Ul] at this
 have e1:(t.put (pos t.mask h n0))=({t with place:=insertAt t.place p (pos t.mask h n0),dummies:=#[]},p):=by
  unfold SetTable.put
  rw [hp,T.dm]
  rfl
 rw [e1]
 have getP:∀i (hi:i < L.length),t.place.getD i 0=L[i].1:=λi hi=>by
  have:=(T.at_ (QS hi)).1
  have hi':i < t.place.size:=by omega
  simp [SD,hi']
  rw [Tw hi'] at this
  exact RS this
 refine ⟨L.take p++(pos t.mask h n0,h,x)::L.drop p,⟨rfl,?_,?_,?_,λe he=>?_,T.mo,?_,λe he=>?_⟩,perm⟩
 ·show (insertAt t.place p (pos t.mask h n0)).toList=_
  rw [oM _ _ _ b1,T.pl]
  simp [VJ,VL]
 ·show (insertAt es p (h,x)).toList=_
  rw [oM _ _ _ (by omega),T.en]
  simp [VJ,VL]
 ·rw [Rg,Q5,Tz]
  refine ⟨?_,?_,?_⟩
  ·rw [VJ]
   exact T.so.sublist (Yz _ _)
  ·rw [Ug]
   refine ⟨λa ha=>?_,?_⟩
   ·obtain ⟨e,he,rfl⟩:=QE.mp ha
    obtain ⟨i,hi,rfl⟩:=S3.mp he
    rw [YM]
    rw [T_] at hi
    have:=b3 (p + i) (by omega) (by omega)
    rw [getP _ (by omega)] at this
    rcases Yn this with c | c
    ·exact c
    ·exact absurd (QE.mpr ⟨L[p + i],Sg _,c.symm⟩) hf
   ·rw [VL]
    exact T.so.sublist (List.drop_sublist _ _)
  ·intro a ha b hb
   obtain ⟨e,he,rfl⟩:=QE.mp ha
   obtain ⟨i,hi,rfl⟩:=S3.mp he
   rw [List.getElem_take]
   rw [T9] at hi
   have h1:=b2 i (by omega)
   rw [getP _ (by omega)] at h1
   (rcases Q3.mp hb with rfl | hb)
   ·exact h1
   ·obtain ⟨e,he,rfl⟩:=QE.mp hb
    obtain ⟨k,hk,rfl⟩:=S3.mp he
    rw [YM]
    rw [T_] at hk
    have:=b3 (p + k) (by omega) (by omega)
    rw [getP _ (by omega)] at this
    omega
 ·rcases Q3.mp (perm.mem_iff.mp he) with rfl | he
  ·exact hj
  ·exact T.bd e he
 ·rw [perm.length_eq];exact hl
 ·have sub:∀y∈L.map (·.1),y∈(L.take p++(pos t.mask h n0,h,x)::L.drop p).map (·.1):=λy hy=>by
   obtain ⟨e,he,rfl⟩:=QE.mp hy
   exact QE.mpr ⟨e,perm.mem_iff.mpr (QF _ he),rfl⟩
  rcases Q3.mp (perm.mem_iff.mp he) with rfl | he
  ·exact ⟨n0,rfl,λm hm=>sub _ (hb m hm)⟩
  ·exact (T.pr e he).mono sub
end
theorem ny (mask:Nat) (h:Int) (n i p m:Nat) (e:st mask h n={j:=i,more:=m,i:=i,perturb:=p,dummy:=none}):∀r,r<=m->st mask h (n + r)={j:=i + r,more:=m - r,i:=i,perturb:=p,dummy:=none}
 | 0,_=>e
 | r + 1,hr=>by
  show advance _ (st mask h (n + r))=_
  rw [ny mask h n i p m e r (by omega)]
  unfold advance
  rw [if_pos (by show m - r > 0;omega)]
  show Probe.mk _ _ _ _ _=_
  congr 1
theorem EE (mask:Nat) (h:Int) (k n:Nat) (e:st mask h n={j:=(tn mask h k).1,more:=runEnd mask (tn mask h k).1 - (tn mask h k).1,i:=(tn mask h k).1,perturb:=(tn mask h k).2,dummy:=none}):
  st mask h (n + (runEnd mask (tn mask h k).1 - (tn mask h k).1) + 1)={j:=(tn mask h (k + 1)).1,more:=runEnd mask (tn mask h (k + 1)).1 - (tn mask h (k + 1)).1,i:=(tn mask h (k + 1)).1,perturb:=(tn mask h (k + 1)).2,dummy:=none}:=by
 show advance _ (st mask h (n + (runEnd mask (tn mask h k).1 - (tn mask h k).1)))=_
 rw [ny mask h n _ _ _ e _ (QL _)]
 unfold advance
 simp
 exact ⟨rfl,rfl,rfl,rfl⟩
theorem vh (mask:Nat) (h:Int) (owner:Array (Option Nat)) (G:List Nat) (ho:∀j,j<=mask->((owner.getD j (some 0)).isNone=true↔j∉G)):
  ∀(f k n:Nat),st mask h n={j:=(tn mask h k).1,more:=runEnd mask (tn mask h k).1 - (tn mask h k).1,i:=(tn mask h k).1,perturb:=(tn mask h k).2,dummy:=none}->(∀m,m < n->pos mask h m∈G)->
   (∃n',layClean.free mask owner f (tn mask h k).1 (tn mask h k).2=some (pos mask h n')/\pos mask h n'<=mask/\pos mask h n'∉G/\∀m,m < n'->pos mask h m∈G)\/(layClean.free mask owner f (tn mask h k).1 (tn mask h k).2=none/\∀r,r < f->(tn mask h (k + r)).1∈G)
 | 0,k,n,e,hb=>.inr ⟨rfl,λr hr=>absurd hr (RU _)⟩
 | f + 1,k,n,e,hb=>by
  have hi:=Cz mask h k
  have re:runEnd mask (tn mask h k).1<=mask/\(tn mask h k).1<=runEnd mask (tn mask h k).1:=by unfold runEnd;split <;> omega
  unfold layClean.free
  cases q:(QG (runEnd mask (tn mask h k).1 + 1 - (tn mask h k).1)).find? λr=>(owner.getD ((tn mask h k).1 + r) (some 0)).isNone with
  | some r=>
   have h1:=List.find?_some q
   have h2:=Ra.mp (List.mem_of_find?_eq_some q)
   have h3:pos mask h (n + r)=(tn mask h k).1 + r:=by
    show (st mask h (n + r)).j=_
    rw [ny mask h n _ _ _ e r (by omega)]
   refine .inl ⟨n + r,?_,?_,?_,?_⟩
   ·show some _=_
    rw [h3]
   ·rw [h3];omega
   ·rw [h3];exact (ho _ (by omega)).mp h1
   ·intro m hm
    by_cases c:m < n
    ·exact hb m c
    ·obtain ⟨s,rfl⟩:∃s,m=n + s:=⟨m - n,by omega⟩
     have h4:pos mask h (n + s)=(tn mask h k).1 + s:=by
      show (st mask h (n + s)).j=_
      rw [ny mask h n _ _ _ e s (by omega)]
     rw [h4]
     refine Sb λz=>?_
     have z':=(ho ((tn mask h k).1 + s) (by omega)).mpr z
     rw [List.find?_eq_some_iff_append] at q
     obtain ⟨_,as,bs,eq,hall⟩:=q
     have hs:s∈as:=by
      have hlen:as.length=r:=by
       have hl:as.length < (QG (runEnd mask (tn mask h k).1 + 1 - (tn mask h k).1)).length:=by rw [eq];simp
       have e3:(QG (runEnd mask (tn mask h k).1 + 1 - (tn mask h k).1))[as.length]?=some r:=by rw [eq];simp
       rw [Sk] at hl
       rw [UO hl] at e3
       exact RS e3
      have e4:(QG (runEnd mask (tn mask h k).1 + 1 - (tn mask h k).1))[s]?=some s:=UO (by omega)
      rw [eq,SI (by omega)] at e4
      exact R9 e4
     have:=hall s hs
     rw [z'] at this
     exact absurd this (by decide)
  | none=>
   have hall:=Yo.mp q
   have occ:∀s,s<=runEnd mask (tn mask h k).1 - (tn mask h k).1->(tn mask h k).1 + s∈G:=λs hs=>Sb λz=>by
    have z':=(ho ((tn mask h k).1 + s) (by omega)).mpr z
    exact hall s (Ra.mpr (by omega)) z'
   have nb:∀m,m < n + (runEnd mask (tn mask h k).1 - (tn mask h k).1) + 1->pos mask h m∈G:=λm hm=>by
    by_cases c:m < n
    ·exact hb m c
    ·obtain ⟨s,rfl⟩:∃s,m=n + s:=⟨m - n,by omega⟩
     have h4:pos mask h (n + s)=(tn mask h k).1 + s:=by
      show (st mask h (n + s)).j=_
      rw [ny mask h n _ _ _ e s (by omega)]
     rw [h4]
     exact occ s (by omega)
   rcases vh mask h owner G ho f (k + 1) _ (EE mask h k n e) nb with ⟨n',g1,g2',g3⟩ | ⟨g1,g2'⟩
   ·exact .inl ⟨n',g1,g2',g3⟩
   ·refine .inr ⟨g1,λr hr=>?_⟩
    cases r with
    | zero=>have:=occ 0 (Rl _);exact this
    | succ r=>have:=g2' r (by omega);rwa [show k + (r + 1)=k + 1 + r by omega]
theorem Ic {mask:Nat}(hm:lR mask) (h:Int) (owner:Array (Option Nat)) (G:List Nat) (hG:G.length<=mask) (ho:∀j,j<=mask->((owner.getD j (some 0)).isNone=true↔j∉G)):
  ∃n',layClean.free mask owner (turns mask) (bits h % (mask + 1)) (bits h)=some (pos mask h n')/\pos mask h n'<=mask/\pos mask h n'∉G/\∀m,m < n'->pos mask h m∈G:=by
 rcases vh mask h owner G ho (turns mask) 0 0 rfl (λm hm=>absurd hm (RU _)) with a | ⟨_,b⟩
 ·exact a
 ·exfalso
  have all:∀j,j<=mask->j∈G:=λj hj=>by
   obtain ⟨r,hr,e⟩:=Du hm (tn mask h 12).1 j (Cz mask h 12) hj
   have:=b (12 + r) (by unfold turns;omega)
   rw [Y4,zm,e] at this
   exact this
  have:(QG (mask + 1)).length<=G.length:=Ri SV λj hj=>all j (by have:=Ra.mp hj;omega)
  rw [Sk] at this
  omega
structure Own (mask:Nat) (owner:Array (Option Nat)) (G:List Nat) (hs:List Int):Prop where
 sz:owner.size=mask + 1
 ln:G.length=hs.length
 nd:G.Nodup
 bd:∀j∈G,j<=mask
 at_:∀j,j<=mask->owner.getD j none=if j∈G then some (G.idxOf j) else none
 pr:∀k (h1:k < G.length) (h2:k < hs.length),Reach mask G hs[k] G[k]
theorem Own.occ {mask:Nat}{owner:Array (Option Nat)}{G:List Nat}{hs:List Int}(O:Own mask owner G hs):∀j,j<=mask->((owner.getD j (some 0)).isNone=true↔j∉G):=λj hj=>by
 have e:owner.getD j (some 0)=owner.getD j none:=by
  have:j < owner.size:=by rw [O.sz];omega
  simp [SD,this]
 rw [e,O.at_ j hj]
 split <;> simp_all
theorem Own.step {mask:Nat}{owner:Array (Option Nat)}{G:List Nat}{hs:List Int}(O:Own mask owner G hs) (hm:lR mask) (hl:hs.length<=mask) (h:Int):
  ∃j,layClean.free mask owner (turns mask) (bits h % (mask + 1)) (bits h)=some j/\Own mask (owner.setIfInBounds j (some hs.length)) (G++[j]) (hs++[h]):=by
 obtain ⟨n',e,b,f,r⟩:=Ic hm h owner G (by rw [O.ln];exact hl) O.occ
 refine ⟨_,e,⟨by rw [Array.size_setIfInBounds,O.sz],by simp [O.ln],?_,λj hj=>?_,λj hj=>?_,λk h1 h2=>?_⟩⟩
 ·rw [Vl]
  refine ⟨O.nd,by simp,λa ha b hb=>?_⟩
  rw [Q6] at hb
  subst hb
  intro z;subst z;exact f ha
 ·rcases Rt.mp hj with h1 | h1
  ·exact O.bd j h1
  ·rw [Q6.mp h1];exact b
 ·have hsz:j < owner.size:=by rw [O.sz];omega
  by_cases c:j=pos mask h n'
  ·subst c
   rw [if_pos (by simp)]
   simp [SD,hsz]
   rw [YN,if_neg f]
   simp [O.ln]
  ·have e1:(owner.setIfInBounds (pos mask h n') (some hs.length)).getD j none=owner.getD j none:=by
    simp [SD,hsz]
    rw [Array.getElem_setIfInBounds_ne]
    exact λz=>c z.symm
   rw [e1,O.at_ j hj]
   by_cases d:j∈G
   ·rw [if_pos d,if_pos (SX _ d),YN,if_pos d]
   ·rw [if_neg d,if_neg (by simp [d,c])]
 ·have sub:∀x∈G,x∈G++[pos mask h n']:=λx hx=>SX _ hx
  by_cases c:k < G.length
  ·have:=(O.pr k c (by rw [<-O.ln];exact c)).mono sub
   rw [Wo c,Wo (by rw [<-O.ln];exact c)]
   exact this
  ·have hk:k=G.length:=by simp at h1;omega
   subst hk
   have e1:(G++[pos mask h n'])[G.length]=pos mask h n':=by simp
   have e2:(hs++[h])[G.length]=h:=by simp [O.ln]
   rw [e1,e2]
   exact ⟨n',rfl,λm hm=>sub _ (r m hm)⟩
theorem yF {mask:Nat}(hm:lR mask):∀(rest hs:List Int) (owner:Array (Option Nat)) (G:List Nat),Own mask owner G hs->(hs++rest).length<=mask->∃owner' G',rest.foldl (λacc h=>do
  let (owner,k) <-acc
  let j <-layClean.free mask owner (turns mask) (bits h % (mask + 1)) (bits h)
  pure (owner.setIfInBounds j (some k),k + 1)) (some (owner,hs.length))=some (owner',(hs++rest).length)/\Own mask owner' G' (hs++rest)
 | [],hs,owner,G,O,_=>⟨owner,G,by simp,by simpa using O⟩
 | h::rest,hs,owner,G,O,hl=>by
  obtain ⟨j,e,O'⟩:=O.step hm (by simp at hl;omega) h
  obtain ⟨owner',G',e2,O2⟩:=yF hm rest (hs++[h]) _ _ O' (by simpa using hl)
  refine ⟨owner',G',?_,by simpa using O2⟩
  rw [VT]
  have e3:(do
   let (owner,k) <-some (owner,hs.length)
   let j <-layClean.free mask owner (turns mask) (bits h % (mask + 1)) (bits h)
   pure (owner.setIfInBounds j (some k),k + 1):Option (Array (Option Nat)×Nat))=some (owner.setIfInBounds j (some hs.length),(hs++[h]).length):=by
   show Option.bind (layClean.free mask owner (turns mask) (bits h % (mask + 1)) (bits h)) _=_
   rw [e]
   simp
  rw [e3]
  simpa using e2
theorem IJ (mask:Nat):Own mask (Array.replicate (mask + 1) none) [] []:=
 ⟨by simp,rfl,Tv,λj h=>absurd h (by simp),λj hj=>by simp [SD],λk h1=>absurd h1 (by simp)⟩
theorem DR {mask:Nat}(hm:lR mask) (hs:Array Int) (hl:hs.size<=mask):∃owner G,layClean mask hs=some owner/\Own mask owner G hs.toList:=by
 obtain ⟨owner,G,e,O⟩:=yF hm hs.toList [] _ [] (IJ mask) (by simpa using hl)
 refine ⟨owner,G,?_,by simpa using O⟩
 unfold layClean
 rw [<-Array.foldl_toList]
 have e':=congrArg (Option.map (·.1)) e
 exact e'
theorem Iu {t:RM}{es:Array (Int×Qy)}{mask:Nat}(hm:lR mask) (finger moves:Nat) (led plain:Bool) (hl:es.size<=mask):
  ∃t' order L',laid mask finger moves led plain (es.map (·.1))=some (t',order)/\t'.mask=mask/\t'.led=led/\t'.plain=plain/\Tab t' (order.filterMap (es[·]?)) L'/\(order.filterMap (es[·]?)).toList.Perm es.toList:=by
 obtain ⟨owner,G,e,O⟩:=DR hm (es.map (·.1)) (by simpa using hl)
 have hlen:G.length=es.size:=by rw [O.ln];simp
 (let live:=(QG (mask + 1)).filterMap λj=>(owner.getD j none).map (j,·))
 have lv:∀p,p∈live↔p.1∈G/\p.2=G.idxOf p.1:=λp=>by
  show p∈(QG (mask + 1)).filterMap _↔_
  rw [UW]
  constructor
  ·rintro ⟨j,hj,q⟩
   have hj':j<=mask:=by have:=Ra.mp hj;omega
   rw [O.at_ j hj'] at q
   by_cases c:j∈G
   ·rw [if_pos c] at q
    have q:(j,G.idxOf j)=p:=by simpa using q
    subst q
    exact ⟨c,rfl⟩
   ·rw [if_neg c] at q;exact absurd q (by simp)
  ·rintro ⟨h1,h2⟩
   refine ⟨p.1,Ra.mpr (by have:=O.bd _ h1;omega),?_⟩
   rw [O.at_ _ (O.bd _ h1),if_pos h1]
   show some (p.1,G.idxOf p.1)=some p
   rw [<-h2]
 have so1:live.Pairwise λa b=>a.1 < b.1:=by
  show ((QG (mask + 1)).filterMap _).Pairwise _
  rw [WH]
  refine Ue.imp ?_
  intro a b hab x hx y hy
  cases q1:owner.getD a none with
  | none=>rw [q1] at hx;exact absurd hx (by simp)
  | some k1=>cases q2:owner.getD b none with
   | none=>rw [q2] at hy;exact absurd hy (by simp)
   | some k2=>
    rw [q1] at hx;rw [q2] at hy
    have hx:(a,k1)=x:=by simpa using hx
    have hy:(b,k2)=y:=by simpa using hy
    subst hx;subst hy;exact hab
 have ord:(live.map (·.2)).Perm (QG es.size):=by
  rw [V4 _ SV]
  ·intro k
   rw [QE,Ra]
   constructor
   ·rintro ⟨p,hp,rfl⟩
    obtain ⟨h1,h2⟩:=(lv p).mp hp
    rw [h2,<-hlen]
    exact RP h1
   ·intro hk
    rw [<-hlen] at hk
    exact ⟨(G[k],k),(lv _).mpr ⟨Sg _,(O.nd.idxOf_getElem k hk).symm⟩,rfl⟩
  ·show (live.map (·.2)).Pairwise _
   rw [RC]
   refine (Tp.mp so1).imp ?_
   rintro a b ⟨ha,hb,hab⟩ z
   obtain ⟨a1,a2⟩:=(lv a).mp ha
   obtain ⟨b1,b2⟩:=(lv b).mp hb
   rw [a2,b2] at z
   have ga:=Uh (RP a1)
   have gb:=Uh (RP b1)
   have:a.1=b.1:=by
    rw [<-ga,<-gb]
    congr 1
   omega
 have inR:∀p∈live,∃h:p.2 < es.size,True:=λp hp=>by
  have:p.2∈live.map (·.2):=QE.mpr ⟨p,hp,rfl⟩
  exact ⟨Ra.mp (ord.mem_iff.mp this),trivial⟩
 let L':=live.map λp=>(p.1,es.getD p.2 default)
 have eL:(live.map (·.2)).toArray.filterMap (es[·]?)=(L'.map (·.2)).toArray:=by
  rw [List.filterMap_toArray]
  congr 1
  show ZW _ (live.map _)=(live.map _).map _
  rw [Yb,Rk]
  have:∀(l:List (Nat×Nat)),(∀p∈l,p∈live)->ZW ((λx=>es[x]?) ∘ λx=>x.snd) l=abj ((λx=>x.snd) ∘ λp=>(p.fst,es.getD p.snd default)) l:=by
   intro l
   induction l with
   | nil=>intro _;rfl
   | cons p l ih=>
    intro hl
    obtain ⟨hp,_⟩:=inR p (hl p (by simp))
    rw [List.filterMap_cons_some (b:=es.getD p.2 default)]
    ·rw [Q5,ih λq hq=>hl q (by simp [hq])]
     rfl
    ·show es[p.2]?=_
     simp [SD,hp]
  exact this live λp hp=>hp
 have eP:L'.map (·.1)=live.map (·.1):=by
  show (live.map _).map _=_
  rw [Rk];rfl
 have memP:∀j,j∈live.map (·.1)↔j∈G:=λj=>by
  rw [QE]
  constructor
  ·rintro ⟨p,hp,rfl⟩;exact ((lv p).mp hp).1
  ·intro h;exact ⟨(j,G.idxOf j),(lv _).mpr ⟨h,rfl⟩,rfl⟩
 have lenL:L'.length=es.size:=by
  have:=ord.length_eq
  rw [QA,Sk] at this
  show (live.map _).length=_
  rw [QA,this]
 refine ⟨{mask,place:=(live.map (·.1)).toArray,dummies:=#[],finger,led,moves,plain},(live.map (·.2)).toArray,L',?_,rfl,rfl,rfl,⟨rfl,?_,?_,?_,λx hx=>?_,hm,?_,λx hx=>?_⟩,?_⟩
 ·unfold laid
  rw [e]
  rfl
 ·show (live.map (·.1)).toArray.toList=_
  rw [eP]
 ·rw [eL]
 ·rw [eP,RC];exact so1
 ·obtain ⟨p,hp,rfl⟩:=QE.mp hx
  exact O.bd _ ((lv p).mp hp).1
 ·show L'.length<=mask
  rw [lenL];exact hl
 ·obtain ⟨p,hp,rfl⟩:=QE.mp hx
  obtain ⟨h1,h2⟩:=(lv p).mp hp
  obtain ⟨hs,_⟩:=inR p hp
  have r:=O.pr p.2 (by omega) (by simpa using hs)
  have e1:G[p.2]'(by omega)=p.1:=by
   have:=Uh (RP h1)
   rw [<-this]
   congr 1
  have e2:((es.map (·.1)).toList[p.2]'(by simpa using hs))=(es.getD p.2 default).1:=by
   simp [SD,hs]
  rw [e1,e2] at r
  show Reach mask (L'.map (·.1)) (es.getD p.2 default).1 p.1
  refine r.mono λy hy=>?_
  rw [eP]
  exact (memP y).mpr hy
 ·rw [eL]
  show (L'.map (·.2)).Perm es.toList
  have e1:(live.map (·.2)).map (λk=>es.getD k default)=L'.map (·.2):=by
   show _=(live.map _).map _
   rw [Rk,Rk];rfl
  rw [<-e1]
  refine (ord.map _).trans ?_
  have:(QG es.size).map (λk=>es.getD k default)=es.toList:=by
   refine UL (by simp) λi h1 h2=>?_
   simp at h1
   simp [SD,h1]
  rw [this]
theorem vM {t:RM}{es:Array (Int×Qy)}{w:Nat}(hm:lR (sizeAbove w - 1)) (hl:es.size<=sizeAbove w - 1):
  ∃t' order L',t.relaid (es.map (·.1)) w=some (t',order)/\t'.mask=sizeAbove w - 1/\t'.led=t.led/\t'.plain=t.plain/\Tab t' (order.filterMap (es[·]?)) L'/\(order.filterMap (es[·]?)).toList.Perm es.toList:=
 Iu (t:=t) hm t.finger (t.movedTo (sizeAbove w - 1)) t.led t.plain hl
end ST
namespace DL
open PySem PySem.Spec PyProof.Rows L2
mutual
def kq:D->Nat
 | .int _=>1
 | .tup xs=>fD xs + 1
 | _=>0
def fD:List D->Nat
 | []=>0
 | x::xs=>kq x + fD xs
end
theorem qN:∀{ds:List D},areKeys ds=true->∀d∈ds,isKey d=true
 | [],_,_,h=>nomatch h
 | x::xs,h,d,hm=>by
  unfold areKeys at h
  rw [QK] at h
  (rcases Q3.mp hm with rfl | hm)
  ·exact h.1
  ·exact qN h.2 d hm
mutual
theorem yC:∀{d e:D},isKey d=true->isKey e=true->bw d e=true->d=e
 | .int i,.int j,_,_,h=>by simp [bw] at h;rw [h]
 | .tup xs,.tup ys,hd,he,h=>by
  unfold isKey at hd he
  simp only [bw] at h
  rw [keys_eq hd he h]
 | .int _,.tup _,_,_,h=>by simp [bw] at h
 | .tup _,.int _,_,_,h=>by simp [bw] at h
theorem keys_eq:∀{ds es:List D},areKeys ds=true->areKeys es=true->cj ds es=true->ds=es
 | [],[],_,_,_=>rfl
 | x::xs,y::ys,hd,he,h=>by
  unfold areKeys at hd he
  rw [QK] at hd he
  simp only [cj,QK] at h
  rw [yC hd.1 he.1 h.1,keys_eq hd.2 he.2 h.2]
 | [],_::_,_,_,h=>by simp [cj] at h
 | _::_,[],_,_,h=>by simp [cj] at h
end
theorem uL {d e:D}(hd:isKey d=true) (he:isKey e=true):bw d e=true↔d=e:=⟨yC hd he,λh=>by rw [h];exact gg _⟩
theorem HF.keep {K:Qx}{J:Hp}{s s':QC}(F:HF K J s) (k:∀b o,s.heap.get? b=some o->s'.heap.get? b=some o):HF K J s':=
 ⟨λa xs h=>let ⟨its,r,o,ho,p⟩:=F.t a xs h;⟨its,r,o,k _ _ ho,p⟩,λa xs h=>let ⟨its,r,o,ho,p⟩:=F.l a xs h;⟨its,r,o,k _ _ ho,p⟩,λa h=>let ⟨o,ho,p⟩:=F.e a h;⟨o,k _ _ ho,p⟩,λa ep kvs h=>let ⟨o,es,ho,p⟩:=F.d a ep kvs h;⟨o,es,k _ _ ho,p⟩⟩
section
variable {prog:Q8}{w:Ru}{E:Qy->QC->Prop}{K:Qx}{J:Hp}
def CJ (prog:Q8) (w:Ru) (A:Rx) (K:Qx) (J:Hp) (d:D) (u:Qy):Prop:=
 ∀(E:Qy->QC->Prop) (s:QC) (Q:Int->QC->Prop),HF K J s->Q (bS d) {s with toks:=s.toks + kq d}->Q7 (Rb prog w) A (pyHash u) Q E s
inductive kE (prog:Q8) (w:Ru) (A:Rx) (K:Qx) (J:Hp):List D->List Qy->Prop
 | nil:kE prog w A K J [] []
 | cons {d:D}{u:Qy}{ds:List D}{us:List Qy}:CJ prog w A K J d u->kE prog w A K J ds us->kE prog w A K J (d::ds) (u::us)
theorem sZ:∀(a b:List D),cB (a++b)=cB a++cB b
 | [],b=>rfl
 | x::a,b=>by show bS x::cB (a++b)=_;rw [sZ a b];rfl
theorem sH:∀(a b:List D),fD (a++b)=fD a + fD b
 | [],b=>by show fD b=0 + _;omega
 | x::a,b=>by show kq x + fD (a++b)=kq x + fD a + fD b;rw [sH a b];omega
theorem Fd {A:Rx}{s:QC}{a:QW}{o:Obj}{its:List Qy}{n:Nat}{ds:List D}{Q:Int->QC->Prop}(N:HF K J s) (ho:s.heap.get? a=some o) (hc:o.cls=.type "tuple") (hd:o.data=.seq its.toArray n) (hu:A.units < Sy)
  (hl:kE prog w A.in1 K J ds its) (h:Q (aaa (RY (cB ds))) {s with toks:=s.toks + (fD ds + 1)}):Q7 (Rb prog w) A (pyHash (.ref a)) Q E s:=by
 have hT:s.TypeIs (.ref a) "tuple":=⟨o,ho,hc⟩
 unfold pyHash
 (first | unfold pyHashByItsType | skip)
 (first | refine Qw (wpAny_cRoomFor_or (.inr hu) ?_) | skip)
 (refine Qw (U7 hT Uv.lookup ?_))
 (show Q7 _ _ (if (some (WB "tuple.__hash__") == some RB)=true then _ else _) Q E s)
 (rw [if_neg (by rw [beq_builtin_none];exact Rq)])
 (refine Qw (U7 hT Uv.lookup ?_))
 (show Q7 _ _ (callSpecialIfBoundUnlessNone? (.ref a) "__hash__" _ >>= _) Q E s)
 (refine Qw (wpAny_callSpecialIfBoundUnlessNone?_slot hT Uv (RD Uv hT F.entry_tuple_hash ?_ (F.args_tuple_hash_1 _))))
 (show Q7 _ _ (Uz (.ref a) >>= _) _ _ s)
 (refine Qw (wpAny_tupleItemsOf ho hd ?_))
 refine Qw ?_
 rw [<-U8]
 refine Th _
  (λrest (b:Array Int) s'=>∃done left,ds=done++left/\kE prog w A.in1 K J left rest/\b.toList=cB done/\s'={s with toks:=s.toks + fD done})
  _ ?_ ?_ _ _ ⟨[],ds,rfl,hl,rfl,rfl⟩
 ·(rintro x rest b s' ⟨done,left,rfl,hl,hb,rfl⟩)
  cases hl with
  | @cons k _ ks' _ h1 hl'=>
   refine Qw (h1 _ _ _ ⟨N.t,N.l,N.e,N.d⟩ ?_)
   have e1:(b.push (bS k)).toList=cB (done++[k]):=by rw [YO,sZ,hb];rfl
   have e2:s.toks + fD done + kq k=s.toks + fD (done++[k]):=by rw [sH];show _=s.toks + (fD done + (kq k + 0));omega
   first
    | exact Qz ⟨done++[k],ks',by simp,hl',e1,by rw [e2]⟩
    | exact Qw (Qz (Qz ⟨done++[k],ks',by simp,hl',e1,by rw [e2]⟩))
 ·(rintro b s' ⟨done,left,rfl,hl,hb,rfl⟩)
  cases hl
  rw [S_] at h
  (show Q7 _ _ (retInt (RY b.toList)) _ _ _)
  rw [hb]
  refine wpAny_ret_mkInt ?_
  show Q7 _ _ (if (decide (-(2:Int) ^ 63<=RY (cB done)) && decide (RY (cB done) < 2 ^ 63))=true then _ else _) Q E _
  unfold aaa at h
  by_cases hr:(decide (-(2:Int) ^ 63<=RY (cB done)) && decide (RY (cB done) < 2 ^ 63))=true
  ·rw [if_pos hr]
   rw [if_pos hr] at h
   (exact Qz (by simpa [aax] using h))
  ·rw [if_neg hr]
   rw [if_neg hr] at h
   (exact Qw (Wk (Qz (by simpa [aax] using h))))
mutual
theorem uW:∀(d:D) (v:V) (u:Qy) (A:Rx) (s:QC),HF K J s->isKey d=true->Rep K J d v->RelV v u->A.units + dep d < Sy->CJ prog w A K J d u
 | .int i,v,u,A,s,N,hk,hr,rv,hu=>λE s' Q N' h=>by
  cases hr
  obtain ⟨t,rfl⟩:=rv
  exact WK h
 | .tup ds,v,u,A,s,N,hk,hr,rv,hu=>λE s' Q N' h=>by
  cases hr with
  | tup h1 hs=>
   cases rv
   obtain ⟨its,r,o,ho,hc,n,hd⟩:=N'.t _ _ h1
   exact Fd N' ho hc hd (by unfold dep at hu;omega) (zy ds _ _ A.in1 s N hk hs r (by rw [in1_units];unfold dep at hu;omega)) h
 | .non,v,u,A,s,N,hk,hr,rv,hu=>nomatch hk
 | .bl _,v,u,A,s,N,hk,hr,rv,hu=>nomatch hk
 | .str _,v,u,A,s,N,hk,hr,rv,hu=>nomatch hk
 | .lst _,v,u,A,s,N,hk,hr,rv,hu=>nomatch hk
 | .emp,v,u,A,s,N,hk,hr,rv,hu=>nomatch hk
 | .exn _ _ _,v,u,A,s,N,hk,hr,rv,hu=>nomatch hk
 | .dct _ _,v,u,A,s,N,hk,hr,rv,hu=>nomatch hk
theorem zy:∀(ds:List D) (vs:List V) (us:List Qy) (A:Rx) (s:QC),HF K J s->areKeys ds=true->aI K J ds vs->Vals vs us->A.units + deps ds < Sy->kE prog w A K J ds us
 | [],vs,us,A,s,N,hk,hr,rv,hu=>by
  cases hr;cases rv;exact .nil
 | d::ds,vs,us,A,s,N,hk,hr,rv,hu=>by
  unfold areKeys at hk
  rw [QK] at hk
  unfold deps at hu
  cases hr with
  | cons a b=>
   cases rv with
   | cons c e=>exact .cons (uW d _ _ A s N hk.1 a c (by omega)) (zy ds _ _ A s N hk.2 b e (by omega))
end
end
def iH (K:Qx) (J:Hp) (n:Nat) (u:Qy):Prop:=∃d v,isKey d=true/\dep d<=n/\Rep K J d v/\RelV v u
section
variable {prog:Q8}{w:Ru}{E:Qy->QC->Prop}{K:Qx}{J:Hp}{A:Rx}{s:QC}
theorem yz {n:Nat}:∀{ds:List D}{vs:List V}{us:List Qy},areKeys ds=true->deps ds<=n->aI K J ds vs->Vals vs us->∀u∈us,iH K J n u
 | _,_,_,_,_,.nil,.nil=>λu h=>nomatch h
 | d::ds,_,_,hk,hn,.cons a b,.cons c e=>λu h=>by
  unfold areKeys at hk
  rw [QK] at hk
  unfold deps at hn
  (rcases Q3.mp h with rfl | h)
  ·exact ⟨d,_,hk.1,by omega,a,c⟩
  ·exact yz hk.2 (by omega) b e u h
theorem iH.cases' {n:Nat}{u:Qy}(N:HF K J s) (h:iH K J n u):(∃i t,u=.int i t)\/∃a o its m k,u=.ref a/\s.heap.get? a=some o/\o.cls=.type "tuple"/\o.data=.seq its m/\n=k + 1/\∀y∈its.toList,iH K J k y:=by
 obtain ⟨d,v,hk,hn,hr,rv⟩:=h
 cases d with
 | int i=>
  cases hr
  obtain ⟨t,rfl⟩:=rv
  exact .inl ⟨_,_,rfl⟩
 | tup ds=>
  cases hr with
  | tup h1 hs=>
   cases rv
   obtain ⟨its,r,o,ho,hc,m,hd⟩:=N.t _ _ h1
   unfold dep at hn
   obtain ⟨k,rfl⟩:∃k,n=k + 1:=⟨n - 1,by omega⟩
   exact .inr ⟨_,o,_,m,k,rfl,ho,hc,hd,rfl,yz hk (by omega) hs r⟩
 | _=>cases hk
theorem nu:∀(n:Nat){u:Qy}{Q:Bool->QC->Prop},HF K J s->iH K J n u->Q true s->Q7 (Rb prog w) A (eqIsQuiet n u) Q E s
 | n,u,Q,N,hk,h=>by
  rcases hk.cases' N with ⟨i,t,rfl⟩ | ⟨a,o,its,m,k,rfl,ho,hc,hd,rfl,hi⟩
  ·rw [eqIsQuiet_byValue _ rfl]
   exact Qz h
  ·have hT:s.TypeIs (.ref a) "tuple":=⟨o,ho,hc⟩
   unfold eqIsQuiet
   (refine Qw (U7 hT F.slot_tuple_eq.lookup ?_))
   (show Q7 _ _ (Z_ (.ref a) (.type "tuple") >>= _) _ _ s)
   (refine Qw (VA hT isSubtype_tuple_tuple ?_))
   (simp only [S4,QZ,if_false])
   (refine Qw (XI ho hd ?_))
   refine Qw ?_
   show Q7 _ _ (forIn its _ _) _ _ s
   rw [<-U8]
   refine Th _ (λrest r s'=>r.1=none/\s=s'/\∀v∈rest,iH K J k v) _ ?_ ?_ _ _ ⟨rfl,rfl,hi⟩
   ·(rintro v rest r s' ⟨hr,rfl,hall⟩)
    refine Qw (nu k N (hall v QH) ?_)
    (simp only [S4,QZ,if_false])
    (exact Qz ⟨rfl,rfl,λu hu'=>hall u (QF _ hu')⟩)
   ·(rintro ⟨r1,r2⟩ s' ⟨hr,rfl,_⟩)
    simp only at hr
    subst hr
    exact Qz h
theorem Ef:∀(n:Nat){u:Qy}{Q:Bool->QC->Prop},HF K J s->iH K J n u->Q true s->Q7 (Rb prog w) A (hashByValue n u) Q E s
 | n,u,Q,N,hk,h=>by
  rcases hk.cases' N with ⟨i,t,rfl⟩ | ⟨a,o,its,m,k,rfl,ho,hc,hd,rfl,hi⟩
  ·cases n <;> exact Qz h
  ·have hT:s.TypeIs (.ref a) "tuple":=⟨o,ho,hc⟩
   unfold hashByValue
   (refine Qw (U7 hT Uv.lookup ?_))
   show Q7 _ _ (seqItems? (.ref a) >>= _) _ _ s
   (refine Qw (XI ho hd ?_))
   refine Qw ?_
   show Q7 _ _ (forIn its _ _) _ _ s
   rw [<-U8]
   refine Th _ (λrest r s'=>r.1=none/\s=s'/\∀v∈rest,iH K J k v) _ ?_ ?_ _ _ ⟨rfl,rfl,hi⟩
   ·(rintro v rest r s' ⟨hr,rfl,hall⟩)
    refine Qw (Ef k N (hall v QH) ?_)
    (simp only [S4,QZ,if_false])
    (exact Qz ⟨rfl,rfl,λu hu'=>hall u (QF _ hu')⟩)
   ·(rintro ⟨r1,r2⟩ s' ⟨hr,rfl,_⟩)
    simp only at hr
    subst hr
    exact Qz h
theorem nq:∀(n:Nat){u:Qy}{Q:Bool->QC->Prop},HF K J s->iH K J n u->Q false s->Q7 (Rb prog w) A (YQ n u) Q E s
 | n,u,Q,N,hk,h=>by
  rcases hk.cases' N with ⟨i,t,rfl⟩ | ⟨a,o,its,m,k,rfl,ho,hc,hd,rfl,hi⟩
  ·cases n <;> exact Qz h
  ·have hT:s.TypeIs (.ref a) "tuple":=⟨o,ho,hc⟩
   unfold YQ
   (refine Qw (Vs hT ?_))
   dsimp only
   (refine Qw (Qz ?_))
   (simp only [S4,QZ,if_false])
   (refine Qw (XI ho hd ?_))
   dsimp only
   refine Qw ?_
   show Q7 _ _ (forIn its _ _) _ _ s
   rw [<-U8]
   refine Th _ (λrest r s'=>r.1=none/\s=s'/\∀v∈rest,iH K J k v) _ ?_ ?_ _ _ ⟨rfl,rfl,hi⟩
   ·(rintro v rest r s' ⟨hr,rfl,hall⟩)
    refine Qw (nq k N (hall v QH) ?_)
    (simp only [QZ,if_false])
    (exact Qz ⟨rfl,rfl,λu hu'=>hall u (QF _ hu')⟩)
   ·(rintro ⟨r1,r2⟩ s' ⟨hr,rfl,_⟩)
    simp only at hr
    subst hr
    exact Qz h
theorem Ma {x:Qy}{ys:List Qy}{Q:Bool->QC->Prop}(N:HF K J s) (hx:iH K J 8 x) (hy:∀y∈ys,iH K J 8 y) (h:Q false s):Q7 (Rb prog w) A (Wq x ys) Q E s:=by
 unfold Wq
 refine Qw ?_
 refine Th _ (λrest r s'=>r.1=none/\s=s'/\∀v∈rest,iH K J 8 v) _ ?_ ?_ _ _ ⟨rfl,rfl,hy⟩
 ·(rintro v rest r s' ⟨hr,rfl,hall⟩)
  have nx:∀u∈rest,iH K J 8 u:=λu hu'=>hall u (QF _ hu')
  dsimp only
  have hv:=hall v QH
  split
  ·split
   ·exact Qz ⟨rfl,rfl,nx⟩
   ·refine Qw (nu 8 N hx ?_)
    (simp only [S4,QZ,if_false])
    refine Qw (nu 8 N hv ?_)
    (simp only [S4,QZ,if_false])
    refine Qw (nq 8 N hx ?_)
    (simp only [QZ,if_false])
    refine Qw (nq 8 N hv ?_)
    (simp only [QZ,if_false])
    exact Qz ⟨rfl,rfl,nx⟩
  ·split
   ·exact Qz ⟨rfl,rfl,nx⟩
   ·refine Qw (nu 8 N hx ?_)
    (simp only [S4,QZ,if_false])
    refine Qw (nu 8 N hv ?_)
    (simp only [S4,QZ,if_false])
    refine Qw (nq 8 N hx ?_)
    (simp only [QZ,if_false])
    refine Qw (nq 8 N hv ?_)
    (simp only [QZ,if_false])
    exact Qz ⟨rfl,rfl,nx⟩
 ·(rintro ⟨r1,r2⟩ s' ⟨hr,rfl,_⟩)
  simp only at hr
  subst hr
  exact Qz h
end
end DL
namespace DL
open PySem PySem.Spec PyProof.Rows L2 ST
def KV (K:Qx) (J:Hp) (u:Qy) (d:D):Prop:=(∃a,u=.ref a)/\isKey d=true/\dep d<=8/\∃v,Rep K J d v/\RelV v u
theorem KV.key {K:Qx}{J:Hp}{u:Qy}{d:D}(h:KV K J u d):iH K J 8 u:=let ⟨_,a,b,v,c,e⟩:=h;⟨d,v,a,b,c,e⟩
inductive fL (K:Qx) (J:Hp):List (Int×Qy)->List D->Prop
 | nil:fL K J [] []
 | cons {h:Int}{x:Qy}{d:D}{es:List (Int×Qy)}{ks:List D}:h=bS d->KV K J x d->fL K J es ks->fL K J ((h,x)::es) (d::ks)
section
variable {K:Qx}{J:Hp}
theorem fL.length {es:List (Int×Qy)}{ks:List D}(h:fL K J es ks):es.length=ks.length:=by
 induction h with
 | nil=>rfl
 | cons _ _ _ ih=>simp [ih]
theorem fL.at_ {es:List (Int×Qy)}{ks:List D}(h:fL K J es ks):∀{i:Nat}{e:Int×Qy},es[i]?=some e->∃d,ks[i]?=some d/\KV K J e.2 d/\e.1=bS d:=by
 induction h with
 | nil=>intro i e q;simp at q
 | @cons hh x d es ks h1 h2 _ ih=>
  intro i e q
  cases i with
  | zero=>simp at q;subst q;exact ⟨d,rfl,h2,h1⟩
  | succ i=>simp at q;obtain ⟨d',a,b⟩:=ih q;exact ⟨d',by simpa using a,b⟩
theorem fL.mem {es:List (Int×Qy)}{ks:List D}(h:fL K J es ks):∀e∈es,∃d∈ks,KV K J e.2 d/\e.1=bS d:=λe he=>by
 obtain ⟨i,hi⟩:=Xe.mp he
 obtain ⟨d,h1,h2⟩:=h.at_ hi
 exact ⟨d,R9 h1,h2⟩
theorem fL.back {es:List (Int×Qy)}{ks:List D}(h:fL K J es ks){i:Nat}{d:D}(q:ks[i]?=some d):∃e,es[i]?=some e/\KV K J e.2 d/\e.1=bS d:=by
 have hi:i < es.length:=by rw [h.length];exact (Rj.mp q).1
 obtain ⟨d',h1,h2⟩:=h.at_ (QS hi)
 rw [q] at h1;cases h1
 exact ⟨_,QS hi,h2⟩
theorem fL.perm {es es':List (Int×Qy)}(p:es.Perm es'):∀{ks:List D},fL K J es ks->∃ks',ks.Perm ks'/\fL K J es' ks':=by
 induction p with
 | nil=>intro ks h;exact ⟨ks,.refl _,h⟩
 | cons x _ ih=>
  intro ks h
  cases h with
  | cons h1 h2 h3=>obtain ⟨ks',a,b⟩:=ih h3;exact ⟨_,a.cons _,.cons h1 h2 b⟩
 | swap x y l=>
  intro ks h
  cases h with
  | cons h1 h2 h3=>cases h3 with
   | cons h4 h5 h6=>exact ⟨_,.swap _ _ _,.cons h4 h5 (.cons h1 h2 h6)⟩
 | trans _ _ ih1 ih2=>
  intro ks h
  obtain ⟨k1,a,b⟩:=ih1 h
  obtain ⟨k2,c,d⟩:=ih2 b
  exact ⟨k2,a.trans c,d⟩
end
theorem cM {t:RM}{es:Array (Int×Qy)}{L:List (Nat×Int×Qy)}(T:Tab t es L):t.fits es.size=true:=by
 have h1:t.place.size=L.length:=by rw [<-QN,T.pl,QA]
 have h2:es.size=L.length:=by rw [<-QN,T.en,QA]
 have h3:t.fill=L.length:=by unfold Yp;rw [T.dm,h1];rfl
 unfold SetTable.fits
 rw [h1,h2,h3]
 simp [T.fl]
theorem Jz {t:RM}{es:Array (Int×Qy)}{L:List (Nat×Int×Qy)}(T:Tab t es L):t.gaveWay=false:=by
 unfold SetTable.gaveWay
 rcases T.mo with h | h | h <;> rw [h] <;> rfl
section
variable {prog:Q8}{w:Ru}{E:Qy->QC->Prop}{K:Qx}{J:Hp}{A:Rx}{s:QC}
theorem search {a:QW}{o:Obj}{es:Array (Int×Qy)}{ep:Nat}{t:RM}{L:List (Nat×Int×Qy)}{ks:List D}{x:Qy}{d:D}{Q:SetFound->QC->Prop}(N:HF K J s) (ho:s.heap.get? a=some o) (hd:o.data=.set es ep t) (T:Tab t es L) (en:fL K J es.toList ks)
  (hx:KV K J x d) (hu:A.units + 8 < Sy) (n0:Nat) (hf:pos t.mask (bS d) n0∉L.map (·.1)) (hb:∀m,m < n0->pos t.mask (bS d) m∈L.map (·.1)) (hn0:n0<=10 * (t.mask + 12))
  (q1:d∈ks->Q (.there none) s) (q2:d∉ks->Q (.free (pos t.mask (bS d) n0) false) s):
  ∀(fuel n:Nat) (stand:Option SetTable.Probe),n<=n0->n0 - n < fuel->stand.getD (t.probeStart (bS d))=st t.mask (bS d) n->(∀k,k < n->∀(i:Nat) (e:Nat×Int×Qy),L[i]?=some e->e.1=pos t.mask (bS d) k->ks[i]?≠some d)->
   Q7 (Rb prog w) A (aay a x (bS d) true fuel stand) Q E s
 | 0,n,stand,h1,h2,h3,h4=>absurd h2 (RU _)
 | fuel + 1,n,stand,h1,h2,h3,h4=>by
  have esL:∀i,es[i]?=(L[i]?).map (λe:Nat×Int×Qy=>e.2):=λi=>by rw [<-R4,T.en,Q_]
  unfold aay
  refine Qw (Sl ho hd (cM T) ?_)
  dsimp only
  rw [Jz T]
  (simp only [QZ,if_false])
  rw [h3]
  obtain ⟨m,m1,m2,m3,m4⟩:=yQ T (λi=>(es[i]?.map (·.1)).getD 0) (λi e q=>by rw [q];rfl) (bS d) n0 hf hb (n0 - n) n (10 * ZX t.mask) rfl h1 (by unfold ZX;omega)
  generalize hP:SetTable.probe t _ (bS d) (st t.mask (bS d) n)=r
  rcases m4 with ⟨rfl,m4⟩ | ⟨m5,i,e,m6,m7,m8,m4⟩
  ·have:r=_:=hP.symm.trans m4
   subst this
   dsimp only
   refine Qz (q2 λhm=>?_)
   obtain ⟨i,hi⟩:=Xe.mp hm
   obtain ⟨e,e1,e2,e3⟩:=en.back hi
   rw [R4,esL] at e1
   obtain ⟨e',e4,rfl⟩:=Option.map_eq_some_iff.mp e1
   have hm':=R9 e4
   obtain ⟨k,k1,k2⟩:=T.pr _ hm'
   rw [e3] at k1 k2
   have kl:k < m:=by
    rcases Uu k m with c | c | c
    ·exact c
    ·subst c;rw [k1] at hf;exact absurd (QE.mpr ⟨_,hm',rfl⟩) hf
    ·exact absurd (k2 m c) hf
   by_cases c:k < n
   ·exact h4 k c i e' e4 k1.symm hi
   ·exact m3 k (by omega) kl e' hm' k1.symm e3
  ·have:r=_:=hP.symm.trans m4
   subst this
   dsimp only
   have hei:es[i]?=some e.2:=by rw [esL,m6];rfl
   obtain ⟨d',f1,f2,f3⟩:=en.at_ (by rw [R4];exact hei)
   obtain ⟨⟨ya,g0⟩,g1,g2',v',g3,g4⟩:=id f2
   obtain ⟨_,x1,x2,v,x3,x4⟩:=id hx
   obtain ⟨j,hh,y⟩:=e
   dsimp only at g0 g4 m7 m8 hei
   subst g0
   have cmp:=mV N A g3 x3 g4 x4 (by omega) (by omega) (by omega)
   have pass:∀(k:Sem SetFound),Q7 (Rb prog w) A k Q E s->Q7 (Rb prog w) A (if (!t.led)=true then do
     let c <-Wq x (abj (λx=>x.snd) (Array.filter (λx=>x.fst == bS d) es).toList)
     if c=true then do unsupported "set:the-search-would-show-the-table";k else k
     else k) Q E s:=λk hk=>by
    split
    ·refine Qw (Ma N hx.key (λy hy=>?_) ?_)
     ·obtain ⟨e',he',rfl⟩:=QE.mp hy
      have:e'∈es.toList:=by
       rw [Array.toList_filter] at he'
       exact (Rv.mp he').1
      obtain ⟨d2,_,h2,_⟩:=en.mem e' this
      exact h2.key
     ·(simp only [QZ,if_false])
      exact hk
    ·exact hk
   refine pass _ ?_
   rw [hei]
   dsimp only
   refine Qw (Rn (cmp _ _ _ _ ?_))
   refine Qw (Sl ho hd (cM T) ?_)
   dsimp only
   by_cases c:bw d' d=true
   ·rw [c]
    (simp only [aaq,if_true])
    refine Qz (q1 ?_)
    rw [<-yC g1 x1 c]
    exact R9 f1
   ·rw [Bool.not_eq_true] at c
    rw [c]
    have sm:t.sameMemory t.moves t.mask=some true:=by unfold SetTable.sameMemory;simp
    have sl:t.slot (pos t.mask (bS d) m)=.live i:=pV T.sop (by rw [<-m7];exact (T.at_ m6).1)
    rw [sm]
    simp only [Uc,QZ,if_false,if_true]
    rw [sl]
    dsimp only
    rw [hei]
    dsimp only
    refine Qw (wpAny_isSame_ref_self ?_)
    simp only [if_true]
    (refine Qw (Qz ?_))
    dsimp only
    refine search N ho hd T en hx hu n0 hf hb hn0 q1 q2 fuel (m + 1) _ (by omega) (by omega) rfl λk hk i2 e2 z1 z2 z3=>?_
    by_cases c1:k < n
    ·exact h4 k c1 i2 e2 z1 z2 z3
    ·by_cases c2:k < m
     ·obtain ⟨dd,w1,_,w3⟩:=en.at_ (i:=i2) (e:=e2.2) (by rw [R4,esL,z1];rfl)
      rw [z3] at w1;cases w1
      exact m3 k (by omega) c2 e2 (R9 z1) z2 w3
     ·obtain rfl:k=m:=by omega
      have hi2:i2=i:=by
       obtain ⟨p1,p2⟩:=Rj.mp z1
       obtain ⟨p3,p4⟩:=Rj.mp m6
       have sw:=Sa.mp T.so
       rcases Uu i2 i with c | c | c
       ·have:=sw i2 i (by simpa using p1) (by simpa using p3) c
        simp [p2,p4] at this
        omega
       ·exact c
       ·have:=sw i i2 (by simpa using p3) (by simpa using p1) c
        simp [p2,p4] at this
        omega
      subst hi2
      rw [f1] at z3
      cases z3
      rw [gg] at c
      exact absurd c (by decide)
end
structure je (K:Qx) (J:Hp) (h:Sh) (a:QW) (led:Bool) (ks:List D) (es:Array (Int×Qy)) (ep:Nat) (t:RM):Prop where
 at_:h.get? a=some {cls:=.type "set",dict:=none,data:=.set es ep t}
 tab:∃L,Tab t es L
 pl:t.plain=true
 ld:t.led=led
 rm:ks.length * 5 < t.mask * 3
 en:fL K J es.toList ks
 nd:ks.Nodup
theorem Dw (mask i:Nat) (h:i<=mask):i + (Zw mask i - i)<=mask:=by unfold Zw;split <;> omega
theorem Hu (mask:Nat) (h:Int):∀n,(ST.st mask h n).j + (ST.st mask h n).more<=mask
 | 0=>Dw mask _ (Vk (Wn _ (by omega)))
 | n + 1=>by
  have ih:=Hu mask h n
  show (WV _ (ST.st mask h n)).j + (WV _ (ST.st mask h n)).more<=mask
  unfold WV
  split
  ·dsimp only;omega
  ·exact Dw mask _ (Vk (Wn _ (by omega)))
theorem yP (mask:Nat) (h:Int) (n:Nat):ST.pos mask h n<=mask:=by have:=Hu mask h n;show (ST.st mask h n).j<=mask;omega
theorem Al:Sw 20=32:=by decide +kernel
theorem Am:Sw 76=128:=by decide +kernel
theorem nE {t:RM}{es:Array (Int×Qy)}{L:List (Nat×Int×Qy)}(T:Tab t es L):L.length=es.size:=by rw [<-QN,T.en,QA]
section
variable {prog:Q8}{w:Ru}{E:Qy->QC->Prop}{K:Qx}{J:Hp}{A:Rx}{s:QC}
theorem MN {a:QW}{es:Array (Int×Qy)}{ep:Nat}{t:RM}{led:Bool}{L:List (Nat×Int×Qy)}{ks:List D}{Q:Unit->QC->Prop}(ho:s.heap.get? a=some {cls:=.type "set",dict:=none,data:=.set es ep t}) (T:Tab t es L) (hp:t.plain=true) (hl:t.led=led)
  (en:fL K J es.toList ks) (nd:ks.Nodup) (W:Nat) (hW:(Sw W=32/\ks.length=5)\/(Sw W=128/\ks.length=19))
  (h:∀(h':Sh) ks' es' ep' t',RZ a s.heap h'->ks.Perm ks'->je K J h' a led ks' es' ep' t'->Q () {s with heap:=h'}):Q7 (Rb prog w) A (setRelay a W) Q E s:=by
 have hsz:es.size=ks.length:=by rw [<-QN,en.length]
 have hm:lR (Sw W - 1):=by rcases hW with ⟨h,_⟩ | ⟨h,_⟩ <;> rw [h];exact .inr (.inl rfl);exact .inr (.inr rfl)
 obtain ⟨t',order,L',e1,e2,e3,e4,e5,e6⟩:=vM (t:=t) (es:=es) hm (by rcases hW with ⟨h,_⟩ | ⟨h,_⟩ <;> rw [h] <;> omega)
 unfold setRelay
 refine Qw (Sl ho rfl (cM T) ?_)
 dsimp only
 rw [if_neg (by rw [RI];rcases hW with ⟨h,_⟩ | ⟨h,_⟩ <;> rw [h] <;> omega)]
 have sz':(order.filterMap (es[·]?)).size=es.size:=by
  rw [<-QN,e6.length_eq,QN]
 rw [e1]
 have cnd:((order.filterMap (es[·]?)).size != es.size)=false:=by rw [sz'];simp
 refine Qw (UP (a:=(order.filterMap (es[·]?),t')) ?_ ?_)
 ·show (if ((order.filterMap (es[·]?)).size != es.size)=true then _ else pure (order.filterMap (es[·]?),t'))=_
  rw [cnd]
  rfl
 ·dsimp only
  obtain ⟨ks',p1,p2⟩:=en.perm e6.symm
  refine Vm ho rfl ?_ (by rw [sz',RI];rcases hW with ⟨_,h⟩ | ⟨_,h⟩ <;> omega)
  have hg:=Sm (Wr (order.filterMap (es[·]?)) t') ho rfl
  refine h _ ks' _ _ _ (Si _ _ _) p1 ⟨hg,⟨L',e5⟩,e4.trans hp,e3.trans hl,?_,p2,p1.nodup_iff.mp nd⟩
  rw [<-p1.length_eq,e2]
  rcases hW with ⟨h,h'⟩ | ⟨h,h'⟩ <;> rw [h,h'] <;> omega
theorem HJ {a:QW}{es:Array (Int×Qy)}{ep:Nat}{t:RM}{led:Bool}{ks:List D}{x:Qy}{d:D}{Q:Bool->QC->Prop}(N:HF K J s) (S:je K J s.heap a led ks es ep t) (hx:KV K J x d) (hu:A.units + 8 < Sy) (hl:ks.length < 76)
  (q1:d∈ks->Q false s) (q2:d∉ks->∀(h':Sh) ks' es' ep' t',RZ a s.heap h'->(d::ks).Perm ks'->je K J h' a led ks' es' ep' t'->Q true {s with heap:=h'}):
  Q7 (Rb prog w) A (Xf a x (bS d)) Q E s:=by
 obtain ⟨L,T⟩:=S.tab
 have lenL:L.length=ks.length:=by rw [nE T,<-QN,S.en.length]
 obtain ⟨n0,b1,b2,b3⟩:=sN T.mo (bS d) (L.map (·.1)) (by rw [QA];exact T.fl)
 have hj:pos t.mask (bS d) n0<=t.mask:=yP _ _ _
 (unfold Xf ZY)
 refine Rn (Qw (Sl S.at_ rfl (cM T) ?_))
 dsimp only
 have ns:byScan x es=false:=by
  obtain ⟨⟨xa,rfl⟩,_⟩:=hx
  rfl
 rw [ns]
 (simp only [QZ,if_false])
 unfold setSearch
 refine Qw (search N S.at_ rfl T S.en hx hu n0 b2 b3 b1 (λhm=>?_) (λhm=>?_) 100000 0 none (Rl _) (by rcases T.mo with h | h | h <;> rw [h] at b1 <;> omega) rfl (λk hk=>absurd hk (RU _)))
 ·exact Qz (q1 hm)
 ·dsimp only
  refine Qw (Sl S.at_ rfl (cM T) ?_)
  dsimp only
  obtain ⟨L',T',pm⟩:=T.put (bS d) x n0 b2 b3 hj (by have:=S.rm;rcases T.mo with h | h | h <;> rw [h] at this <;> omega)
  have fl:(t.put (pos t.mask (bS d) n0)).1.mask=t.mask/\(t.put (pos t.mask (bS d) n0)).1.plain=t.plain/\(t.put (pos t.mask (bS d) n0)).1.led=t.led:=⟨rfl,rfl,rfl⟩
  generalize t.put (pos t.mask (bS d) n0)=tp at T' fl ⊢
  obtain ⟨t',p⟩:=tp
  dsimp only at T' fl ⊢
  obtain ⟨f1,f2,f3⟩:=fl
  have en':∃ks',(d::ks).Perm ks'/\fL K J (Sn es p (bS d,x)).toList ks':=by
   refine fL.perm (es:=(bS d,x)::es.toList) ?_ (.cons rfl hx S.en)
   rw [T'.en,T.en]
   have:=pm.map (·.2)
   exact this.symm
  obtain ⟨ks',p1,p2⟩:=en'
  have nd':ks'.Nodup:=p1.nodup_iff.mp (Ss.mpr ⟨hm,S.nd⟩)
  have lk:ks'.length=ks.length + 1:=by rw [<-p1.length_eq];rfl
  rw [f2,S.pl]
  simp only [if_true]
  refine Qw (Ef 8 N hx.key ?_)
  simp only [if_true]
  have esz:(Sn es p (bS d,x)).size=ks'.length:=by rw [<-QN,p2.length]
  refine Qw (Vm S.at_ rfl ?_ (by rw [esz,RI];omega))
  have hg:=Sm (Wr (Sn es p (bS d,x)) t') S.at_ rfl
  have hfill:t'.fill=ks'.length:=by
   unfold Yp
   rw [T'.dm,<-QN,T'.pl,QA,nE T',esz]
   rfl
  have hes:es.size=ks.length:=by rw [<-QN,S.en.length]
  split
  ·rename_i c
   simp only [Vo,Uw] at c
   unfold VB at c
   rw [hfill,f1,decide_eq_true_eq] at c
   have rm:=S.rm
   refine Qw (MN (s:={s with heap:=s.heap.update a (Wr (Sn es p (bS d,x)) t')}) hg T' (f2.trans S.pl) (f3.trans S.ld) p2 nd' _ ?_ λh' ks2 es2 ep2 t2 g1 g2' g3=>?_)
   ·rw [hes]
    unfold Vp
    rw [if_neg (by omega)]
    rcases T.mo with h | h | h
    ·rw [h] at c rm
     have:ks.length + 1=5:=by omega
     rw [this]
     exact .inl ⟨Al,by omega⟩
    ·rw [h] at c rm
     have:ks.length + 1=19:=by omega
     rw [this]
     exact .inr ⟨Am,by omega⟩
    ·rw [h] at c;omega
   ·exact Qz (q2 hm h' ks2 es2 ep2 t2 ((Si _ _ _).trans g1) (p1.trans g2') g3)
  ·rename_i c
   simp only [Vo,Uw] at c
   unfold VB at c
   rw [hfill,f1,decide_eq_true_eq] at c
   exact Qz (q2 hm _ ks' _ _ _ (Si _ _ _) p1 ⟨hg,⟨L',T'⟩,f2.trans S.pl,f3.trans S.ld,by rw [f1];omega,p2,nd'⟩)
end
theorem je.keep {K:Qx}{J:Hp}{h h':Sh}{a:QW}{led:Bool}{ks:List D}{es:Array (Int×Qy)}{ep:Nat}{t:RM}(S:je K J h a led ks es ep t) (e:∀o,h.get? a=some o->h'.get? a=some o):je K J h' a led ks es ep t:=
 ⟨e _ S.at_,S.tab,S.pl,S.ld,S.rm,S.en,S.nd⟩
section
variable {prog:Q8}{w:Ru}{A:Rx}{R:Zi->QC->Prop}{I:QW}{fp wr:List QW}{G:Array X3->Array X3->Prop}{n:Nat}{P:Nat->Qy->Prop}{St:Nat->QC->Prop}{K:Qx}{J:Hp}
theorem GJ (W:WalksS prog w A.in1 I fp wr G n P St) (S:QW) (hSf:S∉fp) (val:Nat->D) (hval:∀i v,P i v->KV K J v (val i)){s0:QC}(N0:HF K J s0) (hnew:∀b∈S::wr,s0.heap.get? b=none) (hu:A.in1.units + 8 < Sy) (hn:n<=76){led:Bool}:
  ∀(k i:Nat) (s:QC) (ks:List D) (es:Array (Int×Qy)) (ep:Nat) (t:RM),n - i=k->i<=n->St i s->(∀b o,s0.heap.get? b=some o->s.heap.get? b=some o)->je K J s.heap S led ks es ep t->(∀d,d∈ks↔d∈(QG i).map val)->
   (∀s' ks' es' ep' t',Moved (S::wr) G s s'->je K J s'.heap S led ks' es' ep' t'->(∀d,d∈ks'↔d∈(QG n).map val)->R (.ok (.ret .none)) s')->
   (Tf (Rb prog w) A (.builtin "set.update.loop" ⟨[.ref S,.ref I],[]⟩) R s):=by
 (have O6:S∉wr:=λh=>hSf (W.sub _ h))
 (have hsub:∀b∈wr,b∈S::wr:=λb hb=>QF _ hb)
 have old:∀b o,s0.heap.get? b=some o->b∉S::wr:=λb o e hm=>by rw [hnew b hm] at e;cases e
 intro k
 induction k with
 | zero=>
  intro i s ks es ep t hk hi hst hb hS hm hR
  have hin:i=n:=by omega
  subst hin
  refine SM Sd ?_
  rw [Sx Rm _]
  (show Q7 _ A.in1 (Va (.ref I) >>= _) _ _ s)
  refine Qw (W.done s _ _ hst λs' OH=>?_)
  (show Q7 _ A.in1 (ret RB) _ _ s')
  exact Qz (hR s' ks es ep t (OH.mono hsub) (hS.keep λo e=>OH.heap S o O6 e) hm)
 | succ k ih=>
  intro i s ks es ep t hk hi hst hb hS hm hR
  have hlt:i < n:=by omega
  have hlen:ks.length<=i:=by
   have:=Ri hS.nd (λd hd=>(hm d).mp hd)
   simpa using this
  refine SM Sd ?_
  rw [Sx Rm _]
  (show Q7 _ A.in1 (Va (.ref I) >>= _) _ _ s)
  refine Qw (W.item i s _ _ hlt hst λv s' hP OP OH=>?_)
  have hx:=hval i v hP
  obtain ⟨_,x1,x2,vv,x3,x4⟩:=id hx
  have hS':=hS.keep (h':=s'.heap) λo e=>OH.heap S o O6 e
  have hb':∀b o,s0.heap.get? b=some o->s'.heap.get? b=some o:=λb o e=>OH.heap b o (λhm=>old b o e (hsub b hm)) (hb b o e)
  have N':HF K J s':=N0.keep hb'
  have mem':∀(ks':List D),(∀d,d∈ks'↔d=val i\/d∈ks)->∀d,d∈ks'↔d∈(QG (i + 1)).map val:=λks' h d=>by
   rw [h d,hm d,TU,Rg,Rt]
   simp only [Q5,Uj,Q6]
   exact Or.comm
  show Q7 _ A.in1 (holding [v] (setAdd S v) >>= _) _ _ s'
  (refine Qw (Rn ?_))
  unfold setAdd
  refine Rn ?_
  refine Qw (uW (val i) vv v A.in1 s' N' x1 x3 x4 (by omega) _ _ _ N' ?_)
  refine HJ (s:={s' with toks:=s'.toks + kq (val i)}) (⟨N'.t,N'.l,N'.e,N'.d⟩:HF K J {s' with toks:=s'.toks + kq (val i)}) hS' hx hu (by omega) (λhin=>?_) (λhin h' ks' es' ep' t' O5 PN Pn=>?_)
  ·refine Qz ⟨Ux Rm _,ih (i + 1) _ ks es ep t (by omega) hlt (W.frame _ s' _ _ OP (UK _ _) λb hb o e=>e) hb' hS' (mem' ks λd=>⟨.inr,λh=>h.elim (λh=>h▸hin) id⟩) λs'' ks'' es'' ep'' t'' hm'' hS'' OR=>?_⟩
   exact hR s'' ks'' es'' ep'' t'' (XY W.gtrans ((OH.mono hsub).then_heap (UK _ _) λb o hb e=>e) hm'') hS'' OR
  ·refine Qz ⟨Ux Rm _,ih (i + 1) _ ks' es' ep' t' (by omega) hlt (W.frame _ s' _ _ OP (UK _ _) λb hb o e=>?_) (λb o e=>?_) Pn (mem' ks' λd=>?_) λs'' ks'' es'' ep'' t'' hm'' hS'' OR=>?_⟩
   ·(rw [O5.2 b (λh:b=S=>hSf (by rw [<-h];exact hb))];exact e)
   ·show h'.get? b=some o
    rw [O5.2 b (λh:b=S=>old b o e (by rw [h];exact QH))]
    exact hb' b o e
   ·rw [<-PN.mem_iff,Q3]
   ·refine hR s'' ks'' es'' ep'' t'' (XY W.gtrans ((OH.mono hsub).then_heap (UK _ _) λb o hb e=>?_) hm'') hS'' OR
    (rw [O5.2 b (λh:b=S=>hb (by rw [h];exact QH))];exact e)
end
theorem Cs {K:Qx}{J:Hp}{h:Sh}{a:QW}{led:Bool}(e:h.get? a=some {cls:=.type "set",dict:=none,data:=.set #[] 0 (.fresh 0 0 led)}):je K J h a led [] #[] 0 (.fresh 0 0 led):=
 ⟨e,⟨[],⟨rfl,rfl,rfl,TM,(λ_ h=>nomatch h),.inl rfl,Rl _,(λ_ h=>nomatch h)⟩⟩,rfl,rfl,(show 0 * 5 < 7 * 3 by decide),.nil,Tv⟩
end DL
namespace ST
open PySem PySem.SetTable
theorem xR {xs:Array Nat}{i j:Nat}(hs:xs.toList.Pairwise (· < ·)) (hi:i<=xs.size) (h1:∀k,k < i->xs.getD k 0 < j) (h2:∀k,i<=k->k < xs.size->j<=xs.getD k 0):below xs j=i:=by
 obtain ⟨b1,b2,b3⟩:=nM xs j hs
 rcases Uu (below xs j) i with c | c | c
 ·have:=h1 _ c
  have:=b3 _ (QL _) (by omega)
  omega
 ·exact c
 ·have:=b2 _ c
  have:=h2 i (QL _) (by omega)
  omega
theorem BB {xs:Array Nat}(hs:xs.toList.Pairwise (· < ·)):below xs 0=0:=xR hs (Rl _) (λk h=>absurd h (RU _)) λk _ _=>Rl _
theorem BA {xs:Array Nat}{i j:Nat}(hs:xs.toList.Pairwise (· < ·)) (h:xs[i]?=some j):below xs (j + 1)=i + 1:=by
 obtain ⟨hi,e⟩:=RQ.mp h
 have sw:=Sa.mp hs
 have gd:∀k (hk:k < xs.size),xs.getD k 0=xs[k]:=λk hk=>by simp [SD,hk]
 refine xR hs (by omega) (λk hk=>?_) (λk h1 h2=>?_)
 ·rw [gd k (by omega)]
  by_cases c:k=i
  ·subst c;omega
  ·have:=sw k i (by simp;omega) (by simpa using hi) (by omega)
   simp at this
   omega
 ·rw [gd k h2]
  have:=sw i k (by simpa using hi) (by simpa using h2) (by omega)
  simp at this
  omega
theorem vH {α:Type}(next:Nat->Nat):∀(f k:Nat) (left:List α) (out:Array α),f=left.length->(Y5 next f k left out).toList.Perm (out.toList++left)
 | 0,k,left,out,h=>by
  have:left=[]:=S7.mp h.symm
  subst this
  unfold Y5
  simp
 | f + 1,k,left,out,h=>by
  have hl:next k % left.length < left.length:=Wn _ (by omega)
  unfold Y5
  rw [QS hl]
  dsimp only
  refine (vH next f (k + 1) _ _ (by rw [Xx];simp [hl];omega)).trans ?_
  rw [YO,Uy]
  (refine aaO _ ?_)
  have e1:left.eraseIdx (next k % left.length)=left.take (next k % left.length)++left.drop (next k % left.length + 1):=TV _ _
  have e2:left=left.take (next k % left.length)++left[next k % left.length]::left.drop (next k % left.length + 1):=by
   rw [Vf,Ul]
  rw [e1,Vu]
  exact (WU.symm).trans (Zx e2.symm)
theorem B7 {α:Type}(next:Nat->Nat) (xs:Array α):(Zy next xs).toList.Perm xs.toList:=by
 have h:=vH next xs.size 0 xs.toList #[] (by simp)
 rw [show (#[]:Array α).toList++xs.toList=xs.toList from rfl] at h
 exact h
end ST
namespace DL
open PySem PySem.Spec PyProof.Rows L2 ST
structure jf (h:Sh) (a:QW) (led:Bool) (es:Array (Int×Qy)) (ep:Nat) (t:RM):Prop where
 at_:h.get? a=some {cls:=.type "set",dict:=none,data:=.set es ep t}
 tab:∃L,Tab t es L
 pl:t.plain=true
 ld:t.led=led
theorem jf.keep {h h':Sh}{a:QW}{led:Bool}{es:Array (Int×Qy)}{ep:Nat}{t:RM}(S:jf h a led es ep t) (e:∀o,h.get? a=some o->h'.get? a=some o):jf h' a led es ep t:=⟨e _ S.at_,S.tab,S.pl,S.ld⟩
theorem je.wk {K:Qx}{J:Hp}{h:Sh}{a:QW}{led:Bool}{ks:List D}{es:Array (Int×Qy)}{ep:Nat}{t:RM}(S:je K J h a led ks es ep t):jf h a led es ep t:=⟨S.at_,S.tab,S.pl,S.ld⟩
abbrev lZ (w:Ru):Bool:=!w.params.followText "set-order"
def fY (w:Ru) (a ep:Nat) (es:Array (Int×Qy)):Array (Int×Qy):=if w.params.followText "set-order"=true then Zy (w.params.setOrder a ep) es else es
theorem mL (w:Ru) (a ep:Nat) (es:Array (Int×Qy)):(fY w a ep es).toList.Perm es.toList:=by
 unfold fY
 split
 ·exact B7 _ _
 ·exact .refl _
theorem mO (w:Ru) (a ep:Nat) (es:Array (Int×Qy)):(fY w a ep es).size=es.size:=by
 rw [<-QN,(mL w a ep es).length_eq,QN]
abbrev oO (a:QW) (slot i n ep:Nat):Obj:={cls:=.type "set_iterator",data:=.fields #[.int slot 0,.int i 0,.ref a,.int n 0,.int ep 0]}
theorem sI:abk table "set.__iter__"=some UN.«frozenset.__iter__»:=
 (ZZ (id':="frozenset.__iter__") (by kernel_rfl) rfl (by decide +kernel) (by kernel_rfl))
theorem fW:Slot "set_iterator" "__next__" "set_iterator.__next__":=
 (.of (owner:="set_iterator") (n:="__next__") (by rw [Xg,Vv];kernel_rfl) (by decide +kernel) (by decide +kernel) (by decide +kernel)
  (by first | exact .inl (by decide +kernel) | exact .inr (by decide +kernel)) (by rw [Wa];kernel_rfl))
theorem oJ:abk table "set_iterator.__next__"=some UN.«set_iterator.__next__»:=(entryFor_of_tree (by kernel_rfl))
theorem oX (a:Qy):argsOk "set_iterator.__next__" ⟨[a],[]⟩:=by unfold argsOk;kernel_rfl
section
variable {prog:Q8}{w:Ru}{A:Rx}{E:Qy->QC->Prop}{s:QC}
theorem Fl {a:QW}{led:Bool}{es:Array (Int×Qy)}{ep:Nat}{t:RM}{Q:Qy->QC->Prop}(S:jf s.heap a led es ep t)
  (hQ:Q (.ref s.heap.objs.size) {s with heap:=s.heap.push (oO a 0 0 es.size ep)}):Q7 (Rb prog w) A (Wi (.ref a)) Q E s:=by
 obtain ⟨L,T⟩:=S.tab
 have hT:s.TypeIs (.ref a) "set":=⟨_,S.at_,rfl⟩
 refine Ws hT Zz (RD Zz hT sI ?_ (F.args_set_iter_1 _))
 show Q7 _ _ (Wt a >>= _) _ _ s
 unfold Wt
 refine Qw (Qw (VY S.at_ rfl (cM T) (Qz ?_)))
 unfold setDrawn aae
 refine Qw (Qw (Sl S.at_ rfl (cM T) (Qw (Qw (Ti (Qz (Qz ?_)))))))
 dsimp only
 split
 ·rename_i c
  have c:(!w.params.followText "set-order" && (!t.plain && decide (es.size > 1)))=true:=c
  rw [S.pl] at c
  simp at c
 ·(refine Qw (Qz ?_))
  refine Qw (wpAny_setEpoch_of S.at_ rfl (cM T) ?_)
  (refine Qw (Rz ?_))
  exact Qz ⟨_,rfl,"set_iterator",_,⟨_,QV _ rfl,rfl⟩,fW.lookup,hQ⟩
theorem zf {a:QW}{es:Array (Int×Qy)}{ep:Nat}{t:RM}{slot i:Nat}{Q:Option (Qy×Nat)->QC->Prop}(S:jf s.heap a (lZ w) es ep t) (hb:w.params.followText "set-order"=false->UJ t.place slot=i)
  (q1:∀e slot',(fY w a ep es)[i]?=some e->(w.params.followText "set-order"=false->UJ t.place slot'=i + 1)->Q (some (e.2,slot')) s) (q2:(fY w a ep es)[i]?=none->Q none s):
  Q7 (Rb prog w) A (setNext a slot i ep) Q E s:=by
 obtain ⟨L,T⟩:=S.tab
 unfold setNext aae
 refine Qw (Sl S.at_ rfl (cM T) ?_)
 dsimp only
 (refine Qw (Qw (Ti (Qz ?_))))
 dsimp only
 cases bt:w.params.followText "set-order" with
 | true=>
  rw [show (Rb prog w).w.params.followText "set-order"=true from bt]
  simp only [if_true,bne_self_eq_false,QZ,if_false]
  unfold setWalk aae
  refine Qw (Qw (Sl S.at_ rfl (cM T) ?_))
  dsimp only
  (refine Qw (Qw (Ti (Qz ?_))))
  dsimp only
  rw [show (Rb prog w).w.params.followText "set-order"=true from bt]
  simp only [if_true]
  refine Qw (Ti (Qz ?_))
  dsimp only
  have ew:fY w a ep es=Zy ((Rb prog w).w.params.setOrder a ep) es:=by unfold fY;rw [if_pos bt];rfl
  rw [ew] at q1 q2
  cases q:(Zy ((Rb prog w).w.params.setOrder a ep) es)[i]? with
  | none=>exact Qz (q2 q)
  | some e=>exact Qz (q1 e slot q λz=>absurd (bt.symm.trans z) (by decide))
 | false=>
  rw [show (Rb prog w).w.params.followText "set-order"=false from bt]
  (simp only [QZ,if_false])
  have ew:fY w a ep es=es:=by unfold fY;rw [if_neg (by rw [bt];decide)]
  rw [ew] at q1 q2
  have Py:t.led=true:=by rw [S.ld];show (!w.params.followText "set-order")=true;rw [bt];rfl
  split
  ·rename_i c
   have c:(!t.plain && decide (es.size > 1))=true:=c
   rw [S.pl] at c
   simp at c
  ·refine Qw (UP (a:=()) ?_ ?_)
   ·show (if (!t.led && !es.isEmpty)=true then _ else pure ())=pure ()
    rw [Py]
    rfl
   ·rw [hb bt]
    cases q:es[i]? with
    | none=>exact Qz (q2 q)
    | some e=>
     have hlen:i < t.place.size:=by
      have h1:=(RQ.mp q).1
      have h2:t.place.size=es.size:=by rw [<-QN,T.pl,QA,nE T]
      omega
     have ep':t.place[i]?=some t.place[i]:=Tw hlen
     rw [ep']
     exact Qz (q1 e _ q λ_=>BA T.sop ep')
theorem FH {I a:QW}{es:Array (Int×Qy)}{ep:Nat}{t:RM}{slot i:Nat}{Q:Option Qy->QC->Prop}(hne:a≠I) (S:jf s.heap a (lZ w) es ep t) (hI:s.heap.get? I=some (oO a slot i es.size ep)) (hb:w.params.followText "set-order"=false->UJ t.place slot=i) (hi:i < es.size)
  (hQ:∀h' slot' e,(fY w a ep es)[i]?=some e->h'.get? I=some (oO a slot' (i + 1) es.size ep)->(w.params.followText "set-order"=false->UJ t.place slot'=i + 1)->RZ I s.heap h'->Q (some e.2) {s with heap:=h'}):
  Q7 (Rb prog w) A (Va (.ref I)) Q E s:=by
 obtain ⟨L,T⟩:=S.tab
 have hT:s.TypeIs (.ref I) "set_iterator":=⟨_,hI,rfl⟩
 unfold Va
 refine Qw (U0 (Su (name:=Vr "__next__") hT fW (RD fW hT oJ ?_ (oX _))))
 show Q7 _ _ (fieldsOf (.ref I) >>= _) _ _ s
 refine Qw (Wb hI rfl ?_)
 dsimp only
 refine Qw (VY S.at_ rfl (cM T) ?_)
 simp only [bne_self_eq_false,QZ,if_false,Sz]
 refine Qw (zf S hb (λe slot' q1 q2=>?_) λq=>?_)
 ·dsimp only
  refine Qw (V8 hI (by simp) λh1 g1 b1=>?_)
  refine Qw (V8 (s:={s with heap:=h1}) g1 (by simp) λh2 g2' b2=>?_)
  exact Qz ⟨_,rfl,Qz (hQ h2 slot' e q1 (g2'.trans (by simp [Z6])) q2 (b1.trans b2))⟩
 ·exfalso
  have:=(Array.getElem?_eq_none_iff.mp q)
  rw [mO] at this
  omega
theorem HZ {I a:QW}{es:Array (Int×Qy)}{ep:Nat}{t:RM}{slot:Nat}{Q:Option Qy->QC->Prop}(hh:A.handled=none) (S:jf s.heap a (lZ w) es ep t) (hI:s.heap.get? I=some (oO a slot es.size es.size ep)) (hb:w.params.followText "set-order"=false->UJ t.place slot=es.size)
  (hQ:∀h',abd I s.heap h'->Q none {s with heap:=h'}):Q7 (Rb prog w) A (Va (.ref I)) Q E s:=by
 obtain ⟨L,T⟩:=S.tab
 have hT:s.TypeIs (.ref I) "set_iterator":=⟨_,hI,rfl⟩
 unfold Va
 refine Qw (U0 (Su (name:=Vr "__next__") hT fW (RD fW hT oJ ?_ (oX _))))
 show Q7 _ _ (fieldsOf (.ref I) >>= _) _ _ s
 refine Qw (Wb hI rfl ?_)
 dsimp only
 refine Qw (VY S.at_ rfl (cM T) ?_)
 simp only [bne_self_eq_false,QZ,if_false,Sz]
 refine Qw (zf S hb (λe slot' q1 q2=>?_) λq=>?_)
 ·exfalso
  have:=(RQ.mp q1).1
  rw [mO] at this
  omega
 ·dsimp only
  refine Qw (V8 hI (by simp) λh1 g1 b1=>?_)
  refine Qw ?_
  simp only [newExc,newTuple]
  (refine Qw (Rz ?_ (by size_fits)))
  (refine Qw (m:=Wc _ _) (UP (a:=RB) (by first | rfl | (simp only [Wc];rfl)) ?_))
  (refine Rz ?_ (by size_fits))
  simp only [raiseNew]
  (refine Qw (aaz ?_))
  (first | rw [show A.in1.handled=none from hh] | rw [hh])
  (refine Qw (Qz (wpAny_throw ?_)))
  (refine Qw (VA (T:="StopIteration") (b:=true) ⟨_,QV _ rfl,rfl⟩ Z0 ?_))
  exact Qz (hQ _ ((b1.extBut.push _).push _))
end
theorem wR:typeLookup (.type "set") "__len__"=pure (some (.builtin "set.__len__")):=by rw [Xg,Vv];kernel_rfl
theorem EH {M:abn}{A:Rx}{E:Qy->QC->Prop}{s:QC}{α:Type}{c:Prop} [Decidable c] {m1 m2:Sem α}{Q:α->QC->Prop}(hc:c) (h:Q7 M A m1 Q E s):Q7 M A (if c then m1 else m2) Q E s:=by rw [if_pos hc];exact h
theorem Ff {prog:Q8}{w:Ru}{A:Rx}{E:Qy->QC->Prop}{s:QC}{a:QW}{Q:Bool->QC->Prop}(hT:s.TypeIs (.ref a) "set") (hQ:Q false s):Q7 (Rb prog w) A (VZ (.ref a)) Q E s:=by
 have sp:splitId "set.__len__"=some ("set","__len__"):=by decide +kernel
 (unfold VZ)
 refine Qw (U7 hT wR ?_)
 dsimp -zeta only
 rw [sp]
 dsimp -zeta only
 refine Qw (m:=Z_ (.ref a) (.type "set")) (VA hT sub_set_self ?_)
 (show Q7 _ _ (if (!true)=true then _ else _) _ _ _)
 rw [if_neg (by decide)]
 refine EH (by decide +kernel) ?_
 (refine Qw (Vs hT ?_))
 exact Qz hQ
theorem pW:Slot "set_iterator" "__iter__" "set_iterator.__iter__":=
 ((.of (owner:="set_iterator") (n:="__iter__") (by rw [Xg,Vv];kernel_rfl) (by decide +kernel) (by decide +kernel) (by decide +kernel)
  ((by first | exact .inl (by decide +kernel) | exact .inr (by decide +kernel))) (by rw [Wa];kernel_rfl)))
theorem wK:abk table "set_iterator.__iter__"=some UN.«dict_keyiterator.__iter__»:=
 (ZZ (id':="dict_keyiterator.__iter__") (by kernel_rfl) rfl (by decide +kernel) (by kernel_rfl))
theorem xO (a:Qy):argsOk "set_iterator.__iter__" ⟨[a],[]⟩:=by unfold argsOk;kernel_rfl
section
variable {prog:Q8}{w:Ru}{A:Rx}{E:Qy->QC->Prop}{s:QC}
def iG (w:Ru) (a ep:Nat) (es:Array (Int×Qy)):List Qy:=(fY w a ep es).toList.map (·.2)
theorem EG (hh:A.handled=none) (I a:QW) (hne:a≠I){es:Array (Int×Qy)}{ep:Nat}{t:RM}:
  Walks prog w A I [I,a] [I] es.size (λi v=>(iG w a ep es)[i]?=some v) (λi h=>∃slot,h.get? I=some (oO a slot i es.size ep)/\jf h a (lZ w) es ep t/\(w.params.followText "set-order"=false->UJ t.place slot=i)) where
 sub:=λ_ hb=>by simp at hb;simp [hb]
 frame:=λ_ _ _ ⟨slot,h1,h2,h3⟩ hk=>⟨slot,hk I (by simp) _ h1,h2.keep λo e=>hk a (by simp) o e,h3⟩
 item:=λi s Q E hi ⟨slot,h1,h2,h3⟩ hQ=>by
  refine FH hne h2 h1 h3 hi λh' slot' e q1 q2 q3 q4=>?_
  refine hQ e.2 h' s.toks ?_ ⟨slot',q2,h2.keep λo e=>?_,q3⟩ λb o hb e=>?_
  ·unfold iG;rw [Q_,R4,q1];rfl
  ·rw [q4.2 a hne];exact e
  ·exact q4.extBut b o (λh=>hb (by simp [h])) e
 done:=λs Q E ⟨slot,h1,h2,h3⟩ hQ=>HZ hh h2 h1 h3 λh' he=>hQ h' s.toks λb o hb e=>he b o (λh=>hb (by simp [h])) e
 self:=λi s Q E ⟨slot,h1,h2,h3⟩ hQ=>by
  have hT:s.TypeIs (.ref I) "set_iterator":=⟨_,h1,rfl⟩
  refine Ws hT pW (RD pW hT wK ?_ (xO _))
  show Q7 _ _ (ret (.ref I)) _ _ s
  exact Qz ⟨_,rfl,"set_iterator",_,hT,fW.lookup,hQ⟩
theorem zT {a:QW}{es:Array (Int×Qy)}{ep:Nat}{t:RM}{Q:List Qy->QC->Prop}(hh:A.handled=none) (S:jf s.heap a (lZ w) es ep t) (hn:es.size<=76)
  (hQ:∀(h':Sh) (tk:Nat),(∀b o,s.heap.get? b=some o->h'.get? b=some o)->s.heap.objs.size < h'.objs.size->Q (iG w a ep es) {s with heap:=h',toks:=tk}):Q7 (Rb prog w) A (collect (.ref a)) Q E s:=by
 have ha:a < s.heap.objs.size:=QY S.at_
 have hT:s.TypeIs (.ref a) "set":=⟨_,S.at_,rfl⟩
 unfold collect
 (refine Qw (XJ (SM F.entry_proto_collect ?_)))
 (rw [Sx F.plain_proto_collect _])
 show Q7 _ A.in1 (newList [] >>= λl=>again (.builtin "list.__iadd__" ⟨[l,.ref a],[]⟩)) _ _ s
 (refine Qw (Rz ?_))
 (refine Qz ⟨Ux YR _,SM F.entry_list_iadd ?_⟩)
 (rw [Sx YR _])
 generalize Qk:({cls:=.type "list",data:=.seq ([]:List Qy).toArray}:Obj)=l0
 have S1:jf (s.heap.push l0) a (lZ w) es ep t:=S.keep λo e=>QI _ e
 have hT1:U9 {s with heap:=s.heap.push l0} (.ref a) "set":=⟨_,S1.at_,rfl⟩
 show Q7 _ A.in1 (V0 (.ref s.heap.objs.size) (.ref a) (.ref s.heap.objs.size)) _ _ _
 (unfold V0)
 refine Qw (Vs hT1 ?_)
 have h1:aaf (.ref s.heap.objs.size) (.ref a)=false:=by
  show (s.heap.objs.size == a)=false
  exact beq_eq_false_iff_ne.mpr (Ui ha)
 have h2:(Um "set" == Um "list")=false:=by decide
 have h3:(Um "set" == Um "tuple")=false:=by decide
 (simp only [h1,h2,h3,aao,QZ,if_false])
 refine Qw (Fl S1 ?_)
 (refine Qw (Rn ?_))
 have z1:(s.heap.push l0).objs.size=s.heap.objs.size + 1:=Ud _ _
 rw [z1]
 have S2:jf ((s.heap.push l0).push (oO a 0 0 es.size ep)) a (lZ w) es ep t:=S1.keep λo e=>QI _ e
 have hT2:U9 {s with heap:=(s.heap.push l0).push (oO a 0 0 es.size ep)} (.ref a) "set":=⟨_,S2.at_,rfl⟩
 refine Ff hT2 ?_
 refine EH (by decide +kernel) ?_
 (refine Qw (Wk ?_))
 subst Qk
 have hI:((s.heap.push {cls:=.type "list",data:=.seq ([]:List Qy).toArray}).push (oO a 0 0 es.size ep)).get? (s.heap.objs.size + 1)=some (oO a 0 0 es.size ep):=by rw [<-z1];exact QV _ rfl
 have hS₁:((s.heap.push {cls:=.type "list",data:=.seq ([]:List Qy).toArray}).push (oO a 0 0 es.size ep)).get? s.heap.objs.size=some {cls:=.type "list",data:=.seq ([]:List Qy).toArray}:=QI _ (QV _ rfl)
 refine Qw ?_
 (show Q7 _ A.in1 (updateSeq s.heap.objs.size (·.push .none) >>= λ_=>updateSeq s.heap.objs.size (·.pop)) _ _ _)
 (refine Qw (VU hS₁ rfl ?_))
 (have hS₂:=Sm (Sj (·.push RB)) hS₁ rfl)
 (refine VU hS₂ rfl ?_)
 (have hS₃:=Sm (Sj (·.pop)) hS₂ rfl)
 have fT:∀b o,b≠s.heap.objs.size->((s.heap.push {cls:=.type "list",data:=.seq ([]:List Qy).toArray}).push (oO a 0 0 es.size ep)).get? b=some o->
   ((((s.heap.push {cls:=.type "list",data:=.seq ([]:List Qy).toArray}).push (oO a 0 0 es.size ep)).update s.heap.objs.size (Sj (·.push RB))).update s.heap.objs.size (Sj (·.pop))).get? b=some o:=
  (λb o hb e=>(Vd _ _ (S8 hb)).trans ((Vd _ _ (S8 hb)).trans e))
 have hne:a≠s.heap.objs.size + 1:=Rf (SE ha)
 have hSf:s.heap.objs.size∉[s.heap.objs.size + 1,a]:=by
  simp only [Q3,Sf,or_false,not_or]
  exact ⟨Rf (Tg _),Ui ha⟩
 obtain ⟨L,T⟩:=S.tab
 refine Qz ⟨Ux F.plain_extend_loop _,codeAny_extend_loopS ((EG (A:=A.in1) (prog:=prog) (w:=w) (es:=es) (ep:=ep) (t:=t) hh (s.heap.objs.size + 1) a hne).toS) (by rw [RI];omega) _ hSf _ es.size 0 _ _ _ rfl (Rl _)
  ⟨0,fT _ _ (Ui (Tg _)) hI,S2.keep λo e=>fT _ _ (Rf ha) e,λ_=>BB T.sop⟩ hS₃ (ItemsOf.nil _) λs' acc' c' hm hS' hacc=>?_⟩
 (show Q7 _ A (load s.heap.objs.size >>= _) _ _ s')
 (refine Qw (wpAny_load hS' ?_))
 have eacc:acc'.toList=iG w a ep es:=by
  obtain ⟨z,q⟩:=hacc
  have lw:(iG w a ep es).length=es.size:=by unfold iG;rw [QA,QN,mO]
  refine UL (by rw [QN,z,lw]) λi x1 x2=>?_
  have this:(iG w a ep es)[i]?=some (acc'[i]'(by simpa using x1)):=q i _ (Tw (by simpa using x1))
  rw [QS x2] at this
  (exact (RS this).symm)
 refine Qz ?_
 rw [eacc]
 (obtain ⟨h',g',d',tk',os'⟩:=s')
 (have eg:g'=s.gens:=hm.gens)
 (have ed:d'=s.drawn:=hm.drawn)
 have eo:os'=s.os:=hm.os
 subst eg;subst ed;subst eo
 refine hQ h' tk' (λb o e=>?_) (QY hS')
 have lb:=QY e
 refine hm.heap b o ?_ (fT b o (Rf lb) (QI _ (QI _ e)))
 simp only [Q3,Sf,or_false,not_or]
 exact ⟨Rf lb,Rf (SE lb)⟩
end
theorem vX:isSubtype (.type "tuple") (.type "set")=pure false:=by rw [Wa];kernel_rfl
theorem vW:isSubtype (.type "tuple") (.type "frozenset")=pure false:=by rw [Wa];kernel_rfl
abbrev eW (led:Bool):Obj:={cls:=.type "set",dict:=none,data:=.set #[] 0 (.fresh 0 0 led)}
abbrev cK (w:Ru):Bool:=!w.params.followText "set-order"
section
variable {prog:Q8}{w:Ru}{A:Rx}{E:Qy->QC->Prop}{s:QC}{K:Qx}{J:Hp}
theorem ze (a:Qy){Q₁:Qy->QC->Prop}(h:Q₁ (.ref s.heap.objs.size) {s with heap:=s.heap.push (eW (cK w))}):
  (Tf (Rb prog w) A (.call (.builtin "set.__new__") ⟨[.type "set",a],[]⟩) (wants Q₁ E) s):=by
 refine (U_ ?_)
 (show Q7 _ A.in1 (do WO "set.__new__" ⟨[.type "set",a],[]⟩;again (.builtin "set.__new__" ⟨[.type "set",a],[]⟩)) _ _ s)
 refine Qw (UP (PySem.F.newCall_set_1 a) (Qz ⟨Ux ZA _,SM F.entry_set_new ?_⟩))
 (rw [Sx ZA _])
 (unfold UN.«set.__new__» ZM)
 have hsub:=sub_set_self
 (obtain ⟨hp,g,d,tk,os⟩:=s)
 dsimp only
 wp_walk
 (refine Ti (Qz ?_))
 dsimp only
 simp only [newObj]
 (refine Qw (wpAny_alloc (Qz ?_)))
 exact Qz h
theorem zg {l:QW}{items:Array Qy}{ds:List D}{Q:Qy->QC->Prop}(N:HF K J s) (hh:A.handled=none) (hl:s.heap.IsTuple l items) (hz:items.size=ds.length) (hi:∀i v,items[i]?=some v->KV K J v (ds.getD i .non)) (hn:ds.length<=76) (hu:A.units + 16 < Sy)
  (h:∀(h':Sh) (tk:Nat) ks es ep t,je K J h' s.heap.objs.size (cK w) ks es ep t->(∀d,d∈ks↔d∈ds)->(∀b o,b < s.heap.objs.size->s.heap.get? b=some o->h'.get? b=some o)->Q (.ref s.heap.objs.size) {s with heap:=h',toks:=tk}):
  (Q7 (Rb prog w) A (call (.type "set") [.ref l]) Q E s):=by
 (obtain ⟨c,tl,PF⟩:=R5.mro)
 (have hmade:=R5.made)
 have hsub:=R5.sub
 (refine Xp (U_ ?_))
 (show Q7 _ _ (callAny (.type "set") _) _ _ _)
 (refine Qz ⟨Yq _ (by decide +kernel),SM YS ?_⟩)
 (rw [Yr (Xh "set" [.ref l] []) rfl])
 (have h1:=R5.notType)
 (have h2:=R5.canCreate)
 have hct:=W3 (.ref l)
 (repeat (any_goals (first | assumption | wp_step)))
 refine Tj (ze (.ref l) (E:=E) (Q₁:=λobj s₁=>obj=.ref s.heap.objs.size/\s₁={s with heap:=s.heap.push (eW (cK w))}) ⟨rfl,rfl⟩) λr s₁ hr=>?_
 cases r with
 | error e=>exact hr
 | ok fl=>
  cases fl with
  | ret obj=>
   obtain ⟨rfl,rfl⟩:=hr
   have hS:(s.heap.push (eW (cK w))).get? s.heap.objs.size=some (eW (cK w)):=QV _ rfl
   have hT:U9 {s with heap:=s.heap.push (eW (cK w))} (.ref s.heap.objs.size) "set":=⟨_,hS,rfl⟩
   (have hli:=R5.init.lookup)
   (have hbi:=R5.init.bind (.ref s.heap.objs.size))
   (repeat (any_goals (first | assumption | wp_step)))
   refine Tj (VF (R:=wants (λr s₂=>r=.none/\∃h' tk ks es ep t,s₂={s with heap:=h',toks:=tk}/\je K J h' s.heap.objs.size (cK w) ks es ep t/\(∀d,d∈ks↔d∈ds)/\
     (∀b o,b < s.heap.objs.size->s.heap.get? b=some o->h'.get? b=some o)) E) R5.init.plain Za ((Zb hT ?_))) λr₂ s₂ hr₂=>?_
   ·obtain ⟨ol,Pd,hcl,nl,hdl⟩:=id hl
    have OO:(s.heap.push (eW (cK w))).get? l=some ol:=QI _ Pd
    have PX:=vX
    have PV:=vW
    have hne:(Um "tuple" == Um "dict")=false:=by decide
    have hl1:(s.heap.push (eW (cK w))).IsTuple l items:=⟨_,OO,hcl,nl,hdl⟩
    have P8:U9 {s with heap:=s.heap.push (eW (cK w))} (.ref l) "tuple":=⟨_,OO,hcl⟩
    (unfold UN.«set.__init__» noKeywords VM)
    generalize Pk:Wi=PI
    wp_walk
    subst Pk
    refine (V5 hl1 ?_)
    refine (Qw (XJ ?_))
    (have hlS:l < s.heap.objs.size:=QY Pd)
    have z1:(s.heap.push (eW (cK w))).objs.size=s.heap.objs.size + 1:=Ud _ _
    have O3:l≠(s.heap.push (eW (cK w))).objs.size:=by rw [z1];exact Rf (SE hlS)
    have hSf:s.heap.objs.size∉[(s.heap.push (eW (cK w))).objs.size,l]:=by
     rw [z1]
     simp only [Q3,Sf,or_false,not_or]
     (exact ⟨Rf (Tg _),Ui hlS⟩)
    have hno:∀b,s.heap.objs.size<=b->s.heap.get? b=none:=λb hb=>by
     cases q:s.heap.get? b with
     | none=>rfl
     | some o=>exact absurd (QY q) (abr.mpr hb)
    have hval:∀(i:Nat) (v:Qy),items[i]?=some v->KV K J v (ds.getD i .non):=hi
    have all:(QG items.size).map (λi=>ds.getD i .non)=ds:=by
     refine UL (by simp [hz]) λi a b=>?_
     simp [b]
    refine GJ (A:=A.in1.in1) (K:=K) (J:=J) (s0:=s) (led:=cK w) ((abe (A:=A.in1.in1.in1) (by simp [hh]) (s.heap.push (eW (cK w))).objs.size l O3 items).toS) s.heap.objs.size hSf (λi=>ds.getD i .non) hval N (λb hb=>hno b ?_) (by simp only [in1_units];omega) (by omega) items.size 0 _ [] #[] 0 (.fresh 0 0 (cK w)) (by omega) (Rl _) ⟨⟨_,QV _ rfl,rfl,rfl⟩,hl1.push _⟩ (λb o e=>QI _ (QI _ e)) (Cs (QI _ hS)) (λd=>by simp) λs' ks es ep t hm hS' hmem=>?_
    ·(rcases Q3.mp hb with rfl | hb)
     ·exact QL _
     ·rw [Q6.mp hb,z1];exact Sv _
    ·rw [all] at hmem
     (obtain ⟨h',g',d',tk',os'⟩:=s')
     (have eg:g'=s.gens:=hm.gens)
     (have ed:d'=s.drawn:=hm.drawn)
     have eo:os'=s.os:=hm.os
     subst eg;subst ed;subst eo
     show Q7 _ _ _ _ _ _
     refine Qz ?_
     (show Q7 _ _ (ret RB) _ _ _)
     refine Qz ⟨rfl,h',tk',ks,es,ep,t,rfl,hS',hmem,λb o hb e=>?_⟩
     refine hm.heap b o ?_ (QI _ (QI _ e))
     rw [z1]
     simp only [Q3,Sf,or_false,not_or]
     exact ⟨Rf hb,Rf (SE hb)⟩
   ·cases r₂ with
    | error e=>exact hr₂
    | ok fl₂=>
     cases fl₂ with
     | ret r=>
      obtain ⟨rfl,h',tk,ks,es,ep,t,rfl,hS',hm',hk'⟩:=hr₂
      (repeat (any_goals (first | assumption | wp_step)))
      exact h _ _ _ _ _ _ hS' hm' hk'
     | _=>exact hr₂.elim
  | _=>exact hr.elim
end
end DL
namespace DL
open PySem PySem.Spec PyProof.Rows L2 ST
open PySem.W (KasT kas_sort kas_ask)
section
variable {prog:Q8}{w:Ru}{A:Rx}{E:Qy->QC->Prop}{s:QC}
theorem sortedS {a:QW}{es:Array (Int×Qy)}{ep:Nat}{t:RM}{κ:aas}{q:Nat->Nat->Bool}{Q:Qy->QC->Prop}{vs:List Qy}(hv:iG w a ep es=vs) (hh:A.handled=none) (S:jf s.heap a (lZ w) es ep t) (hn:es.size<=76)
  (hs:vs.length < 2\/(2<=vs.length/\vs.length < 64/\
   (∀h' tk C,(∀b o,s.heap.get? b=some o->h'.get? b=some o)->C κ {s with heap:=h',toks:=tk}->Q7 (Rb prog w) A.in1.in1 (aat vs.toArray) C (λ_ _=>False) {s with heap:=h',toks:=tk})/\
   ∀h' tk,(∀b o,s.heap.get? b=some o->h'.get? b=some o)->∀i j C,i < vs.length->j < vs.length->C (q i j) {s with heap:=h',toks:=tk}->kas_ask prog w A.in1.in1 κ vs i j C {s with heap:=h',toks:=tk}))
  (h:∀h' tk l n,(∀b o,s.heap.get? b=some o->h'.get? b=some o)->s.heap.objs.size<=l->h'.get? l=some (S0 "list" (if vs.length < 2 then vs else iJ q vs).toArray n)->Q (.ref l) {s with heap:=h',toks:=tk}):Q7 (Rb prog w) A (call (.builtin "sorted") [.ref a]) Q E s:=by
 have sl:vs.length<=sizeLine:=by rcases hs with h | ⟨_,h,_⟩ <;> rw [RI] <;> omega
 refine (UI Zs YY YZ (Y0 _) ?_)
 unfold UN.«sorted»
 refine Qw (m:=aad "sorted" 1 1 _) ((Qz ?_))
 refine Qw (zT hh S hn λh1 tk1 k1 le0=>?_)
 rw [hv]
 refine Qw (VI ?_ sl)
 have le1:s.heap.objs.size<=h1.objs.size:=W7 le0
 have gL:(h1.push (S0 "list" vs.toArray 0)).get? h1.objs.size=some (S0 "list" vs.toArray 0):=QV _ rfl
 have kp:∀b o,s.heap.get? b=some o->b≠h1.objs.size/\(h1.push (S0 "list" vs.toArray 0)).get? b=some o:=λb o e=>by
  have e1:=k1 b o e
  exact ⟨Rf (QY e1),QI _ e1⟩
 have kend:∀out b o,s.heap.get? b=some o->(aac (h1.push (S0 "list" vs.toArray 0)) h1.objs.size vs out).get? b=some o:=λout b o e=>by
  obtain ⟨g1,g2'⟩:=kp b o e
  rw [sortedHeap_old g1 (QY g2')]
  exact g2'
 dsimp only
 rcases hs with h2 | ⟨h2,h64,hk,hc⟩
 ·refine Qw (Rn (RD V9 ⟨_,gL,rfl⟩ VV (tF gL h2 ⟨_,rfl,?_⟩) (V_ _)))
  obtain ⟨n,hn'⟩:=aaA (out:=vs.toArray) gL
  rw [if_pos h2] at h
  exact Qz ⟨_,rfl,h _ tk1 _ n (kend _) le1 hn'⟩
 ·refine Qw (Rn (RD V9 ⟨_,gL,rfl⟩ VV (tG (κ:=κ) (q:=q) gL h2 h64 (λh' C k c=>?_) (λh' k i j C hi hj c=>?_) ⟨_,rfl,?_⟩) (V_ _)))
  ·exact hk h' tk1 C (λb o e=>k b o (kp b o e).1 (kp b o e).2) c
  ·exact hc h' tk1 (λb o e=>k b o (kp b o e).1 (kp b o e).2) i j C hi hj c
  ·obtain ⟨n,hn'⟩:=aaA (out:=(iJ q vs).toArray) gL
   rw [if_neg (by omega)] at h
   exact Qz ⟨_,rfl,h _ tk1 _ n (kend _) le1 hn'⟩
end
mutual
def formOf:D->Fm
 | .int _=>.i
 | .tup xs=>AA xs
 | _=>.b
def AA:List D->Fm
 | []=>.tn
 | x::xs=>.tc (formOf x) (AA xs)
end
def ql:Fm->D->Bool
 | .i,.int _=>true
 | .tn,.tup xs=>xs.isEmpty
 | .tc x r,.tup (y::ys)=>ql x y && ql r (.tup ys)
 | _,_=>false
theorem rK:∀(f:Fm) (d:D),ql f d=true->jx f d
 | .i,.int k,_=>⟨k,rfl⟩
 | .tn,.tup [],_=>⟨[],rfl,rfl⟩
 | .tc x r,.tup (y::ys),h=>by
  unfold ql at h
  rw [QK] at h
  exact ⟨_,rfl,y,ys,rfl,rK x y h.1,rK r (.tup ys) h.2⟩
def G_:List D->Bool
 | []=>true
 | d::r=>(match iw d with
  | some k=>gV k (d::r)
  | none=>false) && (d::r).all (ql (formOf d))
def pM (ds:List D):Bool:=decide (ds.length < 64) && (areKeys ds && (decide (deps ds<=8) && G_ ds))
theorem FN {ds:List D}(h:G_ ds=true):∃k f,∀d∈ds,iw d=some k/\jx f d:=by
 cases ds with
 | nil=>exact ⟨.i,.i,λ_ h=>nomatch h⟩
 | cons d r=>
  unfold G_ at h
  rw [QK] at h
  cases q:iw d with
  | none=>rw [q] at h;cases h.1
  | some k=>
   rw [q] at h
   exact ⟨k,formOf d,λx hx=>⟨jN h.1 x hx,rK _ _ (Rw.mp h.2 x hx)⟩⟩
theorem nP {n:Nat}:∀{ds:List D},deps ds<=n->∀d∈ds,dep d<=n
 | [],_,_,h=>nomatch h
 | x::r,hn,d,h=>by
  unfold deps at hn
  (rcases Q3.mp h with rfl | h)
  ·omega
  ·exact nP (ds:=r) (by omega) d h
theorem nL {k:Hd}:∀{ds:List D},(∀d∈ds,iw d=some k)->gV k ds=true
 | [],_=>rfl
 | x::r,h=>by
  unfold gV
  rw [h x (QH ..),nL λd hd=>h d (QF _ hd)]
  cases k <;> rfl
structure M8 (ds:List D) (k:Hd) (f:Fm):Prop where
 ln:ds.length < 64
 ky:areKeys ds=true
 dp:deps ds<=8
 al:∀d∈ds,iw d=some k/\jx f d
theorem yM {ds:List D}(h:pM ds=true):∃k f,M8 ds k f:=by
 unfold pM at h
 rw [QK,QK,QK] at h
 obtain ⟨h1,h2,h3,h4⟩:=h
 obtain ⟨k,f,h5⟩:=FN h4
 exact ⟨k,f,of_decide_eq_true h1,h2,of_decide_eq_true h3,h5⟩
abbrev oz (X:Cx) (H0:Hp) (a:QW) (ds:List D):HO:=.ext λh=>∃ks es ep t,je X.K H0 h a (cK X.w) ks es ep t/\∀d,d∈ks↔d∈ds
section
variable {X:Cx}
theorem Mr {K:Qx}{J:Hp}{k:Hd}{f:Fm}{ds:List D}{vs:List V}{us:List Qy}(o:M8 ds k f) (rs:aI K J ds vs) (rv:Vals vs us):∀i v,us.toArray[i]?=some v->KV K J v (ds.getD i .non):=λi v q=>by
 have l1:vs.length=us.length:=rv.length
 have l2:ds.length=vs.length:=rs.length
 have hi:i < us.length:=by
  have:=(RQ.mp q).1
  simpa using this
 have e:us.getD i RB=v:=by
  simp at q
  simp [Xi,q]
 have r1:=eX rs (i:=i) (by omega)
 have r2:=eY rv (i:=i) (by omega)
 rw [e] at r2
 have m:=eH (ds:=ds) (i:=i) (by omega)
 refine ⟨?_,qN o.ky _ m,nP o.dp _ m,_,r1,r2⟩
 have hh:=(o.al _ m).1
 generalize cO ds i=d at r1 hh
 generalize vs.getD i V.non=vv at r1 r2
 cases d with
 | tup xs=>cases r1 with
  | tup _ _=>cases r2;exact ⟨_,rfl⟩
 | _=>cases hh
theorem Dh (hu:X.A.units + 64 < Sy) (hc:X.calm=true):bU X (.type "set") (λxs H Q=>∃p vs ds J0,xs=[.ref p]/\cY X.K H p vs/\aU J0 H/\aI X.K J0 ds vs/\pM ds=true/\∀l,H l=none->Q (.ref l) (upd H l (oz X J0 l ds))):=by
 intro pins s σ H xs us Q I r h
 obtain ⟨p,vs,ds,J0,rfl,hq,sm,rs,oks,q⟩:=h
 obtain ⟨u,rfl,rx⟩:=vals1 r
 cases rx
 obtain ⟨k,f,o⟩:=yM oks
 have N:HF X.K J0 s:=HF.of (c:=⟨X.K,H,H,λ_=>True⟩) I sm
 obtain ⟨its,r',pt,hz⟩:=I.tuple hq
 refine zg N (I.ok.hd hc) pt (by simp [<-r'.length,rs.length]) (Mr o rs r') (by have:=o.ln;omega) (by omega) λh' tk ks es ep t S hm kp=>?_
 exact ⟨.ref s.heap.objs.size,_,I.laid (t':=tk) (λb o e=>kp b o (QY e) e) (QL _) (show cg X.prog X.w _ _ _ (oz X J0 s.heap.objs.size ds) from ⟨⟨ks,es,ep,t,S,hm⟩,⟨_,S.at_⟩,λh1 h2 ⟨ks,es,ep,t,S,hm⟩ e=>⟨ks,es,ep,t,S.keep e,hm⟩⟩),rfl,q _ (I.hok.fresh (QL _))⟩
end
def dd:List D->List D
 | []=>[]
 | x::xs=>if (dd xs).any (bw x)=true then dd xs else x::dd xs
def cS (ds:List D):List D:=bB (dd ds)
section
variable {P:D->Prop}
theorem w5 (p:gf P):∀(ds:List D),(∀x∈ds,P x)->(dd ds).Nodup/\∀y,y∈dd ds↔y∈ds
 | [],_=>⟨Tv,λ_=>.rfl⟩
 | x::xs,h=>by
  obtain ⟨h1,h2⟩:=w5 p xs λy hy=>h y (QF _ hy)
  have px:=h x (QH ..)
  have eqv:(dd xs).any (bw x)=true↔x∈xs:=by
   rw [SS]
   constructor
   ·rintro ⟨z,hz,e⟩
    have hz':=(h2 z).mp hz
    rw [(p.eq x z px (h z (QF _ hz'))).mp e]
    exact hz'
   ·intro hx
    exact ⟨x,(h2 x).mpr hx,(p.eq x x px px).mpr rfl⟩
  unfold dd
  by_cases c:(dd xs).any (bw x)=true
  ·rw [if_pos c]
   refine ⟨h1,λy=>?_⟩
   rw [h2 y,Q3]
   exact ⟨.inr,λz=>z.elim (λe=>e▸eqv.mp c) id⟩
  ·rw [if_neg c]
   refine ⟨Ss.mpr ⟨λz=>c (eqv.mpr ((h2 x).mp z)),h1⟩,λy=>?_⟩
   rw [Q3,Q3,h2 y]
theorem zu (p:gf P):∀{A B:List D},(∀x∈A,P x)->A.Pairwise (λa b=>eu a b=true)->B.Pairwise (λa b=>eu a b=true)->(∀y,y∈A↔y∈B)->A=B
 | [],[],_,_,_,_=>rfl
 | [],b::B,_,_,_,h=>by cases (h b).mpr QH
 | a::A,[],_,_,_,h=>by cases (h a).mp QH
 | a::A,b::B,hp,hA,hB,h=>by
  obtain ⟨a1,a2⟩:=Ug.mp hA
  obtain ⟨b1,b2⟩:=Ug.mp hB
  have pa:=hp a QH
  have pb:=hp b ((h b).mpr QH)
  have no:∀z,P z->eu z z=true->False:=λz pz q=>by
   have:=p.asy z z pz pz q
   rw [q] at this;cases this
  have e:a=b:=by
   rcases Q3.mp ((h a).mp QH) with e | e
   ·exact e
   ·rcases Q3.mp ((h b).mpr QH) with f | f
    ·exact f.symm
    ·exact (no a pa (p.tra _ _ _ pa pb pa (a1 b f) (b1 a e))).elim
  subst e
  have:A=B:=by
   refine zu p (λx hx=>hp x (QF _ hx)) a2 b2 λy=>⟨λhy=>?_,λhy=>?_⟩
   ·rcases Q3.mp ((h y).mp (QF _ hy)) with e | e
    ·subst e;exact (no y pa (a1 y hy)).elim
    ·exact e
   ·rcases Q3.mp ((h y).mpr (QF _ hy)) with e | e
    ·subst e;exact (no y pa (b1 y hy)).elim
    ·exact e
  rw [this]
theorem nC (p:gf P){ds:List D}(h:∀x∈ds,P x) (nd:ds.Nodup):(bB ds).Pairwise λa b=>eu a b=true:=by
 have up:=GC p ds h
 have pm:=jo ds
 have nd':(bB ds).Nodup:=pm.nodup_iff.mpr nd
 have both:=abt up nd'
 refine (Tp.mp both).imp ?_
 rintro a b ⟨ha,hb,h1,h2⟩
 cases q:eu a b with
 | true=>rfl
 | false=>exact absurd (p.tri a b (h a (pm.mem_iff.mp ha)) (h b (pm.mem_iff.mp hb)) q h1) h2
theorem zk (p:gf P){ds ks:List D}(h:∀x∈ds,P x) (nd:ks.Nodup) (hm:∀d,d∈ks↔d∈ds):bB ks=cS ds:=by
 obtain ⟨h1,h2⟩:=w5 p ds h
 have hk:∀x∈ks,P x:=λx hx=>h x ((hm x).mp hx)
 have hd:∀x∈dd ds,P x:=λx hx=>h x ((h2 x).mp hx)
 exact zu p (λx hx=>hk x ((jo ks).mem_iff.mp hx)) (nC p hk nd) (nC p hd h1) λy=>by
  rw [(jo ks).mem_iff,hm y]
  show _↔y∈bB (dd ds)
  rw [(jo (dd ds)).mem_iff,h2 y]
theorem lH (p:gf P){ds:List D}(h:∀x∈ds,P x):(cS ds).Pairwise (λa b=>eu a b=true)/\∀d,d∈cS ds↔d∈ds:=by
 obtain ⟨h1,h2⟩:=w5 p ds h
 exact ⟨nC p (λx hx=>h x ((h2 x).mp hx)) h1,λd=>by show d∈bB (dd ds)↔_;rw [(jo (dd ds)).mem_iff,h2 d]⟩
end
theorem fL.reps {K:Qx}{J:Hp}{es:List (Int×Qy)}{ks:List D}(h:fL K J es ks):∃vs,aI K J ks vs/\Vals vs (es.map (·.2)):=by
 induction h with
 | nil=>exact ⟨_,.nil,.nil⟩
 | cons _ hk _ ih=>
  obtain ⟨vs,h1,h2⟩:=ih
  obtain ⟨_,_,_,v,r,rv⟩:=hk
  exact ⟨v::vs,.cons r h1,.cons rv h2⟩
section
variable {X:Cx}
theorem BG (hu:X.A.units + 64 < Sy) (hc:X.calm=true):bU X (.builtin "sorted") (λxs H Q=>∃p ds J0,xs=[.ref p]/\H p=some (oz X J0 p ds)/\aU J0 H/\pM ds=true/\∀l vs',H l=none->aI X.K J0 (cS ds) vs'->Q (.ref l) (upd H l (.lst vs'))):=by
 intro pins s σ H xs us Q I r h
 obtain ⟨p,ds,J0,rfl,hp,sm,oks,q⟩:=h
 obtain ⟨u,rfl,rx⟩:=vals1 r
 cases rx
 obtain ⟨k,f,o⟩:=yM oks
 have hh:X.A.handled=none:=I.ok.hd hc
 have N:HF X.K J0 s:=HF.of (c:=⟨X.K,H,H,λ_=>True⟩) I sm
 obtain ⟨⟨ks,es,ep,t,S,hm⟩,_⟩:=(show cg X.prog X.w H s.heap p (oz X J0 p ds) from I.hok p _ hp)
 obtain ⟨ks',pm,en'⟩:=S.en.perm (mL X.w p ep es).symm
 have nd':ks'.Nodup:=pm.nodup_iff.mp S.nd
 have hm':∀d,d∈ks'↔d∈ds:=λd=>by rw [<-pm.mem_iff,hm d]
 obtain ⟨vs,rs,rv⟩:=en'.reps
 have hv:iG X.w p ep es=(fY X.w p ep es).toList.map (·.2):=rfl
 rw [<-hv] at rv
 generalize hits:iG X.w p ep es=its at rv
 have l1:vs.length=its.length:=rv.length
 have l2:ks'.length=vs.length:=rs.length
 have len:ks'.length<=ds.length:=Ri nd' λd hd=>(hm' d).mp hd
 have l64:=o.ln
 have les:es.size=ks'.length:=by rw [<-QN,S.en.length,pm.length_eq]
 have tot:=fQ f
 have out:=zk tot (λx hx=>(o.al x hx).2) nd' hm'
 have fin:∀(h':Sh) (tk:Nat) (l:QW) (n:Nat) (ot:List Qy) (vs':List V),vs'.length=vs.length->Vals vs' ot->aI X.K J0 (bB ks') vs'->(∀b o,s.heap.get? b=some o->h'.get? b=some o)->s.heap.objs.size<=l->h'.get? l=some (S0 "list" ot.toArray n)->EP X pins σ Q (.ref l) {s with heap:=h',toks:=tk}:=λh' tk l n ot vs' lv rv' rr kp hl hg=>by
  refine ⟨.ref l,_,I.laid (t':=tk) kp hl (show cg X.prog X.w _ _ _ (.lst vs') from ⟨by rw [lv,RI];omega,ot,n,rv',by simpa [S0] using hg⟩),rfl,q l vs' (I.hok.fresh hl) (by rw [<-out];exact rr)⟩
 have un:X.A.in1.in1.units=X.A.units + 2:=rfl
 refine sortedS (κ:=aba k.flag) (q:=ltB ks') (vs:=its) hits hh S.wk (by omega) ?_ λh' tk l n kp hl hg=>?_
 ·by_cases h2:its.length < 2
  ·exact .inl h2
  ·refine .inr ⟨by omega,by omega,λh' tk C kp cc=>?_,λh' tk kp i j C hi hj cc=>?_⟩
   ·exact vD (N.keep kp) (nL λd hd=>(o.al d ((hm' d).mp hd)).1) rs rv (by omega) cc
   ·have hi':i < ks'.length:=by omega
    have hj':j < ks'.length:=by omega
    have mi:=(hm' _).mp (eH hi')
    have mj:=(hm' _).mp (eH hj')
    have hb:dQ (cO ks' i) (cO ks' j)=some (ltB ks' i j):=by
     have:=tot.lt _ _ (o.al _ mi).2 (o.al _ mj).2
     unfold ltB
     cases z:dQ (cO ks' i) (cO ks' j) with
     | none=>rw [z] at this;cases this
     | some b=>rfl
    have d1:=nP o.dp _ mi
    have d2:=nP o.dp _ mj
    exact AJ (N.keep kp) (o.al _ mi).1 (o.al _ mj).1 hb (eX rs hi') (eX rs hj') (eY rv (by omega)) (eY rv (by omega)) (by rw [un];omega) (by omega) (by omega) cc
 ·by_cases h2:its.length < 2
  ·rw [if_pos h2] at hg
   refine fin h' tk l n its vs rfl rv ?_ kp hl hg
   unfold bB
   rw [if_pos (by omega)]
   exact rs
  ·rw [if_neg h2] at hg
   have ib:∀i∈(aX (ltB ks') (S6 ks'.length)).toList,i < ks'.length:=λi hi=>by
    have:=((eT (n:=ks'.length) (by omega)).run (ltB ks'):eS _ _)
    have:=(Tn this).mp (UB.mp hi)
    simpa using this
   have e1:iJ (ltB ks') its=(aX (ltB ks') (S6 ks'.length)).toList.map λi=>its.getD i RB:=by unfold iJ;rw [l2,l1]
   rw [e1] at hg
   refine fin h' tk l n _ _ ?_ (nF rv _ λi hi=>l2▸ib i hi) ?_ kp hl hg
   ·rw [QA,<-l2]
    have:=((eT (n:=ks'.length) (by omega)).run (ltB ks'):eS _ _).size_eq
    simpa using this
   ·unfold bB
    rw [if_neg (by omega)]
    exact nv rs _ ib
end
end DL
namespace DL
open PySem PySem.Spec PyProof.Rows L2 ST
end DL
namespace DL
open PySem PySem.Spec PyProof.Rows L2 DX
end DL
namespace DL
open PySem PySem.Spec PyProof.Rows L2 ST PySem.SetTable
section
variable {t:RM}{es:Array (Int×Qy)}{L:List (Nat×Int×Qy)}
theorem tQ (T:Tab t es L) (h:Int) (n0:Nat) (hf:pos t.mask h n0∉L.map (·.1)) (hb:∀m,m < n0->pos t.mask h m∈L.map (·.1)):
  ∀(d n F:Nat),n0 - n=d->n<=n0->d < F->probe.go t (λ_=>h + 1) h F (st t.mask h n)=some (.empty (pos t.mask h n0) none)
 | d,n,0,_,_,h=>absurd h (RU _)
 | d,n,F + 1,hd,hn,hF=>by
  by_cases c:n=n0
  ·subst c
   unfold probe.go
   rw [t7 T.dm (by rw [T.pl];exact hf)]
   show some (Met.empty _ (st t.mask h n).dummy)=_
   rw [oB]
  ·obtain ⟨e,he,ej⟩:=QE.mp (hb n (by omega))
   obtain ⟨i,hi,rfl⟩:=S3.mp he
   have hs:t.slot (pos t.mask h n)=.live i:=pV T.sop (by rw [(T.at_ (QS hi)).1,ej])
   have eg:probe.go t (λ_=>h + 1) h (F + 1) (st t.mask h n)=probe.go t (λ_=>h + 1) h F (st t.mask h (n + 1)):=by
    rw [probe.go,hs]
    show (if (h + 1 == h)=true then _ else _)=_
    rw [if_neg (by rw [beq_iff_eq];omega)]
    rfl
   rw [eg]
   exact tQ T h n0 hf hb (n0 - (n + 1)) (n + 1) F rfl (by omega) (by omega)
theorem DA (T:Tab t es L) (h:Int) (n0:Nat) (hf:pos t.mask h n0∉L.map (·.1)) (hb:∀m,m < n0->pos t.mask h m∈L.map (·.1)) (hn0:n0<=10 * (t.mask + 12)):t.freeSlot h=some (pos t.mask h n0,false):=by
 have e:t.probe (λ_=>h + 1) h (t.probeStart h)=some (.empty (pos t.mask h n0) none):=tQ T h n0 hf hb n0 0 (10 * turns t.mask) rfl (Rl _) (by unfold turns;omega)
 unfold SetTable.freeSlot
 rw [e]
 rfl
theorem Iv (T:Tab t es L) (h:Int) (x:Qy) (n0:Nat) (hf:pos t.mask h n0∉L.map (·.1)) (hb:∀m,m < n0->pos t.mask h m∈L.map (·.1)) (hn0:n0<=10 * (t.mask + 12)) (hl:L.length + 1<=t.mask):
  layNew t es h x=(insertAt es (t.put (pos t.mask h n0)).2 (h,x),(t.put (pos t.mask h n0)).1,false,false):=by
 obtain ⟨L',T',_⟩:=T.put h x n0 hf hb (yP _ _ _) hl
 have fit:=cM T'
 unfold layNew
 rw [DA T h n0 hf hb hn0]
 dsimp only
 unfold SetTable.orStandIn
 rw [fit]
 rfl
theorem Fw {mask finger moves:Nat}{led plain:Bool}{t':RM}{order:Array Nat}(hm:lR mask) (hl:es.size<=mask) (e:laid mask finger moves led plain (es.map (·.1))=some (t',order)):order.toList.Perm (QG es.size):=by
 obtain ⟨owner,G,e0,O⟩:=DR hm (es.map (·.1)) (by simpa using hl)
 have hlen:G.length=es.size:=by rw [O.ln];simp
 (let live:=(QG (mask + 1)).filterMap λj=>(owner.getD j none).map (j,·))
 have lv:∀p,p∈live↔p.1∈G/\p.2=G.idxOf p.1:=λp=>by
  show p∈(QG (mask + 1)).filterMap _↔_
  rw [UW]
  constructor
  ·rintro ⟨j,hj,q⟩
   have hj':j<=mask:=by have:=Ra.mp hj;omega
   rw [O.at_ j hj'] at q
   by_cases c:j∈G
   ·rw [if_pos c] at q
    have q:(j,G.idxOf j)=p:=by simpa using q
    subst q
    exact ⟨c,rfl⟩
   ·rw [if_neg c] at q;exact absurd q (by simp)
  ·rintro ⟨h1,h2⟩
   refine ⟨p.1,Ra.mpr (by have:=O.bd _ h1;omega),?_⟩
   rw [O.at_ _ (O.bd _ h1),if_pos h1]
   show some (p.1,G.idxOf p.1)=some p
   rw [<-h2]
 have so1:live.Pairwise λa b=>a.1 < b.1:=by
  show ((QG (mask + 1)).filterMap _).Pairwise _
  rw [WH]
  refine Ue.imp ?_
  intro a b hab x hx y hy
  cases q1:owner.getD a none with
  | none=>rw [q1] at hx;exact absurd hx (by simp)
  | some k1=>cases q2:owner.getD b none with
   | none=>rw [q2] at hy;exact absurd hy (by simp)
   | some k2=>
    rw [q1] at hx;rw [q2] at hy
    have hx:(a,k1)=x:=by simpa using hx
    have hy:(b,k2)=y:=by simpa using hy
    subst hx;subst hy;exact hab
 have ord:(live.map (·.2)).Perm (QG es.size):=by
  rw [V4 _ SV]
  ·intro k
   rw [QE,Ra]
   constructor
   ·rintro ⟨p,hp,rfl⟩
    obtain ⟨h1,h2⟩:=(lv p).mp hp
    rw [h2,<-hlen]
    exact RP h1
   ·intro hk
    rw [<-hlen] at hk
    exact ⟨(G[k],k),(lv _).mpr ⟨Sg _,(O.nd.idxOf_getElem k hk).symm⟩,rfl⟩
  ·show (live.map (·.2)).Pairwise _
   rw [RC]
   refine (Tp.mp so1).imp ?_
   rintro a b ⟨ha,hb,hab⟩ z
   obtain ⟨a1,a2⟩:=(lv a).mp ha
   obtain ⟨b1,b2⟩:=(lv b).mp hb
   rw [a2,b2] at z
   have ga:=Uh (RP a1)
   have gb:=Uh (RP b1)
   have:a.1=b.1:=by
    rw [<-ga,<-gb]
    congr 1
   omega
 unfold laid at e
 rw [e0] at e
 have e1:(live.map (·.2)).toArray=order:=by
  have:=RS e
  exact congrArg abl this
 rw [<-e1]
 exact ord
theorem Et {w:Nat}(hm:lR (sizeAbove w - 1)) (hl:es.size<=sizeAbove w - 1):∃t' es' L',relayAll t es w=(es',t',false)/\t'.mask=sizeAbove w - 1/\t'.led=t.led/\t'.plain=t.plain/\Tab t' es' L'/\es'.toList.Perm es.toList:=by
 obtain ⟨t',order,L',e1,e2,e3,e4,e5,e6⟩:=vM (t:=t) (es:=es) hm hl
 have od:order.toList.Perm (QG es.size):=Fw hm hl e1
 refine ⟨t',order.filterMap (es[·]?),L',?_,e2,e3,e4,e5,e6⟩
 unfold relayAll
 rw [e1]
 dsimp only
 have c1:coversAll order es.size=true:=by unfold coversAll;exact List.isPerm_iff.mpr od
 rw [c1,cM e5]
 rfl
end
end DL
namespace DL
open PySem PySem.Spec PyProof.Rows L2 ST
inductive fz:List (Int×Qy)->List Int->Prop
 | nil:fz [] []
 | cons {i:Int}{k:Tok}{es:List (Int×Qy)}{ns:List Int}:fz es ns->fz ((UA i,.int i k)::es) (i::ns)
theorem fz.perm {es es':List (Int×Qy)}(p:es.Perm es'):∀{ns:List Int},fz es ns->∃ns',ns.Perm ns'/\fz es' ns':=by
 induction p with
 | nil=>intro ns h;exact ⟨ns,.refl _,h⟩
 | cons x _ ih=>
  intro ns h
  cases h with
  | cons h3=>obtain ⟨ns',a,b⟩:=ih h3;exact ⟨_,a.cons _,.cons b⟩
 | swap x y l=>
  intro ns h
  cases h with
  | cons h3=>cases h3 with
   | cons h6=>exact ⟨_,.swap _ _ _,.cons (.cons h6)⟩
 | trans _ _ ih1 ih2=>
  intro ns h
  obtain ⟨k1,a,b⟩:=ih1 h
  obtain ⟨k2,c,d⟩:=ih2 b
  exact ⟨k2,a.trans c,d⟩
theorem fz.length {es:List (Int×Qy)}{ns:List Int}(h:fz es ns):es.length=ns.length:=by
 induction h with
 | nil=>rfl
 | cons _ ih=>simp [ih]
structure jy (h:Sh) (a:QW) (led:Bool) (ns:List Int) (es:Array (Int×Qy)) (ep:Nat) (t:RM):Prop where
 at_:h.get? a=some {cls:=.type "set",dict:=none,data:=.set es ep t}
 tab:∃L,Tab t es L
 pl:t.plain=true
 ld:t.led=led
 rm:ns.length * 5 < t.mask * 3
 en:fz es.toList ns
 nd:ns.Nodup
section
variable {w:Ru}{prog:Q8}{E:Qy->QC->Prop}{A:Rx}{s:QC}
theorem fz.elems {es:List (Int×Qy)}{ns:List Int}(h:fz es ns):ElemsOf (Yy prog w) es:=by
 induction h with
 | nil=>exact λe he=>nomatch he
 | @cons i k es ns _ ih=>
  intro e he
  (rcases Q3.mp he with rfl | he)
  ·exact ⟨⟨i,aag _ _ _ _,rfl⟩,rfl⟩
  ·exact ih e he
theorem fz.find {es:List (Int×Qy)}{ns:List Int}(h:fz es ns) (i:Int):(es.findIdx? λe=>(Yy prog w).is i e.2)=none↔i∉ns:=by
 rw [List.findIdx?_eq_none_iff]
 induction h with
 | nil=>simp
 | @cons j k es ns _ ih=>
  rw [Q3,not_or,<-ih]
  have e:(Yy prog w).is i (.int j k)=decide (i=j):=KeyKind.is_eq_decide (aag prog w j k) i
  constructor
  ·intro h
   refine ⟨λz=>?_,λx hx=>h x (QF _ hx)⟩
   have:=h _ QH
   rw [e,z] at this
   simp at this
  ·rintro ⟨h1,h2⟩ x hx
   (rcases Q3.mp hx with rfl | hx)
   ·rw [e];simpa using h1
   ·exact h2 x hx
theorem add_int {a:QW}{es:Array (Int×Qy)}{ep:Nat}{t:RM}{led:Bool}{ns:List Int}{i:Int}{k:Tok}{Q:Bool->QC->Prop}(S:jy s.heap a led ns es ep t) (hl:ns.length < 76)
  (q1:i∈ns->Q false s) (q2:i∉ns->∀(h':Sh) ns' es' ep' t',RZ a s.heap h'->(i::ns).Perm ns'->jy h' a led ns' es' ep' t'->Q true {s with heap:=h'}):
  Q7 (Rb prog w) A (Xf a (.int i k) (UA i)) Q E s:=by
 obtain ⟨L,T⟩:=S.tab
 have lenL:L.length=ns.length:=by rw [nE T,<-QN,S.en.length]
 have hes:es.size=ns.length:=by rw [<-QN,S.en.length]
 obtain ⟨n0,b1,b2,b3⟩:=sN T.mo (UA i) (L.map (·.1)) (by rw [QA];exact T.fl)
 (unfold Xf ZY)
 refine Rn (Qw (Sl S.at_ rfl (cM T) ?_))
 dsimp only
 have sc:byScan (.int i k) es=true:=byScan_of (prog:=prog) (w:=w) (knd:=Yy prog w) rfl (by unfold scanBound;omega) S.en.elems
 rw [sc]
 simp only [if_true]
 unfold setAddByScan
 refine Qw ?_
 (refine Qw (Wk ?_))
 refine Qw (wpAny_setScan_of (knd:=Yy prog w) (k:=i) (aag _ _ _ _) S.at_ rfl (cM T) S.en.elems ?_)
 cases hr:List.findIdx? (λe=>(Yy prog w).is i e.2) es.toList with
 | some j=>
  dsimp only
  have hin:i∈ns:=Sb λz=>by
   have:=(S.en.find (prog:=prog) (w:=w) i).mpr z
   rw [hr] at this;cases this
  exact Qz (Qz (q1 hin))
 | none=>
  dsimp only
  have hm:i∉ns:=(S.en.find i).mp hr
  have rm:=S.rm
  have ln:=Iv T (UA i) (.int i k) n0 b2 b3 b1 (by rcases T.mo with h | h | h <;> rw [h] at rm ⊢ <;> omega)
  rw [ln]
  dsimp only
  (refine Qw (UP (a:=()) rfl ?_))
  obtain ⟨L',T',pm⟩:=T.put (UA i) (.int i k) n0 b2 b3 (yP _ _ _) (by rcases T.mo with h | h | h <;> rw [h] at rm ⊢ <;> omega)
  have fl:(t.put (pos t.mask (UA i) n0)).1.mask=t.mask/\(t.put (pos t.mask (UA i) n0)).1.plain=t.plain/\(t.put (pos t.mask (UA i) n0)).1.led=t.led:=⟨rfl,rfl,rfl⟩
  generalize t.put (pos t.mask (UA i) n0)=tp at T' fl ⊢
  obtain ⟨t',p⟩:=tp
  dsimp only at T' fl ⊢
  obtain ⟨f1,f2,f3⟩:=fl
  obtain ⟨ns',p1,p2⟩:∃ns',(i::ns).Perm ns'/\fz (Sn es p (UA i,.int i k)).toList ns':=by
   refine fz.perm (es:=(UA i,.int i k)::es.toList) ?_ (.cons S.en)
   rw [T'.en,T.en]
   exact (pm.map (·.2)).symm
  have nd':ns'.Nodup:=p1.nodup_iff.mp (Ss.mpr ⟨hm,S.nd⟩)
  have lk:ns'.length=ns.length + 1:=by rw [<-p1.length_eq];rfl
  rw [f2,S.pl]
  simp only [if_true]
  (refine Qw (UP (a:=true) rfl ?_))
  simp only [if_true]
  have esz:(Sn es p (UA i,Zg i k)).size=ns'.length:=by rw [<-QN,p2.length]
  refine Qw (Vm S.at_ rfl ?_ (by rw [esz,RI];omega))
  have hg:=Sm (Wr (Sn es p (UA i,.int i k)) t') S.at_ rfl
  have hfill:t'.fill=ns'.length:=by
   unfold Yp
   rw [T'.dm,<-QN,T'.pl,QA,nE T',esz]
   rfl
  split
  ·rename_i c
   simp only [Vo,Uw] at c
   unfold VB at c
   rw [hfill,f1,decide_eq_true_eq] at c
   have hW:(Sw (Vp ns'.length)=32/\ns'.length=5)\/(Sw (Vp ns'.length)=128/\ns'.length=19):=by
    unfold Vp
    rw [if_neg (by omega)]
    rcases T.mo with h | h | h
    ·rw [h] at c rm
     have:ns'.length=5:=by omega
     rw [this]
     exact .inl ⟨Al,rfl⟩
    ·rw [h] at c rm
     have:ns'.length=19:=by omega
     rw [this]
     exact .inr ⟨Am,rfl⟩
    ·rw [h] at c;omega
   have hmo:lR (Sw (Vp ns'.length) - 1):=by rcases hW with ⟨h,_⟩ | ⟨h,_⟩ <;> rw [h];exact .inr (.inl rfl);exact .inr (.inr rfl)
   rw [esz]
   obtain ⟨t2,es2,L2,g1,g2',g3,g4,g5,g6⟩:=Et (t:=t') (es:=Sn es p (UA i,.int i k)) hmo (by rw [esz];rcases hW with ⟨h,h'⟩ | ⟨h,h'⟩ <;> rw [h] <;> omega)
   rw [g1]
   dsimp only
   (refine Qw (UP (a:=()) rfl ?_))
   obtain ⟨ns2,r1,r2⟩:=p2.perm g6.symm
   have es2z:es2.size=ns'.length:=by rw [<-QN,r2.length,r1.length_eq]
   refine Qw (Vm (s:={s with heap:=s.heap.update a (Wr (Sn es p (UA i,.int i k)) t')}) hg rfl ?_ (by rw [es2z,RI];omega))
   have O_:=Sm (Wr es2 t2) hg rfl
   refine Qz (Qz (q2 hm _ ns2 _ _ _ ((Si _ _ _).trans (Si _ _ _)) (p1.trans r1) ⟨O_,⟨L2,g5⟩,g4.trans (f2.trans S.pl),g3.trans (f3.trans S.ld),?_,r2,r1.nodup_iff.mp nd'⟩))
   rw [<-r1.length_eq,g2']
   rcases hW with ⟨h,h'⟩ | ⟨h,h'⟩ <;> rw [h,h'] <;> omega
  ·rename_i c
   simp only [Vo,Uw] at c
   unfold VB at c
   rw [hfill,f1,decide_eq_true_eq] at c
   exact Qz (Qz (q2 hm _ ns' _ _ _ (Si _ _ _) p1 ⟨hg,⟨L',T'⟩,f2.trans S.pl,f3.trans S.ld,by rw [f1];omega,p2,nd'⟩))
end
theorem jy.keep {h h':Sh}{a:QW}{led:Bool}{ns:List Int}{es:Array (Int×Qy)}{ep:Nat}{t:RM}(S:jy h a led ns es ep t) (e:∀o,h.get? a=some o->h'.get? a=some o):jy h' a led ns es ep t:=
 ⟨e _ S.at_,S.tab,S.pl,S.ld,S.rm,S.en,S.nd⟩
section
variable {w:Ru}{prog:Q8}{R:Zi->QC->Prop}{A:Rx}{I:QW}{fp wr:List QW}{G:Array X3->Array X3->Prop}{n:Nat}{P:Nat->Qy->Prop}{St:Nat->QC->Prop}
theorem EF (W:WalksS prog w A.in1 I fp wr G n P St) (S:QW) (hSf:S∉fp) (val:Nat->Int) (hval:∀i v,P i v->∃t,v=.int (val i) t) (hn:n<=76){led:Bool}:
  ∀(k i:Nat) (s:QC) (ns:List Int) (es:Array (Int×Qy)) (ep:Nat) (t:RM),n - i=k->i<=n->St i s->jy s.heap S led ns es ep t->(∀d,d∈ns↔d∈(QG i).map val)->
   (∀s' ns' es' ep' t',Moved (S::wr) G s s'->jy s'.heap S led ns' es' ep' t'->(∀d,d∈ns'↔d∈(QG n).map val)->R (.ok (.ret .none)) s')->
   (Tf (Rb prog w) A (.builtin "set.update.loop" ⟨[.ref S,.ref I],[]⟩) R s):=by
 (have O6:S∉wr:=λh=>hSf (W.sub _ h))
 (have hsub:∀b∈wr,b∈S::wr:=λb hb=>QF _ hb)
 intro k
 induction k with
 | zero=>
  intro i s ns es ep t hk hi hst hS hm hR
  have hin:i=n:=by omega
  subst hin
  refine SM Sd ?_
  rw [Sx Rm _]
  (show Q7 _ A.in1 (Va (.ref I) >>= _) _ _ s)
  refine Qw (W.done s _ _ hst λs' OH=>?_)
  (show Q7 _ A.in1 (ret RB) _ _ s')
  exact Qz (hR s' ns es ep t (OH.mono hsub) (hS.keep λo e=>OH.heap S o O6 e) hm)
 | succ k ih=>
  intro i s ns es ep t hk hi hst hS hm hR
  have hlt:i < n:=by omega
  have hlen:ns.length<=i:=by
   have:=Ri hS.nd (λd hd=>(hm d).mp hd)
   simpa using this
  refine SM Sd ?_
  rw [Sx Rm _]
  (show Q7 _ A.in1 (Va (.ref I) >>= _) _ _ s)
  refine Qw (W.item i s _ _ hlt hst λv s' hP OP OH=>?_)
  obtain ⟨tk,rfl⟩:=hval i v hP
  have hS':=hS.keep (h':=s'.heap) λo e=>OH.heap S o O6 e
  have mem':∀(ns':List Int),(∀d,d∈ns'↔d=val i\/d∈ns)->∀d,d∈ns'↔d∈(QG (i + 1)).map val:=λns' h d=>by
   rw [h d,hm d,TU,Rg,Rt]
   simp only [Q5,Uj,Q6]
   exact Or.comm
  show Q7 _ A.in1 (holding [.int (val i) tk] (setAdd S (.int (val i) tk)) >>= _) _ _ s'
  (refine Qw (Rn ?_))
  unfold setAdd
  refine Rn ?_
  (refine Qw (WK ?_))
  refine add_int (s:={s' with toks:=s'.toks + 1}) hS' (by omega) (λhin=>?_) (λhin h' ns' es' ep' t' O5 PN Pn=>?_)
  ·refine Qz ⟨Ux Rm _,ih (i + 1) _ ns es ep t (by omega) hlt (W.frame _ s' _ _ OP (Sv _) λb hb o e=>e) hS' (mem' ns λd=>⟨.inr,λh=>h.elim (λh=>h▸hin) id⟩) λs'' ns'' es'' ep'' t'' hm'' hS'' OR=>?_⟩
   exact hR s'' ns'' es'' ep'' t'' (XY W.gtrans ((OH.mono hsub).then_heap (Sv _) λb o hb e=>e) hm'') hS'' OR
  ·refine Qz ⟨Ux Rm _,ih (i + 1) _ ns' es' ep' t' (by omega) hlt (W.frame _ s' _ _ OP (Sv _) λb hb o e=>?_) Pn (mem' ns' λd=>?_) λs'' ns'' es'' ep'' t'' hm'' hS'' OR=>?_⟩
   ·(rw [O5.2 b (λh:b=S=>hSf (by rw [<-h];exact hb))];exact e)
   ·rw [<-PN.mem_iff,Q3]
   ·refine hR s'' ns'' es'' ep'' t'' (XY W.gtrans ((OH.mono hsub).then_heap (Sv _) λb o hb e=>?_) hm'') hS'' OR
    (rw [O5.2 b (λh:b=S=>hb (by rw [h];exact QH))];exact e)
end
theorem Ct {h:Sh}{a:QW}{led:Bool}(e:h.get? a=some {cls:=.type "set",dict:=none,data:=.set #[] 0 (.fresh 0 0 led)}):jy h a led [] #[] 0 (.fresh 0 0 led):=
 ⟨e,⟨[],⟨rfl,rfl,rfl,TM,(λ_ h=>nomatch h),.inl rfl,Rl _,(λ_ h=>nomatch h)⟩⟩,rfl,rfl,(show 0 * 5 < 7 * 3 by decide),.nil,Tv⟩
section
variable {w:Ru}{prog:Q8}{A:Rx}{s:QC}{E:Qy->QC->Prop}
theorem wO {l:QW}{items:Array Qy}{ds:List Int}{Q:Qy->QC->Prop}(hh:A.handled=none) (hl:s.heap.IsTuple l items) (hz:items.size=ds.length) (hi:∀(i:Nat) (v:Qy),items[i]?=some v->∃t,v=.int (ds.getD i 0) t) (hn:ds.length<=76)
  (h:∀(h':Sh) (tk:Nat) ks es ep t,jy h' s.heap.objs.size (cK w) ks es ep t->(∀d,d∈ks↔d∈ds)->(∀b o,b < s.heap.objs.size->s.heap.get? b=some o->h'.get? b=some o)->Q (.ref s.heap.objs.size) {s with heap:=h',toks:=tk}):
  (Q7 (Rb prog w) A (call (.type "set") [.ref l]) Q E s):=by
 (obtain ⟨c,tl,PF⟩:=R5.mro)
 (have hmade:=R5.made)
 have hsub:=R5.sub
 (refine Xp (U_ ?_))
 (show Q7 _ _ (callAny (.type "set") _) _ _ _)
 (refine Qz ⟨Yq _ (by decide +kernel),SM YS ?_⟩)
 (rw [Yr (Xh "set" [.ref l] []) rfl])
 (have h1:=R5.notType)
 (have h2:=R5.canCreate)
 have hct:=W3 (.ref l)
 (repeat (any_goals (first | assumption | wp_step)))
 refine Tj (ze (.ref l) (E:=E) (Q₁:=λobj s₁=>obj=.ref s.heap.objs.size/\s₁={s with heap:=s.heap.push (eW (cK w))}) ⟨rfl,rfl⟩) λr s₁ hr=>?_
 cases r with
 | error e=>exact hr
 | ok fl=>
  cases fl with
  | ret obj=>
   obtain ⟨rfl,rfl⟩:=hr
   have hS:(s.heap.push (eW (cK w))).get? s.heap.objs.size=some (eW (cK w)):=QV _ rfl
   have hT:U9 {s with heap:=s.heap.push (eW (cK w))} (.ref s.heap.objs.size) "set":=⟨_,hS,rfl⟩
   (have hli:=R5.init.lookup)
   (have hbi:=R5.init.bind (.ref s.heap.objs.size))
   (repeat (any_goals (first | assumption | wp_step)))
   refine Tj (VF (R:=wants (λr s₂=>r=.none/\∃h' tk ks es ep t,s₂={s with heap:=h',toks:=tk}/\jy h' s.heap.objs.size (cK w) ks es ep t/\(∀d,d∈ks↔d∈ds)/\
     (∀b o,b < s.heap.objs.size->s.heap.get? b=some o->h'.get? b=some o)) E) R5.init.plain Za ((Zb hT ?_))) λr₂ s₂ hr₂=>?_
   ·obtain ⟨ol,Pd,hcl,nl,hdl⟩:=id hl
    have OO:(s.heap.push (eW (cK w))).get? l=some ol:=QI _ Pd
    have PX:=vX
    have PV:=vW
    have hne:(Um "tuple" == Um "dict")=false:=by decide
    have hl1:(s.heap.push (eW (cK w))).IsTuple l items:=⟨_,OO,hcl,nl,hdl⟩
    have P8:U9 {s with heap:=s.heap.push (eW (cK w))} (.ref l) "tuple":=⟨_,OO,hcl⟩
    (unfold UN.«set.__init__» noKeywords VM)
    generalize Pk:Wi=PI
    wp_walk
    subst Pk
    refine (V5 hl1 ?_)
    refine (Qw (XJ ?_))
    (have hlS:l < s.heap.objs.size:=QY Pd)
    have z1:(s.heap.push (eW (cK w))).objs.size=s.heap.objs.size + 1:=Ud _ _
    have O3:l≠(s.heap.push (eW (cK w))).objs.size:=by rw [z1];exact Rf (SE hlS)
    have hSf:s.heap.objs.size∉[(s.heap.push (eW (cK w))).objs.size,l]:=by
     rw [z1]
     simp only [Q3,Sf,or_false,not_or]
     (exact ⟨Rf (Tg _),Ui hlS⟩)
    have hno:∀b,s.heap.objs.size<=b->s.heap.get? b=none:=λb hb=>by
     cases q:s.heap.get? b with
     | none=>rfl
     | some o=>exact absurd (QY q) (abr.mpr hb)
    have hval:∀(i:Nat) (v:Qy),items[i]?=some v->∃t,v=.int (ds.getD i 0) t:=hi
    have all:(QG items.size).map (λi=>ds.getD i 0)=ds:=by
     refine UL (by simp [hz]) λi a b=>?_
     simp [b]
    refine EF (A:=A.in1.in1) (led:=cK w) ((abe (A:=A.in1.in1.in1) (by simp [hh]) (s.heap.push (eW (cK w))).objs.size l O3 items).toS) s.heap.objs.size hSf (λi=>ds.getD i 0) hval (by omega) items.size 0 _ [] #[] 0 (.fresh 0 0 (cK w)) (by omega) (Rl _) ⟨⟨_,QV _ rfl,rfl,rfl⟩,hl1.push _⟩ (Ct (QI _ hS)) (λd=>by simp) λs' ks es ep t hm hS' hmem=>?_
    ·rw [all] at hmem
     (obtain ⟨h',g',d',tk',os'⟩:=s')
     (have eg:g'=s.gens:=hm.gens)
     (have ed:d'=s.drawn:=hm.drawn)
     have eo:os'=s.os:=hm.os
     subst eg;subst ed;subst eo
     show Q7 _ _ _ _ _ _
     refine Qz ?_
     (show Q7 _ _ (ret RB) _ _ _)
     refine Qz ⟨rfl,h',tk',ks,es,ep,t,rfl,hS',hmem,λb o hb e=>?_⟩
     refine hm.heap b o ?_ (QI _ (QI _ e))
     rw [z1]
     simp only [Q3,Sf,or_false,not_or]
     exact ⟨Rf hb,Rf (SE hb)⟩
   ·cases r₂ with
    | error e=>exact hr₂
    | ok fl₂=>
     cases fl₂ with
     | ret r=>
      obtain ⟨rfl,h',tk,ks,es,ep,t,rfl,hS',hm',hk'⟩:=hr₂
      (repeat (any_goals (first | assumption | wp_step)))
      exact h _ _ _ _ _ _ hS' hm' hk'
     | _=>exact hr₂.elim
  | _=>exact hr.elim
end
end DL
namespace DL
open PySem PySem.Spec PyProof.Rows L2 ST DX
open PySem.W (KasT kas_sort kas_ask)
theorem jy.wk {h:Sh}{a:QW}{led:Bool}{ns:List Int}{es:Array (Int×Qy)}{ep:Nat}{t:RM}(S:jy h a led ns es ep t):jf h a led es ep t:=⟨S.at_,S.tab,S.pl,S.ld⟩
def Ba:D->Int
 | .int i=>i
 | _=>0
theorem L8 {ds:List D}(h:ds.all isInt=true):ds=(ds.map Ba).map .int:=by
 induction ds with
 | nil=>rfl
 | cons d r ih=>
  rw [Us,QK] at h
  cases d with
  | int i=>rw [Q5,Q5,<-ih h.2];rfl
  | _=>cases h.1
abbrev ow (X:Cx) (a:QW) (ms:List Int):HO:=.ext λh=>∃ns es ep t,jy h a (cK X.w) ns es ep t/\∀d,d∈ns↔d∈ms
theorem int_at {K:Qx}{J:Hp}{ms:List Int}{vs:List V}{us:List Qy}(rs:aI K J (ms.map .int) vs) (rv:Vals vs us):∀(i:Nat) (v:Qy),us.toArray[i]?=some v->∃t,v=.int (ms.getD i 0) t:=λi v q=>by
 have l1:vs.length=us.length:=rv.length
 have l2:(ms.map D.int).length=vs.length:=rs.length
 have hi:i < us.length:=by
  have:=(RQ.mp q).1
  simpa using this
 have e:us.getD i RB=v:=by
  simp at q
  simp [Xi,q]
 have r1:=eX rs (i:=i) (by omega)
 have r2:=eY rv (i:=i) (by omega)
 rw [e] at r2
 have lm:i < ms.length:=by rw [QA] at l2;omega
 have e2:cO (ms.map D.int) i=.int (ms.getD i 0):=by
  unfold cO
  simp [Xi,lm]
 rw [e2] at r1
 generalize vs.getD i V.non=vv at r1 r2
 cases r1
 exact r2
section
variable {X:Cx}
theorem Dg (hc:X.calm=true):bU X (.type "set") (λxs H Q=>∃p vs ms J0,xs=[.ref p]/\cY X.K H p vs/\aI X.K J0 (ms.map .int) vs/\ms.length < 64/\∀l,H l=none->Q (.ref l) (upd H l (ow X l ms))):=by
 intro pins s σ H xs us Q I r h
 obtain ⟨p,vs,ms,J0,rfl,hq,rs,l64,q⟩:=h
 obtain ⟨u,rfl,rx⟩:=vals1 r
 cases rx
 have hh:X.A.handled=none:=I.ok.hd hc
 have fr:H s.heap.objs.size=none:=I.hok.fresh (QL _)
 obtain ⟨its,r',pt,hz⟩:=I.tuple hq
 have lm:(ms.map D.int).length=vs.length:=rs.length
 rw [QA] at lm
 refine wO hh pt (by simp [<-r'.length,lm]) (int_at rs r') (by omega) λh' tk ks es ep t S hm kp=>?_
 exact ⟨.ref s.heap.objs.size,_,I.laid (t':=tk) (λb o e=>kp b o (QY e) e) (QL _) (show cg X.prog X.w _ _ _ (ow X s.heap.objs.size ms) from ⟨⟨ks,es,ep,t,S,hm⟩,⟨_,S.at_⟩,λh1 h2 ⟨ks,es,ep,t,S,hm⟩ e=>⟨ks,es,ep,t,S.keep e,hm⟩⟩),rfl,q _ fr⟩
theorem fz.reps {es:List (Int×Qy)}{ns:List Int}(h:fz es ns):∃vs,(∀(K:Qx) (J:Hp),aI K J (ns.map .int) vs)/\Vals vs (es.map (·.2))/\UM (es.map (·.2)) ns:=by
 induction h with
 | nil=>exact ⟨[],λK J=>.nil,.nil,.nil⟩
 | @cons i k es ns _ ih=>
  obtain ⟨vs,h1,h2,h3⟩:=ih
  exact ⟨.int i::vs,λK J=>.cons (.int _) (h1 K J),.cons ⟨k,rfl⟩ h2,.cons i k h3⟩
theorem zP (hc:X.calm=true):bU X (.builtin "sorted") (λxs H Q=>∃p ms,xs=[.ref p]/\H p=some (ow X p ms)/\ms.length < 64/\∀l vs',H l=none->(∀J0,aI X.K J0 (cS (ms.map .int)) vs')->Q (.ref l) (upd H l (.lst vs'))):=by
 intro pins s σ H xs us Q I r h
 obtain ⟨p,ms,rfl,hp,l64,q⟩:=h
 obtain ⟨u,rfl,rx⟩:=vals1 r
 cases rx
 have hh:X.A.handled=none:=I.ok.hd hc
 obtain ⟨⟨ns,es,ep,t,S,hm⟩,_⟩:=(show cg X.prog X.w H s.heap p (ow X p ms) from I.hok p _ hp)
 obtain ⟨ns',pm,en'⟩:=S.en.perm (mL X.w p ep es).symm
 have nd':ns'.Nodup:=pm.nodup_iff.mp S.nd
 have hm':∀d,d∈ns'↔d∈ms:=λd=>by rw [<-pm.mem_iff,hm d]
 obtain ⟨vs,rs,rv,hI⟩:=en'.reps
 have hv:iG X.w p ep es=(fY X.w p ep es).toList.map (·.2):=rfl
 rw [<-hv] at rv hI
 generalize hits:iG X.w p ep es=its at rv hI
 have l1:vs.length=its.length:=rv.length
 have l2:(ns'.map D.int).length=vs.length:=(rs X.K H).length
 have len:ns'.length<=ms.length:=Ri nd' λd hd=>(hm' d).mp hd
 have les:es.size=ns'.length:=by rw [<-QN,S.en.length,pm.length_eq]
 have ndD:(ns'.map D.int).Nodup:=RC.mpr (Vj (λh e=>h (by cases e;rfl)) nd')
 have Pz:∀d,d∈ns'.map D.int↔d∈ms.map D.int:=λd=>by simp only [QE,hm']
 have allI:∀d∈ms.map D.int,jx .i d:=λd hd=>by obtain ⟨i,_,rfl⟩:=QE.mp hd;exact ⟨i,rfl⟩
 have out:=zk (fQ .i) allI ndD Pz
 have lm:(ns'.map D.int).length=ns'.length:=QA _
 generalize hk:ns'.map D.int=ks' at *
 have fin:∀(h':Sh) (tk:Nat) (l:QW) (n:Nat) (ot:List Qy) (vs':List V),vs'.length=vs.length->Vals vs' ot->(∀J0,aI X.K J0 (bB ks') vs')->(∀b o,s.heap.get? b=some o->h'.get? b=some o)->s.heap.objs.size<=l->h'.get? l=some (S0 "list" ot.toArray n)->EP X pins σ Q (.ref l) {s with heap:=h',toks:=tk}:=λh' tk l n ot vs' lv rv' rr kp hl hg=>by
  refine ⟨.ref l,_,I.laid (t':=tk) kp hl (show cg X.prog X.w _ _ _ (.lst vs') from ⟨by rw [lv,RI];omega,ot,n,rv',by simpa [S0] using hg⟩),rfl,q l vs' (I.hok.fresh hl) (by rw [<-out];exact rr)⟩
 refine sortedS (κ:=aaw) (q:=ltB ks') (vs:=its) hits hh S.wk (by omega) ?_ λh' tk l n kp hl hg=>?_
 ·by_cases h2:its.length < 2
  ·exact .inl h2
  ·refine .inr ⟨by omega,by omega,λh' tk C kp cc=>?_,λh' tk kp i j C hi hj cc=>?_⟩
   ·have hl:2<=its.length:=by omega
    clear fin l1 rv hits
    match its,hI,hl with
    | v1::v2::r,hI,_=>rw [keyKind_ints hI];exact Qz cc
   ·have hi':i < ks'.length:=by omega
    have hj':j < ks'.length:=by omega
    have ai:=allI _ ((Pz _).mp (eH hi'))
    have aj:=allI _ ((Pz _).mp (eH hj'))
    have r1:=eX (rs X.K H) hi'
    have r2:=eX (rs X.K H) hj'
    have v1:=eY rv (i:=i) (by omega)
    have v2:=eY rv (i:=j) (by omega)
    show Q7 _ _ (keyLt' aaw (its.getD i RB) (its.getD j RB)) _ _ _
    rw [ZV]
    have e:ltB ks' i j=(dQ (cO ks' i) (cO ks' j)).getD false:=rfl
    rw [e] at cc
    obtain ⟨a,ea⟩:=ai
    obtain ⟨b,eb⟩:=aj
    rw [ea] at r1 cc
    rw [eb] at r2 cc
    generalize vs.getD i V.non=wi at r1 v1
    generalize vs.getD j V.non=wj at r2 v2
    cases r1;cases r2
    obtain ⟨t1,q1⟩:=v1
    obtain ⟨t2,q2⟩:=v2
    rw [q1,q2]
    refine aaN ?_
    unfold dQ at cc
    exact cc
 ·by_cases h2:its.length < 2
  ·rw [if_pos h2] at hg
   refine fin h' tk l n its vs rfl rv ?_ kp hl hg
   unfold bB
   rw [if_pos (by omega)]
   exact λJ0=>rs _ J0
  ·rw [if_neg h2] at hg
   have ib:∀i∈(aX (ltB ks') (S6 ks'.length)).toList,i < ks'.length:=λi hi=>by
    have:=((eT (n:=ks'.length) (by omega)).run (ltB ks'):eS _ _)
    have:=(Tn this).mp (UB.mp hi)
    simpa using this
   have e1:iJ (ltB ks') its=(aX (ltB ks') (S6 ks'.length)).toList.map λi=>its.getD i RB:=by unfold iJ;rw [l2,l1]
   rw [e1] at hg
   refine fin h' tk l n _ _ ?_ (nF rv _ λi hi=>l2▸ib i hi) ?_ kp hl hg
   ·rw [QA,<-l2]
    have:=((eT (n:=ks'.length) (by omega)).run (ltB ks'):eS _ _).size_eq
    simpa using this
   ·unfold bB
    rw [if_neg (by omega)]
    exact λJ0=>nv (rs _ J0) _ ib
end
end DL
namespace DL
open PySem PySem.Spec PyProof.Rows L2 ST DX
theorem Dc:RL "set"=some (.type "set"):=by decide +kernel
section
variable {X:Cx}{c:C}{e:Rp}{pos pos2:Pos}
def gq:List R->M R
 | [.d (.tup ys)]=>if pM ys=true then .ok (.l .fresh (cS ys)) else if qX ys=true then .ok (.l .fresh (cS ys)) else .bad
 | _=>.bad
def LD (X:Cx):List V->Hp->VK->Prop:=λxs H Q=>∃p vs ms J0,xs=[.ref p]/\cY X.K H p vs/\aI X.K J0 (ms.map .int) vs/\ms.length < 64/\∀l,H l=none->Q (.ref l) (upd H l (ow X l ms))
def LF (X:Cx):List V->Hp->VK->Prop:=λxs H Q=>∃p vs ds J0,xs=[.ref p]/\cY X.K H p vs/\aU J0 H/\aI X.K J0 ds vs/\pM ds=true/\∀l,H l=none->Q (.ref l) (upd H l (oz X J0 l ds))
def Gp (X:Cx):List V->Hp->VK->Prop:=λxs H Q=>∃p ms,xs=[.ref p]/\H p=some (ow X p ms)/\ms.length < 64/\∀l vs',H l=none->(∀J0,aI X.K J0 (cS (ms.map .int)) vs')->Q (.ref l) (upd H l (.lst vs'))
def Gq (X:Cx):List V->Hp->VK->Prop:=λxs H Q=>∃p ds J0,xs=[.ref p]/\H p=some (oz X J0 p ds)/\aU J0 H/\pM ds=true/\∀l vs',H l=none->aI X.K J0 (cS ds) vs'->Q (.ref l) (upd H l (.lst vs'))
theorem pR {p p2:Pos}{gs:G (List R)}(hu:X.A.units + 64 < Sy) (ha:kQ X c [e] gs) (hm:X.mg "sorted"=none) (hm2:X.mg "set"=none) (hK:X.K=c.K:=by rfl) (hc:X.calm=true:=by rfl) (hg:Gl X "sorted":=by rfl) (O_:Gl X "set":=by rfl)
  (he:QU [.Call (.Name "set" p2) [e] [] pos2] X.env=(false,eval (.Call (.Name "set" p2) [e] [] pos2) X.env)::QU [] X.env:=by rfl) (hpl:(SY pos (QU [] X.env)).any (·.1)=false:=by rfl)
  (O8:QU [e] X.env=(false,eval e X.env)::QU [] X.env:=by rfl) (PM:(SY pos2 (QU [] X.env)).any (·.1)=false:=by rfl):
  QD X c (.Call (.Name "sorted" p) [.Call (.Name "set" p2) [e] [] pos2] [] pos) (gN gq gs):=by
 have ha:=ha.h
 refine ⟨?_⟩
 have h1:=l_ (p:=p2) (pos:=pos2) (bU.or (show bU X (.type "set") (LF X) from Dh hu hc) (show bU X (.type "set") (LD X) from Dg hc)) O_ hm2 Dc ha (by decide) (by decide) O8 PM
 have h2:=rL (p:=p) (pos:=pos) (bU.or (show bU X (.builtin "sorted") (Gq X) from BG hu hc) (show bU X (.builtin "sorted") (Gp X) from zP hc)) hg hm kU (fk h1 iD he) (by decide) (by decide) he hpl
 refine FZ (ta:=Cy) (f:=gq) (r:=λvs H1 Q=>(LF X vs H1 λv H2=>Gq X [v] H2 Q\/Gp X [v] H2 Q)\/(LD X vs H1 λv H2=>Gq X [v] H2 Q\/Gp X [v] H2 Q)) h2 rfl ?_
 intro He J H xs vs Q hp rs w
 unfold gq at w
 split at w
 ·rename_i ys
  obtain ⟨v,rfl,r⟩:=rs.one
  cases r with
  | tup h hs=>
   have hT:∀{p:QW}{us:List V},cY c.K J p us->cY X.K H p us:=λh=>by rw [hK];exact fP hp.sub h
   have fin:∀(o:QW->HO) (w:∀w J' H',Ext J H J' H'->RR c H J' H' (.l .fresh (cS ys)) w->Q w H') (l l2:QW) (vs':List V),H l=none->upd H l (o l) l2=none->aI X.K J (cS ys) vs'->Q (.ref l2) (upd (upd H l (o l)) l2 (.lst vs')):=λo w l l2 vs' hl h2 rr=>by
    rw [hK] at rr
    have e1:=Ext.new hp.sub hl (o l)
    have e2:=Ext.new e1.sub h2 (.lst vs')
    exact w _ _ _ (e1.trans e2) (RR.from e1.h (jn (hp.ext e1) h2 rr))
   split at w
   ·rename_i ok
    exact .inl ⟨_,_,ys,J,rfl,hT h,hp.sub,by rw [hK];exact hs,ok,λl hl=>.inl ⟨l,ys,J,rfl,bX,(Ext.new hp.sub hl _).sub,ok,λl2 vs' h2 rr=>fin (λl=>oz X J l ys) w l l2 vs' hl h2 rr⟩⟩
   ·split at w
    ·rename_i ok
     unfold qX at ok
     rw [QK] at ok
     have o1:=of_decide_eq_true ok.1
     have ey:=L8 ok.2
     refine .inr ⟨_,_,ys.map Ba,J,rfl,hT h,by rw [hK,<-ey];exact hs,by rw [QA];exact o1,λl hl=>.inr ⟨l,ys.map Ba,rfl,bX,by rw [QA];exact o1,λl2 vs' h2 rr=>?_⟩⟩
     rw [<-ey] at rr
     exact fin (λl=>ow X l (ys.map Ba)) w l l2 vs' hl h2 (rr _)
    ·exact w.elim
 ·exact w.elim
end
end DL
namespace DL
open PySem PySem.Spec PyProof.Rows L2 DX
end DL
namespace K55
open PySem DL
def zD:List Str:=["told","least","most"]
def qS:G O:=(b9 (m_ (iI (bN (gN (aS 1 K01.iP) (ao (af 0) aC)))) (m_ (bN (g2 (jO λi j=>.bl (decide (i < j))) (af 0) (af 1))) (bN (g2 (jO λi j=>.bl (decide (j < i))) (af 0) (af 2))))) sS eU)
def cX (as:List S):M R:=fin (qS (bq zD as))
def zB:List Str:=["_law_cell_here","_law_many","_law_left","_law_found","_law_k"]
def qQ:G O:=(aM (bg 2 (G5 (ao (af 1) aC)))
 (aM (bg 3 (gK aT))
 (aM (iu (cu (ao (af 1) aC)) (aD 4) (aM (m9 3 2 (g2 dH (af 0) (gN gQ (ao (af 2) aC))))
 (bg 0 (g2 ig (af 0) (gC (.int 9))))))
 (bO (gN cI (ao (af 3) aC))))))
def iA (as:List S):M R:=fin (qQ (bq zB as))
def xD:List Str:=["_law_world_here","_law_order_here","_law_marks","_law_arrows"]
def pq:G O:=(aM (bg 2 (bJ 2 [1] (fc (g2 aW (af 0) (gC (.int 1)))) (eZ 2 (bL (aD 0) (bL (aD 1) fK))) cA (bz (aA (af 0) (aA (gN cI (ao (gN mY (ao (bJ 1 [2] (fc (af 1)) (aD 0) cA (g2 aW (af 1) (af 0))) aC)) aC)) aT)))))
 (aM (bg 3 (bJ 2 [1] (fc (g2 aW (af 0) (gC (.int 2)))) (eZ 2 (bL (aD 0) (bL (aD 1) fK))) cA (bz (aA (af 0) (aA (gN cI (ao (gN mY (ao (bJ 2 [2] (fc (af 1)) (eZ 2 (bL (aD 0) (bL (aD 1) fK))) cA (bz (aA (g2 aW (af 2) (af 0)) (aA (g2 aW (af 2) (af 1)) aT)))) aC)) aC)) aT)))))
 (bO (bz (aA (g2 aW (af 0) (gC (.int 0))) (aA (gN cI (ao (af 2) aC)) (aA (gN cI (ao (af 3) aC)) aT)))))))
def i9 (as:List S):M R:=fin (pq (bq xD as))
def wc:List Str:=["_law_world_here","_law_cell_here","_law_many","_law_marks","_law_arrows","_law_at","_law_thing","_law_some","_law_name","_law_had","_law_now"]
def oK:G O:=(aM (mK (eZ 3 (bL (aD 2) (bL (aD 3) (bL (aD 4) fK)))) (af 0))
 (aM (b9 (bN (g2 (fE false) (g2 dO (gN gQ (ao (af 3) aC)) (gN gQ (ao (af 4) aC))) (gC (.int 0)))) (bO (af 0)) eU)
 (aM (bg 5 (g2 dH (af 1) (g2 dO (gN gQ (ao (af 3) aC)) (gN gQ (ao (af 4) aC)))))
 (aM (bg 6 (g2 dH (g2 ig (af 1) (gC (.int 6))) (af 2)))
 (aM (bg 7 (af 3))
 (aM (b9 (bN (g2 (jO λi j=>.bl (decide (j<=i))) (af 5) (gN gQ (ao (af 3) aC)))) (aM (bg 5 (g2 Fb (af 5) (gN gQ (ao (af 3) aC))))
 (aM (bg 6 (bz (aA (af 6) (aA (g2 dH (g2 ig (af 1) (gC (.int 48))) (af 2)) aT))))
 (bg 7 (af 4)))) eU)
 (aM (mK (eZ 2 (bL (aD 8) (bL (aD 9) fK))) (g2 aW (af 7) (af 5)))
 (aM (bg 10 (gN cI (ao (gN gq (ao (g2 dO (af 9) (bz (aA (af 6) aT))) aC)) aC)))
 (aM (b9 (bN (g2 (jt false) (af 6) (af 9))) (bg 10 (gN cI (ao (bJ 1 [6] (fc (af 9)) (aD 0) (bN (g2 (fE true) (af 0) (af 1))) (af 0)) aC))) eU)
 (aM (bg 7 (g2 dO (g2 dO (AD uF (af 7) DE (DF (af 5))) (bz (aA (bz (aA (af 8) (aA (af 10) aT))) aT))) (AD uF (af 7) (DF (g2 dO (af 5) (gC (.int 1)))) DE)))
 (aM (b9 (bN (yp "tuple" (af 6))) (bO (bz (aA (af 2) (aA (af 3) (aA (af 7) aT))))) eU)
 (bO (bz (aA (af 2) (aA (af 7) (aA (af 4) aT))))))))))))))))
def fh (as:List S):M R:=fin (oK (bq wc as))
def CK:List Str:=["_law_script","_law_sizes","_law_first","_law_second","_law_marks","_law_names_here","_law_one","_law_way","_law_other"]
def vj:G O:=(aM (bg 2 (gN (aS 2 K51.bV) (ao (af 0) (ao (gC (.int 0)) aC))))
 (aM (bg 3 (gN (aS 2 K51.bV) (ao (af 0) (ao (gC (.int 1)) aC))))
 (aM (bg 4 (gN (aS 2 K51.gu) (ao (g2 ig (af 3) (gC (.int 20))) (ao (g2 aW (gK (aA (gC (.int 1)) (aA (gC (.int 0)) (aA (gC (.int 2)) (aA (gC (.int 3)) aT))))) (g2 dH (af 3) (gC (.int 4)))) aC))))
 (aM (jZ 4 (bg 5 (bz (aA (af 4) (aA (gN (aS 2 K51.gu) (ao (gN (aS 2 K51.bV) (ao (af 0) (ao (gC (.int 2)) aC))) (ao (g2 aW (gK (aA (gC (.int 1)) (aA (gC (.int 2)) (aA (gC (.int 0)) (aA (gC (.int 1)) (aA (gC (.int 3)) aT)))))) (g2 dH (g2 ig (af 3) (gC (.int 4))) (gC (.int 5)))) aC))) aT)))))
 (aM (bg 6 (gN (aS 3 K51.fM) (ao (af 5) (ao (g2 aW (af 1) (g2 dH (af 2) (gC (.int 8)))) (ao (bJ 1 [0] (cu (ao (gC (.int 6)) aC)) (aD 0) cA (gN (aS 2 K51.bV) (ao (af 1) (ao (g2 cW (gC (.int 3)) (af 0)) aC)))) aC)))))
 (aM (bg 7 (g2 dH (g2 ig (af 2) (gC (.int 8))) (gC (.int 4))))
 (aM (b9 (bN (g2 (fE false) (af 7) (gC (.int 0)))) (bO (bz (aA (af 6) (aA (gN (aS 3 K51.fM) (ao (af 5) (ao (g2 aW (af 1) (g2 dH (g2 ig (af 2) (gC (.int 32))) (gC (.int 8)))) (ao (bJ 1 [0] (cu (ao (gC (.int 6)) aC)) (aD 0) cA (gN (aS 2 K51.bV) (ao (af 1) (ao (g2 cW (gC (.int 9)) (af 0)) aC)))) aC)))) aT)))) eU)
 (aM (bg 8 (gN (aS 2 K55.i9) (ao (af 6) (ao (gN (aS 2 K55.iA) (ao (gN (aS 2 K51.bV) (ao (af 0) (ao (gC (.int 15)) aC))) (ao (g2 aW (af 6) (gC (.int 0))) aC))) aC))))
 (aM (b9 (bN (g2 (jO λi j=>.bl (decide (j < i))) (af 7) (gC (.int 1)))) (bg 8 (gN (aS 2 K55.fh) (ao (af 8) (ao (gN (aS 2 K51.bV) (ao (af 0) (ao (gC (.int 9)) aC))) aC)))) eU)
 (aM (b9 (bN (g2 (fE false) (af 7) (gC (.int 3)))) (bg 8 (gN (aS 2 K55.fh) (ao (af 8) (ao (gN (aS 2 K51.bV) (ao (af 0) (ao (gC (.int 10)) aC))) aC)))) eU)
 (bO (bz (aA (af 6) (aA (af 8) aT))))))))))))))
def jL (as:List S):M R:=fin (vj (bq CK as))
end K55
namespace K55
open PySem DL K01 WP K51 K52
theorem yi (a b:Nat):bw (dN a) (dN b)=(a == b):=by
 show ((a:Int) == (b:Int))=_
 by_cases h:a=b
 ·subst h;simp
 ·rw [beq_eq_false_iff_ne.mpr h,beq_eq_false_iff_ne.mpr (by omega)]
structure lQ (n:Nat) (w:Wd):Prop where
 mp:∀r∈w.ms,r.2.length<=n/\∀p∈r.2,p < w.m
 ap:∀r∈w.ar,r.2.length<=n/\∀p∈r.2,p.1 < w.m/\p.2 < w.m
abbrev N5 (w:Wd):Prop:=lQ 30 w
def em (m:Nat) (x:Nat×Nat):Nat:=if x.1=0 then x.2 else x.2 + m
theorem inN (l:Nat) (xs:List Nat):inD (dN l) (xs.map dN)=decide (l∈xs):=by
 unfold inD
 rw [V7,RV,SS,decide_eq_true_eq]
 constructor
 ·rintro ⟨x,hx,e⟩
  have e:bw (dN x) (dN l)=true:=e
  rw [yi] at e
  rw [<-eq_of_beq e];exact hx
 ·intro h
  exact ⟨l,h,by show bw (dN l) (dN l)=true;rw [yi];simp⟩
theorem vg (a b:Nat×Nat):bw (dP a) (dP b)=decide (a=b):=by
 have:bw (dP a) (dP b)=(bw (dN a.1) (dN b.1) && (bw (dN a.2) (dN b.2) && true)):=by
  show bw (.tup [dN a.1,dN a.2]) (.tup [dN b.1,dN b.2])=_
  rw [kH,gY,gY,cj]
 rw [this,yi,yi,RV]
 obtain ⟨a1,a2⟩:=a
 obtain ⟨b1,b2⟩:=b
 simp
theorem Nb (l:Nat×Nat) (xs:List (Nat×Nat)):inD (dP l) (xs.map dP)=decide (l∈xs):=by
 unfold inD
 rw [V7,RV,SS,decide_eq_true_eq]
 constructor
 ·rintro ⟨x,hx,e⟩
  have e:bw (dP x) (dP l)=true:=e
  rw [vg,decide_eq_true_eq] at e
  rw [<-e];exact hx
 ·intro h
  exact ⟨l,h,by show bw (dP l) (dP l)=true;rw [vg];simp⟩
theorem fp (i j:Int):dO (.d (.int i)) (.d (.int j))=.ok (.d (.int (i + j))):=rfl
theorem Fv {env:Ev}{Q:O->Prop}{g:G R}{i j k:Nat}{xs zs:List D}(h1:env[i]?=some (some (.own zs))) (h2:env[j]?=some (some (.own xs))) (hij:i≠j) (h:g env=.ok (.d (.int k))) (hk:k < xs.length) (lz:zs.length < 1000) (lx:xs.length<=1000)
  (c:Q (.nx ((env.set j (some (.own (xs.eraseIdx k)))).set i (some (.own (zs++[xs[k]])))))):Wp (m9 i j g env) Q:=by
 refine ⟨_,?_,c⟩
 unfold m9
 rw [h1,h2]
 show (if i=j then M.bad else (g env >>= _))=_
 rw [if_neg hij,h,aQ]
 show (if 0<=(k:Int)/\(k:Int).toNat < xs.length/\zs.length < sizeLine/\xs.length<=sizeLine then _ else _)=_
 rw [if_pos ⟨by omega,by simpa using hk,Rc lz (gS (QL _)),gS lx⟩]
 rw [Sz,QS hk]
def mE:D->Nat
 | .int i=>i.toNat
 | _=>0
def lK:D->Nat×Nat
 | .tup [x,y]=>(mE x,mE y)
 | _=>(0,0)
theorem uc (n:Nat):mE (dN n)=n:=rfl
theorem kD (n:Nat×Nat):lK (dP n)=n:=rfl
theorem back {α:Type}(h:α->D) (u:D->α) (hu:∀x,u (h x)=x){l:List D}(hl:∀d∈l,∃x,d=h x):(l.map u).map h=l:=by
 rw [Rk]
 refine (T6 (g:=id) λd hd=>?_).trans (List.map_id _)
 obtain ⟨x,rfl⟩:=hl d hd
 show h (u (h x))=h x
 rw [hu]
theorem vU {α:Type}(h:α->D) (u:D->α) (hu:∀x,u (h x)=x) (xs:List α):((bB (xs.map h)).map u).map h=bB (xs.map h):=back h u hu λd hd=>by
 obtain ⟨x,_,rfl⟩:=QE.mp (mz hd)
 exact ⟨x,rfl⟩
theorem A4 {α:Type}(h:α->D) (u:D->α) (hu:∀x,u (h x)=x) (xs:List α):∀y∈(bB (xs.map h)).map u,y∈xs:=λy hy=>by
 obtain ⟨d,hd,rfl⟩:=QE.mp hy
 obtain ⟨x,hx,rfl⟩:=QE.mp (mz hd)
 rw [hu];exact hx
def pF:Fm:=.tc .i (.tc .i .tn)
theorem pD (p:Nat×Nat):jx pF (dP p):=⟨_,rfl,_,_,rfl,⟨_,rfl⟩,_,rfl,_,_,rfl,⟨_,rfl⟩,[],rfl,rfl⟩
theorem Hf (xs:List Nat) (hl:xs.length < 64):qX (xs.map dN)=true:=by
 unfold qX
 rw [QA,decide_eq_true hl,Uw,Rw]
 intro d hd
 obtain ⟨x,_,rfl⟩:=QE.mp hd
 rfl
theorem Kr (xs:List (Nat×Nat)):∀d∈xs.map dP,iw d=some .i:=λd hd=>by
 obtain ⟨x,_,rfl⟩:=QE.mp hd
 rfl
theorem Mz (xs:List (Nat×Nat)) (hl:xs.length < 64):yN (xs.map dP)=true:=by
 have Qd:=Dv xs
 have hc:sG (xs.map dP)=true:=by
  unfold sG
  rw [Rw]
  intro x hx
  rw [Rw]
  intro y hy
  obtain ⟨a,_,rfl⟩:=QE.mp hx
  obtain ⟨b,_,rfl⟩:=QE.mp hy
  exact (fQ pF).lt _ _ (pD a) (pD b)
 unfold yN
 rw [hc,decide_eq_true Qd,QA,decide_eq_true hl]
 cases xs with
 | nil=>rfl
 | cons x xs=>
  have hh:FO ((x::xs).map dP)=true:=by
   show gV .i ((x::xs).map dP)=true
   exact nL (Kr (x::xs))
  rw [hh]
  simp
theorem NI (xs:List Nat) (hl:xs.length < 64):mY [.l .fresh (xs.map dN)]=.ok (.l .fresh (bB (xs.map dN))):=by
 show (if yN (xs.map dN)=true then M.ok (R.l .fresh (bB (xs.map dN))) else if qX (xs.map dN)=true then M.ok (R.l .fresh (bB (xs.map dN))) else .bad)=_
 rw [if_pos (Hf xs hl)]
 split <;> rfl
theorem NJ (xs:List (Nat×Nat)) (hl:xs.length < 64):mY [.l .fresh (xs.map dP)]=.ok (.l .fresh (bB (xs.map dP))):=by
 show (if yN (xs.map dP)=true then M.ok (R.l .fresh (bB (xs.map dP))) else if qX (xs.map dP)=true then M.ok (R.l .fresh (bB (xs.map dP))) else .bad)=_
 rw [if_pos (Mz xs hl)]
theorem Fo {ps:List Nat}{p:Nat}(hp:p < ps.length):aW (.d (.tup (ps.map dN))) (.d (dN p))=.ok (.d (dN (ps.getD p 0))):=by
 have h1:(ps.map dN)[p]?=some (dN (ps.getD p 0)):=by rw [Q_,QS hp];simp [Xi,hp]
 exact kI h1
def lI (w:Wd) (ps:List Nat):Wd:=⟨w.m,w.ms.map λr=>(r.1,(bB ((r.2.map λp=>ps.getD p 0).map dN)).map mE),w.ar.map λr=>(r.1,(bB ((r.2.map λp=>(ps.getD p.1 0,ps.getD p.2 0)).map dP)).map lK)⟩
theorem EN (w:Wd) (hw:mQ w) (n:Nat) (hn:n<=40) (hb:lQ n w) (ps:List Nat) (hl:ps.length=w.m):i9 [.d w.d,.d (.tup (ps.map dN))]=.ok (.d (lI w ps).d):=by
 have ml:=hw.ml
 have al:=hw.al
 refine cD (bA (lT (xs:=w.ms) (λr=>.str r.1) (λr=>.tup (r.2.map dN)) (λr=>lF (r.1,(bB ((r.2.map λp=>ps.getD p 0).map dN)).map mE)) ?_ (by omega) λr hr=>?_) rfl ?_)
 ·show (g2 aW (af 0) (gC (.int 1)) _ >>= _)=_
  rw [two (x:=.d w.d) rfl rfl (vB _ _ _)]
  rfl
 ·obtain ⟨h1,h2⟩:=hb.mp r hr
  refine ⟨_,bu (aF rfl rfl (aF (n1 (n1 (jY (xs:=r.2) (h:=dN) (λp=>dN (ps.getD p 0)) rfl (by omega) λp hp=>⟨_,two rfl rfl (Fo (by rw [hl];exact h2 p hp)),rfl⟩) (x:=.l .fresh (r.2.map λp=>dN (ps.getD p 0))) (z:=.l .fresh (bB ((r.2.map λp=>ps.getD p 0).map dN))) ?_) rfl) rfl bf)) t2,?_⟩
  ·have:=NI (r.2.map λp=>ps.getD p 0) (by simp;omega)
   rw [Rk] at this ⊢
   exact this
  ·unfold lF
   rw [vU dN mE uc]
   rfl
 refine bA (lT (xs:=w.ar) (λr=>.str r.1) (λr=>.tup (r.2.map dP)) (λr=>pS (r.1,(bB ((r.2.map λp=>(ps.getD p.1 0,ps.getD p.2 0)).map dP)).map lK)) ?_ (by omega) λr hr=>?_) rfl ?_
 ·show (g2 aW (af 0) (gC (.int 2)) _ >>= _)=_
  rw [two (x:=.d w.d) rfl rfl (Oa _ _ _ _)]
  rfl
 ·obtain ⟨h1,h2⟩:=hb.ap r hr
  refine ⟨_,bu (aF rfl rfl (aF (n1 (n1 (lT (xs:=r.2) (λp=>dN p.1) (λp=>dN p.2) (λp=>dP (ps.getD p.1 0,ps.getD p.2 0)) rfl (by omega) λp hp=>⟨_,bu (aF (two rfl rfl (Fo (by rw [hl];exact (h2 p hp).1))) rfl (aF (two rfl rfl (Fo (by rw [hl];exact (h2 p hp).2))) rfl bf)) t2,rfl⟩) (x:=.l .fresh (r.2.map λp=>dP (ps.getD p.1 0,ps.getD p.2 0))) (z:=.l .fresh (bB ((r.2.map λp=>(ps.getD p.1 0,ps.getD p.2 0)).map dP))) ?_) rfl) rfl bf)) t2,?_⟩
  ·have:=NJ (r.2.map λp=>(ps.getD p.1 0,ps.getD p.2 0)) (by simp;omega)
   rw [Rk] at this ⊢
   exact this
  ·unfold pS
   rw [vU dP lK kD]
   rfl
 refine bR (bu (aF (two rfl rfl (eV _ _)) rfl (aF rfl rfl (aF rfl rfl bf))) (by show 3<=1000;decide)) rfl ?_
 unfold lI Wd.d
 simp only [Rk]
 rfl
theorem M4 (w:Wd) (hw:mQ w) (n:Nat) (hb:lQ n w) (ps:List Nat) (hl:ps.length=w.m) (hp:∀p∈ps,p < w.m):mQ (lI w ps)/\lQ n (lI w ps)/\(lI w ps).m=w.m/\(lI w ps).ms.length=w.ms.length/\(lI w ps).ar.length=w.ar.length:=by
 have gd:∀p,p < w.m->ps.getD p 0 < w.m:=λp h=>by
  have h':p < ps.length:=by omega
  rw [show ps.getD p 0=ps[p] by simp [Xi,h']]
  exact hp _ (Sg h')
 refine ⟨⟨hw.lo,hw.hi,?_,?_⟩,⟨λr hr=>?_,λr hr=>?_⟩,rfl,QA _,QA _⟩
 ·show (w.ms.map _).length<=3
  rw [QA];exact hw.ml
 ·show (w.ar.map _).length<=3
  rw [QA];exact hw.al
 ·obtain ⟨q,hq,rfl⟩:=QE.mp (show r∈w.ms.map _ from hr)
  obtain ⟨h1,h2⟩:=hb.mp q hq
  refine ⟨?_,λp hp'=>?_⟩
  ·show ((bB _).map mE).length<=n
   rw [QA,pX,QA,QA];exact h1
  ·have:=A4 dN mE uc _ p hp'
   obtain ⟨z,hz,rfl⟩:=QE.mp this
   exact gd z (h2 z hz)
 ·obtain ⟨q,hq,rfl⟩:=QE.mp (show r∈w.ar.map _ from hr)
  obtain ⟨h1,h2⟩:=hb.ap q hq
  refine ⟨?_,λp hp'=>?_⟩
  ·show ((bB _).map lK).length<=n
   rw [QA,pX,QA,QA];exact h1
  ·have:=A4 dP lK kD _ p hp'
   obtain ⟨z,hz,rfl⟩:=QE.mp this
   exact ⟨gd _ (h2 z hz).1,gd _ (h2 z hz).2⟩
theorem NP (xs:List Nat) (hl:xs.length < 64):gq [.d (.tup (xs.map dN))]=.ok (.l .fresh (cS (xs.map dN))):=by
 show (if pM (xs.map dN)=true then M.ok (R.l .fresh (cS (xs.map dN))) else if qX (xs.map dN)=true then M.ok (R.l .fresh (cS (xs.map dN))) else .bad)=_
 rw [if_pos (Hf xs hl)]
 split <;> rfl
theorem My (xs:List (Nat×Nat)) (hl:xs.length < 64):pM (xs.map dP)=true:=by
 have h1:areKeys (xs.map dP)=true:=by
  induction xs with
  | nil=>rfl
  | cons x xs ih=>
   rw [Q5]
   show (isKey (dP x) && areKeys (xs.map dP))=true
   rw [ih (by simp at hl;omega)]
   rfl
 have h2:deps (xs.map dP)<=8:=fj λd hd=>by
  obtain ⟨x,_,rfl⟩:=QE.mp hd
  exact (by decide:(1:Nat)<=8)
 have h3:G_ (xs.map dP)=true:=by
  cases xs with
  | nil=>rfl
  | cons x xs=>
   show (gV .i ((x::xs).map dP) && ((x::xs).map dP).all (ql pF))=true
   rw [nL (Kr (x::xs)),Uw,Rw]
   intro d hd
   obtain ⟨y,_,rfl⟩:=QE.mp hd
   rfl
 unfold pM
 rw [h1,h3,decide_eq_true h2,QA,decide_eq_true hl]
 rfl
theorem Gx (xs:List (Nat×Nat)) (hl:xs.length < 64):gq [.d (.tup (xs.map dP))]=.ok (.l .fresh (cS (xs.map dP))):=by
 show (if pM (xs.map dP)=true then M.ok (R.l .fresh (cS (xs.map dP))) else _)=_
 rw [if_pos (My xs hl)]
theorem pY {P:D->Prop}(p:gf P){ds:List D}(h:∀x∈ds,P x):(cS ds).length<=ds.length/\∀d∈cS ds,d∈ds:=by
 obtain ⟨h1,h2⟩:=w5 p ds h
 refine ⟨?_,λd hd=>((lH p h).2 d).mp hd⟩
 show (bB (dd ds)).length<=_
 rw [pX]
 exact Ri h1 λd hd=>(h2 d).mp hd
theorem Ka (xs:List D) (k:Nat) (hk:k<=xs.length):cutD xs none (some (k:Int))=xs.take k:=by
 unfold cutD
 rw [HT.yY,HT.A3,ZC hk]
 simp
theorem E4 (xs:List D) (k:Nat) (hk:k<=xs.length):cutD xs (some (k:Int)) none=xs.drop k:=by
 unfold cutD
 rw [HT.yY,HT.A3,ZC hk]
 rw [W2 (by simp)]
abbrev MO:G O:=(aM (mK (eZ 2 (bL (aD 8) (bL (aD 9) fK))) (g2 aW (af 7) (af 5)))
 (aM (bg 10 (gN cI (ao (gN gq (ao (g2 dO (af 9) (bz (aA (af 6) aT))) aC)) aC)))
 (aM (b9 (bN (g2 (jt false) (af 6) (af 9))) (bg 10 (gN cI (ao (bJ 1 [6] (fc (af 9)) (aD 0) (bN (g2 (fE true) (af 0) (af 1))) (af 0)) aC))) eU)
 (aM (bg 7 (g2 dO (g2 dO (AD uF (af 7) DE (DF (af 5))) (bz (aA (bz (aA (af 8) (aA (af 10) aT))) aT))) (AD uF (af 7) (DF (g2 dO (af 5) (gC (.int 1)))) DE)))
 (aM (b9 (bN (yp "tuple" (af 6))) (bO (bz (aA (af 2) (aA (af 3) (aA (af 7) aT))))) eU)
 (bO (bz (aA (af 2) (aA (af 7) (aA (af 4) aT))))))))))
abbrev dc {α:Type}(h:α->D) (r:Str×List α):D:=.tup [.str r.1,.tup (r.2.map h)]
structure CQ {α:Type}(P:α->Prop) (n:Nat) (L:List (Str×List α)):Prop where
 all:∀r∈L,r.2.length<=n/\∀p∈r.2,P p
theorem tL {i:Int}(h:0<=i):∃k:Nat,i=k:=⟨i.toNat,by omega⟩
theorem qw {m:Nat}{ps:List (Nat×Nat)}(h:sq m ps) (hm:m<=4):ps.length<=16:=by
 obtain ⟨_,h2,h3⟩:=h
 have nd:ps.Nodup:=h2.imp fun {a b} hab e=>by subst e;unfold ju at hab;omega
 have sub:∀p∈ps,p∈(QG 16).map λk=>(k / 4,k % 4):=λp hp=>by
  obtain ⟨a,b⟩:=h3 p hp
  refine QE.mpr ⟨p.1 * 4 + p.2,by rw [Ra];omega,?_⟩
  obtain ⟨x,y⟩:=p
  simp only at a b ⊢
  rw [Prod.mk.injEq]
  omega
 have:=Ri nd sub
 simpa using this
end K55
namespace DL
open PySem PySem.Spec PyProof.Rows L2 DX
def bW (gt:GT) (gts:G Bool) (act:Ev->M (List D×Ev)):List D->Ev->M (List D×Ev)
 | [],env=>.ok ([],env)
 | d::ds,env=>gt d env >>= λe=>gts e >>= λk=>if k=true then act e >>= λr=>bW gt gts act ds r.2 >>= λz=>.ok (r.1++z.1,z.2) else bW gt gts act ds e
def xG (env:Ev) (σ:L2.St) (p:QW):Prop:=∀(j:Nat) (xs:Mn),env[j]?=some (some (mS xs))->σ[j]?≠some (some (.ref p))
structure xw (Acc:Hp->Hp->List D->Prop):Prop where
 ext:∀{J H J' H':Hp}{ys:List D},Acc J H ys->Ext J H J' H'->Acc J' H' ys
def uu (X:Cx) (c:C) (p:QW) (Acc:Hp->Hp->List D->Prop) (J2 H2:Hp) (N:Nat) (m:Sem Unit) (act:Ev->M (List D×Ev)):Prop:=
 ∀(pins:List (QW×Obj)) (s:QC) (σ:L2.St) (H J:Hp) (env:Ev) (ys:List D) (Qf:List D×Ev->Prop),Inv X pins σ H s->Ext J2 H2 J H->SR c J H σ env->xG env σ p->Acc J H ys->ys.length + N<=sizeLine->cJ (act env) Qf c.T->
  Q7 (Rb X.prog X.w) X.A m (λ_ s'=>∃σ' H' J' r,Inv X pins σ' H' s'/\Ext J2 H2 J' H'/\aU J J'/\SR c J' H' σ' r.2/\xG r.2 σ' p/\Acc J' H' (ys++r.1)/\r.1.length<=N/\Qf r) (λ_ _=>False) s
abbrev EB (ifs:List Rp) (env:Env):Sem Bool:=forIn ifs true λc r=>if r=true then do let ok <-XD c env (eval c env);pure (Tc ok) else pure (Tc r)
abbrev mD (target iter:Rp) (ifs:List Rp) (it:Qy) (env:Env) (act:Sem Unit) (again':Sem Fin):Sem Fin:=do
 TX iter.pos
 match <-Va it with
 | none=>pure (.done .next)
 | some v=>
  S9 target it v
  assign target env v
  let mut ok:=true
  for c in ifs do
   if ok then ok <-XD c env (eval c env)
  if ok then
   act
  again'
def rZ (prog:Q8) (w:Ru) (A:Rx) (e:Rp) (depth:Nat) (it acc:Qy) (env:Env) (target:Rp) (ifs:List Rp) (m:Sem Unit):Prop:=
 ∀(R:Zi->QC->Prop) (I:Nat->QC->Prop),(∀n s,I n s->Q7 (Rb prog w) A (Va it) (λr s₁=>match r with
   | none=>R (.ok .next) s₁
   | some v=>Q7 (Rb prog w) A (S9 target it v) (λ_ s₁=>Q7 (Rb prog w) A (assign target env v) (λ_ s₂=>
     Q7 (Rb prog w) A (EB ifs env) (λok s₃=>if ok=true then Q7 (Rb prog w) A m (λ_ s₅=>∃m,m < n/\I m s₅) (λ_ _=>False) s₃ else ∃m,m < n/\I m s₃) (λ_ _=>False) s₂) (λ_ _=>False) s₁) (λ_ _=>False) s₁) (λ_ _=>False) s)->
  ∀(n:Nat) (s:QC),I n s->Tf (Rb prog w) A (.compLoop e depth it acc env) R s
section
variable {prog:Q8}{w:Ru}{A:Rx}{target iter:Rp}{ifs:List Rp}{scope:Te}{pos:Pos}{it acc:Qy}{env:Env}{depth:Nat}{gens:List WI}{act:Sem Unit}
theorem zq {R:Zi->QC->Prop}{I:Nat->QC->Prop}{E:Qy->QC->Prop}{code:Code}{n:Nat}{s:QC}{Q:Fin->QC->Prop}
  (P7:∀s,R (.ok .next) s->Q (.done .next) s) (P4:∀s,(∃m,m < n/\I m s)->Q7 (Rb prog w) A (again code) Q E s)
  (t:Q7 (Rb prog w) A (Va it) (λr s₁=>match r with
   | none=>R (.ok .next) s₁
   | some v=>Q7 (Rb prog w) A (S9 target it v) (λ_ s₁=>Q7 (Rb prog w) A (assign target env v) (λ_ s₂=>
     Q7 (Rb prog w) A (EB ifs env) (λok s₃=>if ok=true then Q7 (Rb prog w) A act (λ_ s₅=>∃m,m < n/\I m s₅) (λ_ _=>False) s₃ else ∃m,m < n/\I m s₃) (λ_ _=>False) s₂) (λ_ _=>False) s₁) (λ_ _=>False) s₁) (λ_ _=>False) s):
  Q7 (Rb prog w) A (mD target iter ifs it env act (again code)) Q E s:=by
 refine Qw (Sq (Qw (RJ t (λr s₁ h₁=>?_) λ_ _ f=>f.elim)))
 cases r with
 | none=>exact Qz (P7 _ h₁)
 | some v=>
  refine Qw (RJ h₁ (λ_ s₁' h₁'=>?_) λ_ _ f=>f.elim)
  refine Qw (RJ h₁' (λ_ s₂ h₂=>Qw (RJ h₂ (λok s₃ h₃=>?_) λ_ _ f=>f.elim)) λ_ _ f=>f.elim)
  cases ok with
  | false=>exact P4 _ h₃
  | true=>exact Qw (RJ h₃ (λ_ s₅ h₅=>P4 _ h₅) λ_ _ f=>f.elim)
theorem BZ {elt:Rp}(ht:Vq (.ListComp elt gens scope pos) depth it acc env=mD target iter ifs it env act (again (.compLoop (.ListComp elt gens scope pos) depth it acc env))):rZ prog w A (.ListComp elt gens scope pos) depth it acc env target ifs act:=by
 intro R I turn n s h
 refine codeAny_loop rfl I (λn s hI=>?_) n h
 show Q7 _ A ((Vq (.ListComp elt gens scope pos) depth it acc env).onRaise (λx=>do ZD x env;ZE x)) _ _ s
 refine wpAny_noted ?_
 rw [ht]
 exact zq (λ_ h=>h) (λ_ h=>Qz ⟨rfl,h⟩) (turn n s hI)
theorem BY {kx vx:Rp}(ht:Vq (.DictComp kx vx gens scope pos) depth it acc env=mD target iter ifs it env act (again (.compLoop (.DictComp kx vx gens scope pos) depth it acc env))):rZ prog w A (.DictComp kx vx gens scope pos) depth it acc env target ifs act:=by
 intro R I turn n s h
 refine codeAny_loop rfl I (λn s hI=>?_) n h
 show Q7 _ A ((Vq (.DictComp kx vx gens scope pos) depth it acc env).onRaise (λx=>do ZD x env;ZE x)) _ _ s
 refine wpAny_noted ?_
 rw [ht]
 exact zq (λ_ h=>h) (λ_ h=>Qz ⟨rfl,h⟩) (turn n s hI)
end
section
variable {X:Cx}{c:C}{p:QW}{Acc:Hp->Hp->List D->Prop}{J2 H2:Hp}{N:Nat}{m:Sem Unit}{act:Ev->M (List D×Ev)}{target:Rp}{ifs:List Rp}{gt:GT}{gts:G Bool}{e:Rp}{depth:Nat}{acc:Qy}{it:QW}{fp:List QW}{tn:Nat->Sh->Prop}{It:It}{ds:List D}{J1:Hp}
theorem yH (aR:xw Acc) (hc:X.calm=true) (hx:∀v s,X.xe v s->False) (LP:rZ X.prog X.w X.A e depth (.ref it) acc X.env target ifs m) (hT:jd X c target gt) (hIf:gJ X c ifs gts) (hA:uu X c p Acc J2 H2 N m act) (T:Turn X.prog X.w X.K target It fp it tn)
  (U:Hp->Hp->Prop) (wk:Walk c It ds J1 U){pins:List (QW×Obj)}{s:QC}{σ:L2.St}{H J:Hp}{env:Ev}{ys:List D}{Qf:List D×Ev->Prop}(hU:∀J' H',Ext J2 H2 J' H'->aU J J'->U J' H') (I:Inv X pins σ H s) (st:tn 0 s.heap) (fr:∀b∈fp,jW X pins H b) (e2:Ext J2 H2 J H) (sr:SR c J H σ env) (no:xG env σ p) (ac:Acc J H ys)
  (hl:ys.length + ds.length * N<=sizeLine) (w:cJ (bW gt gts act ds env) Qf c.T):
  Tf (Rb X.prog X.w) X.A (.compLoop e depth (.ref it) acc X.env) (λr s'=>r=.ok .next/\∃σ' H' J' r',Inv X pins σ' H' s'/\Ext J2 H2 J' H'/\aU J J'/\SR c J' H' σ' r'.2/\xG r'.2 σ' p/\Acc J' H' (ys++r'.1)/\r'.1.length<=ds.length * N/\Qf r') s:=by
 refine LP _ (λn s'=>∃(i:Nat) (σ':L2.St) (H' J':Hp) (env':Ev) (zs:List D),n=ds.length - i/\i<=ds.length/\Inv X pins σ' H' s'/\tn i s'.heap/\(∀b∈fp,H' b=none)/\Ext J2 H2 J' H'/\aU J J'/\SR c J' H' σ' env'/\xG env' σ' p/\Acc J' H' (ys++zs)/\zs.length<=i * N/\
  cJ (bW gt gts act (ds.drop i) env') (λr=>Qf (zs++r.1,r.2)) c.T) ?_ ds.length s ⟨0,σ,H,J,env,[],rfl,Rl _,I,st,λb hb=>(fr b hb).1,e2,aU.refl J,sr,no,by rw [S_];exact ac,by simp,by rw [ZS];exact w⟩
 rintro n s' ⟨i,σ',H',J',env',zs,rfl,hi,I',st',fr',e',sj,sr',no',ac',hz,w'⟩
 have stat:∀{H':Hp},(∀b∈fp,H' b=none)->∀b∈fp,jW X pins H' b:=λhn b hb=>⟨hn b hb,(fr b hb).2⟩
 obtain ⟨wk1,wk2⟩:=wk i J' H' sr'.hp (hU J' H' e' sj)
 by_cases hlt:i < ds.length
 ·obtain ⟨g1,y1⟩:=wk2 ds[i] (by simp [hlt])
  rw [UH hlt] at w'
  refine RJ (T.item X rfl rfl rfl hc i pins s' σ' H' (λ_ _=>False) I' (stat fr') st' g1) (λr s4 ⟨u,hr,h4⟩=>?_) λ_ _ f=>f.elim
  subst hr
  refine RJ h4 (λ_ s5 ⟨x,H5,I5,r5,y5,st5,fr5⟩=>?_) λ_ _ f=>f.elim
  obtain ⟨J5,e5,rx⟩:=y1 x H5 y5
  have I5':=I5.pinned (stat fr5) (T.obj _ _ st5)
  have again:∀{σ7:L2.St}{H7:Hp}{s7:QC},Inv X (pins++pP fp s5.heap) σ7 H7 s7->Inv X pins σ7 H7 s7/\tn (i + 1) s7.heap/\(∀b∈fp,H7 b=none):=fun {σ7 H7 s7} I7=>by
   refine ⟨I7.unpinned,T.keep _ _ _ st5 λb hb o e=>(I7.pin (b,o) (Ry _ (Ry _ (ku hb e)))).1,λb hb=>?_⟩
   obtain ⟨o,e,d⟩:=T.obj _ _ st5 b hb
   exact (I7.pin (b,o) (Ry _ (Ry _ (ku hb e)))).2.1
  refine RJ (hT _ s5 σ' H5 x u (λσ6 H6=>∃e6,H6=H5/\SR c J5 H5 σ6 e6/\KO env' σ' e6 σ6/\cJ (gts e6 >>= λk=>if k=true then act e6 >>= λr=>bW gt gts act (ds.drop (i + 1)) r.2 >>= λz=>.ok (r.1++z.1,z.2) else bW gt gts act (ds.drop (i + 1)) e6)
   (λr=>Qf (zs++r.1,r.2)) c.T) I5' r5 ⟨J5,env',ds[i],sr'.ext e5,rx,aB (aK w') λe6 w6 σ6 sr6 ko=>⟨e6,rfl,sr6,ko,w6⟩⟩) (λ_ s6 ⟨σ6,H6,I6,e6,P6,sr6,ko,w6⟩=>?_) λ_ _ f=>(hx _ _ f).elim
  subst P6
  have no6:xG e6 σ6 p:=λj xs q z=>by
   obtain ⟨k1,k2⟩:=ko j xs q
   exact no' j xs k1 (k2▸z)
  refine RJ (hIf _ s6 σ6 H6 (λk H7=>∃J7,Ext J5 H6 J7 H7/\cJ (if k=true then act e6 >>= λr=>bW gt gts act (ds.drop (i + 1)) r.2 >>= λz=>.ok (r.1++z.1,z.2) else bW gt gts act (ds.drop (i + 1)) e6)
   (λr=>Qf (zs++r.1,r.2)) c.T) I6 ⟨J5,e6,sr6,aB (aK w6) λk wk J7 H7 e7=>⟨J7,e7,wk⟩⟩) (λk s7 ⟨H7,I7,J7,e7,w7⟩=>?_) λ_ _ f=>(hx _ _ f).elim
  have sr7:=sr6.ext e7
  have ac7:=aR.ext (aR.ext ac' e5) e7
  have x7:=(e'.trans e5).trans e7
  have j7:=(sj.trans e5.j).trans e7.j
  have hm:(i + 1) * N=i * N + N:=by rw [ZF,Nat.one_mul]
  cases k with
  | false=>
   rw [if_neg (by decide)] at w7 ⊢
   obtain ⟨a1,a2,a3⟩:=again I7
   exact ⟨ds.length - (i + 1),by omega,i + 1,σ6,H7,J7,e6,zs,rfl,hlt,a1,a2,a3,x7,j7,sr7,no6,ac7,by omega,w7⟩
  | true=>
   rw [if_pos rfl] at w7 ⊢
   have hN:(i + 1) * N<=ds.length * N:=UD N hlt
   refine RJ (hA _ s7 σ6 H7 J7 e6 (ys++zs) _ I7 x7 sr7 no6 ac7 (by rw [Rh];omega) (aK w7)) (λ_ s8 ⟨σ8,H8,J8,r,I8,x8,j8,sr8,no8,ac8,l8,w8⟩=>?_) λ_ _ f=>f.elim
   obtain ⟨a1,a2,a3⟩:=again I8
   refine ⟨ds.length - (i + 1),by omega,i + 1,σ8,H8,J8,r.2,zs++r.1,rfl,hlt,a1,a2,a3,x8,j7.trans j8,sr8,no8,by rw [<-Uy];exact ac8,by rw [Rh];omega,?_⟩
   refine aB (aK w8) λz q=>?_
   rw [Uy]
   exact q
 ·have Qi:i=ds.length:=by omega
  subst Qi
  rw [WY (QL _)] at w'
  refine RJ (T.done X rfl rfl rfl hc _ pins s' σ' H' (λ_ _=>False) I' (stat fr') st' (wk1 (QL _))) (λr s4 ⟨hr,I9⟩=>?_) λ_ _ f=>f.elim
  subst hr
  have w9:Qf (zs++[],env'):=w'
  rw [S_] at w9
  exact ⟨rfl,σ',H',J',(zs,env'),I9,e',sj,sr',no',ac',hz,w9⟩
end
section
variable {prog:Q8}{w:Ru}{A:Rx}{R:Zi->QC->Prop}{s:QC}{it acc:Qy}{env:Env}{scope:Te}{pos:Pos}{g0:WI}{target iter:Rp}{ifs:List Rp}{rest:List WI}
theorem LS {elt:Rp}(h0:Tf (Rb prog w) A (.compLoop (.ListComp elt (g0::⟨target,iter,ifs,0⟩::rest) scope pos) 1 it acc env) R s)
  (h:Q7 (Rb prog w) A (Wi it) (λit' s'=>Tf (Rb prog w) A (.compLoop (.ListComp elt (g0::⟨target,iter,ifs,0⟩::rest) scope pos) 1 it' acc env) R s') (λ_ _=>False) s):
  Tf (Rb prog w) A (.compStart (.ListComp elt (g0::⟨target,iter,ifs,0⟩::rest) scope pos) 1 it acc env) R s:=by
 refine U_ ?_
 show Q7 _ _ ((ZG (.ListComp elt (g0::⟨target,iter,ifs,0⟩::rest) scope pos) 1 it acc env).onRaise (λx=>do ZD x env;TX ZH)) _ _ s
 refine aaB ?_
 unfold ZG
 show Q7 _ _ (ask >>= _) _ _ s
 refine Qw (Ti (wpAny_ite ?_))
 split
 ·first
   | exact Qw (Qz (Qz (Xj rfl h0)))
   | exact Qz (Xj rfl h0)
 ·refine Qw (Wk ?_)
  show Q7 _ _ (TX iter.pos >>= _) _ _ s
  exact Qw (Sq (Qw (RJ h (λit' s' h'=>Qz (Xj rfl h')) λ_ _ x=>x.elim)))
theorem LR {kx vx:Rp}(h0:Tf (Rb prog w) A (.compLoop (.DictComp kx vx (g0::⟨target,iter,ifs,0⟩::rest) scope pos) 1 it acc env) R s)
  (h:Q7 (Rb prog w) A (Wi it) (λit' s'=>Tf (Rb prog w) A (.compLoop (.DictComp kx vx (g0::⟨target,iter,ifs,0⟩::rest) scope pos) 1 it' acc env) R s') (λ_ _=>False) s):
  Tf (Rb prog w) A (.compStart (.DictComp kx vx (g0::⟨target,iter,ifs,0⟩::rest) scope pos) 1 it acc env) R s:=by
 refine U_ ?_
 show Q7 _ _ ((ZG (.DictComp kx vx (g0::⟨target,iter,ifs,0⟩::rest) scope pos) 1 it acc env).onRaise (λx=>do ZD x env;TX ZH)) _ _ s
 refine aaB ?_
 unfold ZG
 show Q7 _ _ (ask >>= _) _ _ s
 refine Qw (Ti (wpAny_ite ?_))
 split
 ·first
   | exact Qw (Qz (Qz (Xj rfl h0)))
   | exact Qz (Xj rfl h0)
 ·refine Qw (Wk ?_)
  show Q7 _ _ (TX iter.pos >>= _) _ _ s
  exact Qw (Sq (Qw (RJ h (λit' s' h'=>Qz (Xj rfl h')) λ_ _ x=>x.elim)))
end
def jg (gi:G (List D)) (gt:GT) (gts:G Bool) (act:Ev->M (List D×Ev)):Ev->M (List D×Ev):=λenv=>gi env >>= λds=>if ds.length<=1000 then bW gt gts act ds env else .bad
abbrev rH (e iter:Rp) (acc:Qy) (env:Env):Sem Unit:=do
 let x <-eval iter env
 TX iter.pos
 let x <-Q2 iter env x
 let _ <-runOwn (.compStart e 1 (<-holding [x] (Wi x)) acc env) env
section
variable {X:Cx}{c:C}{p:QW}{Acc:Hp->Hp->List D->Prop}{J2 H2:Hp}{N:Nat}{m:Sem Unit}{act:Ev->M (List D×Ev)}{target iter:Rp}{ifs:List Rp}{gi:G (List D)}{gt:GT}{gts:G Bool}{e:Rp}{acc:Qy}
theorem Aq (aR:xw Acc) (hc:X.calm=true) (hx:∀v s,X.xe v s->False) (hs:∀x,Q2 iter X.env x=pure x)
  (start:∀(it:QW) (R:Zi->QC->Prop) (s:QC),Tf (Rb X.prog X.w) X.A (.compLoop e 1 (.ref it) acc X.env) R s->Q7 (Rb X.prog X.w) X.A (Wi (.ref it)) (λit' s'=>Tf (Rb X.prog X.w) X.A (.compLoop e 1 it' acc X.env) R s') (λ_ _=>False) s->Tf (Rb X.prog X.w) X.A (.compStart e 1 (.ref it) acc X.env) R s)
  (LP:∀it:QW,rZ X.prog X.w X.A e 1 (.ref it) acc X.env target ifs m) (hi:xJ X c target iter gi) (hT:jd X c target gt) (hIf:gJ X c ifs gts) (hA:uu X c p Acc J2 H2 N m act):
  uu X c p Acc J2 H2 (1000 * N) (rH e iter acc X.env) (jg gi gt gts act):=by
 intro pins s σ H J env ys Qf I x2 sr no ac hl w
 refine Qw (RJ (hi pins s σ H (λIt H1=>∃ds J1,Ext J H J1 H1/\Walk c It ds J1 (λJ' _=>aU J1 J')/\cJ (if ds.length<=1000 then bW gt gts act ds env else .bad) Qf c.T) I ⟨J,env,sr,aB (aK w) λds wd It J1 H1 e1 wk=>⟨ds,J1,e1,wk,wd⟩⟩) (λxv s1 h1=>?_) λv s f=>(hx v s f).elim)
 refine Qw (Sq ?_)
 rw [hs xv]
 refine Qw (Qz (Qw (Rn (RJ h1 (λitv s2 h2=>?_) λv s f=>(hx v s f).elim))))
 obtain ⟨it,fp,tn,It,H1,rfl,I1,T,st1,f1,ds,J1,e1,wk,w1⟩:=h2
 have hsz:ds.length<=1000:=by
  by_cases z:ds.length<=1000
  ·exact z
  ·rw [if_neg z] at w1;exact w1.elim
 rw [if_pos hsz] at w1
 have hm:ds.length * N<=1000 * N:=UD N hsz
 have hb:ys.length + ds.length * N<=sizeLine:=Rr (Nat.add_le_add_left hm _) hl
 have run:=yH aR hc hx (LP it) hT hIf hA T (λJ' _=>aU J1 J') wk (λ_ _ _ h=>h) I1 st1 f1 (x2.trans e1) (sr.ext e1) no (aR.ext ac e1) hb w1
 have run':Tf (Rb X.prog X.w) X.A (.compLoop e 1 (.ref it) acc X.env) (λr s'=>match r with | .ok f=>Q7 (Rb X.prog X.w) X.A (pure ()) (λ_ s'=>∃σ' H' J' r,Inv X pins σ' H' s'/\Ext J2 H2 J' H'/\aU J J'/\SR c J' H' σ' r.2/\xG r.2 σ' p/\Acc J' H' (ys++r.1)/\r.1.length<=1000 * N/\Qf r) (λ_ _=>False) s' | .error e=>cameBackBy (Rb X.prog X.w) X.A X.env (λ_ _=>False) e s') s2:=Tj run λr s' ⟨hr,σ',H',J',r',q1,q2,q3,q4,q5,q6,q7,q8⟩=>by
  subst hr
  exact Qz ⟨σ',H',J',r',q1,q2,e1.j.trans q3,q4,q5,q6,Rr q7 hm,q8⟩
 exact Qw (wpAny_runOwn (h:=none) (start it _ _ run' (T.self _ 0 _ _ _ st1 run')))
end
def gO (ge:G R):Ev->M (List D×Ev):=λe=>ge e >>= λr=>toD r >>= λy=>.ok ([y],e)
def Bt (c:C) (p:QW):Hp->Hp->List D->Prop:=λJ H ys=>∃us,H p=some (.lst us)/\J p=none/\aI c.K J ys us
theorem rA {c:C}{p:QW}:xw (Bt c p):=⟨fun {J H J' H' ys} ⟨us,h1,h2,h3⟩ e=>⟨us,e.h _ _ h1,e.frz _ (by rw [h1];intro z;cases z) h2,h3.mono e.j⟩⟩
section
variable {X:Cx}{c:C}{p:QW}{J2 H2:Hp}{elt:Rp}{ge:G R}
theorem Ao (hx:∀v s,X.xe v s->False) (hp2:H2 p=none) (hp0:c.H0 p=none) (hE:PD X c elt ge):uu X c p (Bt c p) J2 H2 1 (do let _ <-call (.builtin "list.append") [.ref p,<-eval elt X.env]) (gO ge):=by
 intro pins s σ H J env ys Qf I x2 sr no ⟨us,h1,h2,h3⟩ hl w
 have hlen:ys.length=us.length:=h3.length
 refine Qw (RJ (hE _ s σ H (λv H8=>∃J8 y,Ext J H J8 H8/\Rep c.K J8 y v/\Qf ([y],env)) I ⟨J,env,sr,aB (aK w) λr wr v J8 H8 e8 r8=>?_⟩) (λu8 s8 ⟨v8,H8,I8,r8,J8,y,e8,ry,w8⟩=>?_) λv s f=>(hx v s f).elim)
 ·obtain ⟨y,q,wr⟩:=i8 wr
  obtain ⟨J9,e9,_,ry⟩:=freeze e8 r8 q
  exact ⟨J9,y,e9,ry,wr⟩
 have p8:H8 p=some (.lst us):=e8.h _ _ h1
 have J8p:J8 p=none:=e8.frz _ (by rw [h1];intro z;cases z) h2
 refine Qw (RJ (pK (X:=X) _ s8 σ H8 (.ref p) [v8] (.ref p) [u8] (λ_ H9=>H9=L2.upd H8 p (.lst (us++[v8]))) I8 rfl (.cons r8 .nil) ⟨_,us,v8,rfl,rfl,p8,by omega,rfl⟩) (λ_ s9 ⟨_,H9,I9,_,h9⟩=>?_) λv s f=>(hx v s f).elim)
 subst h9
 exact Qz ⟨σ,_,J8,([y],env),I9,(x2.trans e8).other hp2 J8p,e8.j,(sr.ext e8).other J8p hp0 no,no,⟨us++[v8],bX,J8p,(h3.mono e8.j).append (.cons ry .nil)⟩,QL _,w8⟩
end
def jj (lim n:Nat) (cap:List Nat) (gi:G (List D)) (gt:GT) (gts:G Bool) (act:Ev->M (List D×Ev)) (fin:List D->M R):G R:=λenv=>gi env >>= λds=>if ds.length<=lim then bW gt gts act ds (cE n cap env) >>= λr=>fin r.1 else .bad
section
variable {X:Cx}{c:C}
theorem nN (own:List Str) (cap:List Nat){e target iter:Rp}{ifs:List Rp}{gs:List WI}{scope:Te}{gi:G (List D)}{gt:GT}{gts:G Bool}{act:Ev->M (List D×Ev)}{fin:List D->M R}{newAcc:Sem Qy}{ob:Obj}{o0:QW->HO}{Acc:QW->Hp->Hp->List D->Prop}{N lim:Nat}{m:QW->Env->Sem Unit}
  (hcls:clausesOf e=⟨target,iter,ifs,0⟩::gs) (hi:oW X c target iter gi)
  (hnew:∀(s:QC) (Q:Qy->QC->Prop) (E:Qy->QC->Prop),Q (.ref s.heap.objs.size) {s with heap:=s.heap.push ob}->Q7 (Rb X.prog X.w) X.A newAcc Q E s)
  (hob:∀(h:Sh) (H:Hp),cg X.prog X.w H (h.push ob) h.objs.size (o0 h.objs.size))
  (aR:∀p,xw (Acc p)) (a0:∀(p:QW) (J H:Hp),Ub < p->H p=some (o0 p)->J p=none->Acc p J H [])
  (hN:lim * N<=sizeLine) (LP:∀(it p:QW) (env:Env),rZ X.prog X.w X.A e 0 (.ref it) (.ref p) env target ifs (m p env))
  (start:∀(it:QW) (acc:Qy) (env:Env) (R:Zi->QC->Prop) (s:QC),Tf (Rb X.prog X.w) X.A (.compLoop e 0 (.ref it) acc env) R s->Q7 (Rb X.prog X.w) X.A (Wi (.ref it)) (λit' s'=>Tf (Rb X.prog X.w) X.A (.compLoop e 0 it' acc env) R s') (notedBy (Rb X.prog X.w) X.A env λx s'=>R (.error x) s') s->Tf (Rb X.prog X.w) X.A (.compStart e 0 (.ref it) acc env) R s)
  (nofin:∀ys z,fin ys≠.exc z) (hend:∀{p:QW}{J H J' H':Hp}{ys:List D}{r:R},H p=none->Ext J H J' H'->Acc p J' H' ys->fin ys=.ok r->∃J'',Ext J H J'' H'/\RR c H J'' H' r (.ref p))
  (hbody:∀(cl:List (Str×QW)) (C:QW) (s:QC) (H:Hp) (fp:List QW),bF X.env.cells scope.names []=some cl->jd (aV X own cap scope cl C s H fp) c target gt/\gJ (aV X own cap scope cl C s H fp) c ifs gts/\∀(p:QW) (J2 H2:Hp),H2 p=none->c.H0 p=none->uu (aV X own cap scope cl C s H fp) c p (Acc p) J2 H2 N (m p (aV X own cap scope cl C s H fp).env) act)
  (hk:scope.kind=.function) (hno:fC X cap scope=true) (hnames:(scope.names.all λx=>!(x.2 == .local) || (scope.names.lookup x.1 == some .local))=true)
  (hcl:(bF X.env.cells scope.names []).isSome=true) (hcap:dD X cap=true) (hloc:dG X cap scope=true) (hnd:fS cap=true) (Oz:X.calm=true)
  (hs:∀x,Q2 iter X.env x=pure x)
  {pins:List (QW×Obj)}{s:QC}{σ:L2.St}{H:Hp}{Q:VK}{use:Option (Qy->Sem Unit)}{Q0:Qy->QC->Prop}{pos':Pos}(I:Inv X pins σ H s) (h:tD c (jj lim own.length cap gi gt gts act fin) σ H Q)
  (OC:∀(acc C:QW) (m:Str->Option Qy) (s':QC) (H':Hp) (fl:Flow),s'.heap.Ns C m->((C∈X.ex\/X.s₀.heap.objs.size<=C)/\C≠X.env.locals/\(∀x c,X.env.cells.lookup x=some c->c≠C)/\∀p∈X.pn++pins,p.1≠C)->H' C=none->(∀h'',RZ C s'.heap h''->Inv X pins σ H' {s' with heap:=h''})->Q (.ref acc) H'->Ys (Rb X.prog X.w) X.A X.xe use Q0 (.ref acc) C (.ok fl) s'):
  Q7 (Rb X.prog X.w) X.A (comprehension e scope X.env pos' newAcc false (eval iter X.env) use) Q0 X.xe s:=by
 obtain ⟨J,env,sr,w⟩:=h
 obtain ⟨cl,hcl⟩:=R3.mp hcl
 have PJ:∀j∈cap,∀x,X.N[j]?=some x->cU scope.names x=false:=λj hj x hx=>by
  have:=Rw.mp hno j hj
  rw [hx] at this
  simpa using this
 have OW:∀x∈scope.names,x.2=.local->scope.names.lookup x.1=some .local:=λy hy z=>by
  have:=Rw.mp hnames y hy
  rw [z] at this
  simpa using this
 have Pc:∀j∈cap,∀x,X.N[j]?=some x->(relabel scope X.env).names.lookup x≠some .local:=λj hj x hx z=>by
  have:=Rw.mp hloc j hj
  rw [hx] at this
  simp only at this
  rw [z] at this
  cases this
 refine wpAny_comprehension_free (use:=use) hcls hs (wJ hcl) hk OW ?_
 refine bP (hi pins s σ H (λIt H1=>∃ds J1,Ext J H J1 H1/\Walk c It ds J1 (λJ' H'=>aU J1 J'/\aU H1 H')/\
  cJ (if ds.length<=lim then bW gt gts act ds (cE own.length cap env) >>= λr=>fin r.1 else .bad) (λr=>∀v J' H',Ext J H J' H'->RR c H J' H' r v->Q v H') c.T) I ⟨J,env,sr,aB (aK w) λds wd It J1 H1 e1 wk=>⟨ds,J1,e1,wk,wd⟩⟩) λxv s1 h1=>bP h1 λitv s2 h2=>?_
 obtain ⟨it,fp,tn,It,H2,rfl,I2,T,st2,f2,ds,J2,e2,wk,w2⟩:=h2
 have hsz:ds.length<=lim:=by
  by_cases z:ds.length<=lim
  ·exact z
  ·rw [if_neg z] at w2;exact w2.elim
 rw [if_pos hsz] at w2
 have w3:=aK w2
 refine hnew s2 _ _ (B3 ?_)
 dsimp only
 generalize Pj:s2.heap.push ob=Hs
 have hC:Hs.objs.size=s2.heap.objs.size + 1:=by rw [<-Pj,Ud]
 have hp2:H2 s2.heap.objs.size=none:=I2.hok.fresh (QL _)
 have kHs:∀b o,s2.heap.get? b=some o->Hs.get? b=some o:=λb o e=>by rw [<-Pj];exact QI _ e
 have I3:Inv X pins σ (L2.upd H2 s2.heap.objs.size (o0 s2.heap.objs.size)) {s2 with heap:=Hs,toks:=s2.toks}:=I2.laid (t':=s2.toks) kHs (QL _) (by rw [<-Pj];exact hob _ _)
 have f3:∀b∈fp,jW X pins (L2.upd H2 s2.heap.objs.size (o0 s2.heap.objs.size)) b:=λb hb=>by
  obtain ⟨o,ho,_⟩:=T.obj _ _ st2 b hb
  exact ⟨by rw [bD (Rf (QY ho))];exact (f2 b hb).1,(f2 b hb).2⟩
 have hin:∀b∈fp,b < Hs.objs.size:=λb hb=>by
  obtain ⟨o,ho,_⟩:=T.obj _ _ st2 b hb
  exact UR (QY ho) (by rw [hC];exact Tg _)
 obtain ⟨h₁,eh₁⟩:∃h₁,h₁=Zt (Hs.push {cls:=.type "dict",data:=.dict #[]}) scope.names:=⟨_,rfl⟩
 rw [<-eh₁]
 have hns₁:h₁.Ns Hs.objs.size (λ_=>none):=by rw [eh₁];exact K0 Hs scope.names
 have ck:abb h₁ (Hs.objs.size + 1) (RK (Hs.objs.size + 1) scope.names []):=by rw [eh₁];exact Dm Hs scope.names
 have okC:=HV (own:=own) (cap:=cap) I3 hk hcl ck f3 hin
 have old1:∀b o,Hs.get? b=some o->h₁.get? b=some o:=λb o e=>by rw [eh₁];exact Zu _ _ _ _ (QI _ e)
 have I4:=E5 (tk:=s2.toks) I3 okC hcl ck hcap Pc PJ hns₁ old1
 have sr2:=sr.ext e2
 have srA:SR c J2 (L2.upd H2 s2.heap.objs.size (o0 s2.heap.objs.size)) σ env:=sr2.ext (Ext.new e2.sub hp2 _)
 have J2p:J2 s2.heap.objs.size=none:=e2.sub.free hp2
 have H0p:c.H0 s2.heap.objs.size=none:=sr2.hp.ent.free hp2
 have nown:∀(j:Nat) (xs:Mn),(cE own.length cap env)[j]?=some (some (mS xs))->(RX own.length none++cap.map λ(j:Nat)=>(σ[j]?).getD none)[j]?≠some (some (.ref s2.heap.objs.size)):=λj xs q z=>by
  obtain ⟨a,h1,h2,h3⟩:=ki q
  obtain ⟨a',h4,h5,h6⟩:=ki z
  rw [h2] at h5;cases h5
  obtain ⟨p,k1,k2,_⟩:=sr2.mine h3
  rw [h6] at k1
  cases k1
  exact k2 hp2
 obtain ⟨hT,hIf,hE⟩:=hbody cl Hs.objs.size {s2 with heap:=Hs,toks:=s2.toks} (L2.upd H2 s2.heap.objs.size (o0 s2.heap.objs.size)) fp hcl
 have fpC:∀{H':Hp},(∀b∈fp,H' b=none)->∀b∈fp,jW (aV X own cap scope cl Hs.objs.size {s2 with heap:=Hs,toks:=s2.toks} (L2.upd H2 s2.heap.objs.size (o0 s2.heap.objs.size)) fp) [] H' b:=fun {H'} hn b hb=>by
  obtain ⟨m1,_⟩:=gP scope.names [] cl hcl (λx c h=>by simp at h)
  refine ⟨hn b hb,Rf (hin b hb),λz=>?_,.inl hb,λx d h=>(fZ h).elim (λh=>Ui (Rc (hin b hb) (TQ (ck.empty _ _ (U6 h)).2))) (λh=>(f2 b hb).2.2.2.2.1 x d (m1 x d h.2)),λp hp=>absurd (show p∈([]:List (QW×Obj)) from hp) (by simp)⟩
  rcases Q3.mp (I2.stkSub b z) with e | e
  ·exact (f2 b hb).2.1 e
  ·exact (f2 b hb).2.2.1 e
 have back:∀{pi:List (QW×Obj)}{σ':L2.St}{H':Hp}{s':QC}{h'':Sh},Inv (aV X own cap scope cl Hs.objs.size {s2 with heap:=Hs,toks:=s2.toks} (L2.upd H2 s2.heap.objs.size (o0 s2.heap.objs.size)) fp) pi σ' H' s'->RZ Hs.objs.size s'.heap h''->Inv X pins σ H' {s' with heap:=h''}:=fun {pi σ' H' s' h''} I' sb=>by
  have B:Un (frs X.stack) fp (L2.upd H2 s2.heap.objs.size (o0 s2.heap.objs.size)) H' Hs s'.heap:=I'.base
  have ne2:∀{b:QW}{o:Obj},s2.heap.get? b=some o->b≠s2.heap.objs.size/\b≠Hs.objs.size:=fun {b o} e=>
   ⟨Rf (QY e),Rf (UR (QY e) (by rw [hC];exact Tg _))⟩
  have nH:∀{b:QW}{o:HO},H2 b=some o->L2.upd H2 s2.heap.objs.size (o0 s2.heap.objs.size) b=some o:=fun {b o} e=>by rw [bD (fF e hp2)];exact e
  refine Inv.call' (ch:=fp) (s':={s' with heap:=h''}) I2 I'.os ⟨λb o e n hf hx=>?_,λb o e n hf hx=>?_,λb o e n hx=>?_,λb o e hx=>?_,λb xs e=>B.tups b xs (nH e),λb o u e=>B.frzs b o u (nH e),λb ps e=>B.tbls b ps (nH e)⟩ (zX I'.hok I'.free sb) I'.bare λb hb=>⟨(f2 b hb).2.2.2.1,(f2 b hb).2.1,(f2 b hb).2.2.2.2.1,(f2 b hb).2.2.2.2.2⟩
  ·exact (sb.2 b (ne2 e).2).trans (B.keep b o (kHs b o e) (by rw [bD (ne2 e).1];exact n) hf hx)
  ·obtain ⟨sl,z⟩:=B.slot b o (kHs b o e) (by rw [bD (ne2 e).1];exact n) hf hx
   exact ⟨sl,(sb.2 b (ne2 e).2).trans z⟩
  ·exact B.free b o (kHs b o e) (by rw [bD (ne2 e).1];exact n) hx
  ·obtain ⟨o',z⟩:=B.there b o (kHs b o e) hx
   exact ⟨o',(sb.2 b (ne2 e).2).trans z⟩
 have run:=λ(s4:QC) (I4:Inv (aV X own cap scope cl Hs.objs.size {s2 with heap:=Hs,toks:=s2.toks} (L2.upd H2 s2.heap.objs.size (o0 s2.heap.objs.size)) fp) [] _ _ s4) (st4:tn 0 s4.heap)=>yH (X:=aV X own cap scope cl Hs.objs.size {s2 with heap:=Hs,toks:=s2.toks} (L2.upd H2 s2.heap.objs.size (o0 s2.heap.objs.size)) fp) (e:=e) (depth:=0) (acc:=.ref s2.heap.objs.size) (aR _) Oz (λ_ _ f=>f) (LP it _ _) hT hIf (hE s2.heap.objs.size J2 H2 hp2 H0p) T (λJ' H'=>aU J2 J'/\aU H2 H') wk (λJ' H' x _=>⟨x.j,x.h⟩) I4 st4 (fpC λb hb=>(f3 b hb).1) (Ext.new e2.sub hp2 _) (srA.cap own.length cap (AO hnd)) nown (a0 _ _ _ (JY I2) bX J2p) (Rr (by rw [Uk,Y4];exact UD N hsz) hN) w3
 have st4:=T.keep _ _ _ st2 (λb hb o e=>old1 b o (kHs b o e))
 have go:=Tj (run _ I4 st4) (R':=Ys (Rb X.prog X.w) X.A X.xe use Q0 (.ref s2.heap.objs.size) Hs.objs.size) λr s' ⟨hr,σ',H',J',r',I9,x9,j9,sr9,no9,ac9,l9,w9⟩=>by
  subst hr
  obtain ⟨mm,hm,_⟩:=I9.loc
  refine OC s2.heap.objs.size Hs.objs.size mm _ H' _ hm (JW I2 (by rw [hC];exact Sv _)) I9.free (λh'' sb=>back I9 sb) ?_
  cases q:fin r'.1 with
  | bad=>rw [q] at w9;exact w9.elim
  | exc z=>rw [q] at w9;exact (nofin _ z q).elim
  | ok z=>
   rw [q] at w9
   obtain ⟨J9,x10,rr⟩:=hend (e2.h.free hp2) (e2.trans x9) ac9 q
   exact w9 _ J9 H' x10 rr
 exact start it _ _ _ _ go (T.self _ 0 _ _ _ st4 go)
end
def jP (n:Nat) (cap:List Nat) (gi0:G (List D)) (gt0:GT) (gts0:G Bool) (gi1:G (List D)) (gt1:GT) (gts1:G Bool) (ge:G R):G R:=jj 10000 n cap gi0 gt0 gts0 (jg gi1 gt1 gts1 (gO ge)) (λys=>.ok (.l .fresh ys))
theorem JC (elt t0 i0 t1 i1:Rp) (f0 f1:List Rp) (scope:Te) (pos:Pos) (it acc:Qy) (env:Env):
  Vq (.ListComp elt [⟨t0,i0,f0,0⟩,⟨t1,i1,f1,0⟩] scope pos) 0 it acc env=(do
   TX i0.pos
   match <-Va it with
   | none=>pure (.done .next)
   | some v=>
    S9 t0 it v
    assign t0 env v
    let mut ok:=true
    for c in f0 do
     if ok then ok <-XD c env (eval c env)
    if ok then
     let x <-eval i1 env
     TX i1.pos
     let x <-Q2 i1 env x
     let _ <-runOwn (.compStart (.ListComp elt [⟨t0,i0,f0,0⟩,⟨t1,i1,f1,0⟩] scope pos) 1 (<-holding [x] (Wi x)) acc env) env
    again (.compLoop (.ListComp elt [⟨t0,i0,f0,0⟩,⟨t1,i1,f1,0⟩] scope pos) 0 it acc env)):=by rfl
theorem L5 (elt t0 i0 t1 i1:Rp) (f0 f1:List Rp) (scope:Te) (pos:Pos) (it acc:Qy) (env:Env):
  Vq (.ListComp elt [⟨t0,i0,f0,0⟩,⟨t1,i1,f1,0⟩] scope pos) 0 it acc env=mD t0 i0 f0 it env (rH (.ListComp elt [⟨t0,i0,f0,0⟩,⟨t1,i1,f1,0⟩] scope pos) i1 acc env) (again (.compLoop (.ListComp elt [⟨t0,i0,f0,0⟩,⟨t1,i1,f1,0⟩] scope pos) 0 it acc env)):=by
 rw [JC]
 refine bind_congr λ_=>bind_congr λr=>?_
 cases r with
 | none=>rfl
 | some v=>
  refine bind_congr λ_=>bind_congr λ_=>bind_congr λok=>?_
  cases ok with
  | false=>rfl
  | true=>simp only [rH,bind_assoc,pure_bind,if_true]
theorem L6 (elt t0 i0 t1 i1:Rp) (f0 f1:List Rp) (scope:Te) (pos:Pos) (it acc:Qy) (env:Env):
  Vq (.ListComp elt [⟨t0,i0,f0,0⟩,⟨t1,i1,f1,0⟩] scope pos) 1 it acc env=mD t1 i1 f1 it env (do let _ <-call (.builtin "list.append") [acc,<-eval elt env]) (again (.compLoop (.ListComp elt [⟨t0,i0,f0,0⟩,⟨t1,i1,f1,0⟩] scope pos) 1 it acc env)):=by rfl
section
variable {X:Cx}{c:C}
theorem Ds (own:List Str) (cap:List Nat){elt t0 i0 t1 i1:Rp}{f0 f1:List Rp}{scope:Te}{pos:Pos}{gi0 gi1:G (List D)}{gt0 gt1:GT}{gts0 gts1:G Bool}{ge:G R}(hi:oW X c t0 i0 gi0)
  (hbody:∀(cl:List (Str×QW)) (C:QW) (s:QC) (H:Hp) (fp:List QW),bF X.env.cells scope.names []=some cl->jd (aV X own cap scope cl C s H fp) c t0 gt0/\gJ (aV X own cap scope cl C s H fp) c f0 gts0/\xJ (aV X own cap scope cl C s H fp) c t1 i1 gi1/\jd (aV X own cap scope cl C s H fp) c t1 gt1/\gJ (aV X own cap scope cl C s H fp) c f1 gts1/\PD (aV X own cap scope cl C s H fp) c elt ge)
  (hk:scope.kind=.function:=by rfl) (hno:fC X cap scope=true:=by rfl) (hnames:(scope.names.all λx=>!(x.2 == .local) || (scope.names.lookup x.1 == some .local))=true:=by rfl)
  (hcl:(bF X.env.cells scope.names []).isSome=true:=by rfl) (hcap:dD X cap=true:=by rfl) (hloc:dG X cap scope=true:=by rfl) (hnd:fS cap=true:=by rfl) (Oz:X.calm=true:=by rfl)
  (hs:∀x,Q2 i0 X.env x=pure x:=by intro _;rfl) (hs1:∀(en:Env) x,Q2 i1 en x=pure x:=by intro _ _;rfl)
  {pins:List (QW×Obj)}{s:QC}{σ:L2.St}{H:Hp}{Q:VK}{use:Option (Qy->Sem Unit)}{Q0:Qy->QC->Prop}{pos':Pos}(I:Inv X pins σ H s) (h:tD c (jP own.length cap gi0 gt0 gts0 gi1 gt1 gts1 ge) σ H Q)
  (OC:∀(acc C:QW) (m:Str->Option Qy) (s':QC) (H':Hp) (fl:Flow),s'.heap.Ns C m->((C∈X.ex\/X.s₀.heap.objs.size<=C)/\C≠X.env.locals/\(∀x c,X.env.cells.lookup x=some c->c≠C)/\∀p∈X.pn++pins,p.1≠C)->H' C=none->(∀h'',RZ C s'.heap h''->Inv X pins σ H' {s' with heap:=h''})->Q (.ref acc) H'->Ys (Rb X.prog X.w) X.A X.xe use Q0 (.ref acc) C (.ok fl) s'):
  Q7 (Rb X.prog X.w) X.A (comprehension (.ListComp elt [⟨t0,i0,f0,0⟩,⟨t1,i1,f1,0⟩] scope pos) scope X.env pos' (newList []) false (eval i0 X.env) use) Q0 X.xe s:=by
 refine nN (e:=.ListComp elt [⟨t0,i0,f0,0⟩,⟨t1,i1,f1,0⟩] scope pos) (ob:={cls:=.type "list",dict:=none,data:=.seq ([]:List Qy).toArray}) (o0:=λ_=>.lst []) (Acc:=Bt c) (N:=1000 * 1) (lim:=10000) (m:=λp env=>rH (.ListComp elt [⟨t0,i0,f0,0⟩,⟨t1,i1,f1,0⟩] scope pos) i1 (.ref p) env) own cap rfl hi
  (λs Q E q=>Rz q) (λh H=>⟨Rl _,[],0,.nil,QV _ rfl⟩) (λp=>rA) (λp J H _ h1 h2=>⟨[],h1,h2,.nil⟩) (by decide) (λit p env=>BZ (L5 ..)) (λit acc env R s h0 h=>W4 h0 h) (λys z q=>by cases q)
  (fun {p J H J' H' ys r} hp e ⟨us,h1,h2,h3⟩ q=>by cases q;exact ⟨J',e,⟨p,us,rfl,h1,h2,hp,h3⟩⟩) (λcl C s H fp hcc=>?_) hk hno hnames hcl hcap hloc hnd Oz hs I h OC
 obtain ⟨b1,b2,b3,b4,b5,b6⟩:=hbody cl C s H fp hcc
 refine ⟨b1,b2,λp J2 H2 hp2 hp0=>?_⟩
 exact Aq rA Oz (λ_ _ f=>f) (λx=>hs1 _ x) (λit R s h0 h=>LS h0 h) (λit=>BZ (L6 ..)) b3 b4 b5 (Ao (λ_ _ f=>f) hp2 hp0 b6)
theorem Ea (own:List Str) (cap:List Nat){elt t0 i0 t1 i1:Rp}{f0 f1:List Rp}{scope:Te}{pos:Pos}{gi0 gi1:G (List D)}{gt0 gt1:GT}{gts0 gts1:G Bool}{ge:G R}(hi:oW X c t0 i0 gi0)
  (hbody:∀(cl:List (Str×QW)) (C:QW) (s:QC) (H:Hp) (fp:List QW),bF X.env.cells scope.names []=some cl->jd (aV X own cap scope cl C s H fp) c t0 gt0/\gJ (aV X own cap scope cl C s H fp) c f0 gts0/\xJ (aV X own cap scope cl C s H fp) c t1 i1 gi1/\jd (aV X own cap scope cl C s H fp) c t1 gt1/\gJ (aV X own cap scope cl C s H fp) c f1 gts1/\PD (aV X own cap scope cl C s H fp) c elt ge)
  (hk:scope.kind=.function:=by rfl) (hno:fC X cap scope=true:=by rfl) (hnames:(scope.names.all λx=>!(x.2 == .local) || (scope.names.lookup x.1 == some .local))=true:=by rfl)
  (hcl:(bF X.env.cells scope.names []).isSome=true:=by rfl) (hcap:dD X cap=true:=by rfl) (hloc:dG X cap scope=true:=by rfl) (hnd:fS cap=true:=by rfl) (Oz:X.calm=true:=by rfl)
  (hs:∀x,Q2 i0 X.env x=pure x:=by intro _;rfl) (hs1:∀(en:Env) x,Q2 i1 en x=pure x:=by intro _ _;rfl):PD X c (.ListComp elt [⟨t0,i0,f0,0⟩,⟨t1,i1,f1,0⟩] scope pos) (jP own.length cap gi0 gt0 gts0 gi1 gt1 gts1 ge):=by
 intro pins s σ H Q I h
 rw [aaC]
 exact Ds own cap hi hbody hk hno hnames hcl hcap hloc hnd Oz hs hs1 I h λacc C m s' H' fl hm hz hf hb q=>⟨m,hm,λh'' sb=>⟨.ref acc,H',hb h'' sb,rfl,q⟩⟩
theorem D8 (i:Nat) (own:List Str) (cap:List Nat){elt t0 i0 t1 i1:Rp}{f0 f1:List Rp}{scope:Te}{pos:Pos}{gi0 gi1:G (List D)}{gt0 gt1:GT}{gts0 gts1:G Bool}{ge:G R}{pos' pos2:Pos}{x:Str}(hN:X.N.Nodup) (hi:oW X c t0 i0 gi0)
  (hbody:∀(cl:List (Str×QW)) (C:QW) (s:QC) (H:Hp) (fp:List QW),bF X.env.cells scope.names []=some cl->jd (aV X own cap scope cl C s H fp) c t0 gt0/\gJ (aV X own cap scope cl C s H fp) c f0 gts0/\xJ (aV X own cap scope cl C s H fp) c t1 i1 gi1/\jd (aV X own cap scope cl C s H fp) c t1 gt1/\gJ (aV X own cap scope cl C s H fp) c f1 gts1/\PD (aV X own cap scope cl C s H fp) c elt ge)
  (hk:scope.kind=.function:=by rfl) (hno:fC X cap scope=true:=by rfl) (hnames:(scope.names.all λx=>!(x.2 == .local) || (scope.names.lookup x.1 == some .local))=true:=by rfl)
  (hcl:(bF X.env.cells scope.names []).isSome=true:=by rfl) (hcap:dD X cap=true:=by rfl) (hloc:dG X cap scope=true:=by rfl) (hnd:fS cap=true:=by rfl) (Oz:X.calm=true:=by rfl)
  (hs:∀x,Q2 i0 X.env x=pure x:=by intro _;rfl) (hs1:∀(en:Env) x,Q2 i1 en x=pure x:=by intro _ _;rfl) (hx:X.N[i]?=some x:=by rfl) (OJ:X.env.scope.names.lookup x=some .local:=by rfl)
  (hsw:T8 (.ListComp elt [⟨t0,i0,f0,0⟩,⟨t1,i1,f1,0⟩] scope pos) (some (.Name x pos')) pos2.line X.env=pure true:=by rfl):Ak X c (.Assign [.Name x pos'] (.ListComp elt [⟨t0,i0,f0,0⟩,⟨t1,i1,f1,0⟩] scope pos) pos2) (bg i (jP own.length cap gi0 gt0 gts0 gi1 gt1 gts1 ge)):=by
 intro pins s σ H D I ⟨J,env,sr,w⟩
 rw [Xk]
 refine Qw (Sq ?_)
 rw [show UU [.Name x pos'] (.ListComp elt [⟨t0,i0,f0,0⟩,⟨t1,i1,f1,0⟩] scope pos) pos2.line X.env=pure true from hsw]
 refine Qw (Qz ?_)
 rw [if_pos rfl,Wu]
 refine Qw (Qw (Ds own cap hi hbody hk hno hnames hcl hcap hloc hnd Oz hs hs1 (Q:=λv H1=>∃J1 r xx,Ext J H J1 H1/\RR c H J1 H1 r v/\toS r=.ok xx/\oP c J D (.nx (env.set i (some xx)))) I ⟨J,env,sr,aB (aK w) λr wr v J1 H1 e1 r1=>?_⟩ λacc C m s' H' fl hm ap hf hb ⟨J1,r,xx,e1,r1,q1,w1⟩=>?_))
 ·obtain ⟨xx,q,wr⟩:=nK wr
  exact ⟨J1,r,xx,e1,r1,q,wr⟩
 ·have I1:L2.Inv X pins σ H' s':=hb s'.heap (Wv ..)
  show Q7 _ _ (do TX pos';abm X.env x (.ref acc)) _ _ _
  refine Qw (Sq (XM ?_))
  refine mC I1 hN hx (.inl OJ) (v:=.ref acc) (u:=.ref acc) rfl (λs2 I2 ⟨a,sb,ha⟩=>?_) (.inr OJ)
  have hac:C≠a:=λz=>by
   rcases ha with e | e
   ·exact ap.2.1 (z.trans e)
   ·exact ap.2.2.1 _ _ e z.symm
  refine ⟨m,hm.sameBut sb hac,λh2 sb2=>?_⟩
  refine Qz (Qz ⟨σ.set i (some (.ref acc)),H',pN I2 ap hf sb2 (o0:=default),?_⟩)
  exact w1 _ J1 H' e1.j (sr.set e1 r1 q1)
theorem Ce (own:List Str) (cap:List Nat){elt t0 i0 t1 i1:Rp}{f0 f1:List Rp}{scope:Te}{pos:Pos}{gi0 gi1:G (List D)}{gt0 gt1:GT}{gts0 gts1:G Bool}{ge:G R}(hi:qK X c t0 i0 gi0)
  (hbody:∀(cl:List (Str×QW)) (C:QW) (s:QC) (H:Hp) (fp:List QW),bF X.env.cells scope.names []=some cl->kR (aV X own cap scope cl C s H fp) c t0 gt0/\jX (aV X own cap scope cl C s H fp) c f0 gts0/\xM (aV X own cap scope cl C s H fp) c t1 i1 gi1/\kR (aV X own cap scope cl C s H fp) c t1 gt1/\jX (aV X own cap scope cl C s H fp) c f1 gts1/\QD (aV X own cap scope cl C s H fp) c elt ge)
  (hk:scope.kind=.function:=by rfl) (hno:fC X cap scope=true:=by rfl) (hnames:(scope.names.all λx=>!(x.2 == .local) || (scope.names.lookup x.1 == some .local))=true:=by rfl)
  (hcl:(bF X.env.cells scope.names []).isSome=true:=by rfl) (hcap:dD X cap=true:=by rfl) (hloc:dG X cap scope=true:=by rfl) (hnd:fS cap=true:=by rfl) (Oz:X.calm=true:=by rfl)
  (hs:∀x,Q2 i0 X.env x=pure x:=by intro _;rfl) (hs1:∀(en:Env) x,Q2 i1 en x=pure x:=by intro _ _;rfl):QD X c (.ListComp elt [⟨t0,i0,f0,0⟩,⟨t1,i1,f1,0⟩] scope pos) (jP own.length cap gi0 gt0 gts0 gi1 gt1 gts1 ge):=
 ⟨Ea own cap hi.h (λcl C s H fp hc=>let ⟨a,b,d,e,f,g⟩:=hbody cl C s H fp hc;⟨a.h,b.h,d.h,e.h,f.h,g.h⟩) hk hno hnames hcl hcap hloc hnd Oz hs hs1⟩
theorem Cc (i:Nat) (own:List Str) (cap:List Nat){elt t0 i0 t1 i1:Rp}{f0 f1:List Rp}{scope:Te}{pos:Pos}{gi0 gi1:G (List D)}{gt0 gt1:GT}{gts0 gts1:G Bool}{ge:G R}{pos' pos2:Pos}{x:Str}(hN:X.N.Nodup) (hi:qK X c t0 i0 gi0)
  (hbody:∀(cl:List (Str×QW)) (C:QW) (s:QC) (H:Hp) (fp:List QW),bF X.env.cells scope.names []=some cl->kR (aV X own cap scope cl C s H fp) c t0 gt0/\jX (aV X own cap scope cl C s H fp) c f0 gts0/\xM (aV X own cap scope cl C s H fp) c t1 i1 gi1/\kR (aV X own cap scope cl C s H fp) c t1 gt1/\jX (aV X own cap scope cl C s H fp) c f1 gts1/\QD (aV X own cap scope cl C s H fp) c elt ge)
  (hk:scope.kind=.function:=by rfl) (hno:fC X cap scope=true:=by rfl) (hnames:(scope.names.all λx=>!(x.2 == .local) || (scope.names.lookup x.1 == some .local))=true:=by rfl)
  (hcl:(bF X.env.cells scope.names []).isSome=true:=by rfl) (hcap:dD X cap=true:=by rfl) (hloc:dG X cap scope=true:=by rfl) (hnd:fS cap=true:=by rfl) (Oz:X.calm=true:=by rfl)
  (hs:∀x,Q2 i0 X.env x=pure x:=by intro _;rfl) (hs1:∀(en:Env) x,Q2 i1 en x=pure x:=by intro _ _;rfl) (hx:X.N[i]?=some x:=by rfl) (OJ:X.env.scope.names.lookup x=some .local:=by rfl)
  (hsw:T8 (.ListComp elt [⟨t0,i0,f0,0⟩,⟨t1,i1,f1,0⟩] scope pos) (some (.Name x pos')) pos2.line X.env=pure true:=by rfl):iQ X c (.Assign [.Name x pos'] (.ListComp elt [⟨t0,i0,f0,0⟩,⟨t1,i1,f1,0⟩] scope pos) pos2) (bg i (jP own.length cap gi0 gt0 gts0 gi1 gt1 gts1 ge)):=
 ⟨D8 i own cap hN hi.h (λcl C s H fp hc=>let ⟨a,b,d,e,f,g⟩:=hbody cl C s H fp hc;⟨a.h,b.h,d.h,e.h,f.h,g.h⟩) hk hno hnames hcl hcap hloc hnd Oz hs hs1 hx OJ hsw⟩
end
def Ci:Qy->Option V
 | .int i _=>some (.int i)
 | .ref a=>some (.ref a)
 | _=>none
def kC:List Qy->Option (List V)
 | []=>some []
 | u::us=>match Ci u,kC us with
  | some v,some vs=>some (v::vs)
  | _,_=>none
open Classical in
noncomputable def lE (h:Sh):Hp:=λa=>match h.get? a with
 | some o=>if o.cls=.type "tuple" then (match o.data with
  | .seq its _=>(kC its.toList).map .tup
  | _=>none) else none
 | none=>none
theorem Gs {u:Qy}{v:V}(h:Ci u=some v):RelV v u:=by
 cases u with
 | int i t=>cases h;exact ⟨t,rfl⟩
 | ref a=>cases h;exact rfl
 | _=>cases h
theorem vL:∀{us:List Qy}{vs:List V},kC us=some vs->Vals vs us
 | [],vs,h=>by cases h;exact .nil
 | u::us,vs,h=>by
  unfold kC at h
  cases q:Ci u with
  | none=>rw [q] at h;cases h
  | some v=>
   cases q2:kC us with
   | none=>rw [q,q2] at h;cases h
   | some ws=>rw [q,q2] at h;cases h;exact .cons (Gs q) (vL q2)
theorem iK {h:Sh}{a:QW}{o:HO}(q:lE h a=some o):∃vs ob its n,o=.tup vs/\h.get? a=some ob/\ob.cls=.type "tuple"/\ob.data=.seq its n/\Vals vs its.toList:=by
 unfold lE at q
 split at q
 ·rename_i ob hob
  split at q
  ·rename_i hc
   split at q
   ·rename_i its n hd
    cases z:kC its.toList with
    | none=>rw [z] at q;cases q
    | some vs=>rw [z] at q;cases q;exact ⟨vs,ob,its,n,rfl,hob,hc,hd,vL z⟩
   ·cases q
  ·cases q
 ·cases q
theorem Jl {h:Sh}{a:QW}{its:List Qy}{vs:List V}(p:h.IsTuple a its.toArray) (q:kC its=some vs):lE h a=some (.tup vs):=by
 obtain ⟨o,ho,hc,n,hd⟩:=p
 unfold lE
 rw [ho]
 simp only [hc,if_true,hd]
 rw [q];rfl
theorem pG {s:QC}:HF [] (lE s.heap) s:=by
 refine ⟨λa xs h=>?_,λa xs h=>?_,λa h=>?_,λa ep kvs h=>?_⟩
 ·rcases h with (h | ⟨o,h⟩) | ⟨o,its,n,h,_⟩
  ·obtain ⟨vs,ob,its,n,e,h1,h2,h3,h4⟩:=iK h
   cases e
   exact ⟨its.toList,h4,ob,h1,h2,n,by rw [h3]⟩
  ·obtain ⟨vs,ob,its,n,e,_⟩:=iK h;cases e
  ·cases h
 ·rcases h with (h | ⟨o,h⟩) | ⟨o,its,n,h,_⟩
  ·obtain ⟨vs,ob,its,n,e,_⟩:=iK h;cases e
  ·obtain ⟨vs,ob,its,n,e,_⟩:=iK h;cases e
  ·cases h
 ·obtain ⟨vs,ob,its,n,e,_⟩:=iK h;cases e
 ·obtain ⟨vs,ob,its,n,e,_⟩:=iK h;cases e
theorem yV {K:Qx}{J:Hp}:∀{ds:List D}{vs:List V}{us:List Qy},areKeys ds=true->aI K J ds vs->Vals vs us->kC us=some vs
 | _,_,_,_,.nil,.nil=>rfl
 | d::ds,v::vs,u::us,h,.cons r rs,.cons q qs=>by
  unfold areKeys at h
  rw [QK] at h
  have ih:=yV h.2 rs qs
  have e:Ci u=some v:=by
   cases d with
   | int i=>cases r;obtain ⟨t,rfl⟩:=q;rfl
   | tup xs=>cases r;cases q;rfl
   | _=>cases h.1
  unfold kC
  rw [e,ih]
mutual
theorem kL {K:Qx}{J:Hp}{s:QC}(F:HF K J s):∀{d:D}{v:V},isKey d=true->Rep K J d v->Rep [] (lE s.heap) d v
 | .int i,_,_,.int _=>.int i
 | .tup ds,_,hk,.tup (a:=a) (vs:=vs) h hs=>by
  obtain ⟨its,r,p⟩:=F.t _ _ h
  exact .tup (.inl (.inl (Jl p (yV hk hs r)))) (yW F hk hs)
 | .non,_,hk,_=>nomatch hk
 | .bl _,_,hk,_=>nomatch hk
 | .str _,_,hk,_=>nomatch hk
 | .lst _,_,hk,_=>nomatch hk
 | .emp,_,hk,_=>nomatch hk
 | .exn _ _ _,_,hk,_=>nomatch hk
 | .dct _ _,_,hk,_=>nomatch hk
theorem yW {K:Qx}{J:Hp}{s:QC}(F:HF K J s):∀{ds:List D}{vs:List V},areKeys ds=true->aI K J ds vs->aI [] (lE s.heap) ds vs
 | [],_,_,.nil=>.nil
 | d::ds,_,h,.cons r rs=>by
  unfold areKeys at h
  rw [QK] at h
  exact .cons (kL F h.1 r) (yW F h.2 rs)
end
theorem Er {h h':Sh}{d:QW}{o:Obj} {es ep}(ho:h.get? d=some o) (hd:o.data=.dict es ep) (sb:RZ d h h'):aU (lE h) (lE h'):=λa x q=>by
 obtain ⟨vs,ob,its,n,rfl,h1,h2,h3,h4⟩:=iK q
 have hne:a≠d:=by
  rintro rfl
  rw [ho] at h1;cases h1
  rw [hd] at h3;cases h3
 unfold lE at q ⊢
 rw [sb.2 a hne]
 exact q
def KD:Type:={d:D // isKey d=true/\dep d<=8}
noncomputable instance:DecidableEq KD:=λa b=>aaD (a=b)
def Cj (A:Rx):Prop:=A.units + 16 < Sy
noncomputable def nW (prog:Q8) (w:Ru):HeapKind prog w KD where
 is:=λh k a=>Rep [] (lE h) k.1 (.ref a)
 hash:=λk=>bS k.1
 draws:=λk=>kq k.1
 room:=Cj
 inj:=fun {h a x y} hx hy=>WJ (Rep.inj (s:=({heap:=h}:QC)) pG hx hy (by have:=x.2.2;omega) (by have:=y.2.2;omega))
 keeps:=λhx ho hd sb=>Rep.mono (Er ho hd sb) hx
 pyHash:=fun {A E s k a Q} hu hx q=>uW k.1 (.ref a) (.ref a) A s pG k.2.1 hx rfl (by have:=k.2.2;unfold Cj at hu;omega) E s Q pG q
 eqBool:=fun {A E s x y a b Q} hu hx hy q=>by
  have h:=mV (s:=s) pG A hx hy rfl rfl (u:=.ref a) (u':=.ref b) (by have:=x.2.2;unfold Cj at hu;omega) (by have:=x.2.2;omega) (by have:=y.2.2;omega)
  refine h _ _ _ _ ?_
  have e:bw x.1 y.1=decide (x=y):=by
   rw [RV,uL x.2.1 y.2.1,decide_eq_true_eq]
   exact ⟨λz=>WJ z,λz=>congrArg Subtype.val z⟩
  rw [e];exact q
 quiet:=fun {A E s k a Q} hx q=>nu 8 pG ⟨k.1,.ref a,k.2.1,k.2.2,hx,rfl⟩ q
def ia:List D->List D->D->Option D
 | k::ks,v::vs,x=>if bw k x=true then some v else ia ks vs x
 | _,_,_=>none
section
variable {K:Qx}{J:Hp}{s:QC}{P:Q8}{w:Ru}
theorem Az (F:HF K J s):∀{ks:List D}{us ws:List V}{es:List Yg},areKeys ks=true->(∀k∈ks,∃xs,k=.tup xs)->deps ks<=8->aI K J ks us->ws.length=us.length->Wg xB ((cB ks).zip (us.zip ws)) es->
  ∃xs:List (KD×QW×Qy),es=xs.map (Z3 (nW P w))/\xs.map (λx=>x.1.1)=ks/\(∀x∈xs,(nW P w).is s.heap x.1 x.2.1)/\Vals ws (xs.map λx=>x.2.2)/\Vals us (xs.map λx=>UT x.2.1)
 | _,_,[],_,_,_,_,.nil,_,h=>by
  cases h
  exact ⟨[],rfl,rfl,λ_ h=>(nomatch h),.nil,.nil⟩
 | k::ks,u::us,v::ws,es,hk,ht,hd,.cons r rs,hl,h=>by
  unfold areKeys at hk
  rw [QK] at hk
  unfold deps at hd
  have h:Wg xB ((bS k,u,v)::(cB ks).zip (us.zip ws)) es:=h
  cases h with
  | @cons _ e _ es' h1 h2=>
   obtain ⟨xs,e1,e2,e3,e4,e5⟩:=Az F hk.2 (λk hk=>ht k (QF _ hk)) (by omega) rs (by simpa using hl) h2
   obtain ⟨xs',rfl⟩:=ht k QH
   obtain ⟨q1,q2,q3⟩:=h1
   obtain ⟨eh,ek,ev⟩:=e
   cases r with
   | tup t1 t2=>
    rename_i a vs
    have q2:ek=.ref a:=q2
    have q1:eh=bS (.tup xs'):=q1
    subst q2;subst q1
    refine ⟨(⟨.tup xs',hk.1,by omega⟩,a,ev)::xs,by rw [e1];rfl,by rw [Q5,e2],λx hx=>?_,.cons q3 e4,.cons rfl e5⟩
    (rcases Q3.mp hx with rfl | hx)
    ·exact kL F hk.1 (.tup t1 t2)
    ·exact e3 x hx
 | [],us,v::ws,_,_,_,_,rs,hl,_=>by cases rs;cases hl
 | k::ks,us,[],_,_,_,_,rs,hl,_=>by cases rs;cases hl
theorem FL {xs:List (KD×QW×Qy)}{ks:List D}(e:xs.map (λx=>x.1.1)=ks) (nd:ks.Nodup):(xs.map (·.1)).Nodup:=by
 rw [<-e] at nd
 have this:((xs.map (·.1)).map (λk:KD=>k.1)).Nodup:=by rw [Rk];exact nd
 exact aaT (λk:KD=>k.1) (λa b h e=>h (congrArg (λk:KD=>k.1) e)) this
theorem wY:∀{xs:List (KD×QW×Qy)}{ks vs:List D}{ws:List V}(k:KD),xs.map (λx=>x.1.1)=ks->aI K J vs ws->Vals ws (xs.map λx=>x.2.2)->
  (∀d,ia ks vs k.1=some d->∃p v,aaE xs k=some p/\RelV v p.2/\Rep K J d v)/\(ia ks vs k.1=none->aaE xs k=none)
 | [],_,vs,ws,k,e,rs,rv=>by
  subst e
  exact ⟨λd h=>(nomatch h),λ_=>rfl⟩
 | x::xs,_,_,_,k,e,.cons r rs,.cons q rv=>by
  subst e
  obtain ⟨i1,i2⟩:=wY (xs:=xs) k rfl rs rv
  rw [Q5]
  unfold ia
  by_cases c:x.1=k
  ·have:bw x.1.1 k.1=true:=by rw [c];exact gg _
   rw [if_pos this]
   have ek:aaE (x::xs) k=some x.2:=by unfold aaE;rw [List.find?_cons_of_pos (by simpa using c)];rfl
   exact ⟨λd h=>by cases h;exact ⟨x.2,_,ek,q,r⟩,λh=>nomatch h⟩
  ·have:¬bw x.1.1 k.1=true:=λh=>c (WJ ((uL x.1.2.1 k.2.1).mp h))
   rw [if_neg this]
   have ek:aaE (x::xs) k=aaE xs k:=by unfold aaE;rw [List.find?_cons_of_neg (by simpa using c)]
   rw [ek]
   exact ⟨i1,i2⟩
theorem rE {H:Hp}(F:HF K J s) (F':HF K H s){ks vs:List D}{a:QW}(h:dX K J H a ks vs):∃(xs:List (KD×QW×Qy)) (us ws:List V),s.heap.DictOfH (nW P w) a xs/\xs.map (λx=>x.1.1)=ks/\aI K J ks us/\aI K J vs ws/\Vals ws (xs.map λx=>x.2.2)/\Vals us (xs.map λx=>UT x.2.1)/\(a == Ub)=false:=by
 obtain ⟨us,ws,ep,h,hk,hv,ok,hs⟩:=h
 obtain ⟨o,es,h1,h2,h3,h4⟩:=F'.d _ _ _ h
 obtain ⟨xs,e1,e2,e3,e4,e5⟩:=Az (P:=P) (w:=w) F ok.key ok.tp ok.dp hk (by rw [<-hv.length,<-hk.length,hs.2]) h4
 exact ⟨xs,us,ws,⟨o,es,ep,h1,h2,h3,e1,e3,FL e2 ok.nd⟩,e2,hk,hv,e4,e5,hs.1⟩
end
def dR:D->Bool
 | .tup xs=>areKeys xs && decide (deps xs + 1<=8)
 | _=>false
theorem jl {k:D}(h:dR k=true):∃xs,k=.tup xs/\isKey k=true/\dep k<=8:=by
 cases k with
 | tup xs=>
  unfold dR at h
  rw [QK] at h
  exact ⟨xs,rfl,h.1,of_decide_eq_true h.2⟩
 | _=>cases h
def uZ:R->Option (List D×List D)
 | .d (.dct ks vs)=>some (ks,vs)
 | .mo ks vs=>some (ks,vs)
 | .mb ks vs=>some (ks,vs)
 | .mf ks vs=>some (ks,vs)
 | _=>none
def ir (x y:R):M R:=match uZ x,y with
 | some z,.d k=>if dR k=true then (match ia z.1 z.2 k with
  | some d=>.ok (.d d)
  | none=>.bad) else .bad
 | _,_=>.bad
section
variable {X:Cx}{c:C}{a b:Rp}{ga gb:G R}{pos:Pos}
theorem RR.dk {He J H:Hp}(hp:HI c J H):∀{r:R}{v:V}{z:List D×List D},RR c He J H r v->uZ r=some z->∃a,v=.ref a/\dX c.K J H a z.1 z.2
 | .d (.dct ks vs),v,z,h,e=>by
  cases e
  cases h with
  | dct h1 h2 h3 h4 h5=>exact ⟨_,rfl,_,_,_,hp.sub _ _ h1,h2,h3,h4,h5⟩
 | .mo ks vs,v,z,⟨a,h1,h2,_⟩,e=>by cases e;exact ⟨a,h1,h2⟩
 | .mf ks vs,v,z,⟨a,h1,h2,_⟩,e=>by cases e;exact ⟨a,h1,h2⟩
 | .mb ks vs,v,z,⟨a,h1,h2⟩,e=>by cases e;exact ⟨a,h1,h2.mono (aU.refl _) hp.ent⟩
 | .d .non,_,_,_,e=>nomatch e
 | .d (.bl _),_,_,_,e=>nomatch e
 | .d (.int _),_,_,_,e=>nomatch e
 | .d (.str _),_,_,_,e=>nomatch e
 | .d (.tup _),_,_,_,e=>nomatch e
 | .d (.lst _),_,_,_,e=>nomatch e
 | .d .emp,_,_,_,e=>nomatch e
 | .d (.exn _ _ _),_,_,_,e=>nomatch e
 | .l _ _,_,_,_,e=>nomatch e
theorem KC (hu:X.A.units + 64 < Sy):oV X (λx y H Q=>∃J p ks vs k d,aU J H/\x=.ref p/\dX X.K J H p ks vs/\Rep X.K J k y/\dR k=true/\ia ks vs k=some d/\∀v,Rep X.K J d v->Q v H):=by
 intro value slice pins s σ H x y v u Q I rx ry h hs
 obtain ⟨J,p,ks,vs,k,d,sm,rfl,hd,hk,ok,lk,q⟩:=h
 have F:HF X.K J s:=HF.of (c:=⟨X.K,H,H,λ_=>True⟩) I sm
 obtain ⟨kx,rfl,k1,k2⟩:=jl ok
 obtain ⟨r,rfl⟩:∃r,y=.ref r:=by cases hk;exact ⟨_,rfl⟩
 cases rx
 cases ry
 obtain ⟨xs,us,ws,hm,e2,_,hv,e4,_,hsm⟩:=rE (P:=X.prog) (w:=X.w) F (iT I) hd
 obtain ⟨pp,v,ea,rv,rd⟩:=(wY ⟨.tup kx,k1,k2⟩ e2 hv e4).1 d lk
 have room:(nW X.prog X.w).room X.A.in1:=by show X.A.units + 1 + 16 < Sy;omega
 exact Vc (x:=pp.2) hm.typeIs slot_dict_getitem.lookup (wpAny_getItem_heap (Q:=λr s'=>r=pp.2/\EP X pins σ Q r s') room (kL F k1 hk) hm ea ⟨rfl,v,H,I.tok _,rv,q v rd⟩) hs
theorem gz (hu:X.A.units + 64 < Sy) (ha:QD X c a ga) (hb:QD X c b gb) (hK:X.K=c.K:=by rfl) (hs:qc b:=by exact λ_ _=>rfl):QD X c (.Subscript a b pos) (g2 ir ga gb):=have ha:=ha.h;have hb:=hb.h;⟨Hh (KC hu) (by
 intro He He' J H x y u v Q hp rx ry w
 unfold ir at w
 split at w
 ·rename_i hz
  obtain ⟨p,rfl,hd⟩:=rx.dk hp hz
  split at w
  ·rename_i ok
   split at w
   ·rename_i d hl
    exact ⟨J,p,_,_,_,d,hp.sub,rfl,by rw [hK];exact hd,by rw [hK];exact ry,ok,hl,λv rd=>w v J H (Ext.refl hp.sub) (by rw [hK] at rd;exact rd)⟩
   ·exact w.elim
  ·exact w.elim
 ·exact w.elim) ha hb hs⟩
end
def uQ:List D->List D->D->D->List D
 | k::ks,v::vs,x,d=>(if bw k x=true then d else v)::uQ ks vs x d
 | _,vs,_,_=>vs
def dput (z:List D×List D) (k d:D):List D×List D:=if (ia z.1 z.2 k).isSome=true then (z.1,uQ z.1 z.2 k d) else (z.1++[k],z.2++[d])
def iR (ys:List D):List D×List D:=ys.foldl (λz y=>match y with
 | .tup [k,d]=>dput z k d
 | _=>z) ([],[])
theorem nO (ys:List D) (k d:D):iR (ys++[.tup [k,d]])=dput (iR ys) k d:=by unfold iR;rw [List.foldl_append];rfl
inductive cF (K:Qx) (J:Hp):List (KD×QW×Qy)->List D->List V->List D->List V->Prop
 | nil:cF K J [] [] [] [] []
 | cons {x:KD×QW×Qy}{xs:List (KD×QW×Qy)}{ks vs:List D}{us ws:List V}{d:D}{v:V}:RelV v x.2.2->Rep K J d v->cF K J xs ks us vs ws->cF K J (x::xs) (x.1.1::ks) (.ref x.2.1::us) (d::vs) (v::ws)
section
variable {K:Qx}{J:Hp}{P:Q8}{w:Ru}
theorem cF.of:∀{xs:List (KD×QW×Qy)}{us:List V}{vs:List D}{ws:List V},aI K J vs ws->Vals ws (xs.map λx=>x.2.2)->Vals us (xs.map λx=>UT x.2.1)->cF K J xs (xs.map λx=>x.1.1) us vs ws
 | [],_,_,_,.nil,.nil,.nil=>.nil
 | x::xs,u::us,_,_,.cons r rs,.cons q qs,.cons p ps=>by
  have:u=.ref x.2.1:=by
   cases u with
   | ref a=>cases p;rfl
   | int i=>obtain ⟨t,h⟩:=p;cases h
   | str i=>obtain ⟨t,h⟩:=p;cases h
   | byt i=>obtain ⟨t,h⟩:=p;cases h
   | flt i=>obtain ⟨t,h⟩:=p;cases h
   | non=>cases p
   | bl b=>cases p
   | ty n=>cases p
  subst this
  exact .cons q r (cF.of rs qs ps)
theorem cF.put {k:KD}{u:Qy}{d:D}{v:V}(rv:RelV v u) (rd:Rep K J d v):∀{xs:List (KD×QW×Qy)}{ks vs:List D}{us ws:List V},cF K J xs ks us vs ws->∃ws',cF K J (xs.map (putAt k u)) ks us (uQ ks vs k.1 d) ws'
 | _,_,_,_,_,.nil=>⟨[],.nil⟩
 | x::xs,_,_,_,_,.cons q r t=>by
  obtain ⟨ws',ih⟩:=cF.put rv rd t
  rw [Q5]
  unfold uQ
  by_cases c:x.1=k
  ·have:bw x.1.1 k.1=true:=by rw [c];exact gg _
   rw [if_pos this]
   have e:putAt k u x=(x.1,x.2.1,u):=by unfold putAt;rw [if_pos c]
   rw [e]
   exact ⟨v::ws',.cons (x:=(x.1,x.2.1,u)) rv rd ih⟩
  ·have:¬bw x.1.1 k.1=true:=λh=>c (WJ ((uL x.1.2.1 k.2.1).mp h))
   rw [if_neg this]
   have e:putAt k u x=x:=by unfold putAt;rw [if_neg c]
   rw [e]
   exact ⟨_,.cons q r ih⟩
theorem cF.snoc {k:KD}{a:QW}{u:Qy}{d:D}{v:V}(rv:RelV v u) (rd:Rep K J d v):∀{xs:List (KD×QW×Qy)}{ks vs:List D}{us ws:List V},cF K J xs ks us vs ws->cF K J (xs++[(k,a,u)]) (ks++[k.1]) (us++[.ref a]) (vs++[d]) (ws++[v])
 | _,_,_,_,_,.nil=>.cons (x:=(k,a,u)) rv rd .nil
 | _,_,_,_,_,.cons q r t=>.cons q r (cF.snoc rv rd t)
theorem cF.ents:∀{xs:List (KD×QW×Qy)}{ks vs:List D}{us ws:List V},cF K J xs ks us vs ws->Wg xB ((cB ks).zip (us.zip ws)) (xs.map (Z3 (nW P w)))
 | _,_,_,_,_,.nil=>.nil
 | _,_,_,_,_,.cons q r t=>.cons ⟨rfl,rfl,q⟩ t.ents
theorem cF.reps:∀{xs:List (KD×QW×Qy)}{ks vs:List D}{us ws:List V},cF K J xs ks us vs ws->aI K J vs ws
 | _,_,_,_,_,.nil=>.nil
 | _,_,_,_,_,.cons q r t=>.cons r t.reps
theorem cF.keys:∀{xs:List (KD×QW×Qy)}{ks vs:List D}{us ws:List V},cF K J xs ks us vs ws->xs.map (λx=>x.1.1)=ks
 | _,_,_,_,_,.nil=>rfl
 | _,_,_,_,_,.cons q r t=>by rw [Q5,t.keys]
theorem cF.len:∀{xs:List (KD×QW×Qy)}{ks vs:List D}{us ws:List V},cF K J xs ks us vs ws->ks.length=vs.length
 | _,_,_,_,_,.nil=>rfl
 | _,_,_,_,_,.cons q r t=>by rw [RT,RT,t.len]
theorem qM:∀{xs ys:List D},areKeys (xs++ys)=(areKeys xs && areKeys ys)
 | [],_=>rfl
 | x::xs,ys=>by
  show (isKey x && areKeys (xs++ys))=((isKey x && areKeys xs) && areKeys ys)
  rw [qM,Bool.and_assoc]
theorem yf:∀{xs ys:List D}{n:Nat},deps xs<=n->deps ys<=n->deps (xs++ys)<=n
 | [],_,_,_,h=>h
 | x::xs,ys,n,h1,h2=>by
  unfold deps at h1
  have:=yf (xs:=xs) (ys:=ys) (n:=n) (by omega) h2
  show max (dep x) (deps (xs++ys))<=n
  omega
theorem aI.snoc {ds:List D}{vs:List V}{d:D}{v:V}(h:aI K J ds vs) (r:Rep K J d v):aI K J (ds++[d]) (vs++[v]):=h.append (.cons r .nil)
end
section
variable {X:Cx}
theorem AV {pins:List (QW×Obj)}{s:QC}{σ:L2.St}{H J:Hp}(I:Inv X pins σ H s) (sub:aU J H){p:QW}{ks vs:List D}(h:dX X.K J H p ks vs):
  ∃xs:List (KD×QW×Qy),s.heap.DictOfH (nW X.prog X.w) p xs/\xs.length=ks.length/\∀{kxs:List D}{a:QW}{d:D}{v:V}{u:Qy}(k1:isKey (.tup kxs)=true) (k2:dep (.tup kxs)<=8),Rep X.K J (.tup kxs) (.ref a)->Rep X.K J d v->RelV v u->
   ∀(h':Sh) (tk:Nat),h'.DictOfH (nW X.prog X.w) p (storedH xs ⟨.tup kxs,k1,k2⟩ a u)->RZ p s.heap h'->
    ∃o,Inv X pins σ (upd H p o) {s with heap:=h',toks:=tk}/\dX X.K J (upd H p o) p (dput (ks,vs) (.tup kxs) d).1 (dput (ks,vs) (.tup kxs) d).2/\(dput (ks,vs) (.tup kxs) d).1.length<=ks.length + 1:=by
 have F:HF X.K J s:=HF.of (c:=⟨X.K,H,H,λ_=>True⟩) I sub
 obtain ⟨xs,us,ws,hm,q2,h3,h4,q4,q5,h7⟩:=rE (P:=X.prog) (w:=X.w) F (iT I) h
 obtain ⟨_,_,_,p9,_,_,h5,_⟩:=h
 have rows:cF X.K J xs ks us vs ws:=by
  have:=cF.of h4 q4 q5
  rw [q2] at this
  exact this
 refine ⟨xs,hm,by rw [<-q2,QA],fun {kxs a d v u} k1 k2 rk rd r9 h' tk hm' sb=>?_⟩
 obtain ⟨o',es',ep',g1',g2'',g3',g4',g5',g6'⟩:=hm'
 obtain ⟨l1,l2⟩:=wY (K:=X.K) (J:=J) ⟨.tup kxs,k1,k2⟩ q2 h4 q4
 have key:∃us' ws',cF X.K J (storedH xs ⟨.tup kxs,k1,k2⟩ a u) (dput (ks,vs) (.tup kxs) d).1 us' (dput (ks,vs) (.tup kxs) d).2 ws'/\aI X.K J (dput (ks,vs) (.tup kxs) d).1 us'/\areKeys (dput (ks,vs) (.tup kxs) d).1=true/\deps (dput (ks,vs) (.tup kxs) d).1<=8/\(∀k∈(dput (ks,vs) (.tup kxs) d).1,∃xs,k=.tup xs)/\(dput (ks,vs) (.tup kxs) d).1.length<=ks.length + 1:=by
  unfold dput
  cases lk:ia ks vs (.tup kxs) with
  | some z=>
   obtain ⟨pp,v,ea,_,_⟩:=l1 z lk
   rw [storedH_old ea]
   obtain ⟨ws',t⟩:=cF.put (k:=⟨.tup kxs,k1,k2⟩) r9 rd rows
   exact ⟨us,ws',t,h3,h5.key,h5.dp,h5.tp,Sv _⟩
  | none=>
   rw [storedH_new (l2 lk)]
   refine ⟨us++[.ref a],ws++[v],cF.snoc (k:=⟨.tup kxs,k1,k2⟩) r9 rd rows,h3.snoc rk,?_,yf h5.dp (by show max (dep (.tup kxs)) 0<=8;omega),λk hk=>?_,by simp⟩
   ·show areKeys (ks++[.tup kxs])=true
    rw [qM,h5.key]
    show (true && (isKey (.tup kxs) && true))=true
    rw [k1];rfl
   ·rcases Rt.mp hk with h | h
    ·exact h5.tp k h
    ·exact ⟨kxs,Q6.mp h⟩
 obtain ⟨us',ws',t,tk',kk,kd,kt,kl⟩:=key
 have nd':(dput (ks,vs) (.tup kxs) d).1.Nodup:=by
  rw [<-t.keys]
  have:((storedH xs ⟨.tup kxs,k1,k2⟩ a u).map (·.1)).Nodup:=g6'
  have h:=abu (S:=(·≠·)) (λk:KD=>k.1) (λa b (h:a≠b) e=>h (WJ e)) this
  rw [Rk] at h
  exact h
 refine ⟨kW p ep' ((cB (dput (ks,vs) (.tup kxs) d).1).zip (us'.zip ws')),I.write (e:=p) (by rw [p9];trivial) (.inl rfl) (λb u hb q=>by rw [sb.2 b hb];exact q) ⟨_,g1'⟩ ⟨⟨o',es',g1',g2'',g3',by rw [g4'];exact t.ents⟩,⟨_,g1'⟩,?_⟩,⟨us',ws',ep',bX,tk',t.reps,⟨kk,nd',kd,kt⟩,h7,t.len⟩,kl⟩
 rintro h1 h2 ⟨o,es,a1,a2⟩ e
 exact ⟨o,es,e o a1,a2⟩
end
def Bs (c:C) (p:QW):Hp->Hp->List D->Prop:=λJ H ys=>dX c.K J H p (iR ys).1 (iR ys).2/\J p=none/\(iR ys).1.length<=ys.length
theorem rq {c:C}{p:QW}:xw (Bs c p):=⟨fun {J H J' H' ys} ⟨h1,h2,h3⟩ e=>⟨h1.mono e.j e.h,e.frz _ h1.ne h2,h3⟩⟩
def rB (gk gv:G R):Ev->M (List D×Ev):=λe=>gk e >>= λr=>toD r >>= λk=>gv e >>= λr2=>toD r2 >>= λd=>if dR k=true then .ok ([.tup [k,d]],e) else .bad
abbrev B_ (kx vx:Rp) (p:QW) (env:Env):Sem Unit:=do
 let kv <-eval kx env
 let vv <-holding [kv] (eval vx env)
 TX {kx.pos with endLine:=vx.pos.endLine,endCol:=vx.pos.endCol}
 holding [kv,vv] (dictSet p kv vv)
section
variable {X:Cx}{c:C}{p:QW}{J2 H2:Hp}{kx vx:Rp}{gk gv:G R}
theorem Ar (hu:X.A.units + 64 < Sy) (hK:X.K=c.K) (hx:∀v s,X.xe v s->False) (hp2:H2 p=none) (hp0:c.H0 p=none) (hk:PD X c kx gk) (hv:PD X c vx gv):uu X c p (Bs c p) J2 H2 1 (B_ kx vx p X.env) (rB gk gv):=by
 intro pins s σ H J env ys Qf I x2 sr no ⟨h1,h2,h8⟩ hl w
 refine Qw (RJ (hk _ s σ H (λv H8=>∃J8 k,Ext J H J8 H8/\Rep c.K J8 k v/\cJ (gv env >>= λr2=>toD r2 >>= λd=>if dR k=true then M.ok ([.tup [k,d]],env) else .bad) Qf c.T) I ⟨J,env,sr,aB (aK w) λr wr v J8 H8 e8 r8=>?_⟩) (λu8 s8 ⟨v8,H8,I8,r8,J8,k,e8,rk,w8⟩=>?_) λv s f=>(hx v s f).elim)
 ·obtain ⟨y,q,wr⟩:=i8 wr
  obtain ⟨J9,e9,_,ry⟩:=freeze e8 r8 q
  exact ⟨J9,y,e9,ry,wr⟩
 refine Qw (Rn (RJ (hv _ s8 σ H8 (λv H9=>∃J9 d,Ext J8 H8 J9 H9/\Rep c.K J9 d v/\cJ (if dR k=true then M.ok ([.tup [k,d]],env) else .bad) Qf c.T) I8 ⟨J8,env,sr.ext e8,aB (aK w8) λr wr v J9 H9 e9 r9=>?_⟩) (λu9 s9 ⟨v9,H9,I9,r9,J9,d,e9,rd,w9⟩=>?_) λv s f=>(hx v s f).elim))
 ·obtain ⟨y,q,wr⟩:=i8 wr
  obtain ⟨J9',e9',_,ry⟩:=freeze e9 r9 q
  exact ⟨J9',y,e9',ry,wr⟩
 refine Qw (Sq (Rn ?_))
 by_cases ok:dR k=true
 case neg=>rw [if_neg ok] at w9;exact w9.elim
 rw [if_pos ok] at w9
 have w9:Qf ([.tup [k,d]],env):=w9
 obtain ⟨kxs,rfl,k1,k2⟩:=jl ok
 have ee:=e8.trans e9
 have rk9:=rk.mono e9.j
 obtain ⟨a,rfl⟩:∃a,v8=.ref a:=by cases rk;exact ⟨_,rfl⟩
 cases r8
 have J9p:J9 p=none:=ee.frz _ h1.ne h2
 rw [<-hK] at rk9 rd
 have h9:=h1.mono ee.j ee.h
 rw [<-hK] at h9
 obtain ⟨xs,hm,lx,put⟩:=AV I9 ee.sub h9
 refine wpAny_dictSet_heap (knd:=nW X.prog X.w) (k:=⟨.tup kxs,k1,k2⟩) (show X.A.units + 16 < Sy by omega) (kL (HF.of (c:=⟨X.K,H9,H9,λ_=>True⟩) I9 ee.sub) k1 rk9) hm (λh' hm' sb=>?_) (by rw [lx];omega)
 obtain ⟨o,W,hd,kl⟩:=put k1 k2 rk9 rd r9 h' _ hm' sb
 refine ⟨σ,_,J9,([.tup [.tup kxs,d]],env),W,(x2.trans ee).other hp2 J9p,ee.j,(sr.ext ee).other J9p hp0 no,no,⟨by rw [nO,<-hK];exact hd,J9p,?_⟩,QL _,w9⟩
 rw [nO,Rh];exact Rr kl (Nat.add_le_add_right h8 1)
end
def kJ (n:Nat) (cap:List Nat) (gi0:G (List D)) (gt0:GT) (gts0:G Bool) (gi1:G (List D)) (gt1:GT) (gts1:G Bool) (gk gv:G R):G R:=jj 10000 n cap gi0 gt0 gts0 (jg gi1 gt1 gts1 (rB gk gv)) (λys=>.ok (.d (.dct (iR ys).1 (iR ys).2)))
theorem JB (kx vx t0 i0 t1 i1:Rp) (f0 f1:List Rp) (scope:Te) (pos:Pos) (it acc:Qy) (env:Env):
  Vq (.DictComp kx vx [⟨t0,i0,f0,0⟩,⟨t1,i1,f1,0⟩] scope pos) 0 it acc env=(do
   TX i0.pos
   match <-Va it with
   | none=>pure (.done .next)
   | some v=>
    S9 t0 it v
    assign t0 env v
    let mut ok:=true
    for c in f0 do
     if ok then ok <-XD c env (eval c env)
    if ok then
     let x <-eval i1 env
     TX i1.pos
     let x <-Q2 i1 env x
     let _ <-runOwn (.compStart (.DictComp kx vx [⟨t0,i0,f0,0⟩,⟨t1,i1,f1,0⟩] scope pos) 1 (<-holding [x] (Wi x)) acc env) env
    again (.compLoop (.DictComp kx vx [⟨t0,i0,f0,0⟩,⟨t1,i1,f1,0⟩] scope pos) 0 it acc env)):=by rfl
theorem L3 (kx vx t0 i0 t1 i1:Rp) (f0 f1:List Rp) (scope:Te) (pos:Pos) (it acc:Qy) (env:Env):
  Vq (.DictComp kx vx [⟨t0,i0,f0,0⟩,⟨t1,i1,f1,0⟩] scope pos) 0 it acc env=mD t0 i0 f0 it env (rH (.DictComp kx vx [⟨t0,i0,f0,0⟩,⟨t1,i1,f1,0⟩] scope pos) i1 acc env) (again (.compLoop (.DictComp kx vx [⟨t0,i0,f0,0⟩,⟨t1,i1,f1,0⟩] scope pos) 0 it acc env)):=by
 rw [JB]
 refine bind_congr λ_=>bind_congr λr=>?_
 cases r with
 | none=>rfl
 | some v=>
  refine bind_congr λ_=>bind_congr λ_=>bind_congr λok=>?_
  cases ok with
  | false=>rfl
  | true=>simp only [rH,bind_assoc,pure_bind,if_true]
theorem L4 (kx vx t0 i0 t1 i1:Rp) (f0 f1:List Rp) (scope:Te) (pos:Pos) (it:Qy) (p:QW) (env:Env):
  Vq (.DictComp kx vx [⟨t0,i0,f0,0⟩,⟨t1,i1,f1,0⟩] scope pos) 1 it (.ref p) env=mD t1 i1 f1 it env (B_ kx vx p env) (again (.compLoop (.DictComp kx vx [⟨t0,i0,f0,0⟩,⟨t1,i1,f1,0⟩] scope pos) 1 it (.ref p) env)):=by rfl
section
variable {X:Cx}{c:C}
theorem J_ (hu:X.A.units + 64 < Sy) (hK:X.K=c.K) (own:List Str) (cap:List Nat){kx vx t0 i0 t1 i1:Rp}{f0 f1:List Rp}{scope:Te}{pos:Pos}{gi0 gi1:G (List D)}{gt0 gt1:GT}{gts0 gts1:G Bool}{gk gv:G R}(hi:oW X c t0 i0 gi0)
  (hbody:∀(cl:List (Str×QW)) (C:QW) (s:QC) (H:Hp) (fp:List QW),bF X.env.cells scope.names []=some cl->jd (aV X own cap scope cl C s H fp) c t0 gt0/\gJ (aV X own cap scope cl C s H fp) c f0 gts0/\xJ (aV X own cap scope cl C s H fp) c t1 i1 gi1/\jd (aV X own cap scope cl C s H fp) c t1 gt1/\gJ (aV X own cap scope cl C s H fp) c f1 gts1/\PD (aV X own cap scope cl C s H fp) c kx gk/\PD (aV X own cap scope cl C s H fp) c vx gv)
  (hk:scope.kind=.function:=by rfl) (hno:fC X cap scope=true:=by rfl) (hnames:(scope.names.all λx=>!(x.2 == .local) || (scope.names.lookup x.1 == some .local))=true:=by rfl)
  (hcl:(bF X.env.cells scope.names []).isSome=true:=by rfl) (hcap:dD X cap=true:=by rfl) (hloc:dG X cap scope=true:=by rfl) (hnd:fS cap=true:=by rfl) (Oz:X.calm=true:=by rfl)
  (hs:∀x,Q2 i0 X.env x=pure x:=by intro _;rfl) (hs1:∀(en:Env) x,Q2 i1 en x=pure x:=by intro _ _;rfl)
  {pins:List (QW×Obj)}{s:QC}{σ:L2.St}{H:Hp}{Q:VK}{use:Option (Qy->Sem Unit)}{Q0:Qy->QC->Prop}{pos':Pos}(I:Inv X pins σ H s) (h:tD c (kJ own.length cap gi0 gt0 gts0 gi1 gt1 gts1 gk gv) σ H Q)
  (OC:∀(acc C:QW) (m:Str->Option Qy) (s':QC) (H':Hp) (fl:Flow),s'.heap.Ns C m->((C∈X.ex\/X.s₀.heap.objs.size<=C)/\C≠X.env.locals/\(∀x c,X.env.cells.lookup x=some c->c≠C)/\∀p∈X.pn++pins,p.1≠C)->H' C=none->(∀h'',RZ C s'.heap h''->Inv X pins σ H' {s' with heap:=h''})->Q (.ref acc) H'->Ys (Rb X.prog X.w) X.A X.xe use Q0 (.ref acc) C (.ok fl) s'):
  Q7 (Rb X.prog X.w) X.A (comprehension (.DictComp kx vx [⟨t0,i0,f0,0⟩,⟨t1,i1,f1,0⟩] scope pos) scope X.env pos' newDict false (eval i0 X.env) use) Q0 X.xe s:=by
 refine nN (e:=.DictComp kx vx [⟨t0,i0,f0,0⟩,⟨t1,i1,f1,0⟩] scope pos) (ob:={cls:=.type "dict",data:=.dict #[]}) (o0:=λa=>kW a 0 []) (Acc:=Bs c) (N:=1000 * 1) (lim:=10000) (m:=λp env=>rH (.DictComp kx vx [⟨t0,i0,f0,0⟩,⟨t1,i1,f1,0⟩] scope pos) i1 (.ref p) env) own cap rfl hi
  (λs Q E q=>Rz q) (λh H=>⟨⟨_,#[],QV _ rfl,⟨rfl,rfl,rfl⟩,rfl,.nil⟩,⟨_,QV _ rfl⟩,λh1 h2 ⟨o,es,a1,a2⟩ e=>⟨o,es,e o a1,a2⟩⟩) (λp=>rq) (λp J H hsm h1 h2=>⟨⟨[],[],0,h1,.nil,.nil,⟨rfl,Tv,Rl _,λ_ h=>(nomatch h)⟩,beq_eq_false_iff_ne.mpr (S8 (Rf hsm)),rfl⟩,h2,QL _⟩) (by decide) (λit p env=>BY (L3 ..)) (λit acc env R s h0 h=>W5 h0 h) (λys z q=>by cases q)
  (fun {p J H J' H' ys r} hp e ⟨⟨us,ws,ep,h1,h3,h4,h5,h7⟩,h2,h8⟩ q=>by
   cases q
   have s1:aU J' (upd J' p (kW p ep ((cB (iR ys).1).zip (us.zip ws)))):=cL h2 _
   refine ⟨upd J' p (kW p ep ((cB (iR ys).1).zip (us.zip ws))),⟨e.h,e.j.trans s1,λa o q=>?_,λa ha ja=>?_⟩,.dct bX (h3.mono s1) (h4.mono s1) h5 h7⟩
   ·by_cases z:a=p
    ·subst z;rw [bX] at q;cases q;exact h1
    ·rw [bD z] at q;exact e.sub _ _ q
   ·have:a≠p:=λz=>ha (z▸hp)
    rw [bD this];exact e.frz a ha ja) (λcl C s H fp hcc=>?_) hk hno hnames hcl hcap hloc hnd Oz hs I h OC
 obtain ⟨b1,b2,b3,b4,b5,b6,b7⟩:=hbody cl C s H fp hcc
 refine ⟨b1,b2,λp J2 H2 hp2 hp0=>?_⟩
 exact Aq rq Oz (λ_ _ f=>f) (λx=>hs1 _ x) (λit R s h0 h=>LR h0 h) (λit=>BY (L4 ..)) b3 b4 b5 (Ar hu hK (λ_ _ f=>f) hp2 hp0 b6 b7)
theorem D_ (hu:X.A.units + 64 < Sy) (own:List Str) (cap:List Nat){kx vx t0 i0 t1 i1:Rp}{f0 f1:List Rp}{scope:Te}{pos:Pos}{gi0 gi1:G (List D)}{gt0 gt1:GT}{gts0 gts1:G Bool}{gk gv:G R}(hi:oW X c t0 i0 gi0)
  (hbody:∀(cl:List (Str×QW)) (C:QW) (s:QC) (H:Hp) (fp:List QW),bF X.env.cells scope.names []=some cl->jd (aV X own cap scope cl C s H fp) c t0 gt0/\gJ (aV X own cap scope cl C s H fp) c f0 gts0/\xJ (aV X own cap scope cl C s H fp) c t1 i1 gi1/\jd (aV X own cap scope cl C s H fp) c t1 gt1/\gJ (aV X own cap scope cl C s H fp) c f1 gts1/\PD (aV X own cap scope cl C s H fp) c kx gk/\PD (aV X own cap scope cl C s H fp) c vx gv)
  (hk:scope.kind=.function:=by rfl) (hno:fC X cap scope=true:=by rfl) (hnames:(scope.names.all λx=>!(x.2 == .local) || (scope.names.lookup x.1 == some .local))=true:=by rfl)
  (hcl:(bF X.env.cells scope.names []).isSome=true:=by rfl) (hcap:dD X cap=true:=by rfl) (hloc:dG X cap scope=true:=by rfl) (hnd:fS cap=true:=by rfl) (Oz:X.calm=true:=by rfl)
  (hs:∀x,Q2 i0 X.env x=pure x:=by intro _;rfl) (hs1:∀(en:Env) x,Q2 i1 en x=pure x:=by intro _ _;rfl) (hK:X.K=c.K:=by rfl):PD X c (.DictComp kx vx [⟨t0,i0,f0,0⟩,⟨t1,i1,f1,0⟩] scope pos) (kJ own.length cap gi0 gt0 gts0 gi1 gt1 gts1 gk gv):=by
 intro pins s σ H Q I h
 rw [arm_eval_DictComp]
 exact J_ hu hK own cap hi hbody hk hno hnames hcl hcap hloc hnd Oz hs hs1 I h λacc C m s' H' fl hm hz hf hb q=>⟨m,hm,λh'' sb=>⟨.ref acc,H',hb h'' sb,rfl,q⟩⟩
theorem tU (hu:X.A.units + 64 < Sy) (own:List Str) (cap:List Nat){kx vx t0 i0 t1 i1:Rp}{f0 f1:List Rp}{scope:Te}{pos:Pos}{gi0 gi1:G (List D)}{gt0 gt1:GT}{gts0 gts1:G Bool}{gk gv:G R}(hi:qK X c t0 i0 gi0)
  (hbody:∀(cl:List (Str×QW)) (C:QW) (s:QC) (H:Hp) (fp:List QW),bF X.env.cells scope.names []=some cl->kR (aV X own cap scope cl C s H fp) c t0 gt0/\jX (aV X own cap scope cl C s H fp) c f0 gts0/\xM (aV X own cap scope cl C s H fp) c t1 i1 gi1/\kR (aV X own cap scope cl C s H fp) c t1 gt1/\jX (aV X own cap scope cl C s H fp) c f1 gts1/\QD (aV X own cap scope cl C s H fp) c kx gk/\QD (aV X own cap scope cl C s H fp) c vx gv)
  (hk:scope.kind=.function:=by rfl) (hno:fC X cap scope=true:=by rfl) (hnames:(scope.names.all λx=>!(x.2 == .local) || (scope.names.lookup x.1 == some .local))=true:=by rfl)
  (hcl:(bF X.env.cells scope.names []).isSome=true:=by rfl) (hcap:dD X cap=true:=by rfl) (hloc:dG X cap scope=true:=by rfl) (hnd:fS cap=true:=by rfl) (Oz:X.calm=true:=by rfl)
  (hs:∀x,Q2 i0 X.env x=pure x:=by intro _;rfl) (hs1:∀(en:Env) x,Q2 i1 en x=pure x:=by intro _ _;rfl) (hK:X.K=c.K:=by rfl):QD X c (.DictComp kx vx [⟨t0,i0,f0,0⟩,⟨t1,i1,f1,0⟩] scope pos) (kJ own.length cap gi0 gt0 gts0 gi1 gt1 gts1 gk gv):=
 ⟨D_ hu own cap hi.h (λcl C s H fp hc=>let ⟨a,b,d,e,f,g,h⟩:=hbody cl C s H fp hc;⟨a.h,b.h,d.h,e.h,f.h,g.h,h.h⟩) hk hno hnames hcl hcap hloc hnd Oz hs hs1 hK⟩
end
def lexLe:List Int->List Int->Bool
 | [],_=>true
 | _::_,[]=>false
 | x::xs,y::ys=>if x=y then lexLe xs ys else decide (x<=y)
theorem kr (x y:Int) (xs ys:List Int):lexLe (x::xs) (y::ys)=if x=y then lexLe xs ys else decide (x<=y):=rfl
theorem oQ:lexLe [] []=true:=rfl
theorem uO (y:Int) (ys:List Int):lexLe [] (y::ys)=true:=rfl
theorem uN (x:Int) (xs:List Int):lexLe (x::xs) []=false:=rfl
theorem Gu (A:Rx) (s:QC) (a:Int) (t:Tok) (c:Int) (u:Tok) (prog:Q8) (w:Ru) (E:Qy->QC->Prop) (Q:Qy->QC->Prop) (h:Q (.bool (decide (a<=c))) s):
  Q7 (Rb prog w) A (richCompare .LtE (.int a t) (.int c u)) Q E s:=
 (abf h:Q7 (Rb prog w) A (R0 .LtE (.int a t) (.int c u)) Q E s)
section
open PySem.SeqAt
open PySem.AutoSeq1 (wpAny_loadPart')
open PySem.MeetsSeq PySem.MeetsSeq2 PySem.MeetsSeq3
theorem wU (l b:QW) (items items2:Array Qy) (n n2:Nat) (dd dd2:Option QW) (sl sl2:Array (Option Qy)) (ns ms:List Int) (hi:UM items.toList ns) (hj:UM items2.toList ms):
  Meets (UN.«tuple.__le__» ⟨[.ref l,.ref b],[]⟩)
   (λ_ R s=>s.heap.get? l=some {cls:=.type "tuple",dict:=dd,data:=.seq items n,slots:=sl}/\s.heap.get? b=some {cls:=.type "tuple",dict:=dd2,data:=.seq items2 n2,slots:=sl2}/\
    R (.ok (.ret (.bool (lexLe ns ms)))) s):=
 .of_wp λprog w A R s h=>by
  obtain ⟨hp,g,d,tk,os⟩:=s;obtain ⟨hl,hb,h⟩:=h
  have f2:=US
  have z1:items.size=ns.length:=by rw [<-hi.length];simp
  have z2:items2.size=ms.length:=by rw [<-hj.length];simp
  wp_walk using Td hl,Td hb,Th _ (λrest b s'=>b.1=none/\s'=⟨hp,g,d,tk,os⟩/\∃(vs ws:List Qy) (ns' ms':List Int),rest=vs.zip ws/\
   UM vs ns'/\UM ws ms'/\ns'.length + items2.size=ms'.length + items.size/\R (.ok (.ret (.bool (lexLe ns' ms')))) ⟨hp,g,d,tk,os⟩) _
  case turn=>
   rintro ⟨y,x⟩ rest b s' ⟨hb',rfl,vs,ws,ns',ms',hz,PY,hwi,hlen,hR⟩
   cases PY with
   | nil=>rw [List.zip_nil_left] at hz;cases hz
   | cons a t PZ=>
    cases hwi with
    | nil=>rw [List.zip_nil_right] at hz;cases hz
    | cons c u P0=>
     rw [V6] at hz
     injection hz with hyx hrest
     injection hyx with hy hx
     subst hy hx
     rw [kr] at hR
     simp only [RT] at hlen
     obtain ⟨e,he,hiff⟩:=HT.E7 A.in1 ⟨hp,g,d,tk,os⟩ a t c u
     refine Qw (he prog w _ _ ?_)
     cases e with
     | true=>
      rw [if_pos (hiff.mp rfl)] at hR
      wp_walk
      exact ⟨rfl,rfl,_,_,_,_,hrest,PZ,P0,by omega,hR⟩
     | false=>
      rw [if_neg (λq=>absurd (hiff.mpr q) Rq)] at hR
      have PU:=Gu A.in1 ⟨hp,g,d,tk,os⟩ a t c u prog w
      wp_walk using PU
      exact ⟨_,rfl,by simpa using hR⟩
  case fin=>
   rintro ⟨b1,b2⟩ s' ⟨hb',rfl,vs,ws,ns',ms',hz,PY,hwi,hlen,hR⟩
   simp only at hb'
   subst hb'
   have hv:lexLe ns' ms'=decide (items.size<=items2.size):=by
    cases PY with
    | nil=>
     cases hwi with
     | nil=>
      simp only [Uk] at hlen
      rw [oQ]
      exact (decide_eq_true (by omega)).symm
     | cons c u hw=>
      simp only [Uk,RT] at hlen
      rw [uO]
      exact (decide_eq_true (by omega)).symm
    | cons a t hv=>
     cases hwi with
     | nil=>
      simp only [Uk,RT] at hlen
      rw [uN]
      exact (decide_eq_false (by omega)).symm
     | cons c u hw=>
      rw [V6] at hz
      cases hz
   rw [hv] at hR
   wp_walk
   exact ⟨_,rfl,by simpa [Vi] using hR⟩
  case h=>
   exact ⟨rfl,rfl,items.toList,items2.toList,ns,ms,rfl,hi,hj,by omega,h⟩
end
section
variable {prog:Q8}{w:Ru}{A:Rx}{E:Qy->QC->Prop}{s:QC}
theorem BX {l b:QW}{items items2:Array Qy}{ns ms:List Int}{Q:Qy->QC->Prop}(hl:aaU s.heap l items) (hb:aaU s.heap b items2) (hi:UM items.toList ns) (hj:UM items2.toList ms)
  (hu:A.units < Sy) (h:Q (.bool (lexLe ns ms)) s):Q7 (Rb prog w) A (R0 .LtE (.ref l) (.ref b)) Q E s:=by
 obtain ⟨⟨cls,dd,data,sl⟩,ho,hc,n,hd⟩:=id hl
 obtain ⟨⟨cls2,dd2,data2,sl2⟩,ho2,hc2,n2,hd2⟩:=id hb
 simp only at hc hd hc2 hd2
 subst hc hd hc2 hd2
 exact WZ (op:=.LtE) ⟨_,ho,rfl⟩ ⟨_,ho2,rfl⟩ PySem.F.slot_tuple_le PySem.F.entry_tuple_le (PySem.F.args_tuple_le_2 _ _) (wU l b items items2 n n2 dd dd2 sl sl2 ns ms hi hj)
  ⟨ho,ho2,show TF (lexLe ns ms)≠Xv/\Q (.bool (lexLe ns ms)) s from ⟨(λx=>nomatch x),h⟩⟩ hu
end
section
variable {X:Cx}{c:C}{a b e:Rp}{ga gb:G R}{pos pos2:Pos}
theorem K1 (hu:X.A.units < Sy):cT X (R0 .LtE) (λx y H Q=>∃a b ns ms,x=.ref a/\y=.ref b/\cY X.K H a (ns.map V.int)/\cY X.K H b (ms.map V.int)/\Q (.bl (lexLe ns ms)) H):=by
 intro pins s σ H x y v u Q I rx ry h
 obtain ⟨a,b,ns,ms,rfl,rfl,ha,hb,q⟩:=h
 cases rx
 cases ry
 obtain ⟨its,r1,p1,_⟩:=I.tuple ha
 obtain ⟨its2,r2,p2,_⟩:=I.tuple hb
 exact BX p1 p2 (L2.intsAre_of r1:UM its.toArray.toList ns) (L2.intsAre_of r2:UM its2.toArray.toList ms) hu ⟨.bl (lexLe ns ms),H,I,rfl,q⟩
def yl:R->R->M R
 | .d (.tup xs),.d (.tup ys)=>match intsOf xs,intsOf ys with
  | some ns,some ms=>.ok (.d (.bl (lexLe ns ms)))
  | _,_=>.bad
 | _,_=>.bad
theorem Jc (hu:X.A.units + 64 < Sy) (ha:QD X c a ga) (hb:QD X c b gb) (hK:X.K=c.K:=by rfl):QB X c (.Compare a [.LtE] [b] pos) (bN (g2 yl ga gb)):=have ha:=ha.h;have hb:=hb.h;⟨k_ (K1 (by omega)) (by
 intro He He' J H x y u v Q hp rx ry w
 unfold yl at w
 split at w
 ·cases rx with
  | tup h1 s1=>
   cases ry with
   | tup h2 s2=>
    split at w
    ·rename_i ns ms z1 z2
     have e1:=nV z1 s1
     have e2:=nV z2 s2
     subst e1 e2
     exact ⟨_,_,ns,ms,rfl,rfl,by rw [hK];exact fP hp.sub h1,by rw [hK];exact fP hp.sub h2,w _ J H (Ext.refl hp.sub) (.bl _)⟩
    ·exact w.elim
 ·exact w.elim) ha hb⟩
end
theorem uC (gt:GT) (gts:G Bool) (ge:G R):∀(ds:List D) (env:Ev) (k:List D->M R),(bW gt gts (gO ge) ds env >>= λr=>k r.1)=(cR gt gts ge ds env >>= k)
 | [],env,k=>rfl
 | d::ds,env,k=>by
  unfold bW cR
  cases gt d env with
  | bad=>rfl
  | exc z=>rfl
  | ok e=>
   show ((gts e >>= λk=>if k=true then gO ge e >>= λr=>bW gt gts (gO ge) ds r.2 >>= λz=>.ok (r.1++z.1,z.2) else bW gt gts (gO ge) ds e) >>= _)=((gts e >>= λk=>if k=true then ge e >>= λr=>toD r >>= λy=>cR gt gts ge ds e >>= λys=>.ok (y::ys) else cR gt gts ge ds e) >>= _)
   cases gts e with
   | bad=>rfl
   | exc z=>rfl
   | ok b=>
    cases b with
    | false=>exact uC gt gts ge ds e k
    | true=>
     show ((gO ge e >>= λr=>bW gt gts (gO ge) ds r.2 >>= λz=>.ok (r.1++z.1,z.2)) >>= _)=((ge e >>= λr=>toD r >>= λy=>cR gt gts ge ds e >>= λys=>.ok (y::ys)) >>= _)
     unfold gO
     cases ge e with
     | bad=>rfl
     | exc z=>rfl
     | ok r=>
      show (((toD r >>= λy=>M.ok ([y],e)) >>= λr=>bW gt gts (gO ge) ds r.2 >>= λz=>.ok (r.1++z.1,z.2)) >>= _)=((toD r >>= λy=>cR gt gts ge ds e >>= λys=>.ok (y::ys)) >>= _)
      cases toD r with
      | bad=>rfl
      | exc z=>rfl
      | ok y=>
       have ih:=uC gt gts ge ds e λys=>k (y::ys)
       show ((bW gt gts (gO ge) ds e >>= λz=>.ok ([y]++z.1,z.2)) >>= λr=>k r.1)=((cR gt gts ge ds e >>= λys=>M.ok (y::ys)) >>= k)
       have e1:((bW gt gts (gO ge) ds e >>= λz=>M.ok ([y]++z.1,z.2)) >>= λr=>k r.1)=(bW gt gts (gO ge) ds e >>= λr=>k (y::r.1)):=by cases bW gt gts (gO ge) ds e <;> rfl
       have e2:((cR gt gts ge ds e >>= λys=>M.ok (y::ys)) >>= k)=(cR gt gts ge ds e >>= λys=>k (y::ys)):=by cases cR gt gts ge ds e <;> rfl
       rw [e1,e2,ih]
theorem Ie (n:Nat) (cap:List Nat) (gi:G (List D)) (gt:GT) (gts:G Bool) (ge:G R):bJ n cap gi gt gts ge=jj sizeLine n cap gi gt gts (gO ge) (λys=>.ok (.l .fresh ys)):=by
 funext env
 unfold bJ jj
 cases gi env with
 | bad=>rfl
 | exc z=>rfl
 | ok ds=>
  show (if ds.length<=sizeLine then _ else _)=(if ds.length<=sizeLine then _ else _)
  by_cases c:ds.length<=sizeLine
  ·rw [if_pos c,if_pos c]
   exact (uC gt gts ge ds _ λys=>.ok (.l .fresh ys)).symm
  ·rw [if_neg c,if_neg c]
section
variable {X:Cx}{c:C}
theorem Dr (own:List Str) (cap:List Nat){elt target iter:Rp}{ifs:List Rp}{scope:Te}{pos:Pos}{gi:G (List D)}{gt:GT}{gts:G Bool}{ge:G R}(hi:oW X c target iter gi)
  (hbody:∀(cl:List (Str×QW)) (C:QW) (s:QC) (H:Hp) (fp:List QW),bF X.env.cells scope.names []=some cl->jd (aV X own cap scope cl C s H fp) c target gt/\gJ (aV X own cap scope cl C s H fp) c ifs gts/\PD (aV X own cap scope cl C s H fp) c elt ge)
  (hk:scope.kind=.function:=by rfl) (hno:fC X cap scope=true:=by rfl) (hnames:(scope.names.all λx=>!(x.2 == .local) || (scope.names.lookup x.1 == some .local))=true:=by rfl)
  (hcl:(bF X.env.cells scope.names []).isSome=true:=by rfl) (hcap:dD X cap=true:=by rfl) (hloc:dG X cap scope=true:=by rfl) (hnd:fS cap=true:=by rfl) (Oz:X.calm=true:=by rfl)
  (hs:∀x,Q2 iter X.env x=pure x:=by intro _;rfl)
  {pins:List (QW×Obj)}{s:QC}{σ:L2.St}{H:Hp}{Q:VK}{use:Option (Qy->Sem Unit)}{Q0:Qy->QC->Prop}{pos':Pos}(I:Inv X pins σ H s) (h:tD c (bJ own.length cap gi gt gts ge) σ H Q)
  (OC:∀(acc C:QW) (m:Str->Option Qy) (s':QC) (H':Hp) (fl:Flow),s'.heap.Ns C m->((C∈X.ex\/X.s₀.heap.objs.size<=C)/\C≠X.env.locals/\(∀x c,X.env.cells.lookup x=some c->c≠C)/\∀p∈X.pn++pins,p.1≠C)->H' C=none->(∀h'',RZ C s'.heap h''->Inv X pins σ H' {s' with heap:=h''})->Q (.ref acc) H'->Ys (Rb X.prog X.w) X.A X.xe use Q0 (.ref acc) C (.ok fl) s'):
  Q7 (Rb X.prog X.w) X.A (comprehension (.ListComp elt [⟨target,iter,ifs,0⟩] scope pos) scope X.env pos' (newList []) false (eval iter X.env) use) Q0 X.xe s:=by
 rw [Ie] at h
 refine nN (e:=.ListComp elt [⟨target,iter,ifs,0⟩] scope pos) (ob:={cls:=.type "list",dict:=none,data:=.seq ([]:List Qy).toArray}) (o0:=λ_=>.lst []) (Acc:=Bt c) (N:=1) (lim:=sizeLine) (m:=λp env=>do let _ <-call (.builtin "list.append") [.ref p,<-eval elt env]) own cap rfl hi
  (λs Q E q=>Rz q) (λh H=>⟨Rl _,[],0,.nil,QV _ rfl⟩) (λp=>rA) (λp J H _ h1 h2=>⟨[],h1,h2,.nil⟩) (by rw [Nat.mul_one];exact QL _) (λit p env=>BZ (compTurn_list ..)) (λit acc env R s h0 h=>W4 h0 h) (λys z q=>by cases q)
  (fun {p J H J' H' ys r} hp e ⟨us,h1,h2,h3⟩ q=>by cases q;exact ⟨J',e,⟨p,us,rfl,h1,h2,hp,h3⟩⟩) (λcl C s H fp hcc=>?_) hk hno hnames hcl hcap hloc hnd Oz hs I h OC
 obtain ⟨b1,b2,b3⟩:=hbody cl C s H fp hcc
 exact ⟨b1,b2,λp J2 H2 hp2 hp0=>Ao (λ_ _ f=>f) hp2 hp0 b3⟩
theorem F_ (own:List Str) (cap:List Nat){elt target iter:Rp}{ifs:List Rp}{scope:Te}{pos:Pos}{gi:G (List D)}{gt:GT}{gts:G Bool}{ge:G R}(hi:oW X c target iter gi)
  (hbody:∀(cl:List (Str×QW)) (C:QW) (s:QC) (H:Hp) (fp:List QW),bF X.env.cells scope.names []=some cl->jd (aV X own cap scope cl C s H fp) c target gt/\gJ (aV X own cap scope cl C s H fp) c ifs gts/\PD (aV X own cap scope cl C s H fp) c elt ge)
  (hk:scope.kind=.function:=by rfl) (hno:fC X cap scope=true:=by rfl) (hnames:(scope.names.all λx=>!(x.2 == .local) || (scope.names.lookup x.1 == some .local))=true:=by rfl)
  (hcl:(bF X.env.cells scope.names []).isSome=true:=by rfl) (hcap:dD X cap=true:=by rfl) (hloc:dG X cap scope=true:=by rfl) (hnd:fS cap=true:=by rfl) (Oz:X.calm=true:=by rfl)
  (hs:∀x,Q2 iter X.env x=pure x:=by intro _;rfl):PD X c (.ListComp elt [⟨target,iter,ifs,0⟩] scope pos) (bJ own.length cap gi gt gts ge):=by
 intro pins s σ H Q I h
 rw [aaC]
 exact Dr own cap hi hbody hk hno hnames hcl hcap hloc hnd Oz hs I h λacc C m s' H' fl hm hz hf hb q=>⟨m,hm,λh'' sb=>⟨.ref acc,H',hb h'' sb,rfl,q⟩⟩
theorem FU (i:Nat) (own:List Str) (cap:List Nat){elt target iter:Rp}{ifs:List Rp}{scope:Te}{pos pos' pos2:Pos}{x:Str}{gi:G (List D)}{gt:GT}{gts:G Bool}{ge:G R}(hN:X.N.Nodup) (hi:oW X c target iter gi)
  (hbody:∀(cl:List (Str×QW)) (C:QW) (s:QC) (H:Hp) (fp:List QW),bF X.env.cells scope.names []=some cl->jd (aV X own cap scope cl C s H fp) c target gt/\gJ (aV X own cap scope cl C s H fp) c ifs gts/\PD (aV X own cap scope cl C s H fp) c elt ge)
  (hk:scope.kind=.function:=by rfl) (hno:fC X cap scope=true:=by rfl) (hnames:(scope.names.all λx=>!(x.2 == .local) || (scope.names.lookup x.1 == some .local))=true:=by rfl)
  (hcl:(bF X.env.cells scope.names []).isSome=true:=by rfl) (hcap:dD X cap=true:=by rfl) (hloc:dG X cap scope=true:=by rfl) (hnd:fS cap=true:=by rfl) (Oz:X.calm=true:=by rfl)
  (hs:∀x,Q2 iter X.env x=pure x:=by intro _;rfl) (hx:X.N[i]?=some x:=by rfl) (OJ:X.env.scope.names.lookup x=some .local:=by rfl)
  (hsw:T8 (.ListComp elt [⟨target,iter,ifs,0⟩] scope pos) (some (.Name x pos')) pos2.line X.env=pure true:=by rfl):Ak X c (.Assign [.Name x pos'] (.ListComp elt [⟨target,iter,ifs,0⟩] scope pos) pos2) (bg i (bJ own.length cap gi gt gts ge)):=by
 intro pins s σ H D I ⟨J,env,sr,w⟩
 rw [Xk]
 refine Qw (Sq ?_)
 rw [show UU [.Name x pos'] (.ListComp elt [⟨target,iter,ifs,0⟩] scope pos) pos2.line X.env=pure true from hsw]
 refine Qw (Qz ?_)
 rw [if_pos rfl,Wu]
 refine Qw (Qw (Dr own cap hi hbody hk hno hnames hcl hcap hloc hnd Oz hs (Q:=λv H1=>∃J1 r xx,Ext J H J1 H1/\RR c H J1 H1 r v/\toS r=.ok xx/\oP c J D (.nx (env.set i (some xx)))) I ⟨J,env,sr,aB (aK w) λr wr v J1 H1 e1 r1=>?_⟩ λacc C m s' H' fl hm ap hf hb ⟨J1,r,xx,e1,r1,q1,w1⟩=>?_))
 ·obtain ⟨xx,q,wr⟩:=nK wr
  exact ⟨J1,r,xx,e1,r1,q,wr⟩
 ·have I1:L2.Inv X pins σ H' s':=hb s'.heap (Wv ..)
  show Q7 _ _ (do TX pos';abm X.env x (.ref acc)) _ _ _
  refine Qw (Sq (XM ?_))
  refine mC I1 hN hx (.inl OJ) (v:=.ref acc) (u:=.ref acc) rfl (λs2 I2 ⟨a,sb,ha⟩=>?_) (.inr OJ)
  have hac:C≠a:=λz=>by
   rcases ha with e | e
   ·exact ap.2.1 (z.trans e)
   ·exact ap.2.2.1 _ _ e z.symm
  refine ⟨m,hm.sameBut sb hac,λh2 sb2=>?_⟩
  refine Qz (Qz ⟨σ.set i (some (.ref acc)),H',pN I2 ap hf sb2 (o0:=default),?_⟩)
  exact w1 _ J1 H' e1.j (sr.set e1 r1 q1)
theorem bI (own:List Str) (cap:List Nat){elt target iter:Rp}{ifs:List Rp}{scope:Te}{pos:Pos}{gi:G (List D)}{gt:GT}{gts:G Bool}{ge:G R}(hi:qK X c target iter gi)
  (hbody:∀(cl:List (Str×QW)) (C:QW) (s:QC) (H:Hp) (fp:List QW),bF X.env.cells scope.names []=some cl->kR (aV X own cap scope cl C s H fp) c target gt/\jX (aV X own cap scope cl C s H fp) c ifs gts/\QD (aV X own cap scope cl C s H fp) c elt ge)
  (hk:scope.kind=.function:=by rfl) (hno:fC X cap scope=true:=by rfl) (hnames:(scope.names.all λx=>!(x.2 == .local) || (scope.names.lookup x.1 == some .local))=true:=by rfl)
  (hcl:(bF X.env.cells scope.names []).isSome=true:=by rfl) (hcap:dD X cap=true:=by rfl) (hloc:dG X cap scope=true:=by rfl) (hnd:fS cap=true:=by rfl) (Oz:X.calm=true:=by rfl)
  (hs:∀x,Q2 iter X.env x=pure x:=by intro _;rfl):QD X c (.ListComp elt [⟨target,iter,ifs,0⟩] scope pos) (bJ own.length cap gi gt gts ge):=
 ⟨F_ own cap hi.h (λcl C s H fp hc=>let ⟨a,b,d⟩:=hbody cl C s H fp hc;⟨a.h,b.h,d.h⟩) hk hno hnames hcl hcap hloc hnd Oz hs⟩
theorem mh (i:Nat) (own:List Str) (cap:List Nat){elt target iter:Rp}{ifs:List Rp}{scope:Te}{pos pos' pos2:Pos}{x:Str}{gi:G (List D)}{gt:GT}{gts:G Bool}{ge:G R}(hN:X.N.Nodup) (hi:qK X c target iter gi)
  (hbody:∀(cl:List (Str×QW)) (C:QW) (s:QC) (H:Hp) (fp:List QW),bF X.env.cells scope.names []=some cl->kR (aV X own cap scope cl C s H fp) c target gt/\jX (aV X own cap scope cl C s H fp) c ifs gts/\QD (aV X own cap scope cl C s H fp) c elt ge)
  (hk:scope.kind=.function:=by rfl) (hno:fC X cap scope=true:=by rfl) (hnames:(scope.names.all λx=>!(x.2 == .local) || (scope.names.lookup x.1 == some .local))=true:=by rfl)
  (hcl:(bF X.env.cells scope.names []).isSome=true:=by rfl) (hcap:dD X cap=true:=by rfl) (hloc:dG X cap scope=true:=by rfl) (hnd:fS cap=true:=by rfl) (Oz:X.calm=true:=by rfl)
  (hs:∀x,Q2 iter X.env x=pure x:=by intro _;rfl) (hx:X.N[i]?=some x:=by rfl) (OJ:X.env.scope.names.lookup x=some .local:=by rfl)
  (hsw:T8 (.ListComp elt [⟨target,iter,ifs,0⟩] scope pos) (some (.Name x pos')) pos2.line X.env=pure true:=by rfl):iQ X c (.Assign [.Name x pos'] (.ListComp elt [⟨target,iter,ifs,0⟩] scope pos) pos2) (bg i (bJ own.length cap gi gt gts ge)):=
 ⟨FU i own cap hN hi.h (λcl C s H fp hc=>let ⟨a,b,d⟩:=hbody cl C s H fp hc;⟨a.h,b.h,d.h⟩) hk hno hnames hcl hcap hloc hnd Oz hs hx OJ hsw⟩
end
end DL
namespace K23
open PySem DL
def Bl:List Str:=["world","many","marks","arrows"]
def sY:G O:=(aM (mK (eZ 3 (bL (aD 1) (bL (aD 2) (bL (aD 3) fK)))) (af 0))
 (bO (bz (aA (gN cI (ao (bJ 2 [] (fc (af 2)) (eZ 2 (bL (aD 0) (bL (aD 1) fK))) cA (af 0)) aC)) (aA (gN cI (ao (bJ 2 [] (fc (af 3)) (eZ 2 (bL (aD 0) (bL (aD 1) fK))) cA (af 0)) aC)) aT)))))
def jc (as:List S):M R:=fin (sY (bq Bl as))
def xF:List Str:=["one","other"]
def pC:G O:=(b9 (bN (g2 (fE true) (gN (aS 1 K23.jc) (ao (af 0) aC)) (gN (aS 1 K23.jc) (ao (af 1) aC)))) sS eU)
def jb (as:List S):M R:=fin (pC (bq xF as))
def qZ:List Str:=["worlds","world"]
def kY:G O:=(iu (pe (af 0)) (aD 1) (b9 (bN (g2 (jO λi j=>.bl (decide (j < i))) (g2 aW (af 1) (gC (.int 0))) (gC (.int 4)))) sS eU))
def f_ (as:List S):M R:=fin (kY (bq qZ as))
def zF:List Str:=["one","other"]
def qU:G O:=(aM (gZ (gN (aS 2 K23.jb) (ao (af 0) (ao (af 1) aC))))
 (gZ (gN (aS 1 K23.f_) (ao (bz (aA (af 0) (aA (af 1) aT))) aC))))
def eB (as:List S):M R:=fin (qU (bq zF as))
def HG:List Str:=["pairs"]
def AF:G O:=(aM (b9 (bN (g2 (sM false) (af 0) (gC .non))) (bO (bz aT)) eU)
 (bO (gN cI (ao (gN gq (ao (af 0) aC)) aC))))
def gw (as:List S):M R:=fin (AF (bq HG as))
def Mh:List Str:=["world","one","other","many","marks","arrows","bearing","leading"]
def G8:G O:=(aM (mK (eZ 3 (bL (aD 3) (bL (aD 4) (bL (aD 5) fK)))) (af 0))
 (aM (bg 6 (gN cI (ao (bJ 2 [1] (fc (af 4)) (eZ 2 (bL (aD 0) (bL (aD 1) fK))) cA (g2 (jt false) (af 2) (af 1))) aC)))
 (aM (bg 7 (gN cI (ao (bJ 2 [1,2] (fc (af 5)) (eZ 2 (bL (aD 0) (bL (aD 1) fK))) cA (g2 (jt false) (bz (aA (af 2) (aA (af 3) aT))) (af 1))) aC)))
 (bO (bz (aA (g2 (fE false) (af 1) (af 2)) (aA (af 6) (aA (af 7) aT))))))))
def wV (as:List S):M R:=fin (G8 (bq Mh as))
def JN:List Str:=["world"]
def DJ:G O:=(bO (kJ 2 [0] (cu (ao (g2 aW (af 0) (gC (.int 0))) aC)) (aD 0) cA (cu (ao (g2 aW (af 2) (gC (.int 0))) aC)) (aD 1) cA (bz (aA (af 0) (aA (af 1) aT))) (gN (aS 3 K23.wV) (ao (af 2) (ao (af 0) (ao (af 1) aC))))))
def oU (as:List S):M R:=fin (DJ (bq JN as))
def JM:List Str:=["first","second","pair","again"]
def DH:G O:=(bO (g2 (fE false) (g2 ir (af 0) (bz (aA (g2 aW (af 2) (gC (.int 0))) (aA (g2 aW (af 3) (gC (.int 0))) aT)))) (g2 ir (af 1) (bz (aA (g2 aW (af 2) (gC (.int 1))) (aA (g2 aW (af 3) (gC (.int 1))) aT))))))
def fB (as:List S):M R:=fin (DH (bq JM as))
def xE:List Str:=["first","second","pairing","pair","again"]
def pA:G O:=(aM (b9 (mJ (uI (af 2)) (bN (g2 yl (af 3) (g2 aW (af 2) (yq (gC (.int 1))))))) (bO (gC (.bl false))) eU)
 (aM (iu (pe (af 2)) (aD 4) (b9 (m_ (iI (bN (gN (aS 4 K23.fB) (ao (af 0) (ao (af 1) (ao (af 3) (ao (af 4) aC))))))) (iI (bN (gN (aS 4 K23.fB) (ao (af 0) (ao (af 1) (ao (af 4) (ao (af 3) aC)))))))) (bO (gC (.bl false))) eU))
 (bO (gC (.bl true)))))
def i_ (as:List S):M R:=fin (pA (bq xE as))
def CN:List Str:=["one","other","most","first","second","pairs","longest","told","step"]
def vt:G O:=(aM (gZ (gN (aS 2 K23.eB) (ao (af 0) (ao (af 1) aC))))
 (aM (gZ (gN (aS 3 K55.cX) (ao (af 2) (ao (gC (.int 0)) (ao (gC (.int 4)) aC)))))
 (aM (bg 3 (gN (aS 1 K23.oU) (ao (af 0) aC)))
 (aM (bg 4 (gN (aS 1 K23.oU) (ao (af 1) aC)))
 (aM (bg 5 (jP 2 [1,3,4] (cu (ao (g2 aW (af 0) (gC (.int 0))) aC)) (aD 0) cA (cu (ao (g2 aW (af 2) (gC (.int 0))) aC)) (aD 1) (bN (gN (aS 4 K23.fB) (ao (af 3) (ao (af 4) (ao (bz (aA (af 0) (aA (af 1) aT))) (ao (bz (aA (af 0) (aA (af 1) aT))) aC)))))) (bz (aA (af 0) (aA (af 1) aT)))))
 (aM (jZ 5 (bg 6 (gK (aA (bz aT) aT))))
 (aM (bg 7 (gK (aA (bz aT) aT)))
 (aM (iu (cu (ao (af 2) aC)) (aD 8) (aM (jZ 5 (bg 6 (jP 2 [5,3,4] (fc (af 6)) (aD 0) cA (pe (af 2)) (aD 1) (bN (gN (aS 4 K23.i_) (ao (af 3) (ao (af 4) (ao (af 0) (ao (af 1) aC)))))) (g2 dO (af 0) (bz (aA (af 1) aT))))))
 (yo 7 (af 6))))
 (bO (af 7))))))))))
def lO (as:List S):M R:=fin (vt (bq CN as))
end K23
namespace K23
open PySem DL K01 WP K51 K52 K55
section
variable {α β:Type}
theorem G2 {gts:G Bool}{act:Ev->M (List D×Ev)}{h':β->D}{a0:Option S}{rest:Ev}(p:β->Bool) (f:β->D):∀(ys:List β),(∀y∈ys,gts (a0::some (.d (h' y))::rest)=.ok (p y)/\(p y=true->act (a0::some (.d (h' y))::rest)=.ok ([f y],a0::some (.d (h' y))::rest)))->
  ∀z:Option S,∃z',bW (aD 1) gts act (ys.map h') (a0::z::rest)=.ok ((ys.filter p).map f,a0::z'::rest)
 | [],_,z=>⟨z,rfl⟩
 | y::ys,H,z=>by
  obtain ⟨h1,h2⟩:=H y QH
  obtain ⟨z',ih⟩:=G2 p f ys (λy hy=>H y (QF _ hy)) (some (.d (h' y)))
  refine ⟨z',?_⟩
  rw [Q5]
  unfold bW
  show (gts (a0::some (.d (h' y))::rest) >>= λk=>if k=true then act (a0::some (.d (h' y))::rest) >>= λr=>bW (aD 1) gts act (ys.map h') r.2 >>= λz=>.ok (r.1++z.1,z.2) else bW (aD 1) gts act (ys.map h') (a0::some (.d (h' y))::rest))=_
  rw [h1,aQ]
  cases q:p y with
  | true=>
   rw [if_pos rfl,h2 q,aQ]
   show (bW (aD 1) gts act (ys.map h') (a0::some (.d (h' y))::rest) >>= _)=_
   rw [ih,aQ,WE q]
   rfl
  | false=>
   rw [if_neg (by decide),ih,WG (by simp [q])]
theorem Dn {gi1:G (List D)}{gts:G Bool}{act:Ev->M (List D×Ev)}{h:α->D}{h':β->D}{rest:Ev}(ys:α->List β) (p:α->β->Bool) (f:α->β->D):∀(xs:List α),(∀x∈xs,(ys x).length<=1000/\(∀z:Option S,gi1 (some (.d (h x))::z::rest)=.ok ((ys x).map h'))/\∀y∈ys x,gts (some (.d (h x))::some (.d (h' y))::rest)=.ok (p x y)/\(p x y=true->act (some (.d (h x))::some (.d (h' y))::rest)=.ok ([f x y],some (.d (h x))::some (.d (h' y))::rest)))->
  ∀z0 z:Option S,∃z0' z',bW (aD 0) cA (jg gi1 (aD 1) gts act) (xs.map h) (z0::z::rest)=.ok (xs.flatMap λx=>((ys x).filter (p x)).map (f x),z0'::z'::rest)
 | [],_,z0,z=>⟨z0,z,rfl⟩
 | x::xs,H,z0,z=>by
  obtain ⟨h1,h2,h3⟩:=H x QH
  obtain ⟨z1,e1⟩:=G2 (a0:=some (.d (h x))) (p x) (f x) (ys x) h3 z
  obtain ⟨z0',z',ih⟩:=Dn ys p f xs (λy hy=>H y (QF _ hy)) (some (.d (h x))) z1
  refine ⟨z0',z',?_⟩
  rw [Q5]
  unfold bW
  show (jg gi1 (aD 1) gts act (some (.d (h x))::z::rest) >>= _)=_
  unfold jg
  rw [h2 z,aQ,if_pos (by rw [QA];exact h1),e1,aQ]
  show (bW (aD 0) cA (jg gi1 (aD 1) gts act) (xs.map h) (some (.d (h x))::z1::rest) >>= _)=_
  rw [ih]
  rfl
theorem wZ {env:Ev}{cap:List Nat}{gi0 gi1:G (List D)}{gts:G Bool}{act:Ev->M (List D×Ev)}{fin:List D->M R}{h:α->D}{h':β->D}{xs:List α}(ys:α->List β) (p:α->β->Bool) (f:α->β->D) (hi:gi0 env=.ok (xs.map h)) (hl:xs.length<=10000)
  (H:∀x∈xs,(ys x).length<=1000/\(∀z:Option S,gi1 (some (.d (h x))::z::cE 0 cap env)=.ok ((ys x).map h'))/\∀y∈ys x,gts (some (.d (h x))::some (.d (h' y))::cE 0 cap env)=.ok (p x y)/\(p x y=true->act (some (.d (h x))::some (.d (h' y))::cE 0 cap env)=.ok ([f x y],some (.d (h x))::some (.d (h' y))::cE 0 cap env))):
  jj 10000 2 cap gi0 (aD 0) cA (jg gi1 (aD 1) gts act) fin env=fin (xs.flatMap λx=>((ys x).filter (p x)).map (f x)):=by
 unfold jj
 rw [hi,aQ,if_pos (by rw [QA];exact hl)]
 obtain ⟨z0',z',e⟩:=Dn ys p f xs H none none
 show (bW (aD 0) cA (jg gi1 (aD 1) gts act) (xs.map h) (none::none::cE 0 cap env) >>= _)=_
 rw [e]
 rfl
theorem An {ge:G R}{env:Ev}{r:R}{d:D}(h:ge env=.ok r) (h2:toD r=.ok d):gO ge env=.ok ([d],env):=by
 unfold gO
 rw [h,aQ,h2]
 rfl
theorem uv {gk gv:G R}{env:Ev}{r r2:R}{k d:D}(h:gk env=.ok r) (h2:toD r=.ok k) (h3:gv env=.ok r2) (h4:toD r2=.ok d) (ok:dR k=true):rB gk gv env=.ok ([.tup [k,d]],env):=by
 unfold rB
 rw [h,aQ,h2,aQ,h3,aQ,h4,aQ,if_pos ok]
end
def e_ (u:Wd) (a c:Nat):D:=.tup [.bl (bw (dN a) (dN c)),.tup (u.ms.map λr=>.bl (inD (dN a) (r.2.map dN))),.tup (u.ar.map λr=>.bl (inD (dP (a,c)) (r.2.map dP)))]
theorem JG (u:Wd) (hu:mQ u) (a c:Nat):wV [.d u.d,.d (dN a),.d (dN c)]=.ok (.d (e_ u a c)):=by
 have ml:=hu.ml
 have al:=hu.al
 refine cD (tY rfl rfl rfl ?_)
 refine bA (n1 (lT (xs:=u.ms) (λr=>.str r.1) (λr=>.tup (r.2.map dN)) (λr=>.bl (inD (dN a) (r.2.map dN))) rfl (by omega) λr _=>⟨_,two rfl rfl (Nx a r.2),rfl⟩) rfl) rfl ?_
 refine bA (n1 (lT (xs:=u.ar) (λr=>.str r.1) (λr=>.tup (r.2.map dP)) (λr=>.bl (inD (dP (a,c)) (r.2.map dP))) rfl (by omega) λr _=>⟨_,two (bu (aF rfl rfl (aF rfl rfl bf)) t2) rfl (Ku (a,c) r.2),rfl⟩) rfl) rfl ?_
 exact bR (bu (aF rfl rfl (aF rfl rfl (aF rfl rfl bf))) (by show 3<=1000;decide)) rfl rfl
def dZ (m n:Nat):List (Nat×Nat):=(QG m).flatMap λa=>(QG n).map λb=>(a,b)
theorem nZ {m n:Nat}{p:Nat×Nat}:p∈dZ m n↔p.1 < m/\p.2 < n:=by
 unfold dZ
 simp only [VC,Ra,QE]
 constructor
 ·rintro ⟨a,ha,b,hb,rfl⟩;exact ⟨ha,hb⟩
 ·rintro ⟨h1,h2⟩;exact ⟨p.1,h1,p.2,h2,rfl⟩
theorem n_ (m n:Nat):(dZ m n).Nodup:=by
 unfold dZ
 refine Xl.mpr ⟨λa _=>RC.mpr (Vj (λh e=>h (by cases e;rfl)) (SV (n:=n))),?_⟩
 refine Vj ?_ (SV (n:=m))
 intro a b hab p h1 q h2 e
 subst e
 obtain ⟨x,_,rfl⟩:=QE.mp h1
 obtain ⟨y,_,e⟩:=QE.mp h2
 cases e
 exact hab rfl
theorem Fz (m n:Nat):(dZ m n).length=m * n:=by
 induction m with
 | zero=>simp [dZ]
 | succ m ih=>
  unfold dZ at ih ⊢
  rw [TU,List.flatMap_append,Rh,ih,ZF]
  simp
theorem Iz {ks vs:List D}{k:D}(h:∀x∈ks,bw x k=false):ia ks vs k=none:=by
 induction ks generalizing vs with
 | nil=>cases vs <;> rfl
 | cons x ks ih=>
  cases vs with
  | nil=>rfl
  | cons v vs=>
   unfold ia
   rw [h x QH,if_neg (by decide)]
   exact ih λy hy=>h y (QF _ hy)
theorem vf (f:Nat×Nat->D):∀(n:Nat) (ps:List (Nat×Nat)),ps.length=n->ps.Nodup->iR (ps.map λp=>D.tup [dP p,f p])=(ps.map dP,ps.map f)
 | 0,ps,h,_=>by
  have:=S7.mp h
  subst this
  rfl
 | n + 1,ps,h,nd=>by
  rcases Tq ps with rfl | ⟨qs,p,rfl⟩
  ·cases h
  ·rw [Tr] at h nd ⊢
   have nd':=Vl.mp nd
   have ih:=vf f n qs (by simpa using h) nd'.1
   have hn:ia (qs.map dP) (qs.map f) (dP p)=none:=Iz λx hx=>by
    obtain ⟨q,hq,rfl⟩:=QE.mp hx
    rw [vg,decide_eq_false_iff_not]
    rintro rfl
    exact nd'.2.2 q hq q QH rfl
   rw [Rg,Ym,nO,ih]
   unfold dput
   rw [hn]
   simp
abbrev ic (u:Wd):List D:=(dZ u.m u.m).map dP
abbrev ie (u:Wd):List D:=(dZ u.m u.m).map λp=>e_ u p.1 p.2
theorem Ag (u:Wd) (hu:mQ u):oU [.d u.d]=.ok (.d (.dct (ic u) (ie u))):=by
 have hi:=hu.hi
 refine cD (bR (r:=.d (.dct (ic u) (ie u))) ?_ rfl rfl)
 refine (wZ (xs:=QG u.m) (h:=dN) (h':=dN) (λ_=>QG u.m) (λ_ _=>true) (λa b=>.tup [dP (a,b),e_ u a b]) ?_ (by simp;omega) λa _=>⟨by simp;omega,λz=>?_,λb _=>⟨rfl,λ_=>uv (bu (aF rfl rfl (aF rfl rfl bf)) t2) rfl (c3 rfl rfl rfl (JG u hu a b)) rfl rfl⟩⟩).trans ?_
 ·exact iN (c_ (two rfl rfl (eV _ _))) (by omega)
 ·exact iN (c_ (two rfl rfl (eV _ _))) (by omega)
 ·have ef:(QG u.m).filter (λ_=>true)=QG u.m:=V1.mpr λ_ _=>rfl
  have e:((QG u.m).flatMap λa=>((QG u.m).filter λ_=>true).map λb=>D.tup [dP (a,b),e_ u a b])=(dZ u.m u.m).map λp=>D.tup [dP p,e_ u p.1 p.2]:=by
   rw [ef]
   unfold dZ
   rw [VD]
   simp [Rk,Ww]
  rw [e]
  have h:=vf (λp=>e_ u p.1 p.2) _ (dZ u.m u.m) rfl (n_ _ _)
  show M.ok (R.d (.dct (iR ((dZ u.m u.m).map λp=>D.tup [dP p,e_ u p.1 p.2])).1 (iR ((dZ u.m u.m).map λp=>D.tup [dP p,e_ u p.1 p.2])).2))=_
  rw [h]
theorem AM (u:Wd):∀(ps:List (Nat×Nat)) (p:Nat×Nat),p∈ps->ia (ps.map dP) (ps.map λp=>e_ u p.1 p.2) (dP p)=some (e_ u p.1 p.2)
 | q::ps,p,h=>by
  rw [Q5,Q5]
  unfold ia
  by_cases c:q=p
  ·subst c
   rw [if_pos (by rw [vg];simp)]
  ·rw [if_neg (by rw [vg];simpa using c)]
   rcases Q3.mp h with e | e
   ·exact absurd e.symm c
   ·exact AM u ps p e
theorem yg (u:Wd) (a c:Nat) (ha:a < u.m) (hc:c < u.m):ir (.d (.dct (ic u) (ie u))) (.d (dP (a,c)))=.ok (.d (e_ u a c)):=by
 show (if dR (dP (a,c))=true then (match ia (ic u) (ie u) (dP (a,c)) with
  | some d=>M.ok (R.d d)
  | none=>.bad) else .bad)=_
 rw [if_pos (show dR (dP (a,c))=true from rfl),AM u (dZ u.m u.m) (a,c) (nZ.mpr ⟨ha,hc⟩)]
theorem zx (u:Wd) (a c:Nat):dep (e_ u a c)<=60:=by
 have h1:deps (u.ms.map λr=>D.bl (inD (dN a) (r.2.map dN)))<=0:=fj λx hx=>by obtain ⟨r,_,rfl⟩:=QE.mp hx;exact Rl _
 have h2:deps (u.ar.map λr=>D.bl (inD (dP (a,c)) (r.2.map dP)))<=0:=fj λx hx=>by obtain ⟨r,_,rfl⟩:=QE.mp hx;exact Rl _
 unfold e_
 simp only [dep,deps]
 omega
def jr (v w:Wd) (p q:Nat×Nat):Bool:=bw (e_ v p.1 q.1) (e_ w p.2 q.2)
def qI (v w:Wd) (p:Nat×Nat):Prop:=p.1 < v.m/\p.2 < w.m
theorem uf (v w:Wd) (p q:Nat×Nat) (hp:qI v w p) (hq:qI v w q):fB [.d (.dct (ic v) (ie v)),.d (.dct (ic w) (ie w)),.d (dP p),.d (dP q)]=.ok (.d (.bl (jr v w p q))):=by
 refine cD (bR (two (x:=.d (e_ v p.1 q.1)) (y:=.d (e_ w p.2 q.2)) (two rfl (bu (aF (two rfl rfl (eV _ _)) rfl (aF (two rfl rfl (eV _ _)) rfl bf)) t2) (yg v p.1 q.1 hp.1 hq.1)) (two rfl (bu (aF (two rfl rfl (vB _ _ _)) rfl (aF (two rfl rfl (vB _ _ _)) rfl bf)) t2) (yg w p.2 q.2 hp.2 hq.2)) (qf _ _ _ (zx v p.1 q.1) (zx w p.2 q.2))) rfl rfl)
def qW (p q:Nat×Nat):Bool:=lexLe [p.1,p.2] [q.1,q.2]
theorem Ob (p q:Nat×Nat):yl (.d (dP p)) (.d (dP q))=.ok (.d (.bl (qW p q))):=rfl
def gb (v w:Wd) (ps:List (Nat×Nat)) (q:Nat×Nat):Bool:=(match ps.getLast? with
 | some l=>!qW q l
 | none=>true) && ps.all λr=>jr v w q r && jr v w r q
theorem zo {env:Ev}{g:G R}{b:Bool}(h:g env=.ok (.d (.bl b))):bN g env=.ok b:=by
 show (g env >>= _)=_
 rw [h]
 rfl
theorem oF {env:Ev}{g:G R}{b:Bool}(h:g env=.ok (ji (.d (.bl b)))):bN g env=.ok b:=zo h
theorem dh {env:Ev}{f:R->R->M R}{g h:G R}{x y:R}{b:Bool}(hx:g env=.ok x) (hy:h env=.ok y) (hf:f x y=.ok (.d (.bl b))):bN (g2 f g h) env=.ok b:=zo (two hx hy hf)
theorem qq {env:Ev}{g:G Bool}{b:Bool}(h:g env=.ok b):iI g env=.ok (!b):=by
 show (g env >>= _)=_
 rw [h]
 rfl
theorem sC {env:Ev}{a b:G Bool}(h:a env=.ok false):mJ a b env=.ok false:=by
 unfold mJ
 rw [h]
 rfl
theorem qd {env:Ev}{a b:G Bool}{k:Bool}(h:a env=.ok true) (h2:b env=.ok k):mJ a b env=.ok k:=by
 unfold mJ
 rw [h]
 exact h2
theorem K7 {env:Ev}{a b:G Bool}{x y:Bool}(h:a env=.ok (!x)) (h2:b env=.ok (!y)):m_ a b env=.ok (!(x && y)):=by
 unfold m_
 rw [h]
 cases x with
 | true=>exact h2
 | false=>rfl
theorem Nj (v w:Wd) (ps:List (Nat×Nat)) (q:Nat×Nat) (hp:∀p∈ps,qI v w p) (hq:qI v w q):i_ [.d (.dct (ic v) (ie v)),.d (.dct (ic w) (ie w)),.d (.tup (ps.map dP)),.d (dP q)]=.ok (.d (.bl (gb v w ps q))):=by
 have loop:(match ps.getLast? with
   | some l=>!qW q l
   | none=>true)=true->Wp (aM (iu (pe (af 2)) (aD 4) (b9 (m_ (iI (bN (gN (aS 4 K23.fB) (ao (af 0) (ao (af 1) (ao (af 3) (ao (af 4) aC))))))) (iI (bN (gN (aS 4 K23.fB) (ao (af 0) (ao (af 1) (ao (af 4) (ao (af 3) aC)))))))) (bO (gC (.bl false))) eU))
 (bO (gC (.bl true))) [some (.d (.dct (ic v) (ie v))),some (.d (.dct (ic w) (ie w))),some (.d (.tup (ps.map dP))),some (.d (dP q)),none]) (·=.rt (.d (.bl (gb v w ps q)))):=by
  intro hl
  refine mw (ds:=ps.map dP) rfl ?_
  have key:∀(rs:List (Nat×Nat)),(∀p∈rs,qI v w p)->∀x:Option S,Wp (gM (aD 4) (b9 (m_ (iI (bN (gN (aS 4 K23.fB) (ao (af 0) (ao (af 1) (ao (af 3) (ao (af 4) aC))))))) (iI (bN (gN (aS 4 K23.fB) (ao (af 0) (ao (af 1) (ao (af 4) (ao (af 3) aC)))))))) (bO (gC (.bl false))) eU) (rs.map dP) [some (.d (.dct (ic v) (ie v))),some (.d (.dct (ic w) (ie w))),some (.d (.tup (ps.map dP))),some (.d (dP q)),x])
    (λo=>((∃e,o=.nx e)/\(rs.all λr=>jr v w q r && jr v w r q)=true)\/(o=.rt (.d (.bl false))/\(rs.all λr=>jr v w q r && jr v w r q)=false)):=by
   intro rs
   induction rs with
   | nil=>intro _ x;exact ⟨_,rfl,.inl ⟨⟨_,rfl⟩,rfl⟩⟩
   | cons r rs ih=>
    intro hr x
    have h1:=uf v w q r hq (hr r QH)
    have h2:=uf v w r q (hr r QH) hq
    have ht:(m_ (iI (bN (gN (aS 4 K23.fB) (ao (af 0) (ao (af 1) (ao (af 3) (ao (af 4) aC))))))) (iI (bN (gN (aS 4 K23.fB) (ao (af 0) (ao (af 1) (ao (af 4) (ao (af 3) aC)))))))) [some (.d (.dct (ic v) (ie v))),some (.d (.dct (ic w) (ie w))),some (.d (.tup (ps.map dP))),some (.d (dP q)),some (.d (dP r))]=.ok (!(jr v w q r && jr v w r q)):=K7 (qq (oF (c4 rfl rfl rfl rfl h1))) (qq (oF (c4 rfl rfl rfl rfl h2)))
    rw [Q5,Us]
    unfold gM
    show Wp ((b9 _ _ _ [some (.d (.dct (ic v) (ie v))),some (.d (.dct (ic w) (ie w))),some (.d (.tup (ps.map dP))),some (.d (dP q)),some (.d (dP r))]) >>= _) _
    cases hc:(jr v w q r && jr v w r q) with
    | true=>
     rw [hc] at ht
     rw [yv ht]
     exact ih (λp hp=>hr p (QF _ hp)) _
    | false=>
     rw [hc] at ht
     rw [AG ht]
     exact ⟨_,rfl,.inr ⟨rfl,rfl⟩⟩
  refine (key ps hp none).mono ?_
  rintro o (⟨⟨e,rfl⟩,h⟩ | ⟨rfl,h⟩)
  ·refine bR rfl rfl ?_
   unfold gb
   rw [hl,h]
   rfl
  ·show O.rt _=_
   unfold gb
   rw [h,Uc]
 refine cD ?_
 cases q':ps.getLast? with
 | none=>
  have:ps=[]:=We.mp q'
  subst this
  exact fH (sC rfl) (loop rfl)
 | some l=>
  obtain ⟨rs,rfl⟩:∃rs,ps=rs++[l]:=by
   rcases Tq ps with rfl | ⟨ys,y,rfl⟩
   ·cases q'
   ·rw [Tr] at q' ⊢
    rw [Xy] at q'
    cases q'
    exact ⟨ys,rfl⟩
  have hix:aW (.d (.tup ((rs++[l]).map dP))) (.d (.int (-1)))=.ok (.d (dP l)):=by rw [Rg];exact Il _ _
  have ht:mJ (uI (af 2)) (bN (g2 yl (af 3) (g2 aW (af 2) (yq (gC (.int 1)))))) [some (.d (.dct (ic v) (ie v))),some (.d (.dct (ic w) (ie w))),some (.d (.tup ((rs++[l]).map dP))),some (.d (dP q)),none]=.ok (qW q l):=by
   refine qd ?_ (zo (two rfl (two rfl rfl hix) (Ob q l)))
   show M.ok (!((rs++[l]).map dP).isEmpty)=_
   simp
  cases hc:qW q l with
  | true=>
   rw [hc] at ht
   refine cG (jk ht (bR rfl rfl ?_))
   show O.rt _=_
   unfold gb
   rw [q']
   simp [hc]
  | false=>
   rw [hc] at ht
   exact fH ht (loop (by rw [q'];simp [hc]))
section
variable {env:Ev}{Q:O->Prop}{g:G R}{t:G O}{r:R}{i:Nat}
theorem Mu {xs ys:List D}(h0:env[i]?=some (some (.own xs))) (h:g env=.ok r) (h2:iB r=.ok ys) (hl:xs.length + ys.length<=16777216) (k:Q (.nx (env.set i (some (.own (xs++ys)))))):Wp (yo i g env) Q:=by
 refine ⟨_,?_,k⟩
 unfold yo
 rw [h0]
 show (g env >>= _)=_
 rw [h,aQ,h2,aQ,if_pos (by rw [RI];exact hl)]
theorem KU (h:g env=.ok r) (k:Q (.nx env)):Wp (gZ g env) Q:=⟨.nx env,by show (g env >>= _)=_;rw [h];rfl,k⟩
theorem Mb {d:D}(h:env[i]?=some (some (.d d))) (k:Wp (t env) Q):Wp (jZ i t env) Q:=by
 have:jZ i t env=t env:=by unfold jZ;rw [h]
 rw [this];exact k
end
structure Pr (v w:Wd):Prop where
 vo:mQ v
 wo:mQ w
 v4:v.m<=4
 w4:w.m<=4
 mn:v.ms.map R7=w.ms.map R7
 an:v.ar.map R7=w.ar.map R7
def jI (u:Wd):D:=.tup [.tup ((u.ms.map R7).map .str),.tup ((u.ar.map R7).map .str)]
theorem xA (u:Wd) (hu:mQ u):jc [.d u.d]=.ok (.d (jI u)):=by
 have ml:=hu.ml
 have al:=hu.al
 refine cD (tY rfl rfl rfl (bR (bu (aF (n1 (lT (xs:=u.ms) (λr=>.str r.1) (λr=>.tup (r.2.map dN)) (λr=>.str r.1) rfl (by omega) λr _=>⟨_,rfl,rfl⟩) rfl) rfl (aF (n1 (lT (xs:=u.ar) (λr=>.str r.1) (λr=>.tup (r.2.map dP)) (λr=>.str r.1) rfl (by omega) λr _=>⟨_,rfl,rfl⟩) rfl) rfl bf)) t2) rfl ?_))
 unfold jI
 rw [Rk,Rk]
 rfl
theorem A8 (u:Wd):dep (jI u)<=60:=by
 have h:∀ss:List Str,deps (ss.map D.str)<=0:=λss=>fj λx hx=>by obtain ⟨r,_,rfl⟩:=QE.mp hx;exact Rl _
 have h1:=h (u.ms.map R7)
 have h2:=h (u.ar.map R7)
 unfold jI
 simp only [dep,deps]
 omega
theorem ug {v w:Wd}(t:Pr v w):eB [.d v.d,.d w.d]=.ok (.d .non):=by
 have ht:jb [.d v.d,.d w.d]=.ok (.d .non):=by
  refine nG (pI (dh (b:=false) (c1 rfl (xA v t.vo)) (c1 rfl (xA w t.wo)) ?_) (jC ⟨_,rfl⟩))
  show fE true (.d (jI v)) (.d (jI w))=_
  rw [qf true (.d (jI v)) (.d (jI w)) (A8 v) (A8 w)]
  have e:jI v=jI w:=by unfold jI;rw [t.mn,t.an]
  show M.ok (R.d (.bl (!bw (jI v) (jI w))))=_
  rw [e,gg]
  rfl
 have hf:f_ [.d (.tup [v.d,w.d])]=.ok (.d .non):=by
  have v4:=t.v4
  have w4:=t.w4
  have one:∀(u:Wd),u.m<=4->bN (g2 (jO λi j=>.bl (decide (j < i))) (g2 aW (af 1) (gC (.int 0))) (gC (.int 4))) [some (.d (.tup [v.d,w.d])),some (.d u.d)]=.ok false:=λu hu=>by
   refine dh (two rfl rfl (eV _ _)) rfl ?_
   show M.ok (R.d (.bl (decide ((4:Int) < (u.m:Int)))))=_
   rw [decide_eq_false (by omega)]
  refine nG (BW (ds:=[v.d,w.d]) rfl (ue (λk env=>∃x,env=[some (.d (.tup [v.d,w.d])),x]) [v.d,w.d] ⟨none,rfl⟩ ?_ λe _=>⟨e,rfl⟩))
  rintro k hk _ ⟨x,rfl⟩
  match k,hk with
  | 0,_=>exact ⟨_,rfl,pI (one v v4) (jC ⟨_,rfl,_,rfl⟩)⟩
  | 1,_=>exact ⟨_,rfl,pI (one w w4) (jC ⟨_,rfl,_,rfl⟩)⟩
 refine nG (gX (c2 rfl rfl ht) ?_)
 exact KU (c1 (bu (aF rfl rfl (aF rfl rfl bf)) t2) hf) ⟨_,rfl⟩
theorem Mc (d:Nat) (hd:d<=4):K55.cX [.d (.int d),.d (.int 0),.d (.int 4)]=.ok (.d .non):=by
 refine nG (pI ?_ (jC ⟨_,rfl⟩))
 show (if decide ((d:Int) < 0)=true then M.ok true else M.ok (decide ((4:Int) < d)))=M.ok false
 rw [decide_eq_false (show ¬(d:Int) < 0 by omega),decide_eq_false (show ¬(4:Int) < d by omega)]
 rfl
def prs (v w:Wd):List (Nat×Nat):=(dZ v.m w.m).filter λp=>jr v w p p
def LG (v w:Wd):Nat->List (List (Nat×Nat))
 | 0=>[[]]
 | j + 1=>(LG v w j).flatMap λah=>((prs v w).filter (gb v w ah)).map λq=>ah++[q]
def told (v w:Wd):Nat->List (List (Nat×Nat))
 | 0=>[[]]
 | j + 1=>told v w j++LG v w (j + 1)
abbrev a_ (ps:List (Nat×Nat)):D:=.tup (ps.map dP)
theorem Eh {v w:Wd}{p:Nat×Nat}(h:p∈prs v w):qI v w p:=nZ.mp (Rv.mp h).1
theorem qw {v w:Wd}(t:Pr v w):(prs v w).length<=16:=by
 have h1:=RG (λp=>jr v w p p) (dZ v.m w.m)
 rw [Fz] at h1
 have h2:=Vn t.v4 t.w4
 unfold prs
 omega
theorem rX {v w:Wd}:∀(j:Nat){ps:List (Nat×Nat)},ps∈LG v w j->ps.length=j/\∀p∈ps,qI v w p
 | 0,ps,h=>by
  rw [show ps=[] from Q6.mp h]
  exact ⟨rfl,λ_ h=>by cases h⟩
 | j + 1,ps,h=>by
  obtain ⟨ah,h1,h2⟩:=VC.mp h
  obtain ⟨q,h3,rfl⟩:=QE.mp h2
  obtain ⟨l,k⟩:=rX j h1
  refine ⟨by rw [Rh,l];rfl,λp hp=>?_⟩
  rcases Rt.mp hp with h | h
  ·exact k p h
  ·rw [Q6.mp h];exact Eh (Rv.mp h3).1
theorem ym {α β:Type}(f:α->List β) (n:Nat):∀(xs:List α),(∀x∈xs,(f x).length<=n)->(xs.flatMap f).length<=xs.length * n
 | [],_=>by simp
 | x::xs,h=>by
  have h1:=h x QH
  have h2:=ym f n xs λy hy=>h y (QF _ hy)
  rw [List.flatMap_cons,Rh,RT,ZF]
  omega
theorem rY {v w:Wd}(t:Pr v w):∀j,(LG v w j).length<=16 ^ j
 | 0=>QL _
 | j + 1=>by
  have h:=ym (λah=>((prs v w).filter (gb v w ah)).map λq=>ah++[q]) 16 (LG v w j) λah _=>by
   rw [QA]
   exact Rr (RG _ _) (qw t)
  have h2:=UD 16 (rY t j)
  rw [Y3]
  exact Rr h h2
theorem rS {v w:Wd}(t:Pr v w):∀j,j<=4->(told v w j).length<=(j + 1) * 65536
 | 0,_=>by show 1<=_;omega
 | j + 1,h=>by
  have h1:=rS t j (by omega)
  have h2:=rY t (j + 1)
  have h3:(16:Nat) ^ (j + 1)<=16 ^ 4:=UC (by decide) h
  have h4:(16:Nat) ^ 4=65536:=by decide
  show (told v w j++LG v w (j + 1)).length<=_
  rw [Rh]
  omega
theorem uV {v w:Wd}:∀(n:Nat){ps:List (Nat×Nat)},ps∈told v w n↔∃j,j<=n/\ps∈LG v w j
 | 0,ps=>by
  constructor
  ·exact λh=>⟨0,QL _,h⟩
  ·rintro ⟨j,hj,h⟩
   have:j=0:=by omega
   subst this
   exact h
 | n + 1,ps=>by
  show ps∈told v w n++LG v w (n + 1)↔_
  rw [Rt,uV n]
  constructor
  ·rintro (⟨j,hj,h⟩ | h)
   ·exact ⟨j,by omega,h⟩
   ·exact ⟨n + 1,QL _,h⟩
  ·rintro ⟨j,hj,h⟩
   by_cases c:j=n + 1
   ·subst c;exact .inr h
   ·exact .inl ⟨j,by omega,h⟩
theorem Bd {v w:Wd}(t:Pr v w) (n:Nat) (hn:n<=4):lO [.d v.d,.d w.d,.d (.int n)]=.ok (.l .fresh ((told v w n).map a_)):=by
 have v4:=t.v4
 have w4:=t.w4
 refine cD (gX (c2 rfl rfl (ug t)) (gX (c3 rfl rfl rfl (Mc n hn)) (bA (c1 rfl (Ag v t.vo)) rfl (bA (c1 rfl (Ag w t.wo)) rfl ?_))))
 have hp:jP 2 [1,3,4] (cu (ao (g2 aW (af 0) (gC (.int 0))) aC)) (aD 0) cA (cu (ao (g2 aW (af 2) (gC (.int 0))) aC)) (aD 1) (bN (gN (aS 4 K23.fB) (ao (af 3) (ao (af 4) (ao (bz (aA (af 0) (aA (af 1) aT))) (ao (bz (aA (af 0) (aA (af 1) aT))) aC)))))) (bz (aA (af 0) (aA (af 1) aT)))
   [some (.d v.d),some (.d w.d),some (.d (.int n)),some (.d (.dct (ic v) (ie v))),some (.d (.dct (ic w) (ie w))),none,none,none,none]=.ok (.l .fresh ((prs v w).map dP)):=by
  refine (wZ (xs:=QG v.m) (h:=dN) (h':=dN) (λ_=>QG w.m) (λa b=>jr v w (a,b) (a,b)) (λa b=>dP (a,b)) (iN (c_ (two rfl rfl (eV _ _))) (by omega)) (by simp;omega) λa ha=>⟨by simp;omega,λz=>iN (c_ (two rfl rfl (eV _ _))) (by omega),λb hb=>⟨?_,λ_=>An (bu (aF rfl rfl (aF rfl rfl bf)) t2) rfl⟩⟩).trans ?_
  ·have ha:a < v.m:=by simpa using ha
   have hb:b < w.m:=by simpa using hb
   exact oF (c4 rfl rfl (bu (aF rfl rfl (aF rfl rfl bf)) t2) (bu (aF rfl rfl (aF rfl rfl bf)) t2) (uf v w (a,b) (a,b) ⟨ha,hb⟩ ⟨ha,hb⟩))
  ·have e:((QG v.m).flatMap λa=>((QG w.m).filter λb=>jr v w (a,b) (a,b)).map λb=>dP (a,b))=(prs v w).map dP:=by
    unfold prs dZ
    rw [List.filter_flatMap,VD]
    congr 1
    funext a
    rw [ZI,Rk]
    rfl
   rw [e]
 refine bA hp rfl ?_
 refine cG (CC rfl (gj (kZ (aF (bu bf (by decide)) rfl bf) (by show 1<=1000;decide)) rfl ?_))
 refine bA (kZ (aF (bu bf (by decide)) rfl bf) (by show 1<=1000;decide)) rfl ?_
 refine mw (rO (n:=n) rfl (by omega)) ?_
 refine qC (λk env=>∃x:Option S,env=[some (.d v.d),some (.d w.d),some (.d (.int n)),some (.d (.dct (ic v) (ie v))),some (.d (.dct (ic w) (ie w))),some (.d (.lst ((prs v w).map dP))),some (.own ((LG v w k).map a_)),some (.own ((told v w k).map a_)),x]) ⟨none,rfl⟩ ?_ ?_
 ·rintro k hk _ ⟨x,rfl⟩
  have l1:=rY t k
  have l2:=rY t (k + 1)
  have l3:=rS t k (by omega)
  have p1:(16:Nat) ^ k<=16 ^ 3:=UC (by decide) (by omega)
  have p2:(16:Nat) ^ (k + 1)<=16 ^ 4:=UC (by decide) (by omega)
  have p3:(16:Nat) ^ 3=4096:=by decide
  have p4:(16:Nat) ^ 4=65536:=by decide
  refine ⟨_,rfl,cG (Mb rfl (gj (r:=.l .fresh ((LG v w (k + 1)).map a_)) ?_ rfl (Mu rfl rfl rfl (by simp only [QA];omega) ⟨_,rfl,some (.d (.int k)),?_⟩)))⟩
  ·refine (wZ (xs:=LG v w k) (h:=a_) (h':=dP) (λ_=>prs v w) (λah q=>gb v w ah q) (λah q=>a_ (ah++[q])) rfl (by omega) λah P5=>⟨by have:=qw t;omega,λz=>rfl,λq hq=>⟨?_,λ_=>An (two rfl (bu (aF rfl rfl bf) (by show 1<=1000;decide)) (t_ _ _ ?_)) ?_⟩⟩).trans ?_
   ·exact oF (c4 rfl rfl rfl rfl (Nj v w ah q (rX k P5).2 (Eh hq)))
   ·have:=(rX k P5).1
    simp;omega
   ·show M.ok (D.tup (ah.map dP++[dP q]))=M.ok (D.tup ((ah++[q]).map dP))
    rw [Rg]
    rfl
   ·show M.ok (R.l .fresh _)=_
    show _=M.ok (R.l .fresh (((LG v w k).flatMap λah=>((prs v w).filter (gb v w ah)).map λq=>ah++[q]).map a_))
    rw [VD]
    simp only [Rk]
    rfl
  ·show _=[_,_,_,_,_,_,_,some (S.own ((told v w k++LG v w (k + 1)).map a_)),_]
   rw [Rg]
   rfl
 ·rintro _ ⟨x,rfl⟩
  exact bR rfl rfl rfl
theorem allM {α:Type}(f:α->Bool) (xs:List α):rG [.l .fresh (xs.map λx=>.bl (f x))]=.ok (.d (.bl (xs.all f))):=by
 have:=all_map (λd=>match d with
  | .bl b=>b
  | _=>false) (xs.map λx=>.bl (f x))
 rw [Rk,Xd] at this
 exact this
theorem yj:∀{xs ys:List Bool},cj (xs.map D.bl) (ys.map D.bl)=true↔xs=ys
 | [],[]=>by simp [cj]
 | [],_::_=>by simp [cj]
 | _::_,[]=>by simp [cj]
 | x::xs,y::ys=>by
  rw [Q5,Q5,gY,QK,yj]
  simp [bw]
structure Ad (v w:Wd) (p q:Nat×Nat):Prop where
 eq:p.1=q.1↔p.2=q.2
 ms:v.ms.map (λr=>decide (p.1∈r.2))=w.ms.map λr=>decide (p.2∈r.2)
 ar:v.ar.map (λr=>decide ((p.1,q.1)∈r.2))=w.ar.map λr=>decide ((p.2,q.2)∈r.2)
theorem mR (v w:Wd) (p q:Nat×Nat):jr v w p q=true↔Ad v w p q:=by
 have e:jr v w p q=((p.1 == q.1) == (p.2 == q.2) && (cj ((v.ms.map λr=>decide (p.1∈r.2)).map D.bl) ((w.ms.map λr=>decide (p.2∈r.2)).map D.bl) && (cj ((v.ar.map λr=>decide ((p.1,q.1)∈r.2)).map D.bl) ((w.ar.map λr=>decide ((p.2,q.2)∈r.2)).map D.bl) && true))):=by
  unfold jr e_
  rw [kH,gY,gY,gY,kH,kH,cj]
  simp only [K55.inN,K55.Nb,Rk,K55.yi]
  rfl
 rw [e,QK,QK,QK,yj,yj]
 have e1:((p.1 == q.1) == (p.2 == q.2))=true↔(p.1=q.1↔p.2=q.2):=by
  rw [beq_iff_eq,RV,beq_iff_eq,beq_iff_eq]
 rw [e1]
 exact ⟨λ⟨a,b,c,_⟩=>⟨a,b,c⟩,λ⟨a,b,c⟩=>⟨a,b,c,rfl⟩⟩
theorem KY {p q:Nat×Nat}(h:qW p q=false):q.1 < p.1\/(q.1=p.1/\q.2 < p.2):=by
 unfold qW at h
 rw [kr] at h
 by_cases c:(p.1:Int)=q.1
 ·rw [if_pos c,kr] at h
  by_cases c2:(p.2:Int)=q.2
  ·rw [if_pos c2,oQ] at h;cases h
  ·rw [if_neg c2,decide_eq_false_iff_not] at h
   exact .inr ⟨by omega,by omega⟩
 ·rw [if_neg c,decide_eq_false_iff_not] at h
  exact .inl (by omega)
theorem KW {p q:Nat×Nat}(h:q.1 < p.1):qW p q=false:=by
 unfold qW
 rw [kr,if_neg (by omega),decide_eq_false_iff_not]
 omega
structure Good (v w:Wd) (ps:List (Nat×Nat)):Prop where
 up:ps.Pairwise λp q=>p.1 < q.1
 ag:∀p∈ps,∀q∈ps,Ad v w p q
 rg:∀p∈ps,qI v w p
theorem uM {α:Type}{ps:List α}{l:α}(h:ps.getLast?=some l):∃rs,ps=rs++[l]:=by
 rcases Tq ps with rfl | ⟨ys,y,rfl⟩
 ·cases h
 ·rw [Tr] at h ⊢
  rw [Xy] at h
  cases h
  exact ⟨ys,rfl⟩
theorem AN {v w:Wd}{p:Nat×Nat}:p∈prs v w↔qI v w p/\Ad v w p p:=by
 unfold prs
 rw [Rv,nZ,mR]
 exact abD
theorem DI {v w:Wd}{ps:List (Nat×Nat)}(g:Good v w ps){q:Nat×Nat}(hq:q∈prs v w):gb v w ps q=true↔Good v w (ps++[q]):=by
 obtain ⟨h1,h2⟩:=AN.mp hq
 unfold gb
 rw [QK,Rw]
 constructor
 ·rintro ⟨a,b⟩
  have ag:∀r∈ps,Ad v w q r/\Ad v w r q:=λr hr=>by
   have:=b r hr
   rw [QK,mR,mR] at this
   exact this
  have lt:∀r∈ps,r.1 < q.1:=by
   cases e:ps.getLast? with
   | none=>rw [We.mp e];exact λ_ h=>by cases h
   | some l=>
    rw [e] at a
    have hl:l.1 < q.1:=by
     obtain ⟨rs,rfl⟩:=uM e
     rcases KY (by simpa using a) with h | ⟨h,h'⟩
     ·exact h
     ·have:=(ag l (by simp)).1.eq
      omega
    obtain ⟨rs,rfl⟩:=uM e
    intro r hr
    rcases Rt.mp hr with h | h
    ·have:=(Tz.mp g.up).2.2 r h l (by simp)
     omega
    ·rw [Q6.mp h];exact hl
  refine ⟨Tz.mpr ⟨g.up,T5 _ _,λr hr x hx=>by rw [Q6.mp hx];exact lt r hr⟩,λr hr x hx=>?_,λr hr=>?_⟩
  ·rcases Rt.mp hr with hr | hr <;> rcases Rt.mp hx with hx | hx
   ·exact g.ag r hr x hx
   ·rw [Q6.mp hx];exact (ag r hr).2
   ·rw [Q6.mp hr];exact (ag x hx).1
   ·rw [Q6.mp hr,Q6.mp hx];exact h2
  ·rcases Rt.mp hr with hr | hr
   ·exact g.rg r hr
   ·rw [Q6.mp hr];exact h1
 ·intro h
  refine ⟨?_,λr hr=>?_⟩
  ·cases e:ps.getLast? with
   | none=>rfl
   | some l=>
    have hl:l∈ps:=by obtain ⟨rs,rfl⟩:=uM e;simp
    have:=(Tz.mp h.up).2.2 l hl q (by simp)
    show (!qW q l)=true
    rw [KW this]
    rfl
  ·rw [QK,mR,mR]
   exact ⟨h.ag q (by simp) r (by simp [hr]),h.ag r (by simp [hr]) q (by simp)⟩
theorem tK {v w:Wd}:∀(j:Nat){ps:List (Nat×Nat)},ps∈LG v w j↔ps.length=j/\Good v w ps
 | 0,ps=>by
  constructor
  ·intro h
   rw [show ps=[] from Q6.mp h]
   exact ⟨rfl,.nil,(λ_ h=>nomatch h),(λ_ h=>nomatch h)⟩
  ·rintro ⟨h,_⟩
   rw [S7.mp h]
   exact Q6.mpr rfl
 | j + 1,ps=>by
  constructor
  ·intro h
   obtain ⟨ah,h1,h2⟩:=VC.mp h
   obtain ⟨q,h3,rfl⟩:=QE.mp h2
   obtain ⟨l,g⟩:=(tK j).mp h1
   obtain ⟨h4,h5⟩:=Rv.mp h3
   exact ⟨by rw [Rh,l];rfl,(DI g h4).mp h5⟩
  ·rintro ⟨h,g⟩
   rcases Tq ps with rfl | ⟨ah,q,rfl⟩
   ·cases h
   ·rw [Tr] at h g ⊢
    have ga:Good v w ah:=⟨(Tz.mp g.up).1,λp hp x hx=>g.ag p (by simp [hp]) x (by simp [hx]),λp hp=>g.rg p (by simp [hp])⟩
    have hq:q∈prs v w:=AN.mpr ⟨g.rg q (by simp),g.ag q (by simp) q (by simp)⟩
    exact VC.mpr ⟨ah,(tK j).mpr ⟨by simpa using h,ga⟩,QE.mpr ⟨q,Rv.mpr ⟨hq,(DI ga hq).mpr g⟩,rfl⟩⟩
theorem xh (a b:Nat):eu (dN a) (dN b)=true↔a < b:=by
 rw [ni,decide_eq_true_eq]
 omega
theorem xj (a b:Nat×Nat):eu (dP a) (dP b)=true↔ju a b:=by
 have e:eu (dP a) (dP b)=iz [dN a.1,dN a.2] [dN b.1,dN b.2]:=rfl
 rw [e,jD,K55.yi]
 unfold ju
 by_cases c:a.1=b.1
 ·rw [if_pos (by simpa using c),jD,K55.yi]
  by_cases c2:a.2=b.2
  ·rw [if_pos (by simpa using c2)]
   constructor
   ·intro h;cases h
   ·intro h;omega
  ·rw [if_neg (by simpa using c2)]
   rw [show eu (D.int a.2) (D.int b.2)=eu (dN a.2) (dN b.2) from rfl,xh]
   omega
 ·rw [if_neg (by simpa using c)]
  rw [show eu (D.int a.1) (D.int b.1)=eu (dN a.1) (dN b.1) from rfl,xh]
  omega
theorem ud {α:Type}(h:α->D) (u:D->α) (hu:∀x,u (h x)=x) (R:α->α->Prop) (hR:∀a b,eu (h a) (h b)=true->R a b){l:List D}(hl:∀d∈l,∃x,d=h x) (up:l.Pairwise λa b=>eu a b=true):(l.map u).Pairwise R:=by
 refine RC.mpr ((Tp.mp up).imp ?_)
 rintro a b ⟨ha,hb,h1⟩
 obtain ⟨x,rfl⟩:=hl a ha
 obtain ⟨y,rfl⟩:=hl b hb
 rw [hu,hu]
 exact hR x y h1
theorem NN (xs:List Nat) (hl:xs.length < 64):∃ys:List Nat,gq [.d (.tup (xs.map dN))]=.ok (.l .fresh (ys.map dN))/\ys.length<=xs.length/\(∀y∈ys,y∈xs)/\ys.Pairwise (· < ·):=by
 have tot:∀d∈xs.map dN,jx .i d:=λd hd=>by obtain ⟨x,_,rfl⟩:=QE.mp hd;exact ⟨_,rfl⟩
 obtain ⟨h1,h2⟩:=pY (fQ .i) tot
 have fm:∀d∈cS (xs.map dN),∃x,d=dN x:=λd hd=>by obtain ⟨x,_,rfl⟩:=QE.mp (h2 d hd);exact ⟨x,rfl⟩
 refine ⟨(cS (xs.map dN)).map mE,?_,by simpa using h1,λy hy=>?_,ud dN mE uc _ (λa b h=>(xh a b).mp h) fm (lH (fQ .i) tot).1⟩
 ·rw [NP xs hl,back dN mE uc fm]
 ·obtain ⟨d,hd,rfl⟩:=QE.mp hy
  obtain ⟨x,hx,rfl⟩:=QE.mp (h2 d hd)
  exact hx
theorem NO (xs:List (Nat×Nat)) (hl:xs.length < 64):∃ys:List (Nat×Nat),gq [.d (.tup (xs.map dP))]=.ok (.l .fresh (ys.map dP))/\ys.length<=xs.length/\(∀y∈ys,y∈xs)/\ys.Pairwise ju:=by
 have tot:∀d∈xs.map dP,jx pF d:=λd hd=>by obtain ⟨x,_,rfl⟩:=QE.mp hd;exact pD x
 obtain ⟨h1,h2⟩:=pY (fQ pF) tot
 have fm:∀d∈cS (xs.map dP),∃x,d=dP x:=λd hd=>by obtain ⟨x,_,rfl⟩:=QE.mp (h2 d hd);exact ⟨x,rfl⟩
 refine ⟨(cS (xs.map dP)).map lK,?_,by simpa using h1,λy hy=>?_,ud dP lK kD _ (λa b h=>(xj a b).mp h) fm (lH (fQ pF) tot).1⟩
 ·rw [Gx xs hl,back dP lK kD fm]
 ·obtain ⟨d,hd,rfl⟩:=QE.mp hy
  obtain ⟨x,hx,rfl⟩:=QE.mp (h2 d hd)
  exact hx
theorem sQ {α:Type}(h:α->D) (P:α->Prop) (Sr:List α->Prop) (hf:∀xs p,Sr xs->Sr (xs.filter p)) (n:Nat) (hn:n<=40) (hd:∀x,dep (h x)<=1) (b:Bool) (hb:∀x,p_ (lJ (h x)) "tuple"=b)
  (hs:∀xs:List α,xs.length < 64->∃ys:List α,gq [.d (.tup (xs.map h))]=.ok (.l .fresh (ys.map h))/\ys.length<=xs.length/\(∀y∈ys,y∈xs)/\Sr ys)
  (L:List (Str×List α)) (hL:CQ P n L) (hS:∀r∈L,Sr r.2) (l3:L.length<=3) (k:Nat) (hk:k < L.length) (th:α) (ht:P th) (w c:Option S) (m:D) (ms ar:D):
  ∃L':List (Str×List α),CQ P (n + 1) L'/\(∀r∈L',Sr r.2)/\L'.map R7=L.map R7/\L'.length=L.length/\MO [w,c,some (.d m),some (.d ms),some (.d ar),some (.d (.int k)),some (.d (h th)),some (.d (.tup (L.map (dc h)))),none,none,none]=.ok (.rt (.d (if b=true then .tup [m,ms,.tup (L'.map (dc h))] else .tup [m,.tup (L'.map (dc h)),ar]))):=by
 obtain ⟨a1,a2⟩:=hL.all L[k] (Sg hk)
 obtain ⟨ys,e1,e2,e3,e4⟩:=hs (L[k].2++[th]) (by simp;omega)
 rw [Rh] at e2
 have e2:ys.length<=n + 1:=by simp at e2;omega
 have e3:∀y∈ys,P y:=λy hy=>by
  rcases Rt.mp (e3 y hy) with h | h
  ·exact a2 y h
  ·rw [Q6.mp h];exact ht
 have dp:deps (L[k].2.map h)<=60:=fj λd hd'=>by
  obtain ⟨x,_,rfl⟩:=QE.mp hd'
  have:=hd x;omega
 have dt:=hd th
 have nx:∃now:List α,now.length<=n + 1/\(∀y∈now,P y)/\Sr now/\∀(Q:O->Prop) (u:G O),Wp (u [w,c,some (.d m),some (.d ms),some (.d ar),some (.d (.int k)),some (.d (h th)),some (.d (.tup (L.map (dc h)))),some (.d (.str L[k].1)),some (.d (.tup (L[k].2.map h))),some (.d (.tup (now.map h)))]) Q->
   Wp (aM (b9 (bN (g2 (jt false) (af 6) (af 9))) (bg 10 (gN cI (ao (bJ 1 [6] (fc (af 9)) (aD 0) (bN (g2 (fE true) (af 0) (af 1))) (af 0)) aC))) eU) u [w,c,some (.d m),some (.d ms),some (.d ar),some (.d (.int k)),some (.d (h th)),some (.d (.tup (L.map (dc h)))),some (.d (.str L[k].1)),some (.d (.tup (L[k].2.map h))),some (.d (.tup (ys.map h)))]) Q:=by
  have hin:bN (g2 (jt false) (af 6) (af 9)) [w,c,some (.d m),some (.d ms),some (.d ar),some (.d (.int k)),some (.d (h th)),some (.d (.tup (L.map (dc h)))),some (.d (.str L[k].1)),some (.d (.tup (L[k].2.map h))),some (.d (.tup (ys.map h)))]=.ok (inD (h th) (L[k].2.map h)):=by
   show (g2 _ _ _ _ >>= _)=_
   rw [two (x:=.d (h th)) rfl rfl (BQ false _ _ dp (by omega))]
   rfl
  cases q:inD (h th) (L[k].2.map h) with
  | true=>
   rw [q] at hin
   refine ⟨L[k].2.filter (λx=>!bw (h x) (h th)),Rr (RG _ _) (by omega),λy hy=>a2 y (Rv.mp hy).1,hf _ _ (hS _ (Sg hk)),λQ u hu=>?_⟩
   refine cG (jk hin (gj (n1 (kj (xs:=L[k].2) (h:=h) (λx=>!bw (h x) (h th)) h rfl (by omega) λx _=>⟨?_,λ_=>⟨_,rfl,rfl⟩⟩) rfl) rfl hu))
   have:=hd x
   show (g2 _ _ _ _ >>= _)=_
   rw [two (x:=.d (h x)) (y:=.d (h th)) rfl rfl (qf _ _ _ (by show dep (h x)<=60;omega) (by show dep (h th)<=60;omega))]
   rfl
  | false=>
   rw [q] at hin
   exact ⟨ys,e2,e3,e4,λQ u hu=>fH hin hu⟩
 obtain ⟨now,n1',n2,nS,n3⟩:=nx
 refine ⟨L.take k++[(L[k].1,now)]++L.drop (k + 1),⟨λr hr=>?_⟩,λr hr=>?_,?_,?_,?_⟩
 ·simp only [Rt,Q6] at hr
  rcases hr with (hr | hr) | hr
  ·have:=hL.all r (Xz hr)
   exact ⟨by omega,this.2⟩
  ·rw [hr];exact ⟨n1',n2⟩
  ·have:=hL.all r (XA hr)
   exact ⟨by omega,this.2⟩
 ·simp only [Rt,Q6] at hr
  rcases hr with (hr | hr) | hr
  ·exact hS r (Xz hr)
  ·rw [hr];exact nS
  ·exact hS r (XA hr)
 ·have e:L=L.take k++[L[k]]++L.drop (k + 1):=by
   rw [Uy,Vu,Vf,Ul]
  conv=>rhs;rw [e]
  simp only [Rg,Q5,Uj]
 ·simp;omega
 ·have ix:aW (.d (.tup (L.map (dc h)))) (.d (.int k))=.ok (.d (dc h L[k])):=kI (by rw [Q_,QS hk];rfl)
  have hc1:dO (.d (.tup ((L.map (dc h)).take k))) (.d (.tup [dc h (L[k].1,now)]))=.ok (.d (.tup ((L.map (dc h)).take k++[dc h (L[k].1,now)]))):=t_ _ _ (by simp;omega)
  have hc2:dO (.d (.tup ((L.map (dc h)).take k++[dc h (L[k].1,now)]))) (.d (.tup ((L.map (dc h)).drop (k + 1))))=.ok (.d (.tup ((L.map (dc h)).take k++[dc h (L[k].1,now)]++(L.map (dc h)).drop (k + 1)))):=t_ _ _ (by simp;omega)
  have hm:(L.map (dc h)).take k++[dc h (L[k].1,now)]++(L.map (dc h)).drop (k + 1)=(L.take k++[(L[k].1,now)]++L.drop (k + 1)).map (dc h):=by
   rw [Rg,Rg,VJ,VL];rfl
  rw [hm] at hc2
  refine Wp.eq (tY (two rfl rfl ix) rfl rfl (bA (n1 (n1 (two rfl (bu (aF rfl rfl bf) (by show 1<=1000;decide)) (t_ _ _ (by simp;omega))) (by rw [show L[k].2.map h++[h th]=(L[k].2++[th]).map h by rw [Rg];rfl];exact e1)) rfl) rfl (n3 _ _ ?_)))
  refine bA (two (x:=.d (.tup ((L.map (dc h)).take k++[dc h (L[k].1,now)]))) (y:=.d (.tup ((L.map (dc h)).drop (k + 1)))) (two (x:=.d (.tup ((L.map (dc h)).take k))) ?_ (bu (aF (bu (aF rfl rfl (aF rfl rfl bf)) t2) rfl bf) (by show 1<=1000;decide)) hc1) ?_ hc2) rfl ?_
  ·show M.ok (R.d (.tup (cutD (L.map (dc h)) none (some (k:Int)))))=_
   rw [Ka _ _ (by simp;omega)]
  ·show M.ok (R.d (.tup (cutD (L.map (dc h)) (some ((k:Int) + 1)) none)))=_
   rw [show ((k:Int) + 1)=((k + 1:Nat):Int) by omega,E4 _ _ (by simp;omega)]
  ·have hb':=hb th
   cases b with
   | true=>exact cG (jk (by show M.ok (p_ (lJ (h th)) "tuple")=_;rw [hb']) (bR (bu (aF rfl rfl (aF rfl rfl (aF rfl rfl bf))) (by show 3<=1000;decide)) rfl rfl))
   | false=>exact fH (by show M.ok (p_ (lJ (h th)) "tuple")=_;rw [hb']) (bR (bu (aF rfl rfl (aF rfl rfl (aF rfl rfl bf))) (by show 3<=1000;decide)) rfl rfl)
structure sy (u:Wd):Prop where
 mp:∀r∈u.ms,r.2.Pairwise (· < ·)
 ap:∀r∈u.ar,r.2.Pairwise ju
structure GU (n:Nat) (w u:Wd):Prop where
 ok:mQ u
 inn:lQ n u
 qY:sy u
 m:u.m=w.m
 mn:u.ms.map R7=w.ms.map R7
 an:u.ar.map R7=w.ar.map R7
theorem BI {α:Type}{l:List α}{j:Nat}(h:j < l.length):(l[j]::l.eraseIdx j).Perm l:=by
 have e2:l=l.take j++l[j]::l.drop (j + 1):=by rw [Vf,Ul]
 rw [TV]
 exact WU.symm.trans (Zx e2.symm)
theorem EK (c:Int) (m:Nat) (hm:m<=8):∃ps:List Nat,iA [.d (.int c),.d (.int m)]=.ok (.d (.tup (ps.map dN)))/\ps.Perm (QG m):=by
 have key:Wp (iA [.d (.int c),.d (.int m)]) λr=>∃ps:List Nat,r=.d (.tup (ps.map dN))/\ps.Perm (QG m):=by
  refine oG (bA (r:=.l .fresh ((QG m).map dN)) ?_ rfl (bA rfl rfl (mw (rO (n:=m) rfl (by omega)) ?_)))
  ·show (if below 16777216 (m:Int) then M.ok (R.l .fresh (fO 0 (m:Int).toNat)) else .bad)=_
   rw [if_pos (by unfold below;simp;omega),Sz,LJ]
  ·refine qC (λk env=>∃(c:Int) (ls ps:List Nat) (x:Option S),env=[some (.d (.int c)),some (.d (.int m)),some (.own (ls.map dN)),some (.own (ps.map dN)),x]/\ls.length + k=m/\ps.length=k/\(ps++ls).Perm (QG m)) ⟨c,QG m,[],none,rfl,by simp,rfl,.refl _⟩ ?_ ?_
   ·rintro k hk _ ⟨c,ls,ps,x,rfl,l1,l2,m1⟩
    have hlen:(0:Int) < ((ls.map dN).length:Nat):=by simp;omega
    obtain ⟨j,hj⟩:∃j:Nat,c % ((ls.map dN).length:Nat)=j:=⟨(c % ((ls.map dN).length:Nat)).toNat,by have:=TR c (b:=((ls.map dN).length:Nat)) (by omega);omega⟩
    have hjl:j < (ls.map dN).length:=by
     have:=SQ c hlen
     omega
    have Pb:j < ls.length:=by simpa using hjl
    refine ⟨_,rfl,cG (Fv (k:=j) rfl rfl (by decide) ((two rfl (n1 rfl rfl) (fJ _ _ hlen)).trans (by rw [hj])) hjl (by simp;omega) (by simp;omega) ?_)⟩
    refine gj (two rfl rfl (oE _ 9 (by decide) (by decide))) rfl ⟨_,rfl,c / 9,ls.eraseIdx j,ps++[ls[j]],some (.d (.int k)),?_,?_,?_,?_⟩
    ·rw [Rg,WT,show (ls.eraseIdx j).map dN=(ls.map dN).eraseIdx j by simp [TV,VJ,VL]]
     rfl
    ·rw [Xx,if_pos Pb];omega
    ·rw [Rh];simp;omega
    ·rw [Uy,Vu]
     exact ((BI Pb).append_left ps).trans m1
   ·rintro _ ⟨c,ls,ps,x,rfl,l1,l2,m1⟩
    have l0:ls=[]:=S7.mp (by omega)
    rw [l0,S_] at m1
    exact bR rfl rfl ⟨_,rfl,ps,rfl,m1⟩
 obtain ⟨_,h,ps,rfl,hk⟩:=key
 exact ⟨ps,h,hk⟩
theorem getD_at {ps:List Nat}{k:Nat}(h:k < ps.length):ps.getD k 0=ps[k]:=by simp [Xi,h]
theorem tH {α β:Type}{f:α->β}{xs:List α}(nd:xs.Nodup) (inj:∀a∈xs,∀b∈xs,f a=f b->a=b):(xs.map f).Nodup:=by
 refine RC.mpr ((Tp.mp nd).imp ?_)
 rintro a b ⟨ha,hb,h⟩ e
 exact h (inj a ha b hb e)
theorem Mw {xs:List Nat}(h:xs.Pairwise (· < ·)):xs.Nodup:=h.imp λh e=>by omega
theorem K9 {xs:List (Nat×Nat)}(h:xs.Pairwise ju):xs.Nodup:=h.imp fun {a b} h e=>by subst e;unfold ju at h;omega
theorem rM {ps:List Nat}{m:Nat}(pm:ps.Perm (QG m)){a b:Nat}(ha:a < m) (hb:b < m) (e:ps.getD a 0=ps.getD b 0):a=b:=by
 have l:ps.length=m:=by rw [pm.length_eq,Sk]
 rw [getD_at (by omega),getD_at (by omega)] at e
 exact (WL (pm.nodup_iff.mpr SV)).mp e
theorem NK {xs:List Nat}(nd:xs.Nodup):((bB (xs.map dN)).map mE).Pairwise (· < ·):=
 ud dN mE uc _ (λa b h=>(xh a b).mp h) (λd hd=>by obtain ⟨x,_,rfl⟩:=QE.mp (mz hd);exact ⟨x,rfl⟩) (nC (fQ .i) (λd hd=>by obtain ⟨x,_,rfl⟩:=QE.mp hd;exact ⟨_,rfl⟩) (tH nd λa _ b _ e=>by have:=congrArg mE e;exact this))
theorem NL {xs:List (Nat×Nat)}(nd:xs.Nodup):((bB (xs.map dP)).map lK).Pairwise ju:=
 ud dP lK kD _ (λa b h=>(xj a b).mp h) (λd hd=>by obtain ⟨x,_,rfl⟩:=QE.mp (mz hd);exact ⟨x,rfl⟩) (nC (fQ pF) (λd hd=>by obtain ⟨x,_,rfl⟩:=QE.mp hd;exact pD x) (tH nd λa _ b _ e=>by have:=congrArg lK e;exact this))
theorem LZ (w:Wd) (hw:mQ w) (n:Nat) (hb:lQ n w) (hs:sy w) (ps:List Nat) (pm:ps.Perm (QG w.m)):mQ (lI w ps)/\lQ n (lI w ps)/\sy (lI w ps)/\(lI w ps).m=w.m/\(lI w ps).ms.map R7=w.ms.map R7/\(lI w ps).ar.map R7=w.ar.map R7:=by
 have l:ps.length=w.m:=by rw [pm.length_eq,Sk]
 obtain ⟨h1,h2,h3,h4,h5⟩:=M4 w hw n hb ps l λp hp=>by simpa using pm.mem_iff.mp hp
 refine ⟨h1,h2,⟨λr hr=>?_,λr hr=>?_⟩,h3,?_,?_⟩
 ·obtain ⟨q,hq,rfl⟩:=QE.mp (show r∈w.ms.map _ from hr)
  exact NK (tH (Mw (hs.mp q hq)) λa ha b hb' e=>rM pm ((hb.mp q hq).2 a ha) ((hb.mp q hq).2 b hb') e)
 ·obtain ⟨q,hq,rfl⟩:=QE.mp (show r∈w.ar.map _ from hr)
  refine NL (tH (K9 (hs.ap q hq)) λa ha b hb' e=>?_)
  have ra:=(hb.ap q hq).2 a ha
  have rb:=(hb.ap q hq).2 b hb'
  exact abF (rM pm ra.1 rb.1 (congrArg R7 e)) (rM pm ra.2 rb.2 (congrArg abl e))
 ·show (w.ms.map _).map _=_
  rw [Rk]
  rfl
 ·show (w.ar.map _).map _=_
  rw [Rk]
  rfl
theorem rV (w:Wd) (hw:mQ w) (n:Nat) (hn:n<=40) (hb:lQ n w) (hs:sy w) (c:Int) (hc:0<=c):∃u:Wd,fh [.d w.d,.d (.int c)]=.ok (.d u.d)/\GU (n + 1) w u:=by
 have ml:=hw.ml
 have al:=hw.al
 have lo:=hw.lo
 have key:Wp (fh [.d w.d,.d (.int c)]) λr=>∃u:Wd,r=.d u.d/\GU (n + 1) w u:=by
  refine oG (tY rfl rfl rfl ?_)
  have hadd:dO (.d (.int ((w.ms.map lF).length:Nat))) (.d (.int ((w.ar.map pS).length:Nat)))=.ok (.d (.int ((w.ms.length + w.ar.length:Nat):Int))):=by rw [fp,QA,QA,<-Int.natCast_add]
  by_cases c0:w.ms.length + w.ar.length=0
  ·refine cG (jk ?_ (bR rfl rfl ⟨_,rfl,w,rfl,hw,⟨λr hr=>⟨by have:=(hb.mp r hr).1;omega,(hb.mp r hr).2⟩,λr hr=>⟨by have:=(hb.ap r hr).1;omega,(hb.ap r hr).2⟩⟩,hs,rfl,rfl,rfl⟩))
   show (g2 _ _ _ _ >>= _)=_
   rw [two (two (n1 rfl rfl) (n1 rfl rfl) hadd) rfl (eq_int _ _ _),c0]
   rfl
  ·have hs':(0:Int) < ((w.ms.length + w.ar.length:Nat):Int):=by omega
   have hm:(0:Int) < (w.m:Int):=by omega
   refine fH ?_ (bA (two rfl (two (n1 rfl rfl) (n1 rfl rfl) hadd) (fJ _ _ hs')) rfl (bA (two (two rfl rfl (oE _ 6 (by decide) (by decide))) rfl (fJ _ _ hm)) rfl (bA rfl rfl ?_)))
   ·show (g2 _ _ _ _ >>= _)=_
    rw [two (two (n1 rfl rfl) (n1 rfl rfl) hadd) rfl (eq_int _ _ _)]
    show M.ok ((((w.ms.length + w.ar.length:Nat):Int)) == 0)=_
    rw [beq_eq_false_iff_ne.mpr (by omega)]
   obtain ⟨k,hk⟩:=tL (TR c (b:=((w.ms.length + w.ar.length:Nat):Int)) (by omega))
   have Qj:=SQ c hs'
   obtain ⟨p,hp⟩:=tL (TR (c / 6) (b:=(w.m:Int)) (by omega))
   have hpl:=SQ (c / 6) hm
   obtain ⟨q,hq⟩:=tL (TR (c / 48) (b:=(w.m:Int)) (by omega))
   have Qn:=SQ (c / 48) hm
   rw [hk] at Qj
   rw [hp] at hpl
   rw [hq] at Qn
   rw [hk,hp]
   by_cases ck:k < w.ms.length
   ·obtain ⟨L',o1,oS,oN,o2,o3⟩:=sQ dN (λp=>p < w.m) (λxs=>xs.Pairwise (· < ·)) (λxs p h=>h.filter p) n hn (λ_=>Rl _) false (λ_=>rfl) NN w.ms ⟨hb.mp⟩ hs.mp ml k ck p (by show p < w.m;omega) (some (.d w.d)) (some (.d (.int c))) (.int w.m) (.tup (w.ms.map lF)) (.tup (w.ar.map pS))
    refine fH ?_ (Wp.of o3 ⟨_,rfl,⟨w.m,L',w.ar⟩,rfl,⟨lo,hw.hi,by show L'.length<=3;omega,al⟩,⟨o1.all,λr hr=>⟨by have:=(hb.ap r hr).1;omega,(hb.ap r hr).2⟩⟩,⟨oS,hs.ap⟩,rfl,oN,rfl⟩)
    show M.ok (decide ((((w.ms.map lF).length:Nat):Int)<=(k:Int)))=_
    rw [decide_eq_false (by simp;omega)]
   ·obtain ⟨L',o1,oS,oN,o2,o3⟩:=sQ dP (λp=>p.1 < w.m/\p.2 < w.m) (λxs=>xs.Pairwise ju) (λxs p h=>h.filter p) n hn (λ_=>(by decide:(1:Nat)<=1)) true (λ_=>rfl) NO w.ar ⟨hb.ap⟩ hs.ap al (k - w.ms.length) (by omega) (p,q) (by show p < w.m/\q < w.m;omega) (some (.d w.d)) (some (.d (.int c))) (.int w.m) (.tup (w.ms.map lF)) (.tup (w.ar.map pS))
    refine cG (jk ?_ (bA (x:=.d (.int ((k - w.ms.length:Nat):Int))) (two rfl (n1 rfl rfl) rfl) ?_ (bA (x:=.d (dP (p,q))) (bu (aF rfl rfl (aF (two (two rfl rfl (oE _ 48 (by decide) (by decide))) rfl (fJ _ _ hm)) rfl bf)) t2) ?_ (gj rfl rfl (Wp.of o3 ⟨_,rfl,⟨w.m,w.ms,L'⟩,rfl,⟨lo,hw.hi,ml,by show L'.length<=3;omega⟩,⟨λr hr=>⟨by have:=(hb.mp r hr).1;omega,(hb.mp r hr).2⟩,o1.all⟩,⟨hs.mp,oS⟩,rfl,rfl,oN⟩)))))
    ·show M.ok (decide ((((w.ms.map lF).length:Nat):Int)<=(k:Int)))=_
     rw [decide_eq_true (by simp;omega)]
    ·show M.ok (S.d (.int ((k:Int) - (((w.ms.map lF).length:Nat):Int))))=_
     rw [QA,show (k:Int) - (w.ms.length:Int)=((k - w.ms.length:Nat):Int) by omega]
    ·show M.ok (S.d (.tup [.int p,.int (c / 48 % w.m)]))=_
     rw [hq]
 obtain ⟨_,h,u,rfl,hu⟩:=key
 exact ⟨u,h,hu⟩
theorem JF (ns:List Int) (sz:List Nat) (hz:sz.length=8) (hs:∀n∈sz,1<=n/\n<=4):∃v w:Wd,jL [.bor (ns.map D.int),.bor (sz.map dN)]=.ok (.d (.tup [v.d,w.d]))/\Pr v w/\lQ 30 v/\lQ 30 w/\sy v/\sy w:=by
 have c0:=K51.jz ns 0
 have c1':=K51.jz ns 1
 have c2':=K51.jz ns 2
 have c9:=K51.jz ns 9
 have c10:=K51.jz ns 10
 have key:Wp (jL [.bor (ns.map D.int),.bor (sz.map dN)]) λr=>∃v w:Wd,r=.d (.tup [v.d,w.d])/\Pr v w/\lQ 30 v/\lQ 30 w/\sy v/\sy w:=by
  refine oG (bA (c2 rfl rfl (K51.CI ns 0)) rfl (bA (c2 rfl rfl (ff ns _ 1 rfl)) rfl ?_))
  obtain ⟨a,ha,ea⟩:=ng (xs:=[1,0,2,3]) (h:=dN) (.l .fresh ([1,0,2,3].map dN)) rfl (K51.cP ns 1 % 4) (by omega) (by show _ < (4:Int);omega)
  obtain ⟨b,hb,eb⟩:=ng (xs:=[1,2,0,1,3]) (h:=dN) (.l .fresh ([1,2,0,1,3].map dN)) rfl (K51.cP ns 1 / 4 % 5) (by omega) (by show _ < (5:Int);omega)
  have ha:a<=3:=by simp at ha;omega
  have hb:b<=3:=by simp at hb;omega
  obtain ⟨A,hA,lA⟩:=K51.Af (K51.cP ns 1 / 20) (by omega) a ha
  obtain ⟨B,hB,lB⟩:=K51.Af (K51.cP ns 2) (by omega) b hb
  refine bA (c2 rfl (two (kZ rfl (by show 4<=1000;decide)) rfl ea) hA) rfl ?_
  refine cG (CC rfl (gj (bu (aF rfl rfl (aF (c2 (c2 rfl rfl (ff ns _ 2 rfl)) (two (kZ rfl (by show 5<=1000;decide)) rfl eb) hB) rfl bf)) (by show 2<=1000;decide)) rfl ?_))
  have mk:∀(m:Nat),1<=m/\m<=4->∀(j:Nat),∃w:Wd,K51.fM [.d (.tup [.lst (A.map .str),.lst (B.map .str)]),.d (.int m),.bor ((QG 6).map λk=>.int (K51.cP ns (j + k)))]=.ok (.d w.d)/\mQ w/\lQ 16 w/\sy w/\w.m=m/\w.ms.map R7=A/\w.ar.map R7=B:=λm hm j=>by
   obtain ⟨ms,rs,hw,h1,h2,h3,h4⟩:=K51.JH m hm.1 (by omega) A B (by omega) (by omega) ((QG 6).map λk=>K51.cP ns (j + k)) rfl
   rw [Rk] at hw
   have l1:=congrArg Vg h1
   have l2:=congrArg Vg h2
   rw [QA] at l1 l2
   exact ⟨⟨m,ms,rs⟩,hw,⟨hm.1,by show m<=8;omega,by show ms.length<=3;omega,by show rs.length<=3;omega⟩,⟨λr hr=>⟨by have:=(h3 r hr).1;omega,(h3 r hr).2.2⟩,λr hr=>⟨K55.qw (h4 r hr) hm.2,(h4 r hr).2.2⟩⟩,⟨λr hr=>(h3 r hr).2.1,λr hr=>(h4 r hr).2.1⟩,rfl,h1,h2⟩
  obtain ⟨m,hm,em⟩:=ng (xs:=sz) (h:=dN) (.l .bor (sz.map dN)) rfl (K51.cP ns 0 % 8) (by omega) (by omega)
  obtain ⟨v,hv,vo,vb,vs,vm,vl,va⟩:=mk m (hs m hm) 3
  refine bA (c3 rfl (two rfl rfl em) (jY (xs:=QG 6) (h:=dN) (λk=>.int (K51.cP ns (3 + k))) (iN rfl (by decide)) (by decide) λk hk=>⟨_,c2 rfl (two rfl rfl (zl _ _)) (ff ns _ (3 + k) (by simp)),rfl⟩) hv) rfl ?_
  refine bA (two (two rfl rfl (oE _ 8 (by decide) (by decide))) rfl (fJ _ 4 (by decide))) rfl ?_
  have up:∀{n:Nat}{w:Wd},n<=30->lQ n w->N5 w:=λhn h=>⟨λr hr=>⟨by have:=(h.mp r hr).1;omega,(h.mp r hr).2⟩,λr hr=>⟨by have:=(h.ap r hr).1;omega,(h.ap r hr).2⟩⟩
  have vm4:=(hs m hm).2
  have Qs:=TR (K51.cP ns 0 / 8) (b:=4) (by decide)
  have Qt:=SQ (K51.cP ns 0 / 8) (b:=4) (by decide)
  generalize K51.cP ns 0 / 8 % 4=wy at Qs Qt
  by_cases cw:wy=0
  ·subst cw
   obtain ⟨m2,hm2,em2⟩:=ng (xs:=sz) (h:=dN) (.l .bor (sz.map dN)) rfl (K51.cP ns 0 / 32 % 8) (by omega) (by omega)
   obtain ⟨w,hw,wo,wb,ws,wm,wl,wa⟩:=mk m2 (hs m2 hm2) 9
   have:=(hs m2 hm2).2
   exact cG (jk rfl (bR (bu (aF rfl rfl (aF (c3 rfl (two rfl (two (two rfl rfl (oE _ 32 (by decide) (by decide))) rfl (fJ _ 8 (by decide))) em2) (jY (xs:=QG 6) (h:=dN) (λk=>.int (K51.cP ns (9 + k))) (iN rfl (by decide)) (by decide) λk hk=>⟨_,c2 rfl (two rfl rfl (zl _ _)) (ff ns _ (9 + k) (by simp)),rfl⟩) hw) rfl bf)) t2) rfl ⟨_,rfl,v,w,rfl,⟨vo,wo,by omega,by omega,by rw [vl,wl],by rw [va,wa]⟩,up (by decide) vb,up (by decide) wb,vs,ws⟩))
  ·refine fH ?_ ?_
   ·show M.ok (wy == 0)=_
    rw [beq_eq_false_iff_ne.mpr cw]
   obtain ⟨ps,hps,pm⟩:=EK (K51.cP ns 15) v.m vo.hi
   have lps:ps.length=v.m:=by rw [pm.length_eq,Sk]
   have ht:=EN v vo 16 (by decide) vb ps lps
   obtain ⟨to,tb,ts,tm,tl,ta⟩:=LZ v vo 16 vb vs ps pm
   refine bA (c2 rfl (c2 (c2 rfl rfl (ff ns _ 15 rfl)) (two rfl rfl (eV _ _)) hps) ht) rfl ?_
   obtain ⟨u1,f1,k1⟩:=rV (lI v ps) to 16 (by decide) tb ts (K51.cP ns 9) c9
   obtain ⟨u2,f2,k2⟩:=rV u1 k1.ok 17 (by decide) k1.inn k1.qY (K51.cP ns 10) c10
   have a1:=k1.m
   have a2:=k1.mn
   have a3:=k1.an
   have b1:=k2.m
   have b2:=k2.mn
   have b3:=k2.an
   have w3:wy=1\/wy=2\/wy=3:=by omega
   rcases w3 with rfl | rfl | rfl
   ·exact fH rfl (fH rfl (bR (bu (aF rfl rfl (aF rfl rfl bf)) t2) rfl ⟨_,rfl,v,lI v ps,rfl,⟨vo,to,by omega,by omega,tl.symm,ta.symm⟩,up (by decide) vb,up (by decide) tb,vs,ts⟩))
   ·exact cG (jk rfl (gj (c2 rfl (c2 rfl rfl (ff ns _ 9 rfl)) f1) rfl (fH rfl (bR (bu (aF rfl rfl (aF rfl rfl bf)) t2) rfl ⟨_,rfl,v,u1,rfl,⟨vo,k1.ok,by omega,by omega,by rw [a2,tl],by rw [a3,ta]⟩,up (by decide) vb,up (by decide) k1.inn,vs,k1.qY⟩))))
   ·exact cG (jk rfl (gj (c2 rfl (c2 rfl rfl (ff ns _ 9 rfl)) f1) rfl (cG (jk rfl (gj (c2 rfl (c2 rfl rfl (ff ns _ 10 rfl)) f2) rfl (bR (bu (aF rfl rfl (aF rfl rfl bf)) t2) rfl ⟨_,rfl,v,u2,rfl,⟨vo,k2.ok,by omega,by omega,by rw [b2,a2,tl],by rw [b3,a3,ta]⟩,up (by decide) vb,up (by decide) k2.inn,vs,k2.qY⟩))))))
 obtain ⟨_,h,v,w,rfl,hk⟩:=key
 exact ⟨v,w,h,hk⟩
end K23
namespace DL
open PySem PySem.Spec PyProof.Rows L2 DX
section
variable {X:Cx}{c:C}{e ke a b:Rp}{g gk ga gb:G R}{pos:Pos}
def MM (K:Qx):Bq:=λo i v H Q=>∃J p ks vs kxs d,aU J H/\o=.ref p/\dX K J H p ks vs/\dR (.tup kxs)=true/\Rep K J (.tup kxs) i/\Rep K J d v/\ks.length<=sizeLine/\∀o,dX K J (upd H p o) p (dput (ks,vs) (.tup kxs) d).1 (dput (ks,vs) (.tup kxs) d).2->Q (upd H p o)
theorem set_dict (hu:X.A.units + 64 < Sy):JQ X (MM X.K):=by
 intro pins s σ H o i v ov iv u Q I ro ri rv h
 obtain ⟨J,p,ks,vs,kxs,d,sm,rfl,hd,ok,rk,rd,hl,q⟩:=h
 obtain ⟨_,_,k1,k2⟩:=jl ok
 obtain ⟨r,rfl⟩:∃r,i=.ref r:=by cases rk;exact ⟨_,rfl⟩
 cases ro
 cases ri
 obtain ⟨xs,hm,lx,put⟩:=AV I sm hd
 refine wpAny_setItem_heap (knd:=nW X.prog X.w) (k:=⟨.tup kxs,k1,k2⟩) (show X.A.units + 1 + 16 < Sy by omega) (kL (HF.of (c:=⟨X.K,H,H,λ_=>True⟩) I sm) k1 rk) hm (λh' hm' sb=>?_) (by rw [lx];exact hl)
 obtain ⟨o,W,hd,_⟩:=put k1 k2 rk rd rv h' _ hm' sb
 exact ⟨_,W,q o hd⟩
def yr (i:Nat) (gk g:G R):G O:=λenv=>match env[i]? with
 | some (some (.dk ks vs))=>g env >>= λr=>toD r >>= λd=>gk env >>= λr2=>toD r2 >>= λk=>if dR k=true/\ks.length<=1000000 then .ok (.nx (env.set i (some (.dk (dput (ks,vs) k d).1 (dput (ks,vs) k d).2)))) else .bad
 | _=>.bad
theorem Dt {prog:Q8}{w:Ru}{K:Type} [DecidableEq K] {knd:HeapKind prog w K}{A:Rx}{E:Qy->QC->Prop}{s:QC}{d a:QW}{k:K}{xs:List (K×QW×Qy)}{Q:Bool->QC->Prop}(hu:knd.room A.in1) (hkey:knd.is s.heap k a) (hd:(d == Ub)=false)
  (hm:s.heap.DictOfH knd d xs) (h:Q (aaE xs k).isSome {s with toks:=s.toks + knd.draws k}):Q7 (Rb prog w) A (contains (.ref d) (.ref a)) Q E s:=by
 refine wpAny_contains_slot hm.typeIs Yt (RD Yt hm.typeIs entry_dict_contains ?_ (args_dict_contains _ _))
 show Q7 _ _ (dictGet d (.ref a) >>= λ_=>_) _ _ s
 refine Qw (wpAny_dictGet_heap hu hkey hm ?_)
 cases q:aaE xs k with
 | some p=>rw [q] at h;exact Qz ⟨_,rfl,RN h⟩
 | none=>rw [q] at h;exact Qw (wpAny_pendingKey_other hd (Qz ⟨_,rfl,RN h⟩))
def Gn (K:Qx) (neg:Bool):R2:=λx y H Q=>∃J p ks vs k,aU J H/\y=.ref p/\dX K J H p ks vs/\Rep K J k x/\dR k=true/\Q (.bl (if neg then !(ia ks vs k).isSome else (ia ks vs k).isSome)) H
theorem E2 (hu:X.A.units + 64 < Sy){pins:List (QW×Obj)}{s:QC}{σ:L2.St}{H:Hp}{x y:V}{v u:Qy}{Q:VK}{neg:Bool}(I:Inv X pins σ H s) (rx:RelV x v) (ry:RelV y u) (h:Gn X.K neg x y H Q):Q7 (Rb X.prog X.w) X.A (contains u v) (λr s'=>EP X pins σ Q (.bool (if neg then !r else r)) s') X.xe s:=by
 obtain ⟨J,p,ks,vs,k,sm,rfl,hd,hk,ok,q⟩:=h
 have F:HF X.K J s:=HF.of (c:=⟨X.K,H,H,λ_=>True⟩) I sm
 obtain ⟨kx,rfl,k1,k2⟩:=jl ok
 obtain ⟨r,rfl⟩:∃r,x=.ref r:=by cases hk;exact ⟨_,rfl⟩
 cases rx
 cases ry
 obtain ⟨xs,us,ws,hm,e2,_,hv,e4,_,hsm⟩:=rE (P:=X.prog) (w:=X.w) F (iT I) hd
 have e:(aaE xs ⟨.tup kx,k1,k2⟩).isSome=(ia ks vs (.tup kx)).isSome:=by
  obtain ⟨l1,l2⟩:=wY (K:=X.K) (J:=J) ⟨.tup kx,k1,k2⟩ e2 hv e4
  cases z:ia ks vs (.tup kx) with
  | some d=>obtain ⟨p,_,e,_⟩:=l1 d z;rw [e];rfl
  | none=>rw [l2 z];rfl
 exact Dt (k:=⟨.tup kx,k1,k2⟩) (show X.A.units + 1 + 16 < Sy by omega) (kL F k1 hk) hsm hm ⟨.bl _,H,I.tok _,by rw [e];rfl,q⟩
theorem D4 (hu:X.A.units + 64 < Sy):cT X (R0 .In) (Gn X.K false):=λpins s σ H x y v u Q I rx ry h=>Qw (RJ (E2 hu I rx ry h) (λ_ _ h=>Qz h) λ_ _ f=>f)
def nT (neg:Bool) (x y:R):M R:=match uZ y,x with
 | some z,.d k=>if dR k=true then .ok (.d (.bl (if neg then !(ia z.1 z.2 k).isSome else (ia z.1 z.2 k).isSome))) else .bad
 | _,_=>.bad
theorem CV (neg:Bool) (hK:X.K=c.K):BD c (Gn X.K neg) (nT neg):=by
 intro He He' J H x y u v Q hp rx ry w
 unfold nT at w
 split at w
 ·rename_i hz
  obtain ⟨p,rfl,hd⟩:=ry.dk hp hz
  split at w
  ·rename_i ok
   exact ⟨J,p,_,_,_,hp.sub,rfl,by rw [hK];exact hd,by rw [hK];exact rx,ok,w _ J H (Ext.refl hp.sub) (.bl _)⟩
  ·exact w.elim
 ·exact w.elim
theorem Gj (i:Nat){x:Str}{p1 p2:Pos}(hu:X.A.units + 64 < Sy) (h:QD X c e g) (hk:QD X c ke gk) (hN:X.N[i]?=some x:=by rfl) (hv:qL X.env.scope x:=by first | exact Vt rfl | exact Ua (Vt rfl) | exact Ua (Ua rfl)) (hd:(x == ("__debug__":Str))=false:=by decide)
  (hcd:(x == ("__classdict__":Str))=false:=by decide)
  (ha:∀v,assign (.Subscript (.Name x p1) ke p2) X.env v=(do
   let ov <-holding [v] (eval (.Name x p1) X.env)
   let iv <-holding [v,ov] (eval ke X.env)
   TX p2
   (holding [v,ov,iv] (setItem ov iv v))
   release [v,ov,iv] []):=by intro _;rfl)
  (hs:UU [.Subscript (.Name x p1) ke p2] e pos.line X.env=pure false:=by rfl) (hw:X5 [.Subscript (.Name x p1) ke p2] e X.env=pure none:=by rfl)
  (h1:(TH [.Subscript (.Name x p1) ke p2] X.env).map (·.2)=[assign (.Subscript (.Name x p1) ke p2) X.env]:=by rfl) (hK:X.K=c.K:=by rfl):
  iQ X c (.Assign [.Subscript (.Name x p1) ke p2] e pos) (yr i gk g):=have h:=h.h;have hk:=hk.h;⟨
 iF (Ei h (Li (lg hN hv hd hcd) hk (set_dict hu) ha) hs hw h1) λE σ H ⟨J,env,sr,w⟩=>by
  unfold yr at w
  split at w
  ·rename_i ks vs hi
   obtain ⟨v,q1,p,rfl,h2,h3,h4⟩:=sr.at_ i _ hi
   refine ⟨J,env,sr,aB (aK w) λr wr y J1 H1 e1 r1=>?_⟩
   obtain ⟨d,q,wr⟩:=i8 wr
   obtain ⟨J2,e2,s2,rd⟩:=freeze e1 r1 q
   refine ⟨.ref p,q1,?_⟩
   refine ⟨J2,env,sr.ext e2,aB (aK wr) λrk wk vk J3 H3 e3 r3=>?_⟩
   obtain ⟨k,qk,wk⟩:=i8 wk
   obtain ⟨J4,e4,s4,rk⟩:=freeze e3 r3 qk
   have e5:=e2.trans e4
   split at wk
   ·rename_i ok
    obtain ⟨kxs,rfl,_⟩:=jl ok.1
    have h2':=h2.mono e5.j e5.h
    have h3':=e5.frz p h2.ne h3
    refine ⟨J4,p,ks,vs,kxs,d,e5.sub,rfl,by rw [hK];exact h2',ok.1,by rw [hK];exact rk,by rw [hK];exact rd.mono e4.j,Rr ok.2 (by decide),λo ho=>?_⟩
    rw [hK] at ho
    exact wk σ J4 _ e5.j ((sr.ext e5).updM (x:=.inr (ks,vs)) (y:=.inr (dput (ks,vs) (.tup kxs) d)) hi q1 h3' h4 ⟨p,rfl,ho,h3',h4⟩)
   ·exact wk.elim
  ·exact w.elim⟩
theorem Jf (hu:X.A.units + 64 < Sy) (ha:QD X c a ga) (hb:QD X c b gb) (hK:X.K=c.K:=by rfl) (hm:R6 .In b=false:=by rfl):QD X c (.Compare a [.In] [b] pos) (g2 (nT false) ga gb):=⟨pO (D4 hu) (CV false hK) ha.h hb.h hm⟩
theorem Jb (hu:X.A.units + 64 < Sy) (ha:QD X c a ga) (hb:QD X c b gb) (hK:X.K=c.K:=by rfl) (hm:R6 .In b=false:=by rfl):QB X c (.Compare a [.In] [b] pos) (bN (g2 (nT false) ga gb)):=⟨k_ (D4 hu) (CV false hK) ha.h hb.h hm⟩
end
end DL
namespace K22
open PySem DL
end K22
namespace K22
open PySem DL K01 WP K51 K52 K55 K23
theorem iC (ps:List (Nat×Nat)):dR (a_ ps)=true:=by
 have h1:∀qs:List (Nat×Nat),areKeys (qs.map dP)=true:=λqs=>by
  induction qs with
  | nil=>rfl
  | cons q qs ih=>rw [Q5];unfold areKeys;rw [ih];rfl
 have h2:deps (ps.map dP)<=1:=fj λx hx=>by obtain ⟨q,_,rfl⟩:=QE.mp hx;exact QL _
 show (areKeys (ps.map dP) && decide (deps (ps.map dP) + 1<=8))=true
 rw [h1,decide_eq_true (by omega)]
 rfl
section
variable {env:Ev}{g gk:G R}{r r2:R}{u:G O}{Q:O->Prop}{i:Nat}
theorem Mv {ks vs:List D}{k d:D}(h0:env[i]?=some (some (.dk ks vs))) (h:g env=.ok r) (h2:toD r=.ok d) (h3:gk env=.ok r2) (h4:toD r2=.ok k) (ok:dR k=true) (hl:ks.length<=1000000) (q:Q (.nx (env.set i (some (.dk (dput (ks,vs) k d).1 (dput (ks,vs) k d).2))))):Wp (yr i gk g env) Q:=by
 refine ⟨_,?_,q⟩
 unfold yr
 rw [h0]
 simp only
 rw [h,aQ,h2,aQ,h3,aQ,h4,aQ,if_pos ⟨ok,hl⟩]
theorem AQ {a b:G R}(h:a env=.ok (.d (.bl true))):pg a b env=.ok (.d (.bl true)):=by
 unfold pg;rw [h];rfl
theorem D6 {a b:G R}(h:a env=.ok (.d (.bl false))) (h2:b env=.ok r):pg a b env=.ok r:=by
 unfold pg;rw [h];exact h2
theorem D7 {a b:G Bool}{k:Bool}(h1:a env=.ok false) (h2:b env=.ok k):m_ a b env=.ok k:=by
 unfold m_;rw [h1];exact h2
end
theorem Ej (ps:List (Nat×Nat)):dep (a_ ps)<=60:=by
 have h2:deps (ps.map dP)<=1:=fj λx hx=>by obtain ⟨q,_,rfl⟩:=QE.mp hx;exact QL _
 show deps (ps.map dP) + 1<=60
 omega
end K22
namespace DL
open PySem PySem.Spec PyProof.Rows L2 DX
section
variable {X:Cx}{c:C}
def xy (X:Cx) (c:C) (cm:Option (Qy->Sem Unit)->Sem Qy) (g:G R):Prop:=
 ∀{pins:List (QW×Obj)}{s:QC}{σ:L2.St}{H:Hp}{Q:VK}{use:Option (Qy->Sem Unit)}{Q0:Qy->QC->Prop},Inv X pins σ H s->tD c g σ H Q->
  (∀(acc C:QW) (m:Str->Option Qy) (s':QC) (H':Hp) (fl:Flow),s'.heap.Ns C m->((C∈X.ex\/X.s₀.heap.objs.size<=C)/\C≠X.env.locals/\(∀x c,X.env.cells.lookup x=some c->c≠C)/\∀p∈X.pn++pins,p.1≠C)->H' C=none->(∀h'',RZ C s'.heap h''->Inv X pins σ H' {s' with heap:=h''})->Q (.ref acc) H'->Ys (Rb X.prog X.w) X.A X.xe use Q0 (.ref acc) C (.ok fl) s')->
  Q7 (Rb X.prog X.w) X.A (cm use) Q0 X.xe s
theorem NB {e:Rp}{cm:Option (Qy->Sem Unit)->Sem Qy}{g:G R}(core:xy X c cm g) (hev:eval e X.env=cm none):PD X c e g:=by
 intro pins s σ H Q I h
 rw [hev]
 exact core I h λacc C m s' H' fl hm hz hf hb q=>⟨m,hm,λh'' sb=>⟨.ref acc,H',hb h'' sb,rfl,q⟩⟩
theorem FW (i:Nat){e:Rp}{cm:Option (Qy->Sem Unit)->Sem Qy}{g:G R}{x:Str}{pos' pos2:Pos}(hN:X.N.Nodup) (core:xy X c cm g) (hev:∀use,evalThenUse e X.env use=(do let _ <-cm (some use))) (hx:X.N[i]?=some x) (OJ:X.env.scope.names.lookup x=some .local)
  (hsw:T8 e (some (.Name x pos')) pos2.line X.env=pure true):Ak X c (.Assign [.Name x pos'] e pos2) (bg i g):=by
 intro pins s σ H D I ⟨J,env,sr,w⟩
 rw [Xk]
 refine Qw (Sq ?_)
 rw [show UU [.Name x pos'] e pos2.line X.env=pure true from hsw]
 refine Qw (Qz ?_)
 rw [if_pos rfl,hev]
 refine Qw (Qw (core (Q:=λv H1=>∃J1 r xx,Ext J H J1 H1/\RR c H J1 H1 r v/\toS r=.ok xx/\oP c J D (.nx (env.set i (some xx)))) I ⟨J,env,sr,aB (aK w) λr wr v J1 H1 e1 r1=>?_⟩ λacc C m s' H' fl hm ap hf hb ⟨J1,r,xx,e1,r1,q1,w1⟩=>?_))
 ·obtain ⟨xx,q,wr⟩:=nK wr
  exact ⟨J1,r,xx,e1,r1,q,wr⟩
 ·have I1:L2.Inv X pins σ H' s':=hb s'.heap (Wv ..)
  show Q7 _ _ (do TX pos';abm X.env x (.ref acc)) _ _ _
  refine Qw (Sq (XM ?_))
  refine mC I1 hN hx (.inl OJ) (v:=.ref acc) (u:=.ref acc) rfl (λs2 I2 ⟨a,sb,ha⟩=>?_) (.inr OJ)
  have hac:C≠a:=λz=>by
   rcases ha with e | e
   ·exact ap.2.1 (z.trans e)
   ·exact ap.2.2.1 _ _ e z.symm
  refine ⟨m,hm.sameBut sb hac,λh2 sb2=>?_⟩
  refine Qz (Qz ⟨σ.set i (some (.ref acc)),H',pN I2 ap hf sb2 (o0:=default),?_⟩)
  exact w1 _ J1 H' e1.j (sr.set e1 r1 q1)
def iS (n:Nat) (cap:List Nat) (gi:G (List D)) (gt:GT) (gts:G Bool) (gk gv:G R):G R:=jj 1000000 n cap gi gt gts (rB gk gv) (λys=>.ok (.mf (iR ys).1 (iR ys).2))
theorem M5 (kx vx t0 i0:Rp) (f0:List Rp) (scope:Te) (pos:Pos) (it:Qy) (p:QW) (env:Env):
  Vq (.DictComp kx vx [⟨t0,i0,f0,0⟩] scope pos) 0 it (.ref p) env=mD t0 i0 f0 it env (B_ kx vx p env) (again (.compLoop (.DictComp kx vx [⟨t0,i0,f0,0⟩] scope pos) 0 it (.ref p) env)):=by rfl
theorem Dq (hu:X.A.units + 64 < Sy) (hK:X.K=c.K) (own:List Str) (cap:List Nat){kx vx t0 i0:Rp}{f0:List Rp}{scope:Te}{pos pos':Pos}{gi0:G (List D)}{gt0:GT}{gts0:G Bool}{gk gv:G R}(hi:oW X c t0 i0 gi0)
  (hbody:∀(cl:List (Str×QW)) (C:QW) (s:QC) (H:Hp) (fp:List QW),bF X.env.cells scope.names []=some cl->jd (aV X own cap scope cl C s H fp) c t0 gt0/\gJ (aV X own cap scope cl C s H fp) c f0 gts0/\PD (aV X own cap scope cl C s H fp) c kx gk/\PD (aV X own cap scope cl C s H fp) c vx gv)
  (hk:scope.kind=.function) (hno:fC X cap scope=true) (hnames:(scope.names.all λx=>!(x.2 == .local) || (scope.names.lookup x.1 == some .local))=true)
  (hcl:(bF X.env.cells scope.names []).isSome=true) (hcap:dD X cap=true) (hloc:dG X cap scope=true) (hnd:fS cap=true) (Oz:X.calm=true) (hs:∀x,Q2 i0 X.env x=pure x):
  xy X c (λuse=>comprehension (.DictComp kx vx [⟨t0,i0,f0,0⟩] scope pos) scope X.env pos' newDict false (eval i0 X.env) use) (iS own.length cap gi0 gt0 gts0 gk gv):=by
 intro pins s σ H Q use Q0 I h OC
 refine nN (e:=.DictComp kx vx [⟨t0,i0,f0,0⟩] scope pos) (ob:={cls:=.type "dict",data:=.dict #[]}) (o0:=λa=>kW a 0 []) (Acc:=Bs c) (N:=1) (lim:=1000000) (m:=λp env=>B_ kx vx p env) own cap rfl hi
  (λs Q E q=>Rz q) (λh H=>⟨⟨_,#[],QV _ rfl,⟨rfl,rfl,rfl⟩,rfl,.nil⟩,⟨_,QV _ rfl⟩,λh1 h2 ⟨o,es,a1,a2⟩ e=>⟨o,es,e o a1,a2⟩⟩) (λp=>rq) (λp J H hsm h1 h2=>⟨⟨[],[],0,h1,.nil,.nil,⟨rfl,Tv,Rl _,λ_ h=>(nomatch h)⟩,beq_eq_false_iff_ne.mpr (S8 (Rf hsm)),rfl⟩,h2,QL _⟩) (by decide) (λit p env=>BY (M5 ..)) (λit acc env R s h0 h=>W5 h0 h) (λys z q=>by cases q)
  (fun {p J H J' H' ys r} hp e ⟨h1,h2,h8⟩ q=>by cases q;exact ⟨J',e,⟨p,rfl,h1,h2,hp⟩⟩) (λcl C s H fp hcc=>?_) hk hno hnames hcl hcap hloc hnd Oz hs I h OC
 obtain ⟨b1,b2,b3,b4⟩:=hbody cl C s H fp hcc
 exact ⟨b1,b2,λp J2 H2 hp2 hp0=>Ar hu hK (λ_ _ f=>f) hp2 hp0 b3 b4⟩
theorem tR (hu:X.A.units + 64 < Sy) (own:List Str) (cap:List Nat){kx vx t0 i0:Rp}{f0:List Rp}{scope:Te}{pos:Pos}{gi0:G (List D)}{gt0:GT}{gts0:G Bool}{gk gv:G R}(hi:qK X c t0 i0 gi0)
  (hbody:∀(cl:List (Str×QW)) (C:QW) (s:QC) (H:Hp) (fp:List QW),bF X.env.cells scope.names []=some cl->kR (aV X own cap scope cl C s H fp) c t0 gt0/\jX (aV X own cap scope cl C s H fp) c f0 gts0/\QD (aV X own cap scope cl C s H fp) c kx gk/\QD (aV X own cap scope cl C s H fp) c vx gv)
  (hk:scope.kind=.function:=by rfl) (hno:fC X cap scope=true:=by rfl) (hnames:(scope.names.all λx=>!(x.2 == .local) || (scope.names.lookup x.1 == some .local))=true:=by rfl)
  (hcl:(bF X.env.cells scope.names []).isSome=true:=by rfl) (hcap:dD X cap=true:=by rfl) (hloc:dG X cap scope=true:=by rfl) (hnd:fS cap=true:=by rfl) (Oz:X.calm=true:=by rfl)
  (hs:∀x,Q2 i0 X.env x=pure x:=by intro _;rfl) (hK:X.K=c.K:=by rfl):QD X c (.DictComp kx vx [⟨t0,i0,f0,0⟩] scope pos) (iS own.length cap gi0 gt0 gts0 gk gv):=
 ⟨NB (Dq hu hK own cap hi.h (λcl C s H fp hc=>let ⟨a,b,d,e⟩:=hbody cl C s H fp hc;⟨a.h,b.h,d.h,e.h⟩) hk hno hnames hcl hcap hloc hnd Oz hs) rfl⟩
theorem Ca (i:Nat) (hu:X.A.units + 64 < Sy) (own:List Str) (cap:List Nat){kx vx t0 i0:Rp}{f0:List Rp}{scope:Te}{pos pos' pos2:Pos}{x:Str}{gi0:G (List D)}{gt0:GT}{gts0:G Bool}{gk gv:G R}(hN:X.N.Nodup) (hi:qK X c t0 i0 gi0)
  (hbody:∀(cl:List (Str×QW)) (C:QW) (s:QC) (H:Hp) (fp:List QW),bF X.env.cells scope.names []=some cl->kR (aV X own cap scope cl C s H fp) c t0 gt0/\jX (aV X own cap scope cl C s H fp) c f0 gts0/\QD (aV X own cap scope cl C s H fp) c kx gk/\QD (aV X own cap scope cl C s H fp) c vx gv)
  (hk:scope.kind=.function:=by rfl) (hno:fC X cap scope=true:=by rfl) (hnames:(scope.names.all λx=>!(x.2 == .local) || (scope.names.lookup x.1 == some .local))=true:=by rfl)
  (hcl:(bF X.env.cells scope.names []).isSome=true:=by rfl) (hcap:dD X cap=true:=by rfl) (hloc:dG X cap scope=true:=by rfl) (hnd:fS cap=true:=by rfl) (Oz:X.calm=true:=by rfl)
  (hs:∀x,Q2 i0 X.env x=pure x:=by intro _;rfl) (hx:X.N[i]?=some x:=by rfl) (OJ:X.env.scope.names.lookup x=some .local:=by rfl)
  (hsw:T8 (.DictComp kx vx [⟨t0,i0,f0,0⟩] scope pos) (some (.Name x pos')) pos2.line X.env=pure true:=by rfl) (hK:X.K=c.K:=by rfl):iQ X c (.Assign [.Name x pos'] (.DictComp kx vx [⟨t0,i0,f0,0⟩] scope pos) pos2) (bg i (iS own.length cap gi0 gt0 gts0 gk gv)):=
 ⟨FW i hN (Dq hu hK own cap hi.h (λcl C s H fp hc=>let ⟨a,b,d,e⟩:=hbody cl C s H fp hc;⟨a.h,b.h,d.h,e.h⟩) hk hno hnames hcl hcap hloc hnd Oz hs) (λ_=>rfl) hx OJ hsw⟩
end
end DL
namespace DL
open PySem PySem.Spec PyProof.Rows L2 DX
open Sem (wp)
section
variable {prog:Q8}{w:Ru}{A:Rx}{E:Qy->QC->Prop}{s:QC}{d it:QW}{o:Obj}{es:Array Yg}{ep i:Nat}
theorem Fj {Q:Qy->QC->Prop}(hd:(d == Ub)=false) (ho:s.heap.get? d=some o) (hc:o.ExactDict) (hdat:o.data=.dict es ep)
  (hQ:Q (.ref s.heap.objs.size) {s with heap:=s.heap.push {cls:=.type "dict_keyiterator",data:=.fields #[.ref d,.int 0 0,.int es.size 0,.int ep 0]}}):Q7 (Rb prog w) A (Wi (.ref d)) Q E s:=by
 have hT:s.TypeIs (.ref d) "dict":=⟨o,ho,hc.1⟩
 refine Ws hT Zc (RD Zc hT F.entry_dict_iter ?_ (F.args_dict_iter_1 _));unfold UN.«dict.__iter__»;refine Qw ?_
 unfold Z1;refine Qw (wpAny_notOrdered_dict hT (Qz ?_))
 show Q7 _ _ (Bind.bind (Xm d) _) _ _ s
 unfold Xm;rw [if_neg (by rw [hd];decide)]
 refine Qw (Qz (Qw (Wx ho hdat (Qw (Xn ho hdat ?_)))))
 exact Qw (Rz (Qz ⟨_,rfl,"dict_keyiterator",_,⟨_,QV _ rfl,rfl⟩,So.lookup,by simpa [Z6] using hQ⟩))
theorem FG {Q:Option Qy->QC->Prop}(hit:s.heap.IsKeyIter it d i es.size ep) (hod:s.heap.get? d=some o) (OT:o.data=.dict es ep) (hi:i < es.size)
  (hQ:∀h',h'.IsKeyIter it d (i + 1) es.size ep->RZ it s.heap h'->Q (some es[i].key) {s with heap:=h'}):Q7 (Rb prog w) A (Va (.ref it)) Q E s:=by
 obtain ⟨oi,ho,hc,hd⟩:=id hit
 unfold Va
 refine Qw (U0 (Su (name:=Vr "__next__") hit.typeIs So (RD So hit.typeIs VE ?_ (Vw _))))
 refine Qw (Qz (Qw (Qw ?_)))
 refine Qw (SW hit.typeIs (Qz (Qw (Wb ho hd ?_))))
 have hown:VN "dict_keyiterator"=false:=by decide
 simp only [hown,QZ,if_false]
 show Q7 _ _ (ite ((UT d == RB)=true) _ _) _ _ s
 rw [if_neg (show ¬((UT d == RB)=true) from Rq)];refine Qw (Qz (Qw (Wx hod OT ?_)))
 rw [if_neg (by simp)];refine Qw (Qz (Qw (Xn hod OT ?_)))
 rw [if_neg (by simp)];refine Qz ?_
 simp only [show ¬((i:Int) < 0) from by omega,if_false,Sz,Tw hi]
 refine Qw (Qw (SW hit.typeIs (Qz ?_)))
 refine Qw (Xo hit.typeIs ?_)
 refine Qw (m:=setField (.ref it) 1 (Z6 ((i:Int) + 1))) (Z2 ho hd (by simp) ?_)
 have Pa:(s.heap.update it (aaF (·.setIfInBounds 1 (Z6 ((i:Int) + 1))))).IsKeyIter it d (i + 1) es.size ep:=⟨_,Sm _ ho (Obj.isFreed_of_fields (Yu hd _)),(Obj.cls_mapFields ..).trans hc,by rw [Yu hd];simp [Z6]⟩
 refine Qw (Rn (Qw (Xo (s:={s with heap:=s.heap.update it (aaF (·.setIfInBounds 1 (Z6 ((i:Int) + 1))))}) Pa.typeIs ?_)))
 exact Qz (Qz ⟨_,rfl,Qz (hQ _ Pa (Si ..))⟩)
theorem HY {Q:Option Qy->QC->Prop}(hh:A.handled=none) (hit:s.heap.IsKeyIter it d i es.size ep) (hod:s.heap.get? d=some o) (OT:o.data=.dict es ep) (hi:es.size<=i)
  (hQ:∀h',abd it s.heap h'->Q none {s with heap:=h'}):Q7 (Rb prog w) A (Va (.ref it)) Q E s:=by
 obtain ⟨oi,ho,hc,hd⟩:=id hit
 unfold Va
 refine Qw (U0 (Su (name:=Vr "__next__") hit.typeIs So (RD So hit.typeIs VE ?_ (Vw _))))
 refine Qw (Qz (Qw (Qw ?_)))
 refine Qw (SW hit.typeIs (Qz (Qw (Wb ho hd ?_))))
 have hown:VN "dict_keyiterator"=false:=by decide
 simp only [hown,QZ,if_false]
 show Q7 _ _ (ite ((UT d == RB)=true) _ _) _ _ s
 rw [if_neg (show ¬((UT d == RB)=true) from Rq)];refine Qw (Qz (Qw (Wx hod OT ?_)))
 rw [if_neg (by simp)];refine Qw (Qz (Qw (Xn hod OT ?_)))
 rw [if_neg (by simp)];refine Qz ?_
 simp only [show ¬((i:Int) < 0) from by omega,if_false,Sz,Array.getElem?_eq_none hi]
 refine Qw (Qw (SW hit.typeIs (Qz ?_)))
 refine Qw (m:=setField (.ref it) 0 .none) (Z2 ho hd (by simp) ?_)
 refine Qw (m:=newExc (.type "StopIteration") []) ?_
 simp only [newExc,newTuple];refine Qw (Rz ?_ (by size_fits))
 refine Qw (m:=Wc _ _) (UP (a:=RB) (by first | rfl | (simp only [Wc];rfl)) (Rz ?_ (by size_fits)))
 simp only [raiseNew];refine Qw (aaz ?_)
 rw [show A.in1.handled=none from hh];refine Qw (Qz (wpAny_throw ?_))
 exact Qw (VA (T:="StopIteration") (b:=true) ⟨_,QV _ rfl,rfl⟩ Z0 (Qz (hQ _ (((Si ..).extBut.push _).push _))))
end
end DL
namespace DL
open PySem PySem.Spec PyProof.Rows L2 DX
def M7 (a:QW) (ep:Nat) (kvs:List (Int×V×V)):It:=⟨λi H=>H a=some (kW a ep kvs)/\i < kvs.length,λi H x H'=>H'=H/\∃p,kvs[i]?=some p/\x=p.2.1,λi H=>H a=some (kW a ep kvs)/\kvs.length<=i⟩
theorem vG {α β:Type}{F:α->β->Prop}:∀{xs:List α}{ys:List β}{i:Nat}(hi:i < ys.length),Wg F xs ys->∃p,xs[i]?=some p/\F p ys[i]
 | _,_,0,_,.cons h _=>⟨_,rfl,h⟩
 | _,_,i + 1,hi,.cons _ t=>vG (i:=i) (by simpa using hi) t
theorem GI {P:Q8}{w:Ru}{K:Qx}{tg:Rp}(a it:QW) (ep:Nat) (kvs:List (Int×V×V)):Turn P w K tg (M7 a ep kvs) [it] it (λi h=>h.IsKeyIter it a i kvs.length ep) where
 mem:=by simp
 obj:=λi h st b hb=>by
  cases Q6.mp hb
  obtain ⟨o,e,c,d⟩:=st
  exact ⟨o,e,λv z=>by rw [d] at z;cases z⟩
 keep:=λi h h' st k=>st.at λo e=>k it (by simp) o e
 item:=by
  rintro X rfl rfl rfl hc i pins s σ H E I hf st ⟨hq,hi⟩
  obtain ⟨o,es,h1,h2,h3,h4⟩:=(show cg X.prog X.w H s.heap a (kW a ep kvs) from I.hok a _ hq).1
  have hl:kvs.length=es.size:=by have:=h4.length;simpa using this
  obtain ⟨p,hp,er⟩:=vG (i:=i) (by simp;omega) h4
  obtain ⟨f0,f1,f2,f3,f4,f5⟩:=hf it (by simp)
  refine FG (es:=es) (ep:=ep) (hl▸st) h1 h3 (by omega) λh' st' sb=>?_
  have I1:Inv X pins σ H {s with heap:=h'}:=I.turned (t':=s.toks) (λb o hb e=>(sb.2 b hb).trans e) f0 f1 f3 f4 f5
  obtain ⟨oi,e,c,d⟩:=id st'
  exact ⟨_,rfl,w_ (s:={s with heap:=h'}) e c d (by decide) ⟨p.2.1,H,I1,by simpa using er.2.1,⟨rfl,p,hp,rfl⟩,by rw [hl];exact st',λb hb=>(hf b hb).1⟩⟩
 done:=by
  rintro X rfl rfl rfl hc i pins s σ H E I hf st ⟨hq,hi⟩
  obtain ⟨o,es,h1,h2,h3,h4⟩:=(show cg X.prog X.w H s.heap a (kW a ep kvs) from I.hok a _ hq).1
  have hl:kvs.length=es.size:=by have:=h4.length;simpa using this
  obtain ⟨f0,f1,f2,f3,f4,f5⟩:=hf it (by simp)
  exact HY (es:=es) (ep:=ep) (I.ok.hd hc) (hl▸st) h1 h3 (by omega) λh' eb=>⟨rfl,I.turned (t':=s.toks) (λb o hb e=>eb b o hb e) f0 f1 f3 f4 f5⟩
 self:=λ_ _ _ _ _ st h=>wpAny_pyIter_keyiter st h
section
variable {X:Cx}{c:C}{e tg:Rp}{g:G R}
def uH (g:G R):G (List D):=λenv=>g env >>= λr=>match uZ r with
 | some z=>.ok z.1
 | none=>.bad
theorem Lk {tl:TE}(hl:PE X e tl):PI X tg e (λσ H Q=>tl σ H λx H1=>∃a ep kvs,x=.ref a/\(a == Ub)=false/\H1 a=some (kW a ep kvs)/\Q (M7 a ep kvs) H1):=λpins s σ H R I h=>bP (hl pins s σ H _ I h) λv s1 ⟨x,H1,I1,r1,a,ep,kvs,ex,hsm,hq,q⟩=>by
 subst ex
 cases r1
 obtain ⟨o,es,h1,h2,h3,h4⟩:=(show cg X.prog X.w H1 s1.heap a (kW a ep kvs) from I1.hok a _ hq).1
 have hl:kvs.length=es.size:=by have:=h4.length;simpa using this
 refine Fj hsm h1 h2 h3 ⟨s1.heap.objs.size,[s1.heap.objs.size],_,_,H1,rfl,I1.kept (t':=s1.toks) (λb o e=>QI _ e),GI a _ ep kvs,⟨_,QV _ rfl,rfl,by rw [hl];rfl⟩,λb hb=>?_,q⟩
 cases Q6.mp hb
 exact I1.fpOk (QL _) (I1.hok.fresh (QL _))
theorem lC (h:QD X c e g) (hK:X.K=c.K:=by rfl):qK X c tg e (uH g):=have h:=h.h;⟨tP (Lk h) λσ H Q ⟨J,env,sr,w⟩=>by
 refine ⟨J,env,sr,aB (aK w) λr wr v J1 H1 e1 r1=>?_⟩
 cases hz:uZ r with
 | none=>rw [hz] at wr;exact wr.elim
 | some z=>
  rw [hz] at wr
  obtain ⟨a,rfl,us,ws,ep,h1,h2,h3,h4,h5,h6⟩:=r1.dk (sr.hp.ext e1) hz
  have hh:∀ds:List D,(cB ds).length=ds.length:=λds=>by induction ds with
   | nil=>rfl
   | cons d ds ih=>show (cB ds).length + 1=_;rw [ih];rfl
  have lk:((cB z.1).zip (us.zip ws)).length=z.1.length:=by
   rw [ZJ,ZJ,hh,<-h2.length,<-h3.length,<-h6];omega
  refine ⟨a,ep,_,rfl,h5,h1,wr _ J1 H1 e1 λi J' H' hp u=>⟨λhl=>⟨u.2 _ _ h1,by omega⟩,λd hd=>?_⟩⟩
  have hi:i < z.1.length:=(Rj.mp hd).1
  obtain ⟨x,k1,k2⟩:=h2.get hd
  refine ⟨⟨u.2 _ _ h1,by omega⟩,λy H2 ⟨e,p,hp',hy⟩=>⟨J',by subst e;exact Ext.refl hp.sub,?_⟩⟩
  have:p.2.1=x:=by
   rw [Wf,] at hp'
   have:=(Wf.mp hp'.2).1
   rw [k1] at this
   cases this;rfl
  rw [hy,this]
  exact k2.mono u.1⟩
end
end DL
namespace DL
open PySem PySem.Spec PyProof.Rows L2
section
variable {X:Cx}{c:C}{e:Rp}{es:List Rp}{g:G R}{pos p:Pos}{x y:Str}
def EO (K:Qx) (mg:Str->Option Qy) (x:Str):Prop:=∃f,QT K QM x=some (some (.ref f))/\mg x=some (.ref f)
def DB (y:Str) (F:List S->M R) (g:G R):G R:=λenv=>g env >>= λr=>match F [cQ r,.fn y] with
 | .ok r=>.ok (ji r)
 | _=>.bad
theorem Gk {k k':Nat}{F:List S->M R}{q:Pos}(G:bC X.prog X.w X.K X.mg X.base k 2 x F) (hv:EO X.K X.mg y) (hr:dY k' X.A) (ha:QD X c e g) (hk:k<=k':=by decide) (hT:c.K=X.K:=by rfl) (hg:Gl X x:=by rfl) (Qh:Gl X y:=by rfl)
  (hdb:(x == ("__debug__":Str))=false:=by decide) (Pq:(y == ("__debug__":Str))=false:=by decide) (he:QU [e,.Name y q] X.env=(false,eval e X.env)::QU [.Name y q] X.env:=by rfl) (O8:QU [.Name y q] X.env=(false,eval (.Name y q) X.env)::QU [] X.env:=by rfl)
  (hpl:(SY pos (QU [.Name y q] X.env)).any (·.1)=false:=by rfl):QD X c (.Call (.Name x p) [e,.Name y q] [] pos) (DB y F g):=by
 obtain ⟨f,fd,ps,h1,h2,h3,h4⟩:=G
 obtain ⟨f',h5,h6⟩:=hv
 refine ⟨fG (AS (E:=E0) h1 (hr.mono hk) hg h2 h3 h4 .nil B8 (fk ha.h (fk (AU (v:=.ref f') Qh h6 rfl Pq) iD O8) he) hdb he hpl) λσ H Q ⟨J,env,sr,w⟩=>?_⟩
 refine ⟨J,env,sr,aB (aK w) λr wr v J1 H1 e1 r1=>Ht hT e1 ?_ rfl wr⟩
 obtain ⟨_,_,e,a1,_⟩:=j6.args (rs:=[r]) (vs:=[v]) (sr.hp.ext e1) ⟨v,[],rfl,r1,rfl⟩
 cases e
 exact ⟨v,_,rfl,a1,_,_,rfl,⟨f',rfl,hT▸h5⟩,rfl⟩
def BP (i:Nat) (x:Str) (g g':G R):G R:=λenv=>match env[i]? with
 | some (some (.fn z))=>if z=x then g env else g' env
 | _=>.bad
def BO:G R:=λ_=>.bad
theorem AZ:QD X c e BO:=⟨λ_ _ _ _ _ _ ⟨_,_,_,w⟩=>w.elim⟩
theorem yT (i:Nat){k k' n:Nat}{F:List S->M R}{gs:G (List R)}(G:bC X.prog X.w X.K X.mg X.base k n x F) (hv:EO X.K X.mg x) (hr:dY k' X.A) (ha:kQ X c (e::es) gs) (rest:QD X c (.Call (.Name y p) (e::es) [] pos) g) (hk:k<=k':=by decide) (hT:c.K=X.K:=by rfl)
  (hN:X.N[i]?=some y:=by rfl) (hvs:qL X.env.scope y:=by first | exact Vt rfl | exact Ua (Vt rfl) | exact Ua (Ua rfl)) (hd:(y == ("__debug__":Str))=false:=by decide) (hcd:(y == ("__classdict__":Str))=false:=by decide)
  (he:QU (e::es) X.env=(false,eval e X.env)::QU es X.env:=by rfl) (hpl:(SY pos (QU es X.env)).any (·.1)=false:=by rfl):QD X c (.Call (.Name y p) (e::es) [] pos) (BP i x (gN (aS n F) gs) g):=by
 refine ⟨λpins s σ H Q I ⟨J,env,sr,w⟩=>?_⟩
 obtain ⟨f,fd,ps,h1,h2,h3,h4⟩:=G
 obtain ⟨f',h5,h6⟩:=hv
 have ef:f'=f:=by rw [h2] at h6;cases h6;rfl
 subst ef
 unfold BP at w
 split at w
 ·rename_i z hz
  split at w
  ·rename_i ez
   subst ez
   obtain ⟨_,hv,_,rfl,q⟩:=sr.at_ i _ hz
   rw [hT,h5] at q
   cases q
   refine UX (bP (lg hN hvs hd hcd pins s σ H (λv H1=>v=.ref f'/\H1=H) I ⟨_,hv,rfl,rfl⟩) λu s1 ⟨x',H1,I1,rx,ev,eh⟩=>?_)
   subst ev eh
   cases rx
   refine X6 (h₀:=X.base) I1.ok.mod.kin h3 (bP (ha.h pos pins s1 σ H1 _ I1 (xV hT σ H1 Q ⟨J,env,sr,w⟩)) λus s2 ⟨vs,H2,I2,r,q⟩=>⟨I2.kIn,?_⟩) he hpl
   exact Eu h1 (hr.mono hk) h4 .nil B8 I2 r q
  ·exact rest.h pins s σ H Q I ⟨J,env,sr,w⟩
 ·exact w.elim
end
end DL
namespace K33
open PySem DL
def zE:List Str:=["point","many"]
def qT:G O:=(b9 (iI (bN (gN (aS 2 K01.jM) (ao (af 0) (ao (af 1) aC))))) sS eU)
def jJ (as:List S):M R:=fin (qT (bq zE as))
def JL:List Str:=["pairing","pair"]
def DG:G O:=(bO (gN (aS 1 K23.gw) (ao (g2 dO (af 0) (bz (aA (af 1) aT))) aC)))
def kP (as:List S):M R:=fin (DG (bq JL as))
def zG:List Str:=["one","other","side","point"]
def qV:G O:=(aM (b9 (bN (g2 (fE false) (af 2) (gC (.int 0)))) (bO (bJ 1 [3] (cu (ao (g2 aW (af 1) (gC (.int 0))) aC)) (aD 0) cA (bz (aA (af 1) (aA (af 0) aT))))) eU)
 (bO (bJ 1 [3] (cu (ao (g2 aW (af 0) (gC (.int 0))) aC)) (aD 0) cA (bz (aA (af 0) (aA (af 1) aT))))))
def eE (as:List S):M R:=fin (qV (bq zG as))
def CO:List Str:=["one","other"]
def vz:G O:=(bO (g2 cW (bJ 1 [] (cu (ao (g2 aW (af 0) (gC (.int 0))) aC)) (aD 0) cA (bz (aA (gC (.int 0)) (aA (af 0) aT)))) (bJ 1 [] (cu (ao (g2 aW (af 1) (gC (.int 0))) aC)) (aD 0) cA (bz (aA (gC (.int 1)) (aA (af 0) aT))))))
def lP (as:List S):M R:=fin (vz (bq CO as))
def CM:List Str:=["one","other","pairing","known","grown"]
def vq:G O:=(aM (bg 4 (kJ 2 [0,1,2] (cu (ao (g2 aW (af 0) (gC (.int 0))) aC)) (aD 0) cA (pe (gN (aS 4 K33.eE) (ao (af 2) (ao (af 3) (ao (gC (.int 0)) (ao (af 0) aC)))))) (aD 1) cA (af 1) (gN (aS 2 K33.kP) (ao (af 4) (ao (af 1) aC)))))
 (bO (bJ 2 [0,1,4,3] (fc (gN (aS 2 K33.lP) (ao (af 0) (ao (af 1) aC)))) (eZ 2 (bL (aD 0) (bL (aD 1) fK))) cA (bJ 1 [4,5] (fc (gN (aS 4 K33.eE) (ao (af 2) (ao (af 3) (ao (af 0) (ao (af 1) aC)))))) (aD 0) (bN (g2 (nT false) (g2 ir (af 1) (af 0)) (af 2))) (g2 ir (af 1) (af 0))))))
def lN (as:List S):M R:=fin (vq (bq CM as))
def se:List Str:=["rows","depths"]
def lV:G O:=(bO (gN rG (ao (bJ 1 [1] (fc (af 0)) (aD 0) cA (gN uE (ao (bJ 1 [1] (fc (af 0)) (aD 0) cA (g2 (sM false) (g2 ir (af 1) (af 0)) (gC .non))) aC))) aC)))
def dJ (as:List S):M R:=fin (lV (bq se as))
def Aj:List Str:=["rows","stays","depths","depth","gone","pairing"]
def uK:G O:=(aM (bg 2 (iS 1 [] (uH (af 0)) (aD 0) cA (af 0) (gC .non)))
 (aM (bg 3 (gC (.int 1)))
 (aM (bg 4 (bJ 1 [1,0,2] (uH (af 0)) (aD 0) (iI (bN (BP 1 "answered_still" (gN (aS 2 K33.dJ) (ao (g2 ir (af 2) (af 0)) (ao (af 3) aC))) BO))) (af 0)))
 (aM (yt 400000 (uI (af 4)) (aM (jZ 4 (iu (pe (af 4)) (aD 5) (yr 2 (af 5) (af 3))))
 (aM (uG 3 yk (gC (.int 1)))
 (bg 4 (bJ 1 [2,1,0] (uH (af 0)) (aD 0) (mJ (bN (g2 (sM false) (g2 ir (af 1) (af 0)) (gC .non))) (iI (bN (BP 2 "answered_still" (gN (aS 2 K33.dJ) (ao (g2 ir (af 3) (af 0)) (ao (af 1) aC))) BO)))) (af 0))))))
 (bO (af 2))))))
def mP (as:List S):M R:=fin (uK (bq Aj as))
def ur:List Str:=["one","other","base"]
def nc:G O:=(bO (bJ 1 [2] (fc (gN (aS 3 K23.lO) (ao (af 0) (ao (af 1) (ao (gC (.int 4)) aC))))) (aD 0) (bN (gN rG (ao (bJ 1 [0] (fc (af 1)) (aD 0) cA (g2 (jt false) (af 0) (af 1))) aC))) (af 0)))
def gU (as:List S):M R:=fin (nc (bq ur as))
def sf:List Str:=["one","other","base","known","rows"]
def lW:G O:=(aM (bg 3 (iS 1 [] (fc (gN (aS 3 K33.gU) (ao (af 0) (ao (af 1) (ao (af 2) aC))))) (aD 0) cA (af 0) (gC (.bl true))))
 (aM (bg 4 (iS 1 [0,1,3] (uH (af 3)) (aD 0) cA (af 0) (gN (aS 4 K33.lN) (ao (af 1) (ao (af 2) (ao (af 0) (ao (af 3) aC)))))))
 (bO (DB "answered_still" K33.mP (af 4)))))
def dM (as:List S):M R:=fin (lW (bq sf as))
def uX:List Str:=["depths","pairing","depth"]
def vn:G O:=(bO (qi (g2 (nT false) (af 1) (af 0)) (pg (g2 (sM false) (g2 ir (af 0) (af 1)) (gC .non)) (g2 (jO λi j=>.bl (decide (j < i))) (g2 ir (af 0) (af 1)) (af 2)))))
def iO (as:List S):M R:=fin (vn (bq uX as))
def Bk:List Str:=["depths","depth"]
def sX:G O:=(bO (bJ 1 [0] (cu (ao (g2 cW (af 1) (gC (.int 1))) aC)) (aD 0) cA (bJ 1 [1,0] (uH (af 1)) (aD 0) (bN (gN (aS 3 K33.iO) (ao (af 1) (ao (af 0) (ao (af 2) aC))))) (af 0))))
def kh (as:List S):M R:=fin (sX (bq Bk as))
def HE:List Str:=["one","other","depth"]
def AE:G O:=(aM (gZ (gN (aS 2 K23.eB) (ao (af 0) (ao (af 1) aC))))
 (aM (gZ (gN (aS 3 K55.cX) (ao (af 2) (ao (gC (.int 0)) (ao (gC (.int 6)) aC)))))
 (bO (gN (aS 2 K33.kh) (ao (gN (aS 3 K33.dM) (ao (af 0) (ao (af 1) (ao (bz aT) aC)))) (ao (af 2) aC))))))
def qb (as:List S):M R:=fin (AE (bq HE as))
def ET:List Str:=["one","other","depth","pairs","side","point","base","depths","made"]
def yu:G O:=(aM (gZ (gN (aS 2 K23.eB) (ao (af 0) (ao (af 1) aC))))
 (aM (gZ (gN (aS 3 K55.cX) (ao (af 2) (ao (gC (.int 0)) (ao (gC (.int 6)) aC)))))
 (aM (gZ (gN (aS 3 K55.cX) (ao (af 4) (ao (gC (.int 0)) (ao (gC (.int 1)) aC)))))
 (aM (gZ (gN (aS 2 K33.jJ) (ao (af 5) (ao (g2 aW (g2 aW (bz (aA (af 0) (aA (af 1) aT))) (af 4)) (gC (.int 0))) aC))))
 (aM (bg 6 (gN (aS 1 K23.gw) (ao (af 3) aC)))
 (aM (bg 7 (gN (aS 3 K33.dM) (ao (af 0) (ao (af 1) (ao (af 6) aC)))))
 (aM (bg 8 (gN (aS 4 K33.eE) (ao (af 0) (ao (af 1) (ao (af 4) (ao (af 5) aC))))))
 (bO (bJ 1 [7,6,2,4] (fc (af 8)) (aD 0) (bN (gN (aS 3 K33.iO) (ao (af 1) (ao (gN (aS 2 K33.kP) (ao (af 2) (ao (af 0) aC))) (ao (af 3) aC))))) (g2 aW (af 0) (g2 Fb (gC (.int 1)) (af 4))))))))))))
def jv (as:List S):M R:=fin (yu (bq ET as))
def Bj:List Str:=["_law_pairs","_law_pair"]
def sW:G O:=(bO (gN cI (ao (gN gq (ao (g2 dO (af 0) (bz (aA (af 1) aT))) aC)) aC)))
def kg (as:List S):M R:=fin (sW (bq Bj as))
def Nl:List Str:=["_law_script","_law_one","_law_other","_law_depth","_law_told","_law_cell_here","_law_pairs","_law_side","_law_point","_law_due","_law_mate","_law_given","_law_found"]
def Kq:G O:=(aM (mK (eZ 2 (bL (aD 1) (bL (aD 2) fK))) (gN (aS 2 K55.jL) (ao (af 0) (ao (gK (aA (gC (.int 2)) (aA (gC (.int 3)) (aA (gC (.int 1)) (aA (gC (.int 3)) (aA (gC (.int 2)) (aA (gC (.int 3)) (aA (gC (.int 2)) (aA (gC (.int 4)) aT))))))))) aC))))
 (aM (bg 3 (g2 dH (gN (aS 2 K51.bV) (ao (af 0) (ao (gC (.int 16)) aC))) (gC (.int 7))))
 (aM (b9 (bN (g2 (jO λi j=>.bl (decide (j < i))) (g2 cW (g2 aW (af 1) (gC (.int 0))) (g2 aW (af 2) (gC (.int 0)))) (gC (.int 6)))) (bg 3 (g2 dH (af 3) (gC (.int 3)))) eU)
 (aM (bg 4 (gN (aS 3 K33.qb) (ao (af 1) (ao (af 2) (ao (gN BL (ao (g2 cW (af 3) (gC (.int 1))) (ao (gC (.int 6)) aC))) aC)))))
 (aM (bg 5 (gN (aS 2 K51.bV) (ao (af 0) (ao (gC (.int 17)) aC))))
 (aM (bg 6 (DC (bN (g2 (jO λi j=>.bl (decide (j < i))) (gN gQ (ao (g2 aW (af 4) (af 3)) aC)) (gC (.int 0)))) (g2 aW (g2 aW (af 4) (af 3)) (g2 dH (g2 ig (af 5) (gC (.int 2))) (gN gQ (ao (g2 aW (af 4) (af 3)) aC)))) (bz aT)))
 (aM (bg 7 (g2 dH (af 5) (gC (.int 2))))
 (aM (bg 8 (g2 dH (gN (aS 2 K51.bV) (ao (af 0) (ao (gC (.int 18)) aC))) (g2 aW (g2 aW (bz (aA (af 1) (aA (af 2) aT))) (af 7)) (gC (.int 0)))))
 (aM (bg 9 (gK aT))
 (aM (iu (cu (ao (g2 aW (g2 aW (bz (aA (af 2) (aA (af 1) aT))) (af 7)) (gC (.int 0))) aC)) (aD 10) (b9 (bN (g2 (jt false) (gN (aS 2 K33.kg) (ao (af 6) (ao (g2 aW (bz (aA (bz (aA (af 8) (aA (af 10) aT))) (aA (bz (aA (af 10) (aA (af 8) aT))) aT))) (af 7)) aC))) (g2 aW (af 4) (af 3)))) (kX 9 (af 10)) eU))
 (aM (bg 11 (af 6))
 (aM (b9 (mJ (bN (g2 (fE false) (af 6) (bz aT))) (bN (g2 (fE false) (g2 dH (gN (aS 2 K51.bV) (ao (af 0) (ao (gC (.int 19)) aC))) (gC (.int 2))) (gC (.int 1))))) (bg 11 (gC .non)) eU)
 (aM (bg 12 (gN (aS 6 K33.jv) (ao (af 1) (ao (af 2) (ao (af 3) (ao (af 11) (ao (af 7) (ao (af 8) aC))))))))
 (aM (b9 (m_ (iI (bN (yp "list" (af 12)))) (m_ (bN (g2 (fE true) (af 12) (af 9))) (bN (gN uE (ao (bJ 1 [] (fc (af 12)) (aD 0) cA (yp "bool" (af 0))) aC))))) (bO (gC (.bl false))) eU)
 (aM (b9 (mJ (bN (g2 (jt false) (af 6) (g2 aW (af 4) (yq (gC (.int 1)))))) (bN (g2 (fE false) (af 12) (gK aT)))) (bO (gC (.bl false))) eU)
 (aM (kX 12 (gC (.int 0)))
 (bO (pg (g2 (jO λi j=>.bl (decide (j < i))) (g2 cW (g2 aW (af 1) (gC (.int 0))) (g2 aW (af 2) (gC (.int 0)))) (gC (.int 7))) (g2 (fE false) (gN (aS 6 K33.jv) (ao (af 1) (ao (af 2) (ao (af 3) (ao (af 6) (ao (af 7) (ao (af 8) aC))))))) (af 9))))))))))))))))))))
def uh (as:List S):M R:=fin (Kq (bq Nl as))
end K33
namespace K33
open PySem PySem.Spec PyProof.Rows L2 DL DX
structure dg (w:Ru) (K:Qx) (mg:Str->Option Qy):Prop where
 all:mg "all"=none
 any:mg "any"=none
 bool:mg "bool"=none
 int:mg "int"=none
 isinstance:mg "isinstance"=none
 len:mg "len"=none
 list:mg "list"=none
 min:mg "min"=none
 range:mg "range"=none
 set:mg "set"=none
 sorted:mg "sorted"=none
 tuple:mg "tuple"=none
 MOST_DEPTH:Bf K mg "MOST_DEPTH" (.int 6)
 MOST_SMALL:Bf K mg "MOST_SMALL" (.int 4)
 fv_answered_still:EO K mg "answered_still"
section
variable {P:Q8}{w:Ru}{K:Qx}{mg:Str->Option Qy}{base:Sh}{f:QW}{fd:Ro}
abbrev iY:T7:=top 7
theorem Co:bh ["thing"] ["thing"] (aq iY):=⟨rfl,rfl,rfl,by decide +kernel,rfl,by decide +kernel,by decide +kernel⟩
theorem zN (m:dg w K mg) (F:cH K "is_whole" "is_whole" iY f fd) (hm:mg "is_whole"=some (.ref f)):bC P w K mg base 1 1 "is_whole" K01.iP:=
 have sc:=Co
 bE (k:=0) (gB:=K01.vp) F hm sc (λ_ _ _ _ _ _ us hl=>match us,hl with | [_],_=>rfl) (λcdv A outer s H E J T hr=>
 (aJ (aY (uS (jm Ir C_ m.int (aa 0) m.isinstance) (ly (Jh (jm yD sE m.bool (aa 0) m.isinstance))))))) (λas r _ h=>h)
abbrev iX:T7:=top 8
theorem Cn:bh ["thing","many"] ["thing","many"] (aq iX):=⟨rfl,rfl,rfl,by decide +kernel,rfl,by decide +kernel,by decide +kernel⟩
theorem zM (m:dg w K mg) (his_whole:bC P w K mg base 1 1 "is_whole" K01.iP) (F:cH K "is_point" "is_point" iX f fd) (hm:mg "is_point"=some (.ref f)):bC P w K mg base 2 2 "is_point" K01.jM:=
 have sc:=Cn
 bE (k:=1) (gB:=K01.pB) F hm sc (λ_ _ _ _ _ _ us hl=>match us,hl with | [_,_],_=>rfl) (λcdv A outer s H E J T hr=>
 (aJ (aY (uS (aP his_whole hr (ak (aa 0) au)) (ly (Lx MC B6 az (aa 0) (aa 1))))))) (λas r _ h=>h)
abbrev h_:T7:=top 9
theorem Ab:bh ["world","many","marks","arrows"] ["world"] (aq h_):=⟨rfl,rfl,rfl,by decide +kernel,rfl,by decide +kernel,by decide +kernel⟩
theorem yc (m:dg w K mg) (F:cH K "tongue_of" "tongue_of" h_ f fd) (hm:mg "tongue_of"=some (.ref f)):bC P w K mg base 1 1 "tongue_of" K23.jc:=
 have sc:=Ab
 bE (k:=0) (gB:=K23.sY) F hm sc (λ_ _ _ _ _ _ us hl=>match us,hl with | [_],_=>rfl) (λcdv A outer s H E J T hr=>
 (ay (lq (aa 0) (dz (br (aE 1 sc.nd) (br (aE 2 sc.nd) (br (aE 3 sc.nd) cV)))))
 (aJ (aY (aZ (av (bY (ak (bI ["name","points"] [] (b_ (aa 2)) (λ_ _ _ _ _ hc=>⟨(dz (br (aE 0 (bQ rfl)) (br (aE 1 (bQ rfl)) cV))),bx,(aa 0)⟩)) au) m.tuple) (av (bY (ak (bI ["name","pairs"] [] (b_ (aa 3)) (λ_ _ _ _ _ hc=>⟨(dz (br (aE 0 (bQ rfl)) (br (aE 1 (bQ rfl)) cV))),bx,(aa 0)⟩)) au) m.tuple) aN))))))) (λas r _ h=>h)
abbrev fX:T7:=top 10
theorem wN:bh ["one","other"] ["one","other"] (aq fX):=⟨rfl,rfl,rfl,by decide +kernel,rfl,by decide +kernel,by decide +kernel⟩
theorem uB (m:dg w K mg) (htongue_of:bC P w K mg base 1 1 "tongue_of" K23.jc) (F:cH K "need_tongue" "need_tongue" fX f fd) (hm:mg "need_tongue"=some (.ref f)):bC P w K mg base 2 2 "need_tongue" K23.jb:=
 have sc:=wN
 bE (k:=1) (gB:=K23.pC) F hm sc (λ_ _ _ _ _ _ us hl=>match us,hl with | [_,_],_=>rfl) (λcdv A outer s H E J T hr=>
 (aJ (bZ (yS hr.units (aP htongue_of hr (ak (aa 0) au)) (aP htongue_of hr (ak (aa 1) au))) (aJ kB) bT))) (λas r _ h=>h)
abbrev dB:T7:=top 13
theorem qG:bh ["worlds","world"] ["worlds"] (aq dB):=⟨rfl,rfl,rfl,by decide +kernel,rfl,by decide +kernel,by decide +kernel⟩
theorem oZ (m:dg w K mg) (F:cH K "need_few_points" "need_few_points" dB f fd) (hm:mg "need_few_points"=some (.ref f)):bC P w K mg base 1 1 "need_few_points" K23.f_:=
 have sc:=qG
 bE (k:=0) (gB:=K23.kY) F hm sc (λ_ _ _ _ _ _ us hl=>match us,hl with | [_],_=>rfl) (λcdv A outer s H E J T hr=>
 (aJ (fN (lD (aa 0)) (aE 1 sc.nd) (aJ (bZ (iU qv (gW λ_ _ _=>.bl _) (aL (aa 1) az) (jU m.MOST_SMALL)) (aJ kB) bT))))) (λas r _ h=>h)
abbrev gH:T7:=top 14
theorem zc:bh ["one","other"] ["one","other"] (aq gH):=⟨rfl,rfl,rfl,by decide +kernel,rfl,by decide +kernel,by decide +kernel⟩
theorem wG (m:dg w K mg) (hneed_tongue:bC P w K mg base 2 2 "need_tongue" K23.jb) (hneed_few_points:bC P w K mg base 1 1 "need_few_points" K23.f_) (F:cH K "need_small" "need_small" gH f fd) (hm:mg "need_small"=some (.ref f)):bC P w K mg base 3 2 "need_small" K23.eB:=
 have sc:=zc
 bE (k:=2) (gB:=K23.qU) F hm sc (λ_ _ _ _ _ _ us hl=>match us,hl with | [_,_],_=>rfl) (λcdv A outer s H E J T hr=>
 (ay (eG (aP hneed_tongue hr (ak (aa 0) (ak (aa 1) au))))
 (aJ (eG (aP hneed_few_points hr (ak (aZ (av (aa 0) (av (aa 1) aN))) au)))))) (λas r _ h=>h)
abbrev gF:T7:=top 15
theorem za:bh ["told","least","most"] ["told","least","most"] (aq gF):=⟨rfl,rfl,rfl,by decide +kernel,rfl,by decide +kernel,by decide +kernel⟩
theorem wD (m:dg w K mg) (his_whole:bC P w K mg base 1 1 "is_whole" K01.iP) (F:cH K "need_count" "need_count" gF f fd) (hm:mg "need_count"=some (.ref f)):bC P w K mg base 2 3 "need_count" K55.cX:=
 have sc:=za
 bE (k:=1) (gB:=K55.qS) F hm sc (λ_ _ _ _ _ _ us hl=>match us,hl with | [_,_,_],_=>rfl) (λcdv A outer s H E J T hr=>
 (aJ (bZ (jF (pQ (jG (dS (aP his_whole hr (ak (aa 0) au)))) (pQ (iU B6 (gW λ_ _ _=>.bl _) (aa 0) (aa 1)) (uR (iU qv (gW λ_ _ _=>.bl _) (aa 0) (aa 2)))))) (aJ kB) bT))) (λas r _ h=>h)
abbrev gG:T7:=top 16
theorem zb:bh ["point","many"] ["point","many"] (aq gG):=⟨rfl,rfl,rfl,by decide +kernel,rfl,by decide +kernel,by decide +kernel⟩
theorem wF (m:dg w K mg) (his_point:bC P w K mg base 2 2 "is_point" K01.jM) (F:cH K "need_point" "need_point" gG f fd) (hm:mg "need_point"=some (.ref f)):bC P w K mg base 3 2 "need_point" K33.jJ:=
 have sc:=zb
 bE (k:=2) (gB:=K33.qT) F hm sc (λ_ _ _ _ _ _ us hl=>match us,hl with | [_,_],_=>rfl) (λcdv A outer s H E J T hr=>
 (aJ (bZ (jG (dS (aP his_point hr (ak (aa 0) (ak (aa 1) au))))) (aJ kB) bT))) (λas r _ h=>h)
abbrev kO:T7:=top 18
theorem GB:bh ["pairs"] ["pairs"] (aq kO):=⟨rfl,rfl,rfl,by decide +kernel,rfl,by decide +kernel,by decide +kernel⟩
theorem Dk (m:dg w K mg) (F:cH K "rising" "rising" kO f fd) (hm:mg "rising"=some (.ref f)):bC P w K mg base 1 1 "rising" K23.gw:=
 have sc:=GB
 bE (k:=0) (gB:=K23.AF) F hm sc (λ_ _ _ _ _ _ us hl=>match us,hl with | [_],_=>rfl) (λcdv A outer s H E J T hr=>
 (ay (bZ (El (aa 0) kK) (aJ (aY (aZ aN))) bT)
 (aJ (aY (bY (ak (pR hr.units (ak (aa 0) au) m.sorted m.set) au) m.tuple))))) (λas r _ h=>h)
abbrev qB:T7:=top 19
theorem LN:bh ["world","one","other","many","marks","arrows","bearing","leading"] ["world","one","other"] (aq qB):=⟨rfl,rfl,rfl,by decide +kernel,rfl,by decide +kernel,by decide +kernel⟩
theorem HQ (m:dg w K mg) (F:cH K "view" "view" qB f fd) (hm:mg "view"=some (.ref f)):bC P w K mg base 1 3 "view" K23.wV:=
 have sc:=LN
 bE (k:=0) (gB:=K23.G8) F hm sc (λ_ _ _ _ _ _ us hl=>match us,hl with | [_,_,_],_=>rfl) (λcdv A outer s H E J T hr=>
 (ay (lq (aa 0) (dz (br (aE 3 sc.nd) (br (aE 4 sc.nd) (br (aE 5 sc.nd) cV)))))
 (ay (aO 6 sc.nd (bY (ak (bI ["name","points"] [1] (b_ (aa 4)) (λ_ _ _ _ _ hc=>⟨(dz (br (aE 0 (bQ rfl)) (br (aE 1 (bQ rfl)) cV))),bx,(yU hr.units (aa 2) (aa 1))⟩)) au) m.tuple))
 (ay (aO 7 sc.nd (bY (ak (bI ["name","pairs"] [1,2] (b_ (aa 5)) (λ_ _ _ _ _ hc=>⟨(dz (br (aE 0 (bQ rfl)) (br (aE 1 (bQ rfl)) cV))),bx,(yU hr.units (aZ (av (aa 2) (av (aa 3) aN))) (aa 1))⟩)) au) m.tuple))
 (aJ (aY (aZ (av (tV hr.units (aa 1) (aa 2)) (av (aa 6) (av (aa 7) aN)))))))))) (λas r _ h=>h)
abbrev nD:T7:=top 20
theorem Js:bh ["world"] ["world"] (aq nD):=⟨rfl,rfl,rfl,by decide +kernel,rfl,by decide +kernel,by decide +kernel⟩
theorem EZ (m:dg w K mg) (Pf:bC P w K mg base 1 3 "view" K23.wV) (F:cH K "views" "views" nD f fd) (hm:mg "views"=some (.ref f)):bC P w K mg base 2 1 "views" K23.oU:=
 have sc:=Js
 bE (k:=1) (gB:=K23.DJ) F hm sc (λ_ _ _ _ _ _ us hl=>match us,hl with | [_],_=>rfl) (λcdv A outer s H E J T hr=>
 (aJ (aY (tU hr.units ["one","other"] [0] (d_ (bH (ak (aL (aa 0) az) au) m.range)) (λ_ _ _ _ _ hc=>⟨(aE 0 (bQ rfl)),bx,(bH (ak (aL (aa 2) az) au) m.range),(aE 1 (bQ rfl)),bx,(aZ (av (aa 0) (av (aa 1) aN))),(aP Pf hr (ak (aa 2) (ak (aa 0) (ak (aa 1) au))))⟩))))) (λas r _ h=>h)
abbrev nB:T7:=top 21
theorem Jr:bh ["first","second","pair","again"] ["first","second","pair","again"] (aq nB):=⟨rfl,rfl,rfl,by decide +kernel,rfl,by decide +kernel,by decide +kernel⟩
theorem EX (m:dg w K mg) (F:cH K "agree" "agree" nB f fd) (hm:mg "agree"=some (.ref f)):bC P w K mg base 1 4 "agree" K23.fB:=
 have sc:=Jr
 bE (k:=0) (gB:=K23.DH) F hm sc (λ_ _ _ _ _ _ us hl=>match us,hl with | [_,_,_,_],_=>rfl) (λcdv A outer s H E J T hr=>
 (aJ (aY (tV hr.units (gz hr.units (aa 0) (aZ (av (aL (aa 2) az) (av (aL (aa 3) az) aN)))) (gz hr.units (aa 1) (aZ (av (aL (aa 2) az) (av (aL (aa 3) az) aN)))))))) (λas r _ h=>h)
abbrev fV:T7:=top 22
theorem wM:bh ["first","second","pairing","pair","again"] ["first","second","pairing","pair"] (aq fV):=⟨rfl,rfl,rfl,by decide +kernel,rfl,by decide +kernel,by decide +kernel⟩
theorem uA (m:dg w K mg) (OB:bC P w K mg base 1 4 "agree" K23.fB) (F:cH K "goes_behind" "goes_behind" fV f fd) (hm:mg "goes_behind"=some (.ref f)):bC P w K mg base 2 4 "goes_behind" K23.i_:=
 have sc:=wM
 bE (k:=1) (gB:=K23.pA) F hm sc (λ_ _ _ _ _ _ us hl=>match us,hl with | [_,_,_,_],_=>rfl) (λcdv A outer s H E J T hr=>
 (ay (bZ (jF (qy (qz (aa 2)) (om (Jc hr.units (aa 3) (aL (aa 2) (A0 az)))))) (aJ (aY nt)) bT)
 (ay (fN (lD (aa 2)) (aE 4 sc.nd) (aJ (bZ (jF (pQ (jG (dS (aP OB hr (ak (aa 0) (ak (aa 1) (ak (aa 3) (ak (aa 4) au))))))) (uR (jG (dS (aP OB hr (ak (aa 0) (ak (aa 1) (ak (aa 4) (ak (aa 3) au)))))))))) (aJ (aY nt)) bT)))
 (aJ (aY nt))))) (λas r _ h=>h)
abbrev i6:T7:=top 23
theorem Cq:bh ["one","other","most","first","second","pairs","longest","told","step"] ["one","other","most"] (aq i6):=⟨rfl,rfl,rfl,by decide +kernel,rfl,by decide +kernel,by decide +kernel⟩
theorem zR (m:dg w K mg) (hneed_small:bC P w K mg base 3 2 "need_small" K23.eB) (hneed_count:bC P w K mg base 2 3 "need_count" K55.cX) (OQ:bC P w K mg base 2 1 "views" K23.oU) (OB:bC P w K mg base 1 4 "agree" K23.fB) (hgoes_behind:bC P w K mg base 2 4 "goes_behind" K23.i_) (F:cH K "pairings" "pairings" i6 f fd) (hm:mg "pairings"=some (.ref f)):bC P w K mg base 4 3 "pairings" K23.lO:=
 have sc:=Cq
 bE (k:=3) (gB:=K23.vt) F hm sc (λ_ _ _ _ _ _ us hl=>match us,hl with | [_,_,_],_=>rfl) (λcdv A outer s H E J T hr=>
 (ay (eG (aP hneed_small hr (ak (aa 0) (ak (aa 1) au))))
 (ay (eG (aP hneed_count hr (ak (aa 2) (ak az (ak (jU m.MOST_SMALL) au)))))
 (ay (aO 3 sc.nd (aP OQ hr (ak (aa 0) au)))
 (ay (aO 4 sc.nd (aP OQ hr (ak (aa 1) au)))
 (ay (aO 5 sc.nd (Ce ["a","b"] [1,3,4] (d_ (bH (ak (aL (aa 0) az) au) m.range)) (λ_ _ _ _ _ hc=>⟨(aE 0 (bQ rfl)),bx,(bH (ak (aL (aa 2) az) au) m.range),(aE 1 (bQ rfl)),(dI (dS (aP OB hr (ak (aa 3) (ak (aa 4) (ak (aZ (av (aa 0) (av (aa 1) aN))) (ak (aZ (av (aa 0) (av (aa 1) aN))) au))))))),(aZ (av (aa 0) (av (aa 1) aN)))⟩)))
 (ay (oq 5 (aO 6 sc.nd (eN (av (aZ aN) aN))))
 (ay (aO 7 sc.nd (eN (av (aZ aN) aN)))
 (ay (fN (bH (ak (aa 2) au) m.range) (aE 8 sc.nd) (ay (oq 5 (Cc 6 ["ahead","pair"] [5,3,4] sc.nd (b_ (aa 6)) (λ_ _ _ _ _ hc=>⟨(aE 0 (bQ rfl)),bx,(lD (aa 2)),(aE 1 (bQ rfl)),(dI (dS (aP hgoes_behind hr (ak (aa 3) (ak (aa 4) (ak (aa 0) (ak (aa 1) au))))))),(gm (aa 0) (aZ (av (aa 1) aN)))⟩)))
 (aJ (zV 7 (aa 6)))))
 (aJ (aY (aa 7)))))))))))) (λas r _ h=>h)
abbrev nA:T7:=top 26
theorem Jq:bh ["pairing","pair"] ["pairing","pair"] (aq nA):=⟨rfl,rfl,rfl,by decide +kernel,rfl,by decide +kernel,by decide +kernel⟩
theorem EW (m:dg w K mg) (OD:bC P w K mg base 1 1 "rising" K23.gw) (F:cH K "added" "added" nA f fd) (hm:mg "added"=some (.ref f)):bC P w K mg base 2 2 "added" K33.kP:=
 have sc:=Jq
 bE (k:=1) (gB:=K33.DG) F hm sc (λ_ _ _ _ _ _ us hl=>match us,hl with | [_,_],_=>rfl) (λcdv A outer s H E J T hr=>
 (aJ (aY (aP OD hr (ak (gm (aa 0) (aZ (av (aa 1) aN))) au))))) (λas r _ h=>h)
abbrev gI:T7:=top 27
theorem zd:bh ["one","other","side","point"] ["one","other","side","point"] (aq gI):=⟨rfl,rfl,rfl,by decide +kernel,rfl,by decide +kernel,by decide +kernel⟩
theorem wH (m:dg w K mg) (F:cH K "pairs_with" "pairs_with" gI f fd) (hm:mg "pairs_with"=some (.ref f)):bC P w K mg base 1 4 "pairs_with" K33.eE:=
 have sc:=zd
 bE (k:=0) (gB:=K33.qV) F hm sc (λ_ _ _ _ _ _ us hl=>match us,hl with | [_,_,_,_],_=>rfl) (λcdv A outer s H E J T hr=>
 (ay (bZ (jT hr.units (aa 2) az) (aJ (aY (bI ["answer"] [3] (d_ (bH (ak (aL (aa 1) az) au) m.range)) (λ_ _ _ _ _ hc=>⟨(aE 0 (bQ rfl)),bx,(aZ (av (aa 1) (av (aa 0) aN)))⟩)))) bT)
 (aJ (aY (bI ["answer"] [3] (d_ (bH (ak (aL (aa 0) az) au) m.range)) (λ_ _ _ _ _ hc=>⟨(aE 0 (bQ rfl)),bx,(aZ (av (aa 0) (av (aa 1) aN)))⟩)))))) (λas r _ h=>h)
abbrev i7:T7:=top 28
theorem Cr:bh ["one","other"] ["one","other"] (aq i7):=⟨rfl,rfl,rfl,by decide +kernel,rfl,by decide +kernel,by decide +kernel⟩
theorem zS (m:dg w K mg) (F:cH K "picks_of" "picks_of" i7 f fd) (hm:mg "picks_of"=some (.ref f)):bC P w K mg base 1 2 "picks_of" K33.lP:=
 have sc:=Cr
 bE (k:=0) (gB:=K33.vz) F hm sc (λ_ _ _ _ _ _ us hl=>match us,hl with | [_,_],_=>rfl) (λcdv A outer s H E J T hr=>
 (aJ (aY (dw (bI ["point"] [] (d_ (bH (ak (aL (aa 0) az) au) m.range)) (λ_ _ _ _ _ hc=>⟨(aE 0 (bQ rfl)),bx,(aZ (av az (av (aa 0) aN)))⟩)) (bI ["point"] [] (d_ (bH (ak (aL (aa 1) az) au) m.range)) (λ_ _ _ _ _ hc=>⟨(aE 0 (bQ rfl)),bx,(aZ (av az (av (aa 0) aN)))⟩)))))) (λas r _ h=>h)
abbrev iZ:T7:=top 29
theorem Cp:bh ["one","other","pairing","known","grown"] ["one","other","pairing","known"] (aq iZ):=⟨rfl,rfl,rfl,by decide +kernel,rfl,by decide +kernel,by decide +kernel⟩
theorem zQ (m:dg w K mg) (hpairs_with:bC P w K mg base 1 4 "pairs_with" K33.eE) (OF:bC P w K mg base 2 2 "added" K33.kP) (hpicks_of:bC P w K mg base 1 2 "picks_of" K33.lP) (F:cH K "outcomes" "outcomes" iZ f fd) (hm:mg "outcomes"=some (.ref f)):bC P w K mg base 3 4 "outcomes" K33.lN:=
 have sc:=Cp
 bE (k:=2) (gB:=K33.vq) F hm sc (λ_ _ _ _ _ _ us hl=>match us,hl with | [_,_,_,_],_=>rfl) (λcdv A outer s H E J T hr=>
 (ay (aO 4 sc.nd (tU hr.units ["a","pair"] [0,1,2] (d_ (bH (ak (aL (aa 0) az) au) m.range)) (λ_ _ _ _ _ hc=>⟨(aE 0 (bQ rfl)),bx,(lD (aP hpairs_with hr (ak (aa 2) (ak (aa 3) (ak az (ak (aa 0) au)))))),(aE 1 (bQ rfl)),bx,(aa 1),(aP OF hr (ak (aa 4) (ak (aa 1) au)))⟩)))
 (aJ (aY (bI ["side","point"] [0,1,4,3] (b_ (aP hpicks_of hr (ak (aa 0) (ak (aa 1) au)))) (λ_ _ _ _ _ hc=>⟨(dz (br (aE 0 (bQ rfl)) (br (aE 1 (bQ rfl)) cV))),bx,(bI ["pair"] [4,5] (b_ (aP hpairs_with hr (ak (aa 2) (ak (aa 3) (ak (aa 0) (ak (aa 1) au)))))) (λ_ _ _ _ _ hc=>⟨(aE 0 (bQ rfl)),(dI (Jb hr.units (gz hr.units (aa 1) (aa 0)) (aa 2))),(gz hr.units (aa 1) (aa 0))⟩) (hcl:=kG hc rfl))⟩)))))) (λas r _ h=>h)
abbrev dU:T7:=top 30
theorem rP:bh ["rows","depths"] ["rows","depths"] (aq dU):=⟨rfl,rfl,rfl,by decide +kernel,rfl,by decide +kernel,by decide +kernel⟩
theorem qD (m:dg w K mg) (F:cH K "answered_still" "answered_still" dU f fd) (hm:mg "answered_still"=some (.ref f)):bC P w K mg base 1 2 "answered_still" K33.dJ:=
 have sc:=rP
 bE (k:=0) (gB:=K33.lV) F hm sc (λ_ _ _ _ _ _ us hl=>match us,hl with | [_,_],_=>rfl) (λcdv A outer s H E J T hr=>
 (aJ (aY (AX (ak (bI ["row"] [1] (b_ (aa 0)) (λ_ _ _ _ _ hc=>⟨(aE 0 (bQ rfl)),bx,(AY (ak (bI ["pairing"] [1] (b_ (aa 0)) (λ_ _ _ _ _ hc=>⟨(aE 0 (bQ rfl)),bx,(Eo (gz hr.units (aa 1) (aa 0)) kK)⟩) (hcl:=kG hc rfl)) au) m.any)⟩)) au) m.all)))) (λas r _ h=>h)
abbrev kN:T7:=top 31
theorem GA:bh ["rows","stays","depths","depth","gone","pairing"] ["rows","stays"] (aq kN):=⟨rfl,rfl,rfl,by decide +kernel,rfl,by decide +kernel,by decide +kernel⟩
theorem Dj (m:dg w K mg) (hanswered_still:bC P w K mg base 1 2 "answered_still" K33.dJ) (F:cH K "peeled" "peeled" kN f fd) (hm:mg "peeled"=some (.ref f)):bC P w K mg base 2 2 "peeled" K33.mP:=
 have sc:=GA
 bE (k:=1) (gB:=K33.uK) F hm sc (λ_ _ _ _ _ _ us hl=>match us,hl with | [_,_],_=>rfl) (λcdv A outer s H E J T hr=>
 (ay (aO 2 sc.nd (tR hr.units ["pairing"] [] (lC (aa 0)) (λ_ _ _ _ _ hc=>⟨(aE 0 (bQ rfl)),bx,(aa 0),kK⟩)))
 (ay (aO 3 sc.nd az)
 (ay (mh 4 ["pairing"] [1,0,2] sc.nd (lC (aa 0)) (λ_ _ _ _ _ hc=>⟨(aE 0 (bQ rfl)),(dI (jG (dS (yT 1 hanswered_still m.fv_answered_still hr (ak (gz hr.units (aa 2) (aa 0)) (ak (aa 3) au)) AZ)))),(aa 0)⟩))
 (ay (Cd 400000 (qz (aa 4)) (ay (oq 4 (fN (lD (aa 4)) (aE 5 sc.nd) (aJ (Gj 2 hr.units (aa 3) (aa 5)))))
 (ay (Em 3 sc.nd az)
 (aJ (mh 4 ["pairing"] [2,1,0] sc.nd (lC (aa 0)) (λ_ _ _ _ _ hc=>⟨(aE 0 (bQ rfl)),(dI (jF (qy (El (gz hr.units (aa 1) (aa 0)) kK) (om (jG (dS (yT 2 hanswered_still m.fv_answered_still hr (ak (gz hr.units (aa 3) (aa 0)) (ak (aa 1) au)) AZ))))))),(aa 0)⟩))))))
 (aJ (aY (aa 2)))))))) (λas r _ h=>h)
abbrev eO:T7:=top 32
theorem tZ:bh ["one","other","base"] ["one","other","base"] (aq eO):=⟨rfl,rfl,rfl,by decide +kernel,rfl,by decide +kernel,by decide +kernel⟩
theorem rC (m:dg w K mg) (OM:bC P w K mg base 4 3 "pairings" K23.lO) (F:cH K "pairings_with" "pairings_with" eO f fd) (hm:mg "pairings_with"=some (.ref f)):bC P w K mg base 5 3 "pairings_with" K33.gU:=
 have sc:=tZ
 bE (k:=4) (gB:=K33.nc) F hm sc (λ_ _ _ _ _ _ us hl=>match us,hl with | [_,_,_],_=>rfl) (λcdv A outer s H E J T hr=>
 (aJ (aY (bI ["pairing"] [2] (b_ (aP OM hr (ak (aa 0) (ak (aa 1) (ak (jU m.MOST_SMALL) au))))) (λ_ _ _ _ _ hc=>⟨(aE 0 (bQ rfl)),(dI (dS (AX (ak (bI ["pair"] [0] (b_ (aa 1)) (λ_ _ _ _ _ hc=>⟨(aE 0 (bQ rfl)),bx,(yU hr.units (aa 0) (aa 1))⟩) (hcl:=kG hc rfl)) au) m.all))),(aa 0)⟩))))) (λas r _ h=>h)
abbrev dW:T7:=top 33
theorem rQ:bh ["one","other","base","known","rows"] ["one","other","base"] (aq dW):=⟨rfl,rfl,rfl,by decide +kernel,rfl,by decide +kernel,by decide +kernel⟩
theorem qE (m:dg w K mg) (hpairings_with:bC P w K mg base 5 3 "pairings_with" K33.gU) (OL:bC P w K mg base 3 4 "outcomes" K33.lN) (OX:bC P w K mg base 2 2 "peeled" K33.mP) (F:cH K "parting_depths" "parting_depths" dW f fd) (hm:mg "parting_depths"=some (.ref f)):bC P w K mg base 6 3 "parting_depths" K33.dM:=
 have sc:=rQ
 bE (k:=5) (gB:=K33.lW) F hm sc (λ_ _ _ _ _ _ us hl=>match us,hl with | [_,_,_],_=>rfl) (λcdv A outer s H E J T hr=>
 (ay (aO 3 sc.nd (tR hr.units ["pairing"] [] (b_ (aP hpairings_with hr (ak (aa 0) (ak (aa 1) (ak (aa 2) au))))) (λ_ _ _ _ _ hc=>⟨(aE 0 (bQ rfl)),bx,(aa 0),nt⟩)))
 (ay (Ca 4 hr.units ["pairing"] [0,1,3] sc.nd (lC (aa 3)) (λ_ _ _ _ _ hc=>⟨(aE 0 (bQ rfl)),bx,(aa 0),(aP OL hr (ak (aa 1) (ak (aa 2) (ak (aa 0) (ak (aa 3) au)))))⟩))
 (aJ (aY (Gk OX m.fv_answered_still hr (aa 4))))))) (λas r _ h=>h)
abbrev iW:T7:=top 34
theorem Cm:bh ["depths","pairing","depth"] ["depths","pairing","depth"] (aq iW):=⟨rfl,rfl,rfl,by decide +kernel,rfl,by decide +kernel,by decide +kernel⟩
theorem zL (m:dg w K mg) (F:cH K "in_layer" "in_layer" iW f fd) (hm:mg "in_layer"=some (.ref f)):bC P w K mg base 1 3 "in_layer" K33.iO:=
 have sc:=Cm
 bE (k:=0) (gB:=K33.vn) F hm sc (λ_ _ _ _ _ _ us hl=>match us,hl with | [_,_,_],_=>rfl) (λcdv A outer s H E J T hr=>
 (aJ (aY (uS (Jf hr.units (aa 1) (aa 0)) (ly (Ep (Eo (gz hr.units (aa 0) (aa 1)) kK) (ly (En (gz hr.units (aa 0) (aa 1)) (aa 2))))))))) (λas r _ h=>h)
abbrev g_:T7:=top 35
theorem Aa:bh ["depths","depth"] ["depths","depth"] (aq g_):=⟨rfl,rfl,rfl,by decide +kernel,rfl,by decide +kernel,by decide +kernel⟩
theorem yb (m:dg w K mg) (hin_layer:bC P w K mg base 1 3 "in_layer" K33.iO) (F:cH K "layers_of" "layers_of" g_ f fd) (hm:mg "layers_of"=some (.ref f)):bC P w K mg base 2 2 "layers_of" K33.kh:=
 have sc:=Aa
 bE (k:=1) (gB:=K33.sX) F hm sc (λ_ _ _ _ _ _ us hl=>match us,hl with | [_,_],_=>rfl) (λcdv A outer s H E J T hr=>
 (aJ (aY (bI ["step"] [0] (d_ (bH (ak (dw (aa 1) az) au) m.range)) (λ_ _ _ _ _ hc=>⟨(aE 0 (bQ rfl)),bx,(bI ["pairing"] [1,0] (lC (aa 1)) (λ_ _ _ _ _ hc=>⟨(aE 0 (bQ rfl)),(dI (dS (aP hin_layer hr (ak (aa 1) (ak (aa 0) (ak (aa 2) au)))))),(aa 0)⟩) (hcl:=kG hc rfl))⟩))))) (λas r _ h=>h)
abbrev kM:T7:=top 36
theorem Gz:bh ["one","other","depth"] ["one","other","depth"] (aq kM):=⟨rfl,rfl,rfl,by decide +kernel,rfl,by decide +kernel,by decide +kernel⟩
theorem Di (m:dg w K mg) (hneed_small:bC P w K mg base 3 2 "need_small" K23.eB) (hneed_count:bC P w K mg base 2 3 "need_count" K55.cX) (hparting_depths:bC P w K mg base 6 3 "parting_depths" K33.dM) (hlayers_of:bC P w K mg base 2 2 "layers_of" K33.kh) (F:cH K "layers" "layers" kM f fd) (hm:mg "layers"=some (.ref f)):bC P w K mg base 7 3 "layers" K33.qb:=
 have sc:=Gz
 bE (k:=6) (gB:=K33.AE) F hm sc (λ_ _ _ _ _ _ us hl=>match us,hl with | [_,_,_],_=>rfl) (λcdv A outer s H E J T hr=>
 (ay (eG (aP hneed_small hr (ak (aa 0) (ak (aa 1) au))))
 (ay (eG (aP hneed_count hr (ak (aa 2) (ak az (ak (jU m.MOST_DEPTH) au)))))
 (aJ (aY (aP hlayers_of hr (ak (aP hparting_depths hr (ak (aa 0) (ak (aa 1) (ak (aZ aN) au)))) (ak (aa 2) au)))))))) (λas r _ h=>h)
abbrev jH:T7:=top 37
theorem Ew:bh ["one","other","depth","pairs","side","point","base","depths","made"] ["one","other","depth","pairs","side","point"] (aq jH):=⟨rfl,rfl,rfl,by decide +kernel,rfl,by decide +kernel,by decide +kernel⟩
theorem BF (m:dg w K mg) (hneed_small:bC P w K mg base 3 2 "need_small" K23.eB) (hneed_count:bC P w K mg base 2 3 "need_count" K55.cX) (hneed_point:bC P w K mg base 3 2 "need_point" K33.jJ) (OD:bC P w K mg base 1 1 "rising" K23.gw) (hparting_depths:bC P w K mg base 6 3 "parting_depths" K33.dM) (hpairs_with:bC P w K mg base 1 4 "pairs_with" K33.eE) (OF:bC P w K mg base 2 2 "added" K33.kP) (hin_layer:bC P w K mg base 1 3 "in_layer" K33.iO) (F:cH K "answers" "answers" jH f fd) (hm:mg "answers"=some (.ref f)):bC P w K mg base 7 6 "answers" K33.jv:=
 have sc:=Ew
 bE (k:=6) (gB:=K33.yu) F hm sc (λ_ _ _ _ _ _ us hl=>match us,hl with | [_,_,_,_,_,_],_=>rfl) (λcdv A outer s H E J T hr=>
 (ay (eG (aP hneed_small hr (ak (aa 0) (ak (aa 1) au))))
 (ay (eG (aP hneed_count hr (ak (aa 2) (ak az (ak (jU m.MOST_DEPTH) au)))))
 (ay (eG (aP hneed_count hr (ak (aa 4) (ak az (ak az au)))))
 (ay (eG (aP hneed_point hr (ak (aa 5) (ak (aL (aL (aZ (av (aa 0) (av (aa 1) aN))) (aa 4)) az) au))))
 (ay (aO 6 sc.nd (aP OD hr (ak (aa 3) au)))
 (ay (aO 7 sc.nd (aP hparting_depths hr (ak (aa 0) (ak (aa 1) (ak (aa 6) au)))))
 (ay (aO 8 sc.nd (aP hpairs_with hr (ak (aa 0) (ak (aa 1) (ak (aa 4) (ak (aa 5) au))))))
 (aJ (aY (bI ["pair"] [7,6,2,4] (b_ (aa 8)) (λ_ _ _ _ _ hc=>⟨(aE 0 (bQ rfl)),(dI (dS (aP hin_layer hr (ak (aa 1) (ak (aP OF hr (ak (aa 2) (ak (aa 0) au))) (ak (aa 3) au)))))),(aL (aa 0) (A2 az (aa 4)))⟩)))))))))))) (λas r _ h=>h)
abbrev g8:T7:=top 39
theorem zZ:bh ["_law_script","_law_k"] ["_law_script","_law_k"] (aq g8):=⟨rfl,rfl,rfl,by decide +kernel,rfl,by decide +kernel,by decide +kernel⟩
theorem xT (m:dg w K mg) (F:cH K "_law_cell" "_law_cell" g8 f fd) (hm:mg "_law_cell"=some (.ref f)):bC P w K mg base 1 2 "_law_cell" K51.bV:=
 have sc:=zZ
 bE (k:=0) (gB:=K51.sV) F hm sc (λ_ _ _ _ _ _ us hl=>match us,hl with | [_,_],_=>rfl) (λcdv A outer s H E J T hr=>
 (ay (bZ (iU B6 (gW λ_ _ _=>.bl _) (aa 1) (fq (ak (aa 0) au) m.len)) (aJ (aY (b8 (aL (aa 0) (aa 1)) (Ji az az)))) bT)
 (aJ (aY az)))) (λas r _ h=>h)
abbrev gA:T7:=top 40
theorem yZ:bh ["_law_cell_here","_law_many","_law_letters","_law_sign","_law_stem","_law_found","_law_k","_law_other","_law_name"] ["_law_cell_here","_law_many"] (aq gA):=⟨rfl,rfl,rfl,by decide +kernel,rfl,by decide +kernel,by decide +kernel⟩
theorem we (m:dg w K mg) (F:cH K "_law_names" "_law_names" gA f fd) (hm:mg "_law_names"=some (.ref f)):bC P w K mg base 1 2 "_law_names" K51.gu:=
 have sc:=yZ
 bE (k:=0) (gB:=K51.qP) F hm sc (λ_ _ _ _ _ _ us hl=>match us,hl with | [_,_],_=>rfl) (λcdv A outer s H E J T hr=>
 (ay (aO 2 sc.nd uT)
 (ay (aO 3 sc.nd (aL (aa 2) (b8 (eK (aa 0) az) az)))
 (ay (aO 4 sc.nd (jV (aa 3) (dw az (b8 (eK (aa 0) az) az))))
 (ay (aO 5 sc.nd (eN aN))
 (ay (fN (bH (ak (aa 1) au) m.range) (aE 6 sc.nd) (ay (aO 7 sc.nd (aL (aa 2) (b8 (dw (eK (aa 0) az) (jV az (aa 6))) az)))
 (ay (aO 8 sc.nd (aL (eN (av (dw (aa 4) (aa 7)) (av (dw (aa 7) (aa 4)) (av (jV (aa 3) (dw (aa 6) az)) aN)))) (b8 (aa 0) az)))
 (ay (bZ (jT hr.units (aa 8) uT) (aJ (aO 8 sc.nd uT)) bT)
 (aJ (gy 5 (aa 8)))))))
 (aJ (aY (Cg (ak (aa 5) au) m.sorted))))))))) (λas r _ h=>h)
abbrev g7:T7:=top 41
theorem zY:bh ["_law_cell_here","_law_size","_law_found","_law_k"] ["_law_cell_here","_law_size"] (aq g7):=⟨rfl,rfl,rfl,by decide +kernel,rfl,by decide +kernel,by decide +kernel⟩
theorem xS (m:dg w K mg) (F:cH K "_law_bits" "_law_bits" g7 f fd) (hm:mg "_law_bits"=some (.ref f)):bC P w K mg base 1 2 "_law_bits" K51.gT:=
 have sc:=zY
 bE (k:=0) (gB:=K51.sU) F hm sc (λ_ _ _ _ _ _ us hl=>match us,hl with | [_,_],_=>rfl) (λcdv A outer s H E J T hr=>
 (ay (aO 2 sc.nd (eN aN))
 (ay (fN (bH (ak (aa 1) au) m.range) (aE 3 sc.nd) (ay (gy 2 (tV hr.units (b8 (aa 0) az) az))
 (aJ (aO 0 sc.nd (eK (aa 0) az)))))
 (aJ (aY (aa 2)))))) (λas r _ h=>h)
abbrev gE:T7:=top 42
theorem y_:bh ["_law_names_here","_law_many","_law_cells","_law_marks","_law_k","_law_bits_here","_law_arrows"] ["_law_names_here","_law_many","_law_cells"] (aq gE):=⟨rfl,rfl,rfl,by decide +kernel,rfl,by decide +kernel,by decide +kernel⟩
theorem wA (m:dg w K mg) (h_law_bits:bC P w K mg base 1 2 "_law_bits" K51.gT) (F:cH K "_law_world" "_law_world" gE f fd) (hm:mg "_law_world"=some (.ref f)):bC P w K mg base 2 3 "_law_world" K51.fM:=
 have sc:=y_
 bE (k:=1) (gB:=K51.qR) F hm sc (λ_ _ _ _ _ _ us hl=>match us,hl with | [_,_,_],_=>rfl) (λcdv A outer s H E J T hr=>
 (ay (aO 3 sc.nd (eN aN))
 (ay (fN (bH (ak (fq (ak (aL (aa 0) az) au) m.len) au) m.range) (aE 4 sc.nd) (ay (aO 5 sc.nd (aP h_law_bits hr (ak (aL (aa 2) (aa 4)) (ak (aa 1) au))))
 (aJ (gy 3 (aZ (av (aL (aL (aa 0) az) (aa 4)) (av (bY (ak (bI ["_law_p"] [5] (d_ (bH (ak (aa 1) au) m.range)) (λ_ _ _ _ _ hc=>⟨(aE 0 (bQ rfl)),(dI (qz (aL (aa 1) (aa 0)))),(aa 0)⟩)) au) m.tuple) aN)))))))
 (ay (aO 6 sc.nd (eN aN))
 (ay (fN (bH (ak (fq (ak (aL (aa 0) az) au) m.len) au) m.range) (aE 4 sc.nd) (ay (aO 5 sc.nd (aP h_law_bits hr (ak (aL (aa 2) (dw az (aa 4))) (ak (jV (aa 1) (aa 1)) au))))
 (aJ (gy 6 (aZ (av (aL (aL (aa 0) az) (aa 4)) (av (bY (ak (bI ["_law_p"] [5,1] (d_ (bH (ak (jV (aa 1) (aa 1)) au) m.range)) (λ_ _ _ _ _ hc=>⟨(aE 0 (bQ rfl)),(dI (qz (aL (aa 1) (aa 0)))),(aZ (av (eK (aa 0) (aa 2)) (av (b8 (aa 0) (aa 2)) aN)))⟩)) au) m.tuple) aN)))))))
 (aJ (aY (aZ (av (aa 1) (av (bY (ak (aa 3) au) m.tuple) (av (bY (ak (aa 6) au) m.tuple) aN))))))))))) (λas r _ h=>h)
abbrev gD:T7:=top 43
theorem y9:bh ["_law_cell_here","_law_many","_law_left","_law_found","_law_k"] ["_law_cell_here","_law_many"] (aq gD):=⟨rfl,rfl,rfl,by decide +kernel,rfl,by decide +kernel,by decide +kernel⟩
theorem wg (m:dg w K mg) (F:cH K "_law_order" "_law_order" gD f fd) (hm:mg "_law_order"=some (.ref f)):bC P w K mg base 1 2 "_law_order" K55.iA:=
 have sc:=y9
 bE (k:=0) (gB:=K55.qQ) F hm sc (λ_ _ _ _ _ _ us hl=>match us,hl with | [_,_],_=>rfl) (λcdv A outer s H E J T hr=>
 (ay (aO 2 sc.nd (Cf (ak (aa 1) au) m.range m.list))
 (ay (aO 3 sc.nd (eN aN))
 (ay (fN (bH (ak (aa 1) au) m.range) (aE 4 sc.nd) (ay (zU 3 2 (b8 (aa 0) (fq (ak (aa 2) au) m.len)))
 (aJ (aO 0 sc.nd (eK (aa 0) az)))))
 (aJ (aY (bY (ak (aa 3) au) m.tuple))))))) (λas r _ h=>h)
abbrev fU:T7:=top 44
theorem wL:bh ["_law_world_here","_law_order_here","_law_marks","_law_arrows"] ["_law_world_here","_law_order_here"] (aq fU):=⟨rfl,rfl,rfl,by decide +kernel,rfl,by decide +kernel,by decide +kernel⟩
theorem uz (m:dg w K mg) (F:cH K "_law_turned" "_law_turned" fU f fd) (hm:mg "_law_turned"=some (.ref f)):bC P w K mg base 1 2 "_law_turned" K55.i9:=
 have sc:=wL
 bE (k:=0) (gB:=K55.pq) F hm sc (λ_ _ _ _ _ _ us hl=>match us,hl with | [_,_],_=>rfl) (λcdv A outer s H E J T hr=>
 (ay (mh 2 ["_law_name","_law_points"] [1] sc.nd (b_ (aL (aa 0) az)) (λ_ _ _ _ _ hc=>⟨(dz (br (aE 0 (bQ rfl)) (br (aE 1 (bQ rfl)) cV))),bx,(aZ (av (aa 0) (av (bY (ak (vI hr.units (ak (bI ["_law_p"] [2] (b_ (aa 1)) (λ_ _ _ _ _ hc=>⟨(aE 0 (bQ rfl)),bx,(aL (aa 1) (aa 0))⟩) (hcl:=kG hc rfl)) au) m.sorted) au) m.tuple) aN)))⟩))
 (ay (mh 3 ["_law_name","_law_some"] [1] sc.nd (b_ (aL (aa 0) az)) (λ_ _ _ _ _ hc=>⟨(dz (br (aE 0 (bQ rfl)) (br (aE 1 (bQ rfl)) cV))),bx,(aZ (av (aa 0) (av (bY (ak (vI hr.units (ak (bI ["_law_p","_law_q"] [2] (b_ (aa 1)) (λ_ _ _ _ _ hc=>⟨(dz (br (aE 0 (bQ rfl)) (br (aE 1 (bQ rfl)) cV))),bx,(aZ (av (aL (aa 2) (aa 0)) (av (aL (aa 2) (aa 1)) aN)))⟩) (hcl:=kG hc rfl)) au) m.sorted) au) m.tuple) aN)))⟩))
 (aJ (aY (aZ (av (aL (aa 0) az) (av (bY (ak (aa 2) au) m.tuple) (av (bY (ak (aa 3) au) m.tuple) aN))))))))) (λas r _ h=>h)
abbrev fu:T7:=top 45
theorem uU:bh ["_law_world_here","_law_cell_here","_law_many","_law_marks","_law_arrows","_law_at","_law_thing","_law_some","_law_name","_law_had","_law_now"] ["_law_world_here","_law_cell_here"] (aq fu):=⟨rfl,rfl,rfl,by decide +kernel,rfl,by decide +kernel,by decide +kernel⟩
theorem sF (m:dg w K mg) (F:cH K "_law_flipped" "_law_flipped" fu f fd) (hm:mg "_law_flipped"=some (.ref f)):bC P w K mg base 1 2 "_law_flipped" K55.fh:=
 have sc:=uU
 bE (k:=0) (gB:=K55.oK) F hm sc (λ_ _ _ _ _ _ us hl=>match us,hl with | [_,_],_=>rfl) (λcdv A outer s H E J T hr=>
 (ay (lq (aa 0) (dz (br (aE 2 sc.nd) (br (aE 3 sc.nd) (br (aE 4 sc.nd) cV)))))
 (ay (bZ (jT hr.units (gm (fq (ak (aa 3) au) m.len) (fq (ak (aa 4) au) m.len)) az) (aJ (aY (aa 0))) bT)
 (ay (aO 5 sc.nd (b8 (aa 1) (gm (fq (ak (aa 3) au) m.len) (fq (ak (aa 4) au) m.len))))
 (ay (aO 6 sc.nd (b8 (eK (aa 1) az) (aa 2)))
 (ay (aO 7 sc.nd (aa 3))
 (ay (bZ (iU MB (gW λ_ _ _=>.bl _) (aa 5) (fq (ak (aa 3) au) m.len)) (ay (aO 5 sc.nd (A2 (aa 5) (fq (ak (aa 3) au) m.len)))
 (ay (aO 6 sc.nd (aZ (av (aa 6) (av (b8 (eK (aa 1) az) (aa 2)) aN))))
 (aJ (aO 7 sc.nd (aa 4))))) bT)
 (ay (lq (aL (aa 7) (aa 5)) (dz (br (aE 8 sc.nd) (br (aE 9 sc.nd) cV))))
 (ay (aO 10 sc.nd (bY (ak (pR hr.units (ak (gm (aa 9) (aZ (av (aa 6) aN))) au) m.sorted m.set) au) m.tuple))
 (ay (bZ (yR hr.units (aa 6) (aa 9)) (aJ (aO 10 sc.nd (bY (ak (bI ["_law_one"] [6] (b_ (aa 9)) (λ_ _ _ _ _ hc=>⟨(aE 0 (bQ rfl)),(dI (yS hr.units (aa 0) (aa 1))),(aa 0)⟩)) au) m.tuple))) bT)
 (ay (aO 7 sc.nd (gm (gm (A1 (aa 7) vJ (vK (aa 5))) (aZ (av (aZ (av (aa 8) (av (aa 10) aN))) aN))) (A1 (aa 7) (vK (gm (aa 5) az)) vJ)))
 (ay (bZ (dS (jm kit_tuple zJ m.tuple (aa 6) m.isinstance)) (aJ (aY (aZ (av (aa 2) (av (aa 3) (av (aa 7) aN)))))) bT)
 (aJ (aY (aZ (av (aa 2) (av (aa 7) (av (aa 4) aN)))))))))))))))))) (λas r _ h=>h)
abbrev iV:T7:=top 46
theorem Ck:bh ["_law_script","_law_sizes","_law_first","_law_second","_law_marks","_law_names_here","_law_one","_law_way","_law_other"] ["_law_script","_law_sizes"] (aq iV):=⟨rfl,rfl,rfl,by decide +kernel,rfl,by decide +kernel,by decide +kernel⟩
theorem zK (m:dg w K mg) (h_law_cell:bC P w K mg base 1 2 "_law_cell" K51.bV) (h_law_names:bC P w K mg base 1 2 "_law_names" K51.gu) (h_law_world:bC P w K mg base 2 3 "_law_world" K51.fM) (h_law_order:bC P w K mg base 1 2 "_law_order" K55.iA) (h_law_turned:bC P w K mg base 1 2 "_law_turned" K55.i9) (h_law_flipped:bC P w K mg base 1 2 "_law_flipped" K55.fh) (F:cH K "_law_two" "_law_two" iV f fd) (hm:mg "_law_two"=some (.ref f)):bC P w K mg base 3 2 "_law_two" K55.jL:=
 have sc:=Ck
 bE (k:=2) (gB:=K55.vj) F hm sc (λ_ _ _ _ _ _ us hl=>match us,hl with | [_,_],_=>rfl) (λcdv A outer s H E J T hr=>
 (ay (aO 2 sc.nd (aP h_law_cell hr (ak (aa 0) (ak az au))))
 (ay (aO 3 sc.nd (aP h_law_cell hr (ak (aa 0) (ak az au))))
 (ay (aO 4 sc.nd (aP h_law_names hr (ak (eK (aa 3) az) (ak (aL (eN (av az (av az (av az (av az aN))))) (b8 (aa 3) az)) au))))
 (ay (oq 4 (aO 5 sc.nd (aZ (av (aa 4) (av (aP h_law_names hr (ak (aP h_law_cell hr (ak (aa 0) (ak az au))) (ak (aL (eN (av az (av az (av az (av az (av az aN)))))) (b8 (eK (aa 3) az) az)) au))) aN)))))
 (ay (aO 6 sc.nd (aP h_law_world hr (ak (aa 5) (ak (aL (aa 1) (b8 (aa 2) az)) (ak (bI ["_law_k"] [0] (d_ (bH (ak az au) m.range)) (λ_ _ _ _ _ hc=>⟨(aE 0 (bQ rfl)),bx,(aP h_law_cell hr (ak (aa 1) (ak (dw az (aa 0)) au)))⟩)) au)))))
 (ay (aO 7 sc.nd (b8 (eK (aa 2) az) az))
 (ay (bZ (jT hr.units (aa 7) az) (aJ (aY (aZ (av (aa 6) (av (aP h_law_world hr (ak (aa 5) (ak (aL (aa 1) (b8 (eK (aa 2) az) az)) (ak (bI ["_law_k"] [0] (d_ (bH (ak az au) m.range)) (λ_ _ _ _ _ hc=>⟨(aE 0 (bQ rfl)),bx,(aP h_law_cell hr (ak (aa 1) (ak (dw az (aa 0)) au)))⟩)) au)))) aN))))) bT)
 (ay (aO 8 sc.nd (aP h_law_turned hr (ak (aa 6) (ak (aP h_law_order hr (ak (aP h_law_cell hr (ak (aa 0) (ak az au))) (ak (aL (aa 6) az) au))) au))))
 (ay (bZ (iU qv (gW λ_ _ _=>.bl _) (aa 7) az) (aJ (aO 8 sc.nd (aP h_law_flipped hr (ak (aa 8) (ak (aP h_law_cell hr (ak (aa 0) (ak az au))) au))))) bT)
 (ay (bZ (jT hr.units (aa 7) az) (aJ (aO 8 sc.nd (aP h_law_flipped hr (ak (aa 8) (ak (aP h_law_cell hr (ak (aa 0) (ak az au))) au))))) bT)
 (aJ (aY (aZ (av (aa 6) (av (aa 8) aN)))))))))))))))) (λas r _ h=>h)
abbrev g9:T7:=top 47
theorem z_:bh ["_law_pairs","_law_pair"] ["_law_pairs","_law_pair"] (aq g9):=⟨rfl,rfl,rfl,by decide +kernel,rfl,by decide +kernel,by decide +kernel⟩
theorem xU (m:dg w K mg) (F:cH K "_law_with" "_law_with" g9 f fd) (hm:mg "_law_with"=some (.ref f)):bC P w K mg base 1 2 "_law_with" K33.kg:=
 have sc:=z_
 bE (k:=0) (gB:=K33.sW) F hm sc (λ_ _ _ _ _ _ us hl=>match us,hl with | [_,_],_=>rfl) (λcdv A outer s H E J T hr=>
 (aJ (aY (bY (ak (pR hr.units (ak (gm (aa 0) (aZ (av (aa 1) aN))) au) m.sorted m.set) au) m.tuple)))) (λas r _ h=>h)
abbrev oA:T7:=top 48
theorem MP:bh ["_law_script","_law_one","_law_other","_law_depth","_law_told","_law_cell_here","_law_pairs","_law_side","_law_point","_law_due","_law_mate","_law_given","_law_found"] ["_law_script"] (aq oA):=⟨rfl,rfl,rfl,by decide +kernel,rfl,by decide +kernel,by decide +kernel⟩
theorem MA (m:dg w K mg) (h_law_two:bC P w K mg base 3 2 "_law_two" K55.jL) (h_law_cell:bC P w K mg base 1 2 "_law_cell" K51.bV) (OV:bC P w K mg base 7 3 "layers" K33.qb) (h_law_with:bC P w K mg base 1 2 "_law_with" K33.kg) (OE:bC P w K mg base 7 6 "answers" K33.jv) (F:cH K "law" "law" oA f fd):jw P w K mg base oH 8 f fd ["_law_script"] (pZ K 1 K33.uh):=
 have sc:=MP
 Ja (k:=7) (gB:=K33.Kq) F sc (λcdv A outer s H E J T hr=>
 (ay (lq (aP h_law_two hr (ak (aa 0) (ak (eN (av az (av az (av az (av az (av az (av az (av az (av az aN))))))))) au))) (dz (br (aE 1 sc.nd) (br (aE 2 sc.nd) cV))))
 (ay (aO 3 sc.nd (b8 (aP h_law_cell hr (ak (aa 0) (ak az au))) az))
 (ay (bZ (iU qv (gW λ_ _ _=>.bl _) (dw (aL (aa 1) az) (aL (aa 2) az)) az) (aJ (aO 3 sc.nd (b8 (aa 3) az))) bT)
 (ay (aO 4 sc.nd (aP OV hr (ak (aa 1) (ak (aa 2) (ak (Jg (ak (dw (aa 3) az) (ak az au)) m.min) au)))))
 (ay (aO 5 sc.nd (aP h_law_cell hr (ak (aa 0) (ak az au))))
 (ay (aO 6 sc.nd (Jd (iU qv (gW λ_ _ _=>.bl _) (fq (ak (aL (aa 4) (aa 3)) au) m.len) az) (aL (aL (aa 4) (aa 3)) (b8 (eK (aa 5) az) (fq (ak (aL (aa 4) (aa 3)) au) m.len))) (aZ aN)))
 (ay (aO 7 sc.nd (b8 (aa 5) az))
 (ay (aO 8 sc.nd (b8 (aP h_law_cell hr (ak (aa 0) (ak az au))) (aL (aL (aZ (av (aa 1) (av (aa 2) aN))) (aa 7)) az)))
 (ay (aO 9 sc.nd (eN aN))
 (ay (fN (bH (ak (aL (aL (aZ (av (aa 2) (av (aa 1) aN))) (aa 7)) az) au) m.range) (aE 10 sc.nd) (aJ (bZ (yR hr.units (aP h_law_with hr (ak (aa 6) (ak (aL (aZ (av (aZ (av (aa 8) (av (aa 10) aN))) (av (aZ (av (aa 10) (av (aa 8) aN))) aN))) (aa 7)) au))) (aL (aa 4) (aa 3))) (aJ (gy 9 (aa 10))) bT)))
 (ay (aO 11 sc.nd (aa 6))
 (ay (bZ (jF (qy (jT hr.units (aa 6) (aZ aN)) (om (jT hr.units (b8 (aP h_law_cell hr (ak (aa 0) (ak az au))) az) az)))) (aJ (aO 11 sc.nd kK)) bT)
 (ay (aO 12 sc.nd (aP OE hr (ak (aa 1) (ak (aa 2) (ak (aa 3) (ak (aa 11) (ak (aa 7) (ak (aa 8) au))))))))
 (ay (bZ (jF (pQ (jG (dS (jm Fq BE m.list (aa 12) m.isinstance))) (pQ (yS hr.units (aa 12) (aa 9)) (uR (dS (AY (ak (bI ["_law_mate"] [] (b_ (aa 12)) (λ_ _ _ _ _ hc=>⟨(aE 0 (bQ rfl)),bx,(jm yD sE m.bool (aa 0) m.isinstance)⟩)) au) m.any)))))) (aJ (aY nt)) bT)
 (ay (bZ (jF (qy (yR hr.units (aa 6) (aL (aa 4) (A0 az))) (om (jT hr.units (aa 12) (eN aN))))) (aJ (aY nt)) bT)
 (ay (gy 12 az)
 (aJ (aY (Ep (En (dw (aL (aa 1) az) (aL (aa 2) az)) az) (ly (tV hr.units (aP OE hr (ak (aa 1) (ak (aa 2) (ak (aa 3) (ak (aa 6) (ak (aa 7) (ak (aa 8) au))))))) (aa 9))))))))))))))))))))))) (λas r _ h=>h)
end
end K33
namespace K33
open PySem DL K01 WP K51 K52 K55 K23
abbrev Ps:=List (Nat×Nat)
section
variable {κ:Type}{rows:κ->List (List κ)}{i j d e:Nat}{k:κ}{ks:List κ}
def LY (rows:κ->List (List κ)):Nat->κ->Bool
 | 0,_=>true
 | j + 1,k=>LY rows j k && (rows k).all λr=>r.any (LY rows j)
theorem uo:LY rows (j + 1) k=true↔LY rows j k=true/\∀r∈rows k,∃x∈r,LY rows j x=true:=by
 show (LY rows j k && _)=true↔_
 simp only [QK,Rw,SS]
theorem um (h:i<=j) (q:LY rows j k=true):LY rows i k=true:=by
 induction h with
 | refl=>exact q
 | step _ ih=>exact ih (uo.mp q).1
def dA (rows:κ->List (List κ)) (d:Nat) (k:κ):Option Nat:=(QG (d + 1)).find? λj=>!LY rows j k
theorem jB:dA rows d k=none↔LY rows d k=true:=by
 unfold dA
 rw [Yo]
 constructor
 ·intro h;simpa using h d (by simp)
 ·intro h j hj
  rw [um (by have:=Ra.mp hj;omega) h]
  decide
theorem HW (h:dA rows d k=some e):LY rows e k=false/\∀i,i < e->LY rows i k=true:=by
 obtain ⟨h1,_,h2⟩:=List.find?_range_eq_some.mp h
 exact ⟨by simpa using h1,λi hi=>by simpa using h2 i hi⟩
theorem HX:dA rows (d + 1) k=if (LY rows d k && !LY rows (d + 1) k)=true then some (d + 1) else dA rows d k:=by
 have e:dA rows (d + 1) k=(dA rows d k).or ([d + 1].find? λj=>!LY rows j k):=by
  show (QG (d + 1 + 1)).find? _=_
  rw [TU,List.find?_append];rfl
 rw [e]
 cases q:dA rows d k with
 | none=>
  rw [jB.mp q]
  cases z:LY rows (d + 1) k <;> simp [List.find?,z]
 | some e=>
  have:LY rows d k=false:=by
   cases z:LY rows d k with
   | false=>rfl
   | true=>rw [jB.mpr z] at q;cases q
  rw [this];rfl
theorem GF (hc:∀k∈ks,∀r∈rows k,∀x∈r,x∈ks) (h:∀k∈ks,LY rows d k=true->LY rows (d + 1) k=true):∀j,∀k∈ks,LY rows d k=true->LY rows j k=true
 | 0,_,_,_=>rfl
 | j + 1,k,hk,q=>uo.mpr ⟨GF hc h j k hk q,λr hr=>by
  obtain ⟨x,h1,h2⟩:=(uo.mp (h k hk q)).2 r hr
  exact ⟨x,h1,GF hc h j x (hc k hk r hr x h1) h2⟩⟩
def vA (o:Option Nat) (j:Nat):Bool:=match o with
 | none=>true
 | some e=>decide (j < e)
theorem Ks (hs:∀j,LY rows d k=true->LY rows j k=true):vA (dA rows d k) j=LY rows j k:=by
 cases q:dA rows d k with
 | none=>exact (hs j (jB.mp q)).symm
 | some e=>
  obtain ⟨h1,h2⟩:=HW q
  show decide (j < e)=_
  by_cases c:j < e
  ·rw [h2 j c,decide_eq_true c]
  ·cases z:LY rows j k with
   | false=>exact decide_eq_false c
   | true=>rw [um (by omega) z] at h1;cases h1
theorem wW {rows':κ->List (List κ)}(hc:∀k∈ks,∀r∈rows k,∀x∈r,x∈ks) (he:∀k∈ks,rows k=rows' k):∀j,∀k∈ks,LY rows j k=LY rows' j k
 | 0,_,_=>rfl
 | j + 1,k,hk=>by
  rw [RV,uo,uo,wW hc he j k hk,<-he k hk]
  refine and_congr abD ⟨λh r hr=>?_,λh r hr=>?_⟩ <;> obtain ⟨x,h1,h2⟩:=h r hr <;> refine ⟨x,h1,?_⟩
  ·rw [<-wW hc he j x (hc k hk r hr x h1)];exact h2
  ·rw [wW hc he j x (hc k hk r hr x h1)];exact h2
end
def qY (ps:Ps):Ps:=(cS (ps.map dP)).map lK
theorem xu (ps:Ps):∀d∈ps.map dP,jx pF d:=λd hd=>by obtain ⟨x,_,rfl⟩:=QE.mp hd;exact pD x
theorem t8 (ps:Ps):(qY ps).map dP=cS (ps.map dP):=back dP lK kD λd hd=>by
 obtain ⟨x,_,rfl⟩:=QE.mp ((pY (fQ pF) (xu ps)).2 d hd);exact ⟨x,rfl⟩
theorem G4 {p:Nat×Nat}{ps:Ps}:dP p∈ps.map dP↔p∈ps:=by
 rw [QE]
 exact ⟨λ⟨q,h,e⟩=>by rw [<-kD p,<-e,kD];exact h,λh=>⟨p,h,rfl⟩⟩
theorem qp {ps:Ps}{q:Nat×Nat}:q∈qY ps↔q∈ps:=by
 rw [<-G4,t8,(lH (fQ pF) (xu ps)).2,G4]
theorem Ez (ps:Ps):(qY ps).Pairwise ju:=by
 have:=(lH (fQ pF) (xu ps)).1
 rw [<-t8,RC] at this
 exact this.imp fun {a b} h=>(xj a b).mp h
theorem Mi {A B:Ps}(hA:A.Pairwise ju) (hB:B.Pairwise ju) (h:∀y,y∈A↔y∈B):A=B:=by
 have up:∀{C:Ps},C.Pairwise ju->(C.map dP).Pairwise λa b=>eu a b=true:=fun {C} hC=>RC.mpr (hC.imp fun {a b} h=>(xj a b).mpr h)
 have e:=zu (fQ pF) (xu A) (up hA) (up hB) λy=>by
  rw [QE,QE]
  exact ⟨λ⟨q,a,b⟩=>⟨q,(h q).mp a,b⟩,λ⟨q,a,b⟩=>⟨q,(h q).mpr a,b⟩⟩
 have:=congrArg (abj lK) e
 simpa only [Rk,Ww,kD,List.map_id'] using this
section
variable {v w:Wd}{ps qs S:Ps}{p:Nat×Nat}{n j:Nat}
structure Ah (v w:Wd) (S:Ps):Prop where
 ag:∀p∈S,∀q∈S,Ad v w p q
 rg:∀p∈S,qI v w p
theorem Ah.sub (h:Ah v w S) (hs:∀p∈ps,p∈S):Ah v w ps:=⟨λp hp q hq=>h.ag p (hs p hp) q (hs q hq),λp hp=>h.rg p (hs p hp)⟩
theorem Ig (g:Good v w ps):ps.Pairwise ju:=g.up.imp λh=>.inl h
theorem Fc (hu:ps.Pairwise ju):Good v w ps↔Ah v w ps:=⟨λg=>⟨g.ag,g.rg⟩,λf=>⟨hu.imp_of_mem fun {a b} ha hb h=>by
 have:=(f.ag a ha b hb).eq
 unfold ju at h
 omega,f.ag,f.rg⟩⟩
theorem rJ (g:Good v w ps):ps.length<=v.m:=by
 have h:=Ri (l₁:=ps.map R7) (l₂:=QG v.m) (RC.mpr (g.up.imp λh=>by omega)) λx hx=>by
  obtain ⟨p,hp,rfl⟩:=QE.mp hx
  exact Ra.mpr (g.rg p hp).1
 simpa using h
abbrev T4 (v w:Wd):List Ps:=told v w 4
theorem xm (t:Pr v w):ps∈T4 v w↔Good v w ps:=by
 rw [uV]
 constructor
 ·rintro ⟨j,_,h⟩;exact ((tK j).mp h).2
 ·intro g;exact ⟨ps.length,Rr (rJ g) t.v4,(tK _).mpr ⟨rfl,g⟩⟩
theorem GS (v w:Wd):∀j,(LG v w j).Nodup
 | 0=>T5 _ _
 | j + 1=>by
  refine Xl.mpr ⟨λah _=>RC.mpr ?_,(GS v w j).imp_of_mem fun {a b} _ _ hab x hx y hy e=>?_⟩
  ·exact (((n_ v.m w.m).filter _).filter _).imp λh e=>h (by simpa using e)
  ·obtain ⟨p,_,rfl⟩:=QE.mp hx
   obtain ⟨q,_,rfl⟩:=QE.mp hy
   exact hab (List.append_inj' e rfl).1
theorem A9 (v w:Wd):∀j,(told v w j).Nodup
 | 0=>T5 _ _
 | j + 1=>Vl.mpr ⟨A9 v w j,GS v w (j + 1),λa ha b hb e=>by
  obtain ⟨i,hi,h⟩:=(uV j).mp ha
  have h1:=(rX i h).1
  have h2:=(rX (j + 1) hb).1
  rw [e] at h1
  omega⟩
def cZ (ps:Ps) (p:Nat×Nat):Ps:=qY (ps++[p])
theorem nj {q:Nat×Nat}:q∈cZ ps p↔q∈ps\/q=p:=by unfold cZ;rw [qp];simp
theorem Mk (t:Pr v w):cZ ps p∈T4 v w↔Ah v w (ps++[p]):=by
 rw [xm t,cZ,Fc (Ez _)]
 exact ⟨λh=>h.sub λq hq=>qp.mpr hq,λh=>h.sub λq hq=>qp.mp hq⟩
def kn (v w:Wd) (B:Ps):List Ps:=(T4 v w).filter λps=>B.all λq=>decide (q∈ps)
theorem jS {B:Ps}:ps∈kn v w B↔ps∈T4 v w/\∀q∈B,q∈ps:=by
 unfold kn
 rw [Rv,Rw]
 simp
def picks (v w:Wd):Ps:=(QG v.m).map (λa=>(0,a))++(QG w.m).map λb=>(1,b)
def kc (v w:Wd) (k:Nat×Nat):Ps:=if k.1=0 then (QG w.m).map λb=>(k.2,b) else (QG v.m).map λa=>(a,k.2)
def RW (v w:Wd) (B ps:Ps):List (List Ps):=(picks v w).map λk=>((kc v w k).map (cZ ps)).filter λx=>decide (x∈kn v w B)
theorem Bp {B:Ps}:∀k∈kn v w B,∀r∈RW v w B k,∀x∈r,x∈kn v w B:=λk _ r hr x hx=>by
 obtain ⟨_,_,rfl⟩:=QE.mp hr
 simpa using (Rv.mp hx).2
theorem Mj {B:Ps}:∀k∈kn v w B,RW v w B k=RW v w [] k:=λk hk=>T6 λa _=>YT λx hx=>by
 obtain ⟨p,_,rfl⟩:=QE.mp hx
 rw [RV,decide_eq_true_eq,decide_eq_true_eq,jS,jS]
 exact ⟨λh=>⟨h.1,λ_ h=>nomatch h⟩,λh=>⟨h.1,λq hq=>nj.mpr (.inl ((jS.mp hk).2 q hq))⟩⟩
def La (v w:Wd) (j:Nat) (ps:Ps):Bool:=LY (RW v w []) j ps
theorem Nk {B:Ps}(h:ps∈kn v w B):LY (RW v w B) j ps=La v w j ps:=wW Bp Mj j ps h
theorem ER:La v w (j + 1) ps=true↔La v w j ps=true/\∀k∈picks v w,∃p∈kc v w k,cZ ps p∈T4 v w/\La v w j (cZ ps p)=true:=by
 show LY _ (j + 1) ps=true↔_
 rw [uo]
 refine and_congr abD ⟨λh k hk=>?_,λh r hr=>?_⟩
 ·obtain ⟨x,h1,h2⟩:=h _ (QE.mpr ⟨k,hk,rfl⟩)
  obtain ⟨h3,h4⟩:=Rv.mp h1
  obtain ⟨p,h5,rfl⟩:=QE.mp h3
  exact ⟨p,h5,(jS.mp (of_decide_eq_true h4)).1,h2⟩
 ·obtain ⟨k,hk,rfl⟩:=QE.mp hr
  obtain ⟨p,h1,h2,h3⟩:=h k hk
  exact ⟨_,Rv.mpr ⟨QE.mpr ⟨p,h1,rfl⟩,decide_eq_true (jS.mpr ⟨h2,λ_ h=>nomatch h⟩)⟩,h3⟩
end
end K33
namespace K33
open PySem DL K01 WP K51 K52 K55 K23 K22
section
variable {α:Type} [DecidableEq α] {e:α->D}{f:α->D}{ks:List α}{k:α}{d:D}
theorem pJ (he:∀a b,bw (e a) (e b)=decide (a=b)) (f:α->D):∀(ks:List α) (k:α),ia (ks.map e) (ks.map f) (e k)=if k∈ks then some (f k) else none
 | [],_=>rfl
 | a::ks,k=>by
  rw [Q5,Q5,ia,he,pJ he f ks k]
  by_cases h:a=k
  ·subst h;simp
  ·rw [if_neg (by simpa using h)]
   simp [S8 h]
theorem AW (he:∀a b,bw (e a) (e b)=decide (a=b)) (f:α->D) (k:α) (d:D):∀ks:List α,uQ (ks.map e) (ks.map f) (e k) d=ks.map λx=>if x=k then d else f x
 | []=>rfl
 | a::ks=>by
  rw [Q5,Q5,uQ,he,AW he f k d ks,Q5]
  simp only [decide_eq_true_eq]
theorem E6 (he:∀a b,bw (e a) (e b)=decide (a=b)) (hk:k∈ks):dput (ks.map e,ks.map f) (e k) d=(ks.map e,ks.map λx=>if x=k then d else f x):=by
 unfold dput
 simp only
 rw [pJ he,if_pos hk,AW he]
 rfl
theorem uD (he:∀a b,bw (e a) (e b)=decide (a=b)) (f:α->D):∀(n:Nat) (ks:List α),ks.length=n->ks.Nodup->iR (ks.map λk=>D.tup [e k,f k])=(ks.map e,ks.map f)
 | 0,ks,h,_=>by rw [S7.mp h];rfl
 | n + 1,ks,h,nd=>by
  rcases Tq ks with rfl | ⟨qs,p,rfl⟩
  ·cases h
  ·rw [Tr] at h nd ⊢
   have nd':=Vl.mp nd
   have hp:p∉qs:=λhq=>nd'.2.2 p hq p (by simp) rfl
   rw [Rg,Rg,Rg,Q5,Uj,nO,uD he f n qs (by simpa using h) nd'.1]
   unfold dput
   simp only
   rw [pJ he,if_neg hp]
   rfl
end
theorem iE (a b:Ps):bw (a_ a) (a_ b)=decide (a=b):=by
 show cj (a.map dP) (b.map dP)=_
 induction a generalizing b with
 | nil=>cases b <;> simp [cj]
 | cons x a ih=>
  cases b with
  | nil=>simp [cj]
  | cons y b=>rw [Q5,Q5,gY,ih,K55.vg,RV];simp
theorem Kv {m:Md}(p:Ps) (L:List Ps) (x:R) (hx:iB x=.ok (L.map a_)):jt false (.d (a_ p)) x=.ok (.d (.bl (decide (p∈L)))):=by
 have h1:∀q:Ps,dep (a_ q)<=60:=Ej
 unfold jt
 rw [hx,aQ,if_pos ⟨fj λd hd=>by obtain ⟨q,_,rfl⟩:=QE.mp hd;exact h1 q,h1 p⟩]
 have:inD (a_ p) (L.map a_)=decide (p∈L):=by
  unfold inD
  rw [V7,RV,SS,decide_eq_true_eq]
  simp only [Ww,iE,decide_eq_true_eq]
  exact ⟨λ⟨x,h,e⟩=>e▸h,λh=>⟨p,h,rfl⟩⟩
 show M.ok (R.d (.bl (inD (a_ p) (L.map a_))))=_
 rw [this]
theorem GN (ps:Ps) (hl:ps.length < 64):gw [.d (a_ ps)]=.ok (.d (a_ (qY ps))):=by
 refine cD (fH (dh (b:=false) rfl rfl rfl) (bR (n1 (n1 (x:=.d (a_ ps)) (z:=.l .fresh (cS (ps.map dP))) rfl (Gx ps hl)) rfl) rfl ?_))
 rw [<-t8]
theorem LQ {ps:Ps}(h:ps.Pairwise ju):qY ps=ps:=Mi (Ez ps) h λ_=>qp
theorem Dl (ps:Ps) (p:Nat×Nat) (hl:ps.length < 63):dO (.d (a_ ps)) (.d (.tup [dP p]))=.ok (.d (a_ (ps++[p]))):=by
 rw [a_,t_ _ _ (by simp;omega),a_,Rg];rfl
theorem Ae (ps:Ps) (p:Nat×Nat) (hl:ps.length < 63):kP [.d (a_ ps),.d (dP p)]=.ok (.d (a_ (cZ ps p))):=
 cD (bR (c1 (two rfl (bu (aF rfl rfl bf) (by show 1<=1000;decide)) (Dl ps p hl)) (GN _ (by simp;omega))) rfl rfl)
theorem JI (ps:Ps) (p:Nat×Nat) (hl:ps.length < 63):kg [.d (a_ ps),.d (dP p)]=.ok (.d (a_ (cZ ps p))):=by
 refine cD (bR (n1 (n1 (two rfl (bu (aF rfl rfl bf) (by show 1<=1000;decide)) (Dl ps p hl)) (Gx _ (by simp;omega))) rfl) rfl ?_)
 rw [<-t8];rfl
section
variable {v w:Wd}
theorem EM (hv:v.m<=1000) (hw:w.m<=1000) (s x:Nat):eE [.d v.d,.d w.d,.d (.int s),.d (.int x)]=.ok (.l .fresh ((kc v w (s,x)).map dP)):=by
 have hb:fE false (.d (.int (s:Int))) (.d (.int 0))=.ok (.d (.bl (decide (s=0)))):=by
  rw [K01.eq_int]
  congr 3
  rw [RV];simp
 unfold kc
 by_cases h:s=0
 ·rw [if_pos h,Rk]
  exact cD (cG (jk (dh rfl rfl (hb.trans (by rw [decide_eq_true h]))) (bR (jY (λb=>dP (x,b)) (iN (c_ (two rfl rfl (eV _ _))) hw) (by simp;omega) λb _=>⟨_,bu (aF rfl rfl (aF rfl rfl bf)) t2,rfl⟩) rfl rfl)))
 ·rw [if_neg h,Rk]
  exact cD (fH (dh rfl rfl (hb.trans (by rw [decide_eq_false h]))) (bR (jY (λa=>dP (a,x)) (iN (c_ (two rfl rfl (eV _ _))) hv) (by simp;omega) λb _=>⟨_,bu (aF rfl rfl (aF rfl rfl bf)) t2,rfl⟩) rfl rfl))
theorem Hz (hv:v.m<=1000) (hw:w.m<=1000):lP [.d v.d,.d w.d]=.ok (.l .fresh ((picks v w).map dP)):=by
 refine cD (bR (two (jY (λa=>dP (0,a)) (iN (c_ (two rfl rfl (eV _ _))) hv) (by simp;omega) λb _=>⟨_,bu (aF rfl rfl (aF rfl rfl bf)) t2,rfl⟩) (jY (λa=>dP (1,a)) (iN (c_ (two rfl rfl (eV _ _))) hw) (by simp;omega) λb _=>⟨_,bu (aF rfl rfl (aF rfl rfl bf)) t2,rfl⟩) (z:=.l .fresh ((picks v w).map dP)) ?_) rfl rfl)
 unfold picks
 rw [Rg,Rk,Rk]
 show (if _<=sizeLine then _ else M.bad)=_
 rw [if_pos (by rw [RI];simp;omega)]
 rfl
end
section
variable {α:Type} [DecidableEq α] {e f:α->D}{ks:List α}{k:α}{env:Ev}
theorem Na {act:Ev->M (List D×Ev)}{h f:α->D}{rest:Ev}:∀(ys:List α),(∀y∈ys,act (some (.d (h y))::rest)=.ok ([f y],some (.d (h y))::rest))->∀z:Option S,∃z',bW (aD 0) cA act (ys.map h) (z::rest)=.ok (ys.map f,z'::rest)
 | [],_,z=>⟨z,rfl⟩
 | y::ys,H,z=>by
  obtain ⟨z',ih⟩:=Na ys (λy hy=>H y (QF _ hy)) (some (.d (h y)))
  refine ⟨z',?_⟩
  rw [Q5]
  unfold bW
  show (act (some (.d (h y))::rest) >>= _)=_
  rw [H y QH,aQ]
  show (bW (aD 0) cA act (ys.map h) (some (.d (h y))::rest) >>= _)=_
  rw [ih]
  rfl
theorem ye {cap:List Nat}{gi:G (List D)}{gk gv:G R}(he:∀a b,bw (e a) (e b)=decide (a=b)) (nd:ks.Nodup) (hi:gi env=.ok (ks.map e)) (hl:ks.length<=1000000)
  (hb:∀k∈ks,dR (e k)=true/\gk (some (.d (e k))::cE 0 cap env)=.ok (.d (e k))/\∃r,gv (some (.d (e k))::cE 0 cap env)=.ok r/\toD r=.ok (f k)):iS 1 cap gi (aD 0) cA gk gv env=.ok (.mf (ks.map e) (ks.map f)):=by
 obtain ⟨z,h⟩:=Na (act:=rB gk gv) (h:=e) (f:=λk=>.tup [e k,f k]) (rest:=cE 0 cap env) ks (λk hk=>by
  obtain ⟨h1,h2,r,h3,h4⟩:=hb k hk
  exact uv h2 rfl h3 h4 h1) none
 unfold iS jj
 rw [hi,aQ,if_pos (by rw [QA];exact hl)]
 show (bW (aD 0) cA (rB gk gv) (ks.map e) (none::cE 0 cap env) >>= _)=_
 rw [h]
 show M.ok (R.mf (iR _).1 (iR _).2)=_
 rw [uD he f _ ks rfl nd]
theorem mU (he:∀a b,bw (e a) (e b)=decide (a=b)){x:R}(hx:uZ x=some (ks.map e,ks.map f)) (ok:dR (e k)=true) (hk:k∈ks):ir x (.d (e k))=.ok (.d (f k)):=by
 unfold ir
 rw [hx]
 simp only
 rw [if_pos ok,pJ he,if_pos hk]
theorem AH (he:∀a b,bw (e a) (e b)=decide (a=b)){x:R}(hx:uZ x=some (ks.map e,ks.map f)) (ok:dR (e k)=true){q:Decidable (k∈ks)}:nT false (.d (e k)) x=.ok (.d (.bl (@decide (k∈ks) q))):=by
 unfold nT
 rw [hx]
 simp only
 rw [if_pos ok,pJ he]
 by_cases h:k∈ks <;> simp [h]
end
theorem anyM {α:Type}(f:α->Bool) (xs:List α):uE [.l .fresh (xs.map λx=>.bl (f x))]=.ok (.d (.bl (xs.any f))):=by
 have:=uy (λd=>match d with
  | .bl b=>b
  | _=>false) (xs.map λx=>.bl (f x))
 rw [Rk,Rk] at this
 unfold uE
 show (match jK (xs.map λx=>.bl (f x)) with
  | some ks=>M.ok (R.d (.bl (ks.any id)))
  | none=>.bad)=_
 rw [show jK (xs.map λx=>.bl (f x))=some (xs.map f) from this]
 simp [V7]
section
variable {v w:Wd}
abbrev pT (r:List Ps):D:=.lst (r.map a_)
theorem Mf (t:Pr v w) (ks:List Ps) (ps:Ps) (hl:ps.length < 63):lN [.d v.d,.d w.d,.d (a_ ps),.db (ks.map a_) (ks.map λ_=>.bl true)]=.ok (.l .fresh (((picks v w).map λk=>((kc v w k).map (cZ ps)).filter λx=>decide (x∈ks)).map pT)):=by
 have v4:=t.v4
 have w4:=t.w4
 have hg:kJ 2 [0,1,2] (cu (ao (g2 aW (af 0) (gC (.int 0))) aC)) (aD 0) cA (pe (gN (aS 4 K33.eE) (ao (af 2) (ao (af 3) (ao (gC (.int 0)) (ao (af 0) aC)))))) (aD 1) cA (af 1) (gN (aS 2 K33.kP) (ao (af 4) (ao (af 1) aC)))
   [some (.d v.d),some (.d w.d),some (.d (a_ ps)),some (.db (ks.map a_) (ks.map λ_=>.bl true)),none]=.ok (.d (.dct ((dZ v.m w.m).map dP) ((dZ v.m w.m).map λq=>a_ (cZ ps q)))):=by
  refine (wZ (xs:=QG v.m) (h:=dN) (h':=dP) (λa=>(QG w.m).map λb=>(a,b)) (λ_ _=>true) (λ_ q=>.tup [dP q,a_ (cZ ps q)]) (iN (c_ (two rfl rfl (eV _ _))) (by omega)) (by simp;omega) λa ha=>⟨by simp;omega,λz=>?_,λq hq=>⟨rfl,λ_=>uv rfl rfl (c2 rfl rfl (Ae ps q hl)) rfl rfl⟩⟩).trans ?_
  ·show (gN _ _ _ >>= _)=_
   rw [c4 rfl rfl rfl rfl (EM (v:=v) (w:=w) (by omega) (by omega) 0 a)]
   rfl
  ·have e:((QG v.m).flatMap λa=>(((QG w.m).map λb=>(a,b)).filter λ_=>true).map λq=>D.tup [dP q,a_ (cZ ps q)])=(dZ v.m w.m).map λq=>D.tup [dP q,a_ (cZ ps q)]:=by
    unfold dZ
    rw [VD]
    congr 1
    funext a
    rw [V1.mpr λ_ _=>rfl]
   rw [e]
   show M.ok (R.d (.dct (iR _).1 (iR _).2))=_
   rw [uD K55.vg _ _ _ rfl (n_ v.m w.m)]
 refine cD (bA hg rfl (bR (lT (xs:=picks v w) (λk=>dN k.1) (λk=>dN k.2) (λk=>pT (((kc v w k).map (cZ ps)).filter λx=>decide (x∈ks))) ?_ (by unfold picks;simp;omega) λk hk=>?_) rfl (by rw [Rk];rfl)))
 ·show (gN _ _ _ >>= _)=_
  rw [c2 rfl rfl (Hz (v:=v) (w:=w) (by omega) (by omega))]
  rfl
 ·have hin:∀q∈kc v w k,q∈dZ v.m w.m:=λq hq=>by
   rw [nZ]
   have hk:(k.1=0/\k.2 < v.m)\/(k.1≠0/\k.2 < w.m):=by
    unfold picks at hk
    simp only [Rt,QE,Ra] at hk
    rcases hk with ⟨a,h,rfl⟩ | ⟨a,h,rfl⟩
    ·exact .inl ⟨rfl,h⟩
    ·exact .inr ⟨Nat.one_ne_zero,h⟩
   unfold kc at hq
   rcases hk with ⟨h1,h2⟩ | ⟨h1,h2⟩
   ·rw [if_pos h1] at hq
    obtain ⟨b,hb,rfl⟩:=QE.mp hq
    exact ⟨h2,Ra.mp hb⟩
   ·rw [if_neg h1] at hq
    obtain ⟨b,hb,rfl⟩:=QE.mp hq
    exact ⟨Ra.mp hb,h2⟩
  refine ⟨.l .fresh (((((kc v w k).map (cZ ps)).filter λx=>decide (x∈ks))).map a_),?_,rfl⟩
  rw [ZI,Rk]
  refine kj (xs:=kc v w k) (h:=dP) (λq=>decide (cZ ps q∈ks)) (λq=>a_ (cZ ps q)) ?_ (by unfold kc;split <;> simp <;> omega) λq hq=>?_
  ·show (gN _ _ _ >>= _)=_
   rw [c4 rfl rfl rfl rfl (EM (v:=v) (w:=w) (by omega) (by omega) k.1 k.2)]
   rfl
  ·have hd:=mU (e:=dP) (f:=λq=>a_ (cZ ps q)) K55.vg (x:=.d (.dct ((dZ v.m w.m).map dP) ((dZ v.m w.m).map λq=>a_ (cZ ps q)))) rfl (k:=q) rfl (hin q hq)
   exact ⟨dh (two rfl rfl hd) rfl (AH (ks:=ks) (f:=λ_=>.bl true) iE (x:=.mb (ks.map a_) (ks.map λ_=>.bl true)) rfl (iC (cZ ps q))),λ_=>⟨_,two rfl rfl hd,rfl⟩⟩
end
def dV:Option Nat->D
 | none=>.non
 | some e=>.int e
theorem BU (o:Option Nat):sM false (.d (dV o)) (.d .non)=.ok (.d (.bl o.isNone)):=by cases o <;> rfl
theorem HC (rs:List (List Ps)) (ks:List Ps) (f:Ps->Option Nat) (h:∀r∈rs,∀x∈r,x∈ks) (h1:rs.length<=1000) (h2:∀r∈rs,r.length<=1000):dJ [.d (.lst (rs.map pT)),.db (ks.map a_) (ks.map λk=>dV (f k))]=.ok (.d (.bl (rs.all λr=>r.any λx=>(f x).isNone))):=by
 refine cD (bR (n1 (jY (xs:=rs) (h:=pT) (λr=>.bl (r.any λx=>(f x).isNone)) rfl (by omega) λr hr=>⟨_,n1 (jY (xs:=r) (h:=a_) (λx=>.bl (f x).isNone) rfl (by have:=h2 r hr;omega) λx hx=>⟨_,two (two rfl rfl (mU (f:=λk=>dV (f k)) iE rfl (iC x) (h r hr x hx))) rfl (BU (f x)),rfl⟩) (anyM _ r),rfl⟩) (allM _ rs)) rfl rfl)
theorem part {κ:Type}{p q:κ->Bool}(h:∀k,q k=true->p k=true):∀l:List κ,(l.filter p).length=(l.filter q).length + (l.filter λk=>p k && !q k).length
 | []=>rfl
 | a::l=>by
  have ih:=part h l
  cases hq:q a with
  | true=>simp [h a hq,hq];omega
  | false=>cases hp:p a <;> simp [hp,hq] <;> omega
abbrev vS (rows:Ps->List (List Ps)) (k:Ps):D:=.lst ((rows k).map pT)
abbrev eP (ks:List Ps) (rows:Ps->List (List Ps)) (f:Ps->Option Nat) (d:Nat) (g z:Option S):Ev:=[some (.db (ks.map a_) (ks.map (vS rows))),some (.fn "answered_still"),some (.dk (ks.map a_) (ks.map λk=>dV (f k))),some (.d (.int d)),g,z]
section
variable {ks:List Ps}{rows:Ps->List (List Ps)}
theorem EL (nd:ks.Nodup) (hl:ks.length<=390000) (hc:∀k∈ks,∀r∈rows k,∀x∈r,x∈ks) (h1:∀k∈ks,(rows k).length<=1000) (h2:∀k∈ks,∀r∈rows k,r.length<=1000):
  ∃d,mP [.db (ks.map a_) (ks.map (vS rows)),.fn "answered_still"]=.ok (.mf (ks.map a_) (ks.map λk=>dV (dA rows d k)))/\∀k∈ks,LY rows d k=true->LY rows (d + 1) k=true:=by
 have st:∀d k,k∈ks->dJ [.d (vS rows k),.db (ks.map a_) (ks.map λk=>dV (dA rows d k))]=.ok (.d (.bl ((rows k).all λr=>r.any (LY rows d)))):=λd k hk=>by
  rw [HC (rows k) ks (dA rows d) (hc k hk) (h1 k hk) (h2 k hk)]
  congr 4
  funext r
  congr 1
  funext x
  rw [RV,Option.isNone_iff_eq_none,jB]
 have dx:∀k∈ks,∀x:R,uZ x=some (ks.map a_,ks.map (vS rows))->ir x (.d (a_ k))=.ok (.d (vS rows k)):=λk hk x hx=>mU iE hx (iC k) hk
 have key:Wp (uK (bq Aj [.db (ks.map a_) (ks.map (vS rows)),.fn "answered_still"])) λo=>∃r,o=.rt r/\∃d,r=.mf (ks.map a_) (ks.map λk=>dV (dA rows d k))/\∀k∈ks,LY rows d k=true->LY rows (d + 1) k=true:=by
  refine bA (ye (e:=a_) (f:=λk=>dV (dA rows 0 k)) (ks:=ks) iE nd rfl (by omega) λk hk=>⟨iC k,rfl,_,rfl,by rw [jB.mpr rfl];rfl⟩) rfl (bA rfl rfl (bA (kj (xs:=ks) (h:=a_) (λk=>LY rows 0 k && !LY rows 1 k) a_ rfl (by omega) λk hk=>⟨?_,λ_=>⟨_,rfl,rfl⟩⟩) rfl ?_))
  ·refine qq (b:=LY rows 1 k) (oF ?_)
   exact (c2 (two rfl rfl (dx k hk _ rfl)) rfl (st 0 k hk)).trans rfl
  ·refine Jp (λn env=>∃d z,env=eP ks rows (dA rows d) (d + 1) (some (.own ((ks.filter λk=>LY rows d k && !LY rows (d + 1) k).map a_))) z/\n=(ks.filter (LY rows d)).length) (ks.filter (LY rows 0)).length (by have:=RG (LY rows 0) ks;omega) ⟨0,none,rfl,rfl⟩ ?_
   rintro n _ ⟨d,z,rfl,rfl⟩
   obtain ⟨g,hg⟩:∃g,g=ks.filter λk=>LY rows d k && !LY rows (d + 1) k:=⟨_,rfl⟩
   rw [<-hg]
   have hm:∀k,k∈g↔k∈ks/\LY rows d k=true/\LY rows (d + 1) k=false:=λk=>by rw [hg,Rv];simp
   by_cases h0:g=[]
   ·refine .inl ⟨by rw [h0];rfl,bR rfl rfl ⟨_,rfl,d,rfl,λk hk q=>?_⟩⟩
    cases z:LY rows (d + 1) k with
    | true=>rfl
    | false=>have:=(hm k).mpr ⟨hk,q,z⟩;rw [h0] at this;cases this
   ·refine .inr ⟨?_,?_⟩
    ·show M.ok (!(g.map a_).isEmpty)=_
     cases g with
     | nil=>exact absurd rfl h0
     | cons _ _=>rfl
    have Qm:=part (p:=LY rows d) (q:=LY rows (d + 1)) (λk h=>um (Sv d) h) ks
    rw [<-hg] at Qm
    have g0:0 < g.length:=List.length_pos_iff.mpr h0
    refine cG (CC rfl (BW (ds:=g.map a_) rfl (ue (λi env=>∃z,env=eP ks rows (λk=>if k∈g.take i then some (d + 1) else dA rows d k) (d + 1) (some (.d (.lst (g.map a_)))) z) (g.map a_) ⟨z,by simp⟩ ?_ ?_)))
    ·rintro i hi _ ⟨z,rfl⟩
     have hi':i < g.length:=by simpa using hi
     have e:(g.map a_)[i]=a_ g[i]:=WT ..
     have hk:g[i]∈ks:=((hm _).mp (Sg hi')).1
     rw [e]
     have ev:dput (ks.map a_,ks.map λk=>dV (if k∈g.take i then some (d + 1) else dA rows d k)) (a_ g[i]) (.int ((d + 1:Nat):Int))=(ks.map a_,ks.map λk=>dV (if k∈g.take (i + 1) then some (d + 1) else dA rows d k)):=by
      rw [E6 iE hk,XH,QS hi']
      congr 1
      refine T6 λk _=>?_
      simp only [Rt,Option.toList_some,Q6]
      by_cases c:k=g[i]
      ·rw [if_pos c,if_pos (.inr c)];rfl
      ·simp only [c,if_false,or_false]
     exact ⟨_,rfl,Mv (ks:=ks.map a_) (vs:=ks.map λk=>dV (if k∈g.take i then some (d + 1) else dA rows d k)) rfl rfl rfl rfl rfl (iC g[i]) (by rw [QA];omega) ⟨_,rfl,some (.d (a_ g[i])),by rw [ev];rfl⟩⟩
    ·rintro _ ⟨z,rfl⟩
     have ev:(ks.map λk=>dV (if k∈g.take (g.map a_).length then some (d + 1) else dA rows d k))=ks.map λk=>dV (dA rows (d + 1) k):=T6 λk hk=>by
      rw [QA,WS,HX]
      congr 1
      by_cases c:k∈g
      ·rw [if_pos c,if_pos (by obtain ⟨_,a,b⟩:=(hm k).mp c;rw [a,b];rfl)]
      ·rw [if_neg c,if_neg λz=>c ((hm k).mpr ⟨hk,by simpa using z⟩)]
     show Wp _ _
     unfold eP
     rw [ev]
     refine cG (Mt rfl rfl rfl rfl (gj (kj (xs:=ks) (h:=a_) (λk=>LY rows (d + 1) k && !LY rows (d + 1 + 1) k) a_ rfl (by omega) λk hk=>⟨?_,λ_=>⟨_,rfl,rfl⟩⟩) rfl ⟨(ks.filter (LY rows (d + 1))).length,by omega,d + 1,z,rfl,rfl⟩))
     have q1:=mU (f:=λk=>dV (dA rows (d + 1) k)) (ks:=ks) (k:=k) (e:=a_) iE (x:=.mo (ks.map a_) (ks.map λk=>dV (dA rows (d + 1) k))) rfl (iC k) hk
     cases c:LY rows (d + 1) k with
     | false=>
      refine sC (dh (two rfl rfl q1) rfl ((BU _).trans ?_))
      cases z:dA rows (d + 1) k with
      | none=>rw [jB.mp z] at c;cases c
      | some _=>rfl
     | true=>
      rw [jB.mpr c] at q1
      refine qd (dh (two rfl rfl q1) rfl (BU none)) (qq (b:=LY rows (d + 1 + 1) k) (oF ((c2 (two rfl rfl (dx k hk _ rfl)) rfl (st (d + 1) k hk)).trans ?_)))
      show M.ok (R.d (.bl _))=M.ok (R.d (.bl (LY rows (d + 1) k && _)))
      rw [c];rfl
 obtain ⟨r,h,d,rfl,hs⟩:=oG key
 exact ⟨d,h,hs⟩
end
section
variable {v w:Wd}{B:Ps}
theorem Br (t:Pr v w):(T4 v w).length<=327680:=rS t 4 (QL _)
theorem M_ (t:Pr v w){ps:Ps}(h:ps∈T4 v w):ps.length<=4:=Rr (rJ ((xm t).mp h)) t.v4
theorem HB (t:Pr v w) (hB:B.length<=100):gU [.d v.d,.d w.d,.d (a_ B)]=.ok (.l .fresh ((kn v w B).map a_)):=by
 have tl:=Br t
 refine cD (bR (kj (xs:=T4 v w) (h:=a_) (λps=>B.all λq=>decide (q∈ps)) a_ ?_ (by omega) λps _=>⟨?_,λ_=>⟨_,rfl,rfl⟩⟩) rfl rfl)
 ·show (gN _ _ _ >>= _)=_
  rw [c3 rfl rfl rfl (Bd t 4 (QL _))]
  rfl
 ·refine zo (n1 (jY (xs:=B) (h:=dP) (λq=>.bl (decide (q∈ps))) rfl (by omega) λq _=>⟨_,two rfl rfl (Ku q ps),by rw [K55.Nb];rfl⟩) (allM _ B))
theorem JE (t:Pr v w) (hB:B.length<=100):∃f:Ps->Option Nat,dM [.d v.d,.d w.d,.d (a_ B)]=.ok (.mf ((kn v w B).map a_) ((kn v w B).map λk=>dV (f k)))/\∀j,∀k∈kn v w B,vA (f k) j=La v w j k:=by
 have v4:=t.v4
 have w4:=t.w4
 have tl:=Br t
 have kl:(kn v w B).length<=(T4 v w).length:=RG _ _
 have nd:(kn v w B).Nodup:=(A9 v w 4).filter _
 have pl:(picks v w).length<=8:=by unfold picks;simp;omega
 obtain ⟨d,h1,h2⟩:=EL (ks:=kn v w B) (rows:=RW v w B) nd (by omega) Bp (λk _=>by unfold RW;rw [QA];omega) (λk _ r hr=>by
  obtain ⟨q,_,rfl⟩:=QE.mp hr
  refine Rr (RG _ _) ?_
  rw [QA]
  unfold kc
  split <;> simp <;> omega)
 refine ⟨dA (RW v w B) d,?_,λj k hk=>(Ks λj q=>GF Bp h2 j k hk q).trans (Nk hk)⟩
 refine cD (bA (ye (e:=a_) (f:=λ_=>.bl true) (ks:=kn v w B) iE nd ?_ (by omega) λk hk=>⟨iC k,rfl,_,rfl,rfl⟩) rfl (bA (ye (e:=a_) (f:=vS (RW v w B)) (ks:=kn v w B) iE nd rfl (by omega) λk hk=>⟨iC k,rfl,_,c4 rfl rfl rfl rfl (Mf t (kn v w B) k (by have:=M_ t (jS.mp hk).1;omega)),rfl⟩) rfl (bR (r:=.mf ((kn v w B).map a_) ((kn v w B).map λk=>dV (dA (RW v w B) d k))) ?_ rfl rfl)))
 ·show (gN _ _ _ >>= _)=_
  rw [c3 rfl rfl rfl (HB t hB)]
  rfl
 ·show (match mP [.db ((kn v w B).map a_) ((kn v w B).map (vS (RW v w B))),.fn "answered_still"] with
   | .ok r=>M.ok (ji r)
   | _=>.bad)=_
  rw [h1]
  rfl
theorem GL (ks:List Ps) (f:Ps->Option Nat) (p:Ps) (j:Nat):iO [.db (ks.map a_) (ks.map λk=>dV (f k)),.d (a_ p),.d (.int j)]=.ok (.d (.bl (decide (p∈ks) && vA (f p) j))):=by
 have hi:=AH (ks:=ks) (f:=λk=>dV (f k)) iE (x:=.mb (ks.map a_) (ks.map λk=>dV (f k))) rfl (iC p) (q:=inferInstance)
 refine cD (bR (r:=.d (.bl (decide (p∈ks) && vA (f p) j))) ?_ rfl rfl)
 unfold qi
 rw [show g2 (nT false) (af 1) (af 0) (bq uX [.db (ks.map a_) (ks.map λk=>dV (f k)),.d (a_ p),.d (.int j)])=_ from two rfl rfl hi,aQ]
 by_cases h:p∈ks
 ·rw [decide_eq_true h]
  have hd:=mU (ks:=ks) (f:=λk=>dV (f k)) iE (x:=.mb (ks.map a_) (ks.map λk=>dV (f k))) rfl (iC p) h
  show pg _ _ _=M.ok (R.d (.bl (vA (f p) j)))
  cases q:f p with
  | none=>rw [q] at hd;exact AQ (two (two rfl rfl hd) rfl rfl)
  | some e=>
   rw [q] at hd
   refine D6 (two (two rfl rfl hd) rfl rfl) (two (two rfl rfl hd) rfl ?_)
   show M.ok (R.d (.bl (decide ((j:Int) < (e:Int)))))=M.ok (R.d (.bl (decide (j < e))))
   rw [show decide ((j:Int) < (e:Int))=decide (j < e) by rw [RV];simp]
 ·rw [decide_eq_false h];rfl
theorem Me (ks:List Ps) (f:Ps->Option Nat) (n:Nat) (hn:n<=100) (hl:ks.length<=1000000):kh [.db (ks.map a_) (ks.map λk=>dV (f k)),.d (.int n)]=.ok (.l .fresh ((QG (n + 1)).map λj=>pT (ks.filter λk=>vA (f k) j))):=by
 refine cD (bR (jY (xs:=QG (n + 1)) (h:=dN) (λj=>pT (ks.filter λk=>vA (f k) j)) (iN (n:=n + 1) (c_ (two rfl rfl rfl)) (by omega)) (by simp;omega) λj _=>⟨_,kj (xs:=ks) (h:=a_) (λk=>vA (f k) j) a_ rfl hl λk hk=>⟨oF ((c3 rfl rfl rfl (GL ks f k j)).trans ?_),λ_=>⟨_,rfl,rfl⟩⟩,rfl⟩) rfl rfl)
 rw [decide_eq_true hk,Uw]
theorem EI (d m:Nat) (hd:d<=m):K55.cX [.d (.int d),.d (.int 0),.d (.int m)]=.ok (.d .non):=by
 refine nG (pI ?_ (jC ⟨_,rfl⟩))
 show (if decide ((d:Int) < 0)=true then M.ok true else M.ok (decide ((m:Int) < d)))=M.ok false
 rw [decide_eq_false (show ¬(d:Int) < 0 by omega),decide_eq_false (show ¬(m:Int) < d by omega)]
 rfl
theorem KS:kn v w []=T4 v w:=V1.mpr λ_ _=>rfl
def j3 (v w:Wd) (j:Nat):D:=pT ((T4 v w).filter (La v w j))
theorem EJ (t:Pr v w) (n:Nat) (hn:n<=6):qb [.d v.d,.d w.d,.d (.int n)]=.ok (.l .fresh ((QG (n + 1)).map (j3 v w))):=by
 obtain ⟨f,h1,h2⟩:=JE (B:=[]) t (Rl _)
 rw [KS] at h1 h2
 refine cD (gX (c2 rfl rfl (ug t)) (gX (c3 rfl rfl rfl (EI n 6 hn)) (bR (c2 (c3 rfl rfl (bu bf (by decide)) h1) rfl (Me (T4 v w) f n (by omega) (by have:=Br t;omega))) rfl ?_)))
 show O.rt (.l .fresh _)=_
 congr 2
 refine T6 λj _=>?_
 unfold j3
 rw [YT λk hk=>h2 j k hk]
def fT (v w:Wd) (s:Nat):Nat:=if s=0 then w.m else v.m
def mk (s x b:Nat):Nat×Nat:=if s=0 then (x,b) else (b,x)
theorem Ho (s x:Nat):kc v w (s,x)=(QG (fT v w s)).map (mk s x):=by
 unfold kc fT mk
 by_cases h:s=0 <;> simp [h]
def pL (v w:Wd) (B:Ps) (j s x b:Nat):Bool:=decide (cZ B (mk s x b)∈T4 v w) && La v w j (cZ B (mk s x b))
theorem CG (t:Pr v w) (j s x:Nat) (hj:j<=6) (hs:s<=1) (hx:x < fT v w (1 - s)) (d:D) (hr:gw [.d d]=.ok (.d (a_ B))) (hB:B.length<=60):
  jv [.d v.d,.d w.d,.d (.int j),.d d,.d (.int s),.d (.int x)]=.ok (.l .fresh (((QG (fT v w s)).filter (pL v w B j s x)).map dN)):=by
 have v4:=t.v4
 have w4:=t.w4
 have ho:fT v w s<=4:=by unfold fT;split <;> omega
 obtain ⟨f,h1,h2⟩:=JE (B:=B) t (by omega)
 have hp:jJ [.d (.int x),.d (.int (fT v w (1 - s)))]=.ok (.d .non):=by
  refine nG (pI (qq (b:=true) (oF ((c2 rfl rfl (HA (.int x) (fT v w (1 - s)))).trans ?_))) (jC ⟨_,rfl⟩))
  show M.ok (R.d (.bl (decide ((0:Int)<=x) && decide ((x:Int) < fT v w (1 - s)))))=_
  rw [decide_eq_true (by omega),decide_eq_true (by omega)]
  rfl
 have hix:∀env:Ev,af 0 env=.ok (.d v.d)->af 1 env=.ok (.d w.d)->af 4 env=.ok (.d (.int s))->g2 aW (g2 aW (bz (aA (af 0) (aA (af 1) aT))) (af 4)) (gC (.int 0)) env=.ok (.d (.int (fT v w (1 - s)))):=λenv e0 e1 e4=>by
  have e:=bu (aF e0 rfl (aF e1 rfl bf)) t2
  match s,hs with
  | 0,_=>exact two (two e e4 (eV _ _)) rfl (eV _ _)
  | 1,_=>exact two (two e e4 (vB _ _ _)) rfl (eV _ _)
 refine cD (gX (c2 rfl rfl (ug t)) (gX (c3 rfl rfl rfl (EI j 6 hj)) (gX (c3 rfl rfl rfl (EI s 1 hs)) (gX (c2 rfl (hix _ rfl rfl rfl) hp) (bA (c1 rfl hr) rfl (bA (c3 rfl rfl rfl h1) rfl (bA (c4 rfl rfl rfl rfl (EM (v:=v) (w:=w) (by omega) (by omega) s x)) rfl (bR (r:=.l .fresh (((QG (fT v w s)).filter (pL v w B j s x)).map dN)) ?_ rfl rfl))))))))
 rw [Ho,Rk]
 refine kj (xs:=QG (fT v w s)) (h:=λb=>dP (mk s x b)) (pL v w B j s x) dN rfl (by simp;omega) λb hb=>⟨oF ((c3 rfl (c2 rfl rfl (Ae B (mk s x b) (by omega))) rfl (GL (kn v w B) f (cZ B (mk s x b)) j)).trans ?_),λ_=>⟨.d (dN b),?_,rfl⟩⟩
 ·unfold pL
  by_cases h:cZ B (mk s x b)∈T4 v w
  ·have hk:cZ B (mk s x b)∈kn v w B:=jS.mpr ⟨h,λq hq=>nj.mpr (.inl hq)⟩
   rw [decide_eq_true hk,decide_eq_true h,h2 j _ hk]
  ·rw [decide_eq_false h,decide_eq_false λz=>h (jS.mp z).1]
   rfl
 ·match s,hs with
  | 0,_=>exact two rfl rfl (vB _ _ _)
  | 1,_=>exact two rfl rfl (eV _ _)
end
end K33
namespace K33
open PySem DL K01 WP K51 K52 K55 K23
section
variable {v w:Wd}{ps qs:Ps}{n j:Nat}
def sd (s:Nat) (p:Nat×Nat):Nat:=if s=0 then p.1 else p.2
theorem MQ {k p:Nat×Nat}(h:p∈kc v w k):sd k.1 p=k.2:=by
 unfold kc at h
 unfold sd
 split at h <;> rename_i c <;> obtain ⟨b,_,rfl⟩:=QE.mp h
 ·rw [if_pos c]
 ·rw [if_neg c]
theorem chain (t:Pr v w) (s:Nat):∀(xs:List Nat) (n:Nat) (ps:Ps),(∀x∈xs,(s,x)∈picks v w)->Good v w ps->xs.length<=n->La v w n ps=true->∃qs,Good v w qs/\(∀p∈ps,p∈qs)/\∀x∈xs,∃p∈qs,sd s p=x
 | [],_,ps,_,g,_,_=>⟨ps,g,λ_ h=>h,λ_ h=>nomatch h⟩
 | x::xs,0,_,_,_,h,_=>nomatch h
 | x::xs,n + 1,ps,hx,g,hl,h=>by
  obtain ⟨p,h1,h2,h3⟩:=(ER.mp h).2 _ (hx x QH)
  obtain ⟨qs,a,b,c⟩:=chain t s xs n (cZ ps p) (λy hy=>hx y (QF _ hy)) ((xm t).mp h2) (by simpa using hl) h3
  refine ⟨qs,a,λq hq=>b q (nj.mpr (.inl hq)),λy hy=>?_⟩
  rcases Q3.mp hy with rfl | hy
  ·exact ⟨p,b p (nj.mpr (.inr rfl)),MQ h1⟩
  ·exact c y hy
theorem cover {l:List Nat}{m:Nat}(nd:l.Nodup) (h:∀x∈l,x < m) (hm:m<=l.length):∀b,b < m->b∈l:=λb hb=>Sb λz=>by
 have:=Ri (l₁:=b::l) (l₂:=QG m) (Ss.mpr ⟨z,nd⟩) λx hx=>by
  rcases Q3.mp hx with rfl | hx
  ·exact Ra.mpr hb
  ·exact Ra.mpr (h x hx)
 simp at this
 omega
theorem many {s m:Nat}(h:∀x,x < m->∃p∈qs,sd s p=x):m<=qs.length:=by
 have:=Ri (l₁:=QG m) (l₂:=qs.map (sd s)) SV λx hx=>by
  obtain ⟨p,hp,e⟩:=h x (Ra.mp hx)
  exact QE.mpr ⟨p,hp,e⟩
 simpa using this
structure M6 (v w:Wd) (qs:Ps):Prop where
 g:Good v w qs
 a:∀x,x < v.m->∃p∈qs,p.1=x
 b:∀x,x < w.m->∃p∈qs,p.2=x
theorem KA (t:Pr v w) (g:Good v w ps) (hv:v.m<=n) (hw:w.m<=n) (h:La v w n ps=true):∃qs,M6 v w qs/\∀p∈ps,p∈qs:=by
 by_cases c:w.m<=v.m
 ·obtain ⟨qs,a,b,d⟩:=chain t 0 (QG v.m) n ps (λx hx=>SX _ (QE.mpr ⟨x,hx,rfl⟩)) g (by simpa using hv) h
  have d':∀x,x < v.m->∃p∈qs,p.1=x:=λx hx=>d x (Ra.mpr hx)
  have hl:=many (s:=0) d'
  have nd:(qs.map abl).Nodup:=RC.mpr (a.up.imp_of_mem fun {p q} hp hq hlt e=>by have:=(a.ag p hp q hq).eq;omega)
  refine ⟨qs,⟨a,d',λx hx=>?_⟩,b⟩
  obtain ⟨p,hp,e⟩:=QE.mp (cover nd (λy hy=>by obtain ⟨p,hp,rfl⟩:=QE.mp hy;exact (a.rg p hp).2) (by rw [QA];omega) x hx)
  exact ⟨p,hp,e⟩
 ·obtain ⟨qs,a,b,d⟩:=chain t 1 (QG w.m) n ps (λx hx=>Ry _ (QE.mpr ⟨x,hx,rfl⟩)) g (by simpa using hw) h
  have hl:=many (s:=1) λx hx=>d x (Ra.mpr hx)
  have:=rJ a
  omega
theorem xC (t:Pr v w) (i:M6 v w qs):∀(j:Nat) (ps:Ps),(∀p∈ps,p∈qs)->La v w j ps=true
 | 0,_,_=>rfl
 | j + 1,ps,h=>by
  have add:∀p∈qs,cZ ps p∈T4 v w/\La v w j (cZ ps p)=true:=λp hp=>
   ⟨(Mk t).mpr (Ah.sub ⟨i.g.ag,i.g.rg⟩ λq hq=>by rcases Rt.mp hq with hq | hq;exact h q hq;rw [Q6.mp hq];exact hp),xC t i j _ λq hq=>by rcases nj.mp hq with hq | rfl;exact h q hq;exact hp⟩
  refine ER.mpr ⟨xC t i j ps h,λk hk=>?_⟩
  rcases Rt.mp hk with hk | hk <;> obtain ⟨x,hx,rfl⟩:=QE.mp hk
  ·obtain ⟨p,hp,rfl⟩:=i.a x (Ra.mp hx)
   exact ⟨p,QE.mpr ⟨p.2,Ra.mpr (i.g.rg p hp).2,rfl⟩,add p hp⟩
  ·obtain ⟨p,hp,rfl⟩:=i.b x (Ra.mp hx)
   exact ⟨p,QE.mpr ⟨p.1,Ra.mpr (i.g.rg p hp).1,rfl⟩,add p hp⟩
theorem JK (t:Pr v w) (g:Good v w ps) (hv:v.m<=n) (hw:w.m<=n) (h:La v w n ps=true) (j:Nat):La v w j ps=true:=by
 obtain ⟨qs,i,hs⟩:=KA t g hv hw h
 exact xC t i j ps hs
end
end K33
namespace K33
open PySem DL K01 WP K51 K52 K55 K23 K22
theorem c6 {env:Ev}{F:List S->M R}{g1 g2' g3 g4 g5 g6:G R}{x1 x2 x3 x4 x5 x6 z:R}(h1:g1 env=.ok x1) (h2:g2' env=.ok x2) (h3:g3 env=.ok x3) (h4:g4 env=.ok x4) (h5:g5 env=.ok x5) (h6:g6 env=.ok x6) (hF:F [cQ x1,cQ x2,cQ x3,cQ x4,cQ x5,cQ x6]=.ok z):
  gN (aS 6 F) (ao g1 (ao g2' (ao g3 (ao g4 (ao g5 (ao g6 aC)))))) env=.ok (ji z):=by
 show (ao g1 (ao g2' (ao g3 (ao g4 (ao g5 (ao g6 aC))))) env >>= _)=_
 unfold ao aC
 rw [h1,h2,h3,h4,h5,h6]
 show (match F [cQ x1,cQ x2,cQ x3,cQ x4,cQ x5,cQ x6] with | .ok r=>M.ok (ji r) | _=>M.bad)=_
 rw [hF]
abbrev eL (ns:List Int) (v w:Wd) (d n:Nat) (c:Int) (ps:Ps) (s x:Nat) (a9 a10 a11 a12:Option S):Ev:=[some (.bor (ns.map .int)),some (.d v.d),some (.d w.d),some (.d (.int d)),some (.own ((QG (n + 1)).map (j3 v w))),some (.d (.int c)),some (.d (a_ ps)),some (.d (.int s)),some (.d (.int x)),a9,a10,a11,a12]
theorem nk (i:Int) (m:Nat) (h:0 < m):∃k:Nat,i % (m:Int)=k/\k < m:=by
 obtain ⟨k,hk⟩:=tL (TR i (b:=m) (by omega))
 have:=SQ i (b:=m) (by omega)
 exact ⟨k,hk,by omega⟩
theorem IC (ns:List Int) (h:ns.length<=63):uh [.bor (ns.map .int)]=.ok (.d (.bl true)):=by
 obtain ⟨v,w,hw,t,_⟩:=JF ns [2,3,1,3,2,3,2,4] rfl (by decide)
 have v4:=t.v4
 have w4:=t.w4
 have v1:=t.vo.lo
 have w1:=t.wo.lo
 obtain ⟨d0,hd0,d07⟩:=nk (K51.cP ns 16) 7 (by decide)
 refine cD (tY (c2 rfl (kZ rfl (by show 8<=1000;decide)) hw) rfl rfl (bA (r:=.d (.int (d0:Int))) ((two (c2 rfl rfl (K51.ff ns _ 16 rfl)) rfl (fJ _ 7 (by decide))).trans (by rw [<-hd0];rfl)) rfl ?_))
 refine cG (Wp.mono (P:=λo=>∃d:Nat,d<=6/\o=.nx [some (.bor (ns.map .int)),some (.d v.d),some (.d w.d),some (.d (.int d)),none,none,none,none,none,none,none,none,none]) ?_ ?_)
 ·refine yE (c:=decide ((6:Int) < v.m + w.m)) (dh (two (two rfl rfl (eV _ _)) (two rfl rfl (eV _ _)) rfl) rfl rfl) (λ_=>?_) λ_=>jC ⟨d0,by omega,rfl⟩
  obtain ⟨d1,hd1,d13⟩:=nk d0 3 (by decide)
  exact gj (r:=.d (.int (d1:Int))) ((two rfl rfl (fJ _ 3 (by decide))).trans (by rw [<-hd1];rfl)) rfl ⟨d1,by omega,rfl⟩
 rintro _ ⟨d,d6,rfl⟩
 obtain ⟨n,hn⟩:∃n,n=min (d + 1) 6:=⟨_,rfl⟩
 have n6:n<=6:=by omega
 have dn:d<=n:=by omega
 have c17:=K51.jz ns 17
 have hmin:gN BL (ao (g2 cW (af 3) (gC (.int 1))) (ao (gC (.int 6)) aC)) [some (.bor (ns.map .int)),some (.d v.d),some (.d w.d),some (.d (.int d)),none,none,none,none,none,none,none,none,none]=.ok (.d (.int (n:Int))):=by
  show M.ok (R.d (.int (if (6:Int) < (d:Int) + 1 then 6 else (d:Int) + 1)))=_
  rw [hn]
  congr 3
  split <;> omega
 refine bA (c3 rfl rfl hmin (EJ t n n6)) rfl (bA (c2 rfl rfl (K51.ff ns _ 17 rfl)) rfl ?_)
 obtain ⟨c,hc⟩:∃c,c=K51.cP ns 17:=⟨_,rfl⟩
 rw [<-hc] at c17 ⊢
 have hgood:∀ps:Ps,ps∈T4 v w->Good v w ps:=λps h=>(xm t).mp h
 have ixd:∀j,j<=n->∀m:Md,aW (.l m ((QG (n + 1)).map (j3 v w))) (.d (.int j))=.ok (.d (j3 v w j)):=λj hj m=>qh (by rw [Q_,UO (by omega)];rfl)
 obtain ⟨ps,g,hps,hpl⟩:∃ps:Ps,Good v w ps/\DC (bN (g2 (jO λi j=>.bl (decide (j < i))) (gN gQ (ao (g2 aW (af 4) (af 3)) aC)) (gC (.int 0)))) (g2 aW (g2 aW (af 4) (af 3)) (g2 dH (g2 ig (af 5) (gC (.int 2))) (gN gQ (ao (g2 aW (af 4) (af 3)) aC)))) (bz aT)
   [some (.bor (ns.map .int)),some (.d v.d),some (.d w.d),some (.d (.int d)),some (.own ((QG (n + 1)).map (j3 v w))),some (.d (.int c)),none,none,none,none,none,none,none]=.ok (.d (a_ ps))/\ps.length<=4:=by
  obtain ⟨L,hL⟩:∃L,L=(T4 v w).filter (La v w d):=⟨_,rfl⟩
  have hx:g2 aW (af 4) (af 3) [some (.bor (ns.map .int)),some (.d v.d),some (.d w.d),some (.d (.int d)),some (.own ((QG (n + 1)).map (j3 v w))),some (.d (.int c)),none,none,none,none,none,none,none]=.ok (.d (.lst (L.map a_))):=by rw [hL];exact two rfl rfl (ixd d dn .own)
  have hlen:=n1 (f:=gQ) (z:=.d (.int (L.length:Int))) hx (by show M.ok (R.d (.int ((L.map a_).length:Int)))=_;rw [QA])
  by_cases h0:L.length=0
  ·refine ⟨[],⟨TM,(λ_ h=>nomatch h),(λ_ h=>nomatch h)⟩,?_,Rl _⟩
   unfold DC
   rw [dh (b:=false) hlen rfl (by rw [h0];rfl)]
   rfl
  ·obtain ⟨i,hi,hil⟩:=nk (c / 2) L.length (by omega)
   have hm:L[i]∈T4 v w:=(Rv.mp (by rw [<-hL];exact Sg hil)).1
   refine ⟨L[i],hgood _ hm,?_,M_ t hm⟩
   unfold DC
   rw [dh (b:=true) hlen rfl (by show M.ok (R.d (.bl (decide ((0:Int) < L.length))))=_;rw [decide_eq_true (by omega)])]
   refine two hx (two (two rfl rfl (oE _ 2 (by decide) (by decide))) hlen (fJ _ _ (by omega))) ?_
   rw [hi]
   exact qh (m:=.own) (by rw [Q_,QS hil];rfl)
 obtain ⟨s,hs,hs2⟩:=nk c 2 (by decide)
 obtain ⟨x,hx,Pg⟩:=nk (K51.cP ns 18) (fT v w (1 - s)) (by unfold fT;split <;> omega)
 have ho:fT v w s<=4:=by unfold fT;split <;> omega
 refine bA hps rfl (bA (r:=.d (.int (s:Int))) ((two rfl rfl (fJ _ 2 (by decide))).trans (by rw [<-hs];rfl)) rfl (bA (r:=.d (.int (x:Int))) ?_ rfl (bA (kZ bf (by decide)) rfl ?_)))
 ·have e:g2 aW (g2 aW (bz (aA (af 1) (aA (af 2) aT))) (af 7)) (gC (.int 0)) [some (.bor (ns.map .int)),some (.d v.d),some (.d w.d),some (.d (.int d)),some (.own ((QG (n + 1)).map (j3 v w))),some (.d (.int c)),some (.d (a_ ps)),some (.d (.int s)),none,none,none,none,none]=.ok (.d (.int (fT v w (1 - s)))):=by
   match s,hs2 with
   | 0,_=>exact two (two (bu (aF rfl rfl (aF rfl rfl bf)) t2) rfl (eV _ _)) rfl (eV _ _)
   | 1,_=>exact two (two (bu (aF rfl rfl (aF rfl rfl bf)) t2) rfl (vB _ _ _)) rfl (eV _ _)
  exact (two (c2 rfl rfl (K51.ff ns _ 18 rfl)) e (fJ _ _ (by omega))).trans (by rw [hx])
 have e2:∀a9 a10 a11 a12,g2 aW (g2 aW (bz (aA (af 2) (aA (af 1) aT))) (af 7)) (gC (.int 0)) (eL ns v w d n c ps s x a9 a10 a11 a12)=.ok (.d (.int (fT v w s))):=λ_ _ _ _=>by
  match s,hs2 with
  | 0,_=>exact two (two (bu (aF rfl rfl (aF rfl rfl bf)) t2) rfl (eV _ _)) rfl (eV _ _)
  | 1,_=>exact two (two (bu (aF rfl rfl (aF rfl rfl bf)) t2) rfl (vB _ _ _)) rfl (eV _ _)
 have inl:∀j (p:Ps),jt false (.d (a_ p)) (.d (j3 v w j))=.ok (.d (.bl (decide (p∈T4 v w) && La v w j p))):=λj p=>by
  rw [Kv (m:=.own) p ((T4 v w).filter (La v w j)) (.d (j3 v w j)) rfl]
  congr 3
  rw [RV,decide_eq_true_eq,Rv,QK,decide_eq_true_eq]
 refine mw (iN (c_ (e2 _ _ _ _)) (by omega)) (ue (λk env=>∃z,env=eL ns v w d n c ps s x (some (.own (((QG k).filter (pL v w ps d s x)).map dN))) z none none) ((QG (fT v w s)).map dN) ⟨none,rfl⟩ ?_ ?_)
 ·rintro k hk _ ⟨z,rfl⟩
  have hk':k < fT v w s:=by simpa using hk
  have ek:((QG (fT v w s)).map dN)[k]=dN k:=by simp
  rw [ek]
  have em:g2 aW (bz (aA (bz (aA (af 8) (aA (af 10) aT))) (aA (bz (aA (af 10) (aA (af 8) aT))) aT))) (af 7) (eL ns v w d n c ps s x (some (.own (((QG k).filter (pL v w ps d s x)).map dN))) (some (.d (dN k))) none none)=.ok (.d (dP (mk s x k))):=by
   have e:=bu (env:=eL ns v w d n c ps s x (some (.own (((QG k).filter (pL v w ps d s x)).map dN))) (some (.d (dN k))) none none) (aF (bu (aF (g:=af 8) rfl rfl (aF (g:=af 10) rfl rfl bf)) t2) rfl (aF (bu (aF (g:=af 10) rfl rfl (aF (g:=af 8) rfl rfl bf)) t2) rfl bf)) t2
   match s,hs2 with
   | 0,_=>exact two e rfl (eV _ _)
   | 1,_=>exact two e rfl (vB _ _ _)
  refine ⟨_,rfl,yE (c:=pL v w ps d s x k) (dh (c2 rfl em (JI ps (mk s x k) (by omega))) (two rfl rfl (ixd d dn .own)) (inl d _)) (λq=>qm rfl rfl rfl (by have:=RG (pL v w ps d s x) (QG k);simp at this;simp;omega) ⟨_,rfl,some (.d (dN k)),?_⟩) λq=>jC ⟨_,rfl,some (.d (dN k)),?_⟩⟩
  ·rw [TU,Yv,Rg]
   simp only [Zd,q,if_true,ZK]
   rfl
  ·rw [TU,Yv,Rg]
   simp only [Zd,q,QZ,if_false,ZK,Uj,S_]
   rfl
 ·rintro _ ⟨z,rfl⟩
  rw [QA,Sk]
  obtain ⟨due,OU⟩:∃due,due=(QG (fT v w s)).filter (pL v w ps d s x):=⟨_,rfl⟩
  rw [<-OU]
  have dl:due.length<=4:=by rw [OU];exact Rr (RG _ _) (by simpa using ho)
  have dd:dep (.lst (due.map dN))<=60:=by
   have:deps (due.map dN)<=0:=fj λx hx=>by obtain ⟨q,_,rfl⟩:=QE.mp hx;exact QL _
   show deps (due.map dN) + 1<=60
   omega
  have O7:∀e:D,gw [.d e]=.ok (.d (a_ ps))->jv [.d v.d,.d w.d,.d (.int d),.d e,.d (.int s),.d (.int x)]=.ok (.l .fresh (due.map dN)):=λe he=>by
   rw [OU]
   exact CG t d s x d6 (by omega) Pg e he (by omega)
  have hrs:gw [.d (a_ ps)]=.ok (.d (a_ ps)):=by rw [GN ps (by omega),LQ (Ig g)]
  refine bA rfl rfl (cG (Wp.mono (P:=λo=>∃e:D,gw [.d e]=.ok (.d (a_ ps))/\o=.nx (eL ns v w d n c ps s x (some (.own (due.map dN))) z (some (.d e)) none)) ?_ ?_))
  ·have ep:bN (g2 (fE false) (af 6) (bz aT)) (eL ns v w d n c ps s x (some (.own (due.map dN))) z (some (.d (a_ ps))) none)=.ok (decide (ps=[])):=by
    refine dh rfl (bu bf (by decide)) ?_
    rw [qf false (.d (a_ ps)) (.d (.tup [])) (Ej ps) (by decide)]
    exact congrArg (λb=>M.ok (R.d (D.bl b))) (iE ps [])
   by_cases h0:ps=[]
   ·rw [decide_eq_true h0] at ep
    refine yE (c:=decide (K51.cP ns 19 % 2=1)) (qd ep (dh (two (c2 rfl rfl (K51.ff ns _ 19 rfl)) rfl (fJ _ 2 (by decide))) rfl ?_)) (λ_=>gj rfl rfl ⟨.non,by rw [h0];rfl,rfl⟩) λ_=>jC ⟨_,hrs,rfl⟩
    rw [K01.eq_int]
    congr 3
   ·rw [decide_eq_false h0] at ep
    exact pI (sC ep) (jC ⟨_,hrs,rfl⟩)
  rintro _ ⟨e,he,rfl⟩
  refine bA (c6 rfl rfl rfl rfl rfl rfl (O7 e he)) rfl ?_
  have eqd:∀(neg:Bool) (m m':Md),fE neg (.l m (due.map dN)) (.l m' (due.map dN))=.ok (.d (.bl (!neg))):=λneg m m'=>by
   rw [qf neg (.l m (due.map dN)) (.l m' (due.map dN)) dd dd,show bw (R.dat (.l m (due.map dN))) (R.dat (.l m' (due.map dN)))=true from gg _]
   cases neg <;> rfl
  refine fH (D7 (qq (b:=true) rfl) (D7 (dh rfl rfl (eqd true .own .own)) (zo ((n1 (jY (xs:=due) (h:=dN) (λ_=>.bl false) rfl (by omega) λ_ _=>⟨_,rfl,rfl⟩) (anyM (λ_=>false) due)).trans ?_)))) ?_
  ·rw [show (due.any λ_=>false)=false by simp]
  have lst:g2 aW (af 4) (yq (gC (.int 1))) (eL ns v w d n c ps s x (some (.own (due.map dN))) z (some (.d e)) (some (.own (due.map dN))))=.ok (.d (j3 v w n)):=by
   refine two rfl rfl ?_
   show aW (.l .own ((QG (n + 1)).map (j3 v w))) (.d (.int (-1)))=_
   rw [TU,Rg]
   exact Ik _ _ _
  refine fH ?_ ?_
  ·cases q:(decide (ps∈T4 v w) && La v w n ps) with
   | false=>exact sC (dh rfl lst ((inl n ps).trans (by rw [q])))
   | true=>
    refine qd (dh rfl lst ((inl n ps).trans (by rw [q]))) (dh rfl (kZ bf (by decide)) ?_)
    rw [QK] at q
    have hq:La v w (d + 1) ps=true:=by
     by_cases c5:d=6
     ·exact JK t g (n:=n) (by omega) (by omega) q.2 _
     ·have:n=d + 1:=by omega
      rw [<-this];exact q.2
    have hpk:(s,x)∈picks v w:=by
     unfold fT at Pg
     match s,hs2 with
     | 0,_=>exact SX _ (QE.mpr ⟨x,Ra.mpr Pg,rfl⟩)
     | 1,_=>exact Ry _ (QE.mpr ⟨x,Ra.mpr Pg,rfl⟩)
    obtain ⟨p,p1,p2,p3⟩:=(ER.mp hq).2 _ hpk
    rw [Ho] at p1
    obtain ⟨b,hb,rfl⟩:=QE.mp p1
    have hbd:b∈due:=by
     rw [OU]
     refine Rv.mpr ⟨hb,?_⟩
     unfold pL
     rw [decide_eq_true p2,p3]
     rfl
    rw [qf false (.l .own (due.map dN)) (.l .fresh []) dd (by decide)]
    cases due with
    | nil=>cases hbd
    | cons _ _=>rfl
  refine Hr rfl rfl rfl (by rw [QA];omega) (bR (r:=.d (.bl true)) ?_ rfl rfl)
  cases q:decide ((7:Int) < v.m + w.m) with
  | true=>exact AQ ((two (two (two rfl rfl (eV _ _)) (two rfl rfl (eV _ _)) rfl) rfl rfl).trans (by rw [<-q]))
  | false=>exact D6 ((two (two (two rfl rfl (eV _ _)) (two rfl rfl (eV _ _)) rfl) rfl rfl).trans (by rw [<-q])) (two (c6 rfl rfl rfl rfl rfl rfl (O7 _ hrs)) rfl (eqd false .fresh .own))
end K33
namespace K33
open PySem PySem.Spec PyProof.Rows L2 DL DX
theorem all_mk {l:Xc}{w:Ru}{K:Qx}{h:Sh}{mg:Str->Option Qy}{fa:QW}(X:K.In h) (G:h.Ns QM mg) (Qe:mg "law"=some (.ref fa))
  {f0 f1 f2 f3 f4 f5 f6 f7 f8 f9 f10 f11 f12 f13 f14 f15 f16 f17 f18 f19 f20 f21 f22 f23 f24 f25 f26 f27 f28 f29 f30 f31 f32 f33 f34 f35:QW}{o0 n0 o1 n1 o2 n2 o3 n3 o4 n4 o5 n5 o6 n6 o7 n7 o8 n8 o9 n9 o10 n10 o11 n11 o12 n12 o13 n13 o14 n14 o15 n15 o16 n16 o17 n17 o18 n18 o19 n19 o20 n20 o21 n21 o22 n22 o23 n23 o24 n24 o25 n25 o26 n26 o27 n27 o28 n28 o29 n29 o30 n30 o31 n31 o32 n32 o33 n33 o34 n34 o35 n35:Option QW}{s0 s1 s2 s3 s4 s5 s6 s7 s8 s9 s10 s11 s12 s13 s14 s15 s16 s17 s18 s19 s20 s21 s22 s23 s24 s25 s26 s27 s28 s29 s30 s31 s32 s33 s34 s35:Array (Option Qy)}{u0 v0 d0 p0 q0 r0 u1 v1 d1 p1 q1 r1 u2 v2 d2 p2 q2 r2 u3 v3 d3 p3 q3 r3 u4 v4 d4 p4 q4 r4 u5 v5 d5 p5 q5 r5 u6 v6 d6 p6 q6 r6 u7 v7 d7 p7 q7 r7 u8 v8 d8 p8 q8 r8 u9 v9 d9 p9 q9 r9 u10 v10 d10 p10 q10 r10 u11 v11 d11 p11 q11 r11 u12 v12 d12 p12 q12 r12 u13 v13 d13 p13 q13 r13 u14 v14 d14 p14 q14 r14 u15 v15 d15 p15 q15 r15 u16 v16 d16 p16 q16 r16 u17 v17 d17 p17 q17 r17 u18 v18 d18 p18 q18 r18 u19 v19 d19 p19 q19 r19 u20 v20 d20 p20 q20 r20 u21 v21 d21 p21 q21 r21 u22 v22 d22 p22 q22 r22 u23 v23 d23 p23 q23 r23 u24 v24 d24 p24 q24 r24 u25 v25 d25 p25 q25 r25 u26 v26 d26 p26 q26 r26 u27 v27 d27 p27 q27 r27 u28 v28 d28 p28 q28 r28 u29 v29 d29 p29 q29 r29 u30 v30 d30 p30 q30 r30 u31 v31 d31 p31 q31 r31 u32 v32 d32 p32 q32 r32 u33 v33 d33 p33 q33 r33 u34 v34 d34 p34 q34 r34 u35 v35 d35 p35 q35 r35:Qy}
  {t1:Tok}
  {t2:Tok}
  (a0:QT K QM "is_whole"=some (some (.ref f0)))
  (l0:K.lookup f0=some ⟨u0,o0,.func (QJ "is_whole" "is_whole" (aH iY) (aG iY) (aq iY) .none v0 d0 p0 n0 q0 r0),s0⟩)
  (c0:Q4 K q0 "is_whole"=true)
  (k0:QX K (.ref f0)=true)
  (a1:QT K QM "is_point"=some (some (.ref f1)))
  (l1:K.lookup f1=some ⟨u1,o1,.func (QJ "is_point" "is_point" (aH iX) (aG iX) (aq iX) .none v1 d1 p1 n1 q1 r1),s1⟩)
  (c1:Q4 K q1 "is_point"=true)
  (k1:QX K (.ref f1)=true)
  (a2:QT K QM "tongue_of"=some (some (.ref f2)))
  (l2:K.lookup f2=some ⟨u2,o2,.func (QJ "tongue_of" "tongue_of" (aH h_) (aG h_) (aq h_) .none v2 d2 p2 n2 q2 r2),s2⟩)
  (c2:Q4 K q2 "tongue_of"=true)
  (k2:QX K (.ref f2)=true)
  (a3:QT K QM "need_tongue"=some (some (.ref f3)))
  (l3:K.lookup f3=some ⟨u3,o3,.func (QJ "need_tongue" "need_tongue" (aH fX) (aG fX) (aq fX) .none v3 d3 p3 n3 q3 r3),s3⟩)
  (c3:Q4 K q3 "need_tongue"=true)
  (k3:QX K (.ref f3)=true)
  (a4:QT K QM "need_few_points"=some (some (.ref f4)))
  (l4:K.lookup f4=some ⟨u4,o4,.func (QJ "need_few_points" "need_few_points" (aH dB) (aG dB) (aq dB) .none v4 d4 p4 n4 q4 r4),s4⟩)
  (c4:Q4 K q4 "need_few_points"=true)
  (k4:QX K (.ref f4)=true)
  (a5:QT K QM "need_small"=some (some (.ref f5)))
  (l5:K.lookup f5=some ⟨u5,o5,.func (QJ "need_small" "need_small" (aH gH) (aG gH) (aq gH) .none v5 d5 p5 n5 q5 r5),s5⟩)
  (c5:Q4 K q5 "need_small"=true)
  (k5:QX K (.ref f5)=true)
  (a6:QT K QM "need_count"=some (some (.ref f6)))
  (l6:K.lookup f6=some ⟨u6,o6,.func (QJ "need_count" "need_count" (aH gF) (aG gF) (aq gF) .none v6 d6 p6 n6 q6 r6),s6⟩)
  (c6:Q4 K q6 "need_count"=true)
  (k6:QX K (.ref f6)=true)
  (a7:QT K QM "need_point"=some (some (.ref f7)))
  (l7:K.lookup f7=some ⟨u7,o7,.func (QJ "need_point" "need_point" (aH gG) (aG gG) (aq gG) .none v7 d7 p7 n7 q7 r7),s7⟩)
  (c7:Q4 K q7 "need_point"=true)
  (k7:QX K (.ref f7)=true)
  (a8:QT K QM "rising"=some (some (.ref f8)))
  (l8:K.lookup f8=some ⟨u8,o8,.func (QJ "rising" "rising" (aH kO) (aG kO) (aq kO) .none v8 d8 p8 n8 q8 r8),s8⟩)
  (c8:Q4 K q8 "rising"=true)
  (k8:QX K (.ref f8)=true)
  (a9:QT K QM "view"=some (some (.ref f9)))
  (l9:K.lookup f9=some ⟨u9,o9,.func (QJ "view" "view" (aH qB) (aG qB) (aq qB) .none v9 d9 p9 n9 q9 r9),s9⟩)
  (c9:Q4 K q9 "view"=true)
  (k9:QX K (.ref f9)=true)
  (a10:QT K QM "views"=some (some (.ref f10)))
  (l10:K.lookup f10=some ⟨u10,o10,.func (QJ "views" "views" (aH nD) (aG nD) (aq nD) .none v10 d10 p10 n10 q10 r10),s10⟩)
  (c10:Q4 K q10 "views"=true)
  (k10:QX K (.ref f10)=true)
  (a11:QT K QM "agree"=some (some (.ref f11)))
  (l11:K.lookup f11=some ⟨u11,o11,.func (QJ "agree" "agree" (aH nB) (aG nB) (aq nB) .none v11 d11 p11 n11 q11 r11),s11⟩)
  (c11:Q4 K q11 "agree"=true)
  (k11:QX K (.ref f11)=true)
  (a12:QT K QM "goes_behind"=some (some (.ref f12)))
  (l12:K.lookup f12=some ⟨u12,o12,.func (QJ "goes_behind" "goes_behind" (aH fV) (aG fV) (aq fV) .none v12 d12 p12 n12 q12 r12),s12⟩)
  (c12:Q4 K q12 "goes_behind"=true)
  (k12:QX K (.ref f12)=true)
  (a13:QT K QM "pairings"=some (some (.ref f13)))
  (l13:K.lookup f13=some ⟨u13,o13,.func (QJ "pairings" "pairings" (aH i6) (aG i6) (aq i6) .none v13 d13 p13 n13 q13 r13),s13⟩)
  (c13:Q4 K q13 "pairings"=true)
  (k13:QX K (.ref f13)=true)
  (a14:QT K QM "added"=some (some (.ref f14)))
  (l14:K.lookup f14=some ⟨u14,o14,.func (QJ "added" "added" (aH nA) (aG nA) (aq nA) .none v14 d14 p14 n14 q14 r14),s14⟩)
  (c14:Q4 K q14 "added"=true)
  (k14:QX K (.ref f14)=true)
  (a15:QT K QM "pairs_with"=some (some (.ref f15)))
  (l15:K.lookup f15=some ⟨u15,o15,.func (QJ "pairs_with" "pairs_with" (aH gI) (aG gI) (aq gI) .none v15 d15 p15 n15 q15 r15),s15⟩)
  (c15:Q4 K q15 "pairs_with"=true)
  (k15:QX K (.ref f15)=true)
  (a16:QT K QM "picks_of"=some (some (.ref f16)))
  (l16:K.lookup f16=some ⟨u16,o16,.func (QJ "picks_of" "picks_of" (aH i7) (aG i7) (aq i7) .none v16 d16 p16 n16 q16 r16),s16⟩)
  (c16:Q4 K q16 "picks_of"=true)
  (k16:QX K (.ref f16)=true)
  (a17:QT K QM "outcomes"=some (some (.ref f17)))
  (l17:K.lookup f17=some ⟨u17,o17,.func (QJ "outcomes" "outcomes" (aH iZ) (aG iZ) (aq iZ) .none v17 d17 p17 n17 q17 r17),s17⟩)
  (c17:Q4 K q17 "outcomes"=true)
  (k17:QX K (.ref f17)=true)
  (a18:QT K QM "answered_still"=some (some (.ref f18)))
  (l18:K.lookup f18=some ⟨u18,o18,.func (QJ "answered_still" "answered_still" (aH dU) (aG dU) (aq dU) .none v18 d18 p18 n18 q18 r18),s18⟩)
  (c18:Q4 K q18 "answered_still"=true)
  (k18:QX K (.ref f18)=true)
  (a19:QT K QM "peeled"=some (some (.ref f19)))
  (l19:K.lookup f19=some ⟨u19,o19,.func (QJ "peeled" "peeled" (aH kN) (aG kN) (aq kN) .none v19 d19 p19 n19 q19 r19),s19⟩)
  (c19:Q4 K q19 "peeled"=true)
  (k19:QX K (.ref f19)=true)
  (a20:QT K QM "pairings_with"=some (some (.ref f20)))
  (l20:K.lookup f20=some ⟨u20,o20,.func (QJ "pairings_with" "pairings_with" (aH eO) (aG eO) (aq eO) .none v20 d20 p20 n20 q20 r20),s20⟩)
  (c20:Q4 K q20 "pairings_with"=true)
  (k20:QX K (.ref f20)=true)
  (a21:QT K QM "parting_depths"=some (some (.ref f21)))
  (l21:K.lookup f21=some ⟨u21,o21,.func (QJ "parting_depths" "parting_depths" (aH dW) (aG dW) (aq dW) .none v21 d21 p21 n21 q21 r21),s21⟩)
  (c21:Q4 K q21 "parting_depths"=true)
  (k21:QX K (.ref f21)=true)
  (a22:QT K QM "in_layer"=some (some (.ref f22)))
  (l22:K.lookup f22=some ⟨u22,o22,.func (QJ "in_layer" "in_layer" (aH iW) (aG iW) (aq iW) .none v22 d22 p22 n22 q22 r22),s22⟩)
  (c22:Q4 K q22 "in_layer"=true)
  (k22:QX K (.ref f22)=true)
  (a23:QT K QM "layers_of"=some (some (.ref f23)))
  (l23:K.lookup f23=some ⟨u23,o23,.func (QJ "layers_of" "layers_of" (aH g_) (aG g_) (aq g_) .none v23 d23 p23 n23 q23 r23),s23⟩)
  (c23:Q4 K q23 "layers_of"=true)
  (k23:QX K (.ref f23)=true)
  (a24:QT K QM "layers"=some (some (.ref f24)))
  (l24:K.lookup f24=some ⟨u24,o24,.func (QJ "layers" "layers" (aH kM) (aG kM) (aq kM) .none v24 d24 p24 n24 q24 r24),s24⟩)
  (c24:Q4 K q24 "layers"=true)
  (k24:QX K (.ref f24)=true)
  (a25:QT K QM "answers"=some (some (.ref f25)))
  (l25:K.lookup f25=some ⟨u25,o25,.func (QJ "answers" "answers" (aH jH) (aG jH) (aq jH) .none v25 d25 p25 n25 q25 r25),s25⟩)
  (c25:Q4 K q25 "answers"=true)
  (k25:QX K (.ref f25)=true)
  (a26:QT K QM "_law_cell"=some (some (.ref f26)))
  (l26:K.lookup f26=some ⟨u26,o26,.func (QJ "_law_cell" "_law_cell" (aH g8) (aG g8) (aq g8) .none v26 d26 p26 n26 q26 r26),s26⟩)
  (c26:Q4 K q26 "_law_cell"=true)
  (k26:QX K (.ref f26)=true)
  (a27:QT K QM "_law_names"=some (some (.ref f27)))
  (l27:K.lookup f27=some ⟨u27,o27,.func (QJ "_law_names" "_law_names" (aH gA) (aG gA) (aq gA) .none v27 d27 p27 n27 q27 r27),s27⟩)
  (c27:Q4 K q27 "_law_names"=true)
  (k27:QX K (.ref f27)=true)
  (a28:QT K QM "_law_bits"=some (some (.ref f28)))
  (l28:K.lookup f28=some ⟨u28,o28,.func (QJ "_law_bits" "_law_bits" (aH g7) (aG g7) (aq g7) .none v28 d28 p28 n28 q28 r28),s28⟩)
  (c28:Q4 K q28 "_law_bits"=true)
  (k28:QX K (.ref f28)=true)
  (a29:QT K QM "_law_world"=some (some (.ref f29)))
  (l29:K.lookup f29=some ⟨u29,o29,.func (QJ "_law_world" "_law_world" (aH gE) (aG gE) (aq gE) .none v29 d29 p29 n29 q29 r29),s29⟩)
  (c29:Q4 K q29 "_law_world"=true)
  (k29:QX K (.ref f29)=true)
  (a30:QT K QM "_law_order"=some (some (.ref f30)))
  (l30:K.lookup f30=some ⟨u30,o30,.func (QJ "_law_order" "_law_order" (aH gD) (aG gD) (aq gD) .none v30 d30 p30 n30 q30 r30),s30⟩)
  (c30:Q4 K q30 "_law_order"=true)
  (k30:QX K (.ref f30)=true)
  (a31:QT K QM "_law_turned"=some (some (.ref f31)))
  (l31:K.lookup f31=some ⟨u31,o31,.func (QJ "_law_turned" "_law_turned" (aH fU) (aG fU) (aq fU) .none v31 d31 p31 n31 q31 r31),s31⟩)
  (c31:Q4 K q31 "_law_turned"=true)
  (k31:QX K (.ref f31)=true)
  (a32:QT K QM "_law_flipped"=some (some (.ref f32)))
  (l32:K.lookup f32=some ⟨u32,o32,.func (QJ "_law_flipped" "_law_flipped" (aH fu) (aG fu) (aq fu) .none v32 d32 p32 n32 q32 r32),s32⟩)
  (c32:Q4 K q32 "_law_flipped"=true)
  (k32:QX K (.ref f32)=true)
  (a33:QT K QM "_law_two"=some (some (.ref f33)))
  (l33:K.lookup f33=some ⟨u33,o33,.func (QJ "_law_two" "_law_two" (aH iV) (aG iV) (aq iV) .none v33 d33 p33 n33 q33 r33),s33⟩)
  (c33:Q4 K q33 "_law_two"=true)
  (k33:QX K (.ref f33)=true)
  (a34:QT K QM "_law_with"=some (some (.ref f34)))
  (l34:K.lookup f34=some ⟨u34,o34,.func (QJ "_law_with" "_law_with" (aH g9) (aG g9) (aq g9) .none v34 d34 p34 n34 q34 r34),s34⟩)
  (c34:Q4 K q34 "_law_with"=true)
  (k34:QX K (.ref f34)=true)
  (a35:QT K QM "law"=some (some (.ref f35)))
  (l35:K.lookup f35=some ⟨u35,o35,.func (QJ "law" "law" (aH oA) (aG oA) (aq oA) .none v35 d35 p35 n35 q35 r35),s35⟩)
  (c35:Q4 K q35 "law"=true)
  (k35:QX K (.ref f35)=true)
  (z0:QT K QM "all"=some none)
  (z1:QT K QM "any"=some none)
  (z2:QT K QM "bool"=some none)
  (z3:QT K QM "int"=some none)
  (z4:QT K QM "isinstance"=some none)
  (z5:QT K QM "len"=some none)
  (z6:QT K QM "list"=some none)
  (z7:QT K QM "min"=some none)
  (z8:QT K QM "range"=some none)
  (z9:QT K QM "set"=some none)
  (z10:QT K QM "sorted"=some none)
  (z11:QT K QM "tuple"=some none)
  (gMOST_DEPTH:QT K QM "MOST_DEPTH"=some (some (.int 6 t1)))
  (gMOST_SMALL:QT K QM "MOST_SMALL"=some (some (.int 4 t2))):
  ∃fd:Ro,(∀(s:QC) (v:Qy),Zj s fd ⟨[v],[]⟩ [("_law_script",v)])/\∀base:Sh,K.In base->base.Ns QM mg->jw l.prog w K mg base oH 8 fa fd ["_law_script"] (pZ K 1 K33.uh):=by
 have e:=Qe.symm.trans (Q9 X G a35)
 cases e
 have F0:=bK (st:=iY) l0 c0 k0
 have F1:=bK (st:=iX) l1 c1 k1
 have F2:=bK (st:=h_) l2 c2 k2
 have F3:=bK (st:=fX) l3 c3 k3
 have F4:=bK (st:=dB) l4 c4 k4
 have F5:=bK (st:=gH) l5 c5 k5
 have F6:=bK (st:=gF) l6 c6 k6
 have F7:=bK (st:=gG) l7 c7 k7
 have F8:=bK (st:=kO) l8 c8 k8
 have F9:=bK (st:=qB) l9 c9 k9
 have F10:=bK (st:=nD) l10 c10 k10
 have F11:=bK (st:=nB) l11 c11 k11
 have F12:=bK (st:=fV) l12 c12 k12
 have F13:=bK (st:=i6) l13 c13 k13
 have F14:=bK (st:=nA) l14 c14 k14
 have F15:=bK (st:=gI) l15 c15 k15
 have F16:=bK (st:=i7) l16 c16 k16
 have F17:=bK (st:=iZ) l17 c17 k17
 have F18:=bK (st:=dU) l18 c18 k18
 have F19:=bK (st:=kN) l19 c19 k19
 have F20:=bK (st:=eO) l20 c20 k20
 have F21:=bK (st:=dW) l21 c21 k21
 have F22:=bK (st:=iW) l22 c22 k22
 have F23:=bK (st:=g_) l23 c23 k23
 have F24:=bK (st:=kM) l24 c24 k24
 have F25:=bK (st:=jH) l25 c25 k25
 have F26:=bK (st:=g8) l26 c26 k26
 have F27:=bK (st:=gA) l27 c27 k27
 have F28:=bK (st:=g7) l28 c28 k28
 have F29:=bK (st:=gE) l29 c29 k29
 have F30:=bK (st:=gD) l30 c30 k30
 have F31:=bK (st:=fU) l31 c31 k31
 have F32:=bK (st:=fu) l32 c32 k32
 have F33:=bK (st:=iV) l33 c33 k33
 have F34:=bK (st:=g9) l34 c34 k34
 have F35:=bK (st:=oA) l35 c35 k35
 have m:dg w K mg:=⟨RH X G z0,
   RH X G z1,
   RH X G z2,
   RH X G z3,
   RH X G z4,
   RH X G z5,
   RH X G z6,
   RH X G z7,
   RH X G z8,
   RH X G z9,
   RH X G z10,
   RH X G z11,
   ⟨_,(.int 6),Q9 X G gMOST_DEPTH,⟨_,rfl⟩,λ_=>(.int _)⟩,
   ⟨_,(.int 4),Q9 X G gMOST_SMALL,⟨_,rfl⟩,λ_=>(.int _)⟩,
   ⟨_,a18,Q9 X G a18⟩⟩
 refine ⟨QJ "law" "law" (aH oA) (aG oA) (aq oA) .none v35 d35 p35 n35 q35 r35,λs v=>.of_eq rfl,λbase _ _=>?_⟩
 have C0:=zN (P:=l.prog) (base:=base) m F0 (Q9 X G a0)
 have C1:=zM (P:=l.prog) (base:=base) m C0 F1 (Q9 X G a1)
 have C2:=yc (P:=l.prog) (base:=base) m F2 (Q9 X G a2)
 have C3:=uB (P:=l.prog) (base:=base) m C2 F3 (Q9 X G a3)
 have C4:=oZ (P:=l.prog) (base:=base) m F4 (Q9 X G a4)
 have C5:=wG (P:=l.prog) (base:=base) m C3 C4 F5 (Q9 X G a5)
 have C6:=wD (P:=l.prog) (base:=base) m C0 F6 (Q9 X G a6)
 have C7:=wF (P:=l.prog) (base:=base) m C1 F7 (Q9 X G a7)
 have C8:=Dk (P:=l.prog) (base:=base) m F8 (Q9 X G a8)
 have C9:=HQ (P:=l.prog) (base:=base) m F9 (Q9 X G a9)
 have C10:=EZ (P:=l.prog) (base:=base) m C9 F10 (Q9 X G a10)
 have C11:=EX (P:=l.prog) (base:=base) m F11 (Q9 X G a11)
 have C12:=uA (P:=l.prog) (base:=base) m C11 F12 (Q9 X G a12)
 have C13:=zR (P:=l.prog) (base:=base) m C5 C6 C10 C11 C12 F13 (Q9 X G a13)
 have C14:=EW (P:=l.prog) (base:=base) m C8 F14 (Q9 X G a14)
 have C15:=wH (P:=l.prog) (base:=base) m F15 (Q9 X G a15)
 have C16:=zS (P:=l.prog) (base:=base) m F16 (Q9 X G a16)
 have C17:=zQ (P:=l.prog) (base:=base) m C15 C14 C16 F17 (Q9 X G a17)
 have C18:=qD (P:=l.prog) (base:=base) m F18 (Q9 X G a18)
 have C19:=Dj (P:=l.prog) (base:=base) m C18 F19 (Q9 X G a19)
 have C20:=rC (P:=l.prog) (base:=base) m C13 F20 (Q9 X G a20)
 have C21:=qE (P:=l.prog) (base:=base) m C20 C17 C19 F21 (Q9 X G a21)
 have C22:=zL (P:=l.prog) (base:=base) m F22 (Q9 X G a22)
 have C23:=yb (P:=l.prog) (base:=base) m C22 F23 (Q9 X G a23)
 have C24:=Di (P:=l.prog) (base:=base) m C5 C6 C21 C23 F24 (Q9 X G a24)
 have C25:=BF (P:=l.prog) (base:=base) m C5 C6 C7 C8 C21 C15 C14 C22 F25 (Q9 X G a25)
 have C26:=xT (P:=l.prog) (base:=base) m F26 (Q9 X G a26)
 have C27:=we (P:=l.prog) (base:=base) m F27 (Q9 X G a27)
 have C28:=xS (P:=l.prog) (base:=base) m F28 (Q9 X G a28)
 have C29:=wA (P:=l.prog) (base:=base) m C28 F29 (Q9 X G a29)
 have C30:=wg (P:=l.prog) (base:=base) m F30 (Q9 X G a30)
 have C31:=uz (P:=l.prog) (base:=base) m F31 (Q9 X G a31)
 have C32:=sF (P:=l.prog) (base:=base) m F32 (Q9 X G a32)
 have C33:=zK (P:=l.prog) (base:=base) m C26 C27 C29 C30 C31 C32 F33 (Q9 X G a33)
 have C34:=xU (P:=l.prog) (base:=base) m F34 (Q9 X G a34)
 exact MA m C33 C26 C24 C34 C25 F35
theorem Jv (K:Qx) (H:Hp) (a:QW) (ns:List Int) (hl:ns.length<=63) (hO:Bm H) (hS:cC K H a (ns.map V.int)):pZ K 1 K33.uh [.ref a] H (λv _=>v=.bl true) λ_ _ _=>False:=by
 refine ⟨λ_=>none,[.bor (ns.map D.int)],λ_ _ z=>(by cases z),rfl,⟨_,[],rfl,⟨a,_,rfl,hS,?_⟩,rfl⟩,?_⟩
 ·exact K01.vO ns
 ·rw [IC ns hl]
  intro v J H2 _ r
  cases r
  rfl
theorem walk {l:Xc}{q:Q8}{loose:List Str}{XP:(Str->Option Qy)->Sh->Prop}{YP:Ru->Sh->Prop}{d:DefRec}{K:aaI->Qx}(hn:l.most=some 63) (hdf:d.params.defaults=[])
  (hY:∀(w:Ru) (h:Sh),YP w h->(K w.params).In h)
  (F:∀(w:Ru) (mg:Str->Option Qy) (fa:QW) (h:Sh),(K w.params).In h->h.Ns QM mg->mg d.name=some (.ref fa)->
   ∃fd:Ro,(∀(s:QC) (u:Qy),Zj s fd ⟨[u],[]⟩ [("_law_script",u)])/\∀base:Sh,(K w.params).In base->base.Ns QM mg->jw l.prog w (K w.params) mg base oH 8 fa fd ["_law_script"] (pZ (K w.params) 1 K33.uh)):
  aap q loose XP YP l.row.toRowW d [] (λf vs=>Z8 f vs):=
 L2.JD (n:=63) (k:=8) (x:="_law_script") (CX:=λ_=>oH) (sp:=λw=>pZ (K w.params) 1 K33.uh) hn (by decide) hdf ⟨rfl,by decide,by decide⟩ hY F (λw H a ns hl hO hS=>Jv _ H a ns hl hO hS) λ_ _ _ _ _ z=>z
end K33
open PySem PySem.W PyProof.Rows
set_option maxRecDepth 100000 in
set_option maxHeartbeats 0 in
theorem PySem.Challenge.cw_pickalike_k33_answers_told_holds : PySem.Challenge.rw_pickalike_k33_answers_told.Holds := by
 refine holds_law K33.look λsaid=>?_
 refine holds_open (q:=K33.VW) (XP:=XL K33.VW []) (YP:=Hook.says K33.HK) K33.left (Hook.of K33.HK) (Hook.keeps K33.HK) (λs e=>xl_of s (XC.mp e).1) XL.keeps (by rfl) (by rfl) (by rfl) (λs e=>recFacts_of (XC.mp e).2) (by rfl) said (by decide +kernel) ⟨rfl,rfl,rfl,rfl,rfl,by decide +kernel⟩ ?hw ?hc
 (case hw=>w_witness2)
 delta K33.HK
 k_fill
 refine K33.walk (l:=PySem.Challenge.rw_pickalike_k33_answers_told) rfl rfl (K:=K33.KF) (λw h Y=>PySem.W.kIn_of Y) ?F
 case F=>
  intro w mg fa h KX G hmg
  refine' K33.all_mk KX G hmg ?a0 ?l0 ?c0 ?k0 ?a1 ?l1 ?c1 ?k1 ?a2 ?l2 ?c2 ?k2 ?a3 ?l3 ?c3 ?k3 ?a4 ?l4 ?c4 ?k4 ?a5 ?l5 ?c5 ?k5 ?a6 ?l6 ?c6 ?k6 ?a7 ?l7 ?c7 ?k7 ?a8 ?l8 ?c8 ?k8 ?a9 ?l9 ?c9 ?k9 ?a10 ?l10 ?c10 ?k10 ?a11 ?l11 ?c11 ?k11 ?a12 ?l12 ?c12 ?k12 ?a13 ?l13 ?c13 ?k13 ?a14 ?l14 ?c14 ?k14 ?a15 ?l15 ?c15 ?k15 ?a16 ?l16 ?c16 ?k16 ?a17 ?l17 ?c17 ?k17 ?a18 ?l18 ?c18 ?k18 ?a19 ?l19 ?c19 ?k19 ?a20 ?l20 ?c20 ?k20 ?a21 ?l21 ?c21 ?k21 ?a22 ?l22 ?c22 ?k22 ?a23 ?l23 ?c23 ?k23 ?a24 ?l24 ?c24 ?k24 ?a25 ?l25 ?c25 ?k25 ?a26 ?l26 ?c26 ?k26 ?a27 ?l27 ?c27 ?k27 ?a28 ?l28 ?c28 ?k28 ?a29 ?l29 ?c29 ?k29 ?a30 ?l30 ?c30 ?k30 ?a31 ?l31 ?c31 ?k31 ?a32 ?l32 ?c32 ?k32 ?a33 ?l33 ?c33 ?k33 ?a34 ?l34 ?c34 ?k34 ?a35 ?l35 ?c35 ?k35 ?z0 ?z1 ?z2 ?z3 ?z4 ?z5 ?z6 ?z7 ?z8 ?z9 ?z10 ?z11 ?gMOST_DEPTH ?gMOST_SMALL
  case a0 | l0 | c0 | k0 | a1 | l1 | c1 | k1 | a2 | l2 | c2 | k2 | a3 | l3 | c3 | k3 | a4 | l4 | c4 | k4 | a5 | l5 | c5 | k5 | a6 | l6 | c6 | k6 | a7 | l7 | c7 | k7 | a8 | l8 | c8 | k8 | a9 | l9 | c9 | k9 | a10 | l10 | c10 | k10 | a11 | l11 | c11 | k11 | a12 | l12 | c12 | k12 | a13 | l13 | c13 | k13 | a14 | l14 | c14 | k14 | a15 | l15 | c15 | k15 | a16 | l16 | c16 | k16 | a17 | l17 | c17 | k17 | a18 | l18 | c18 | k18 | a19 | l19 | c19 | k19 | a20 | l20 | c20 | k20 | a21 | l21 | c21 | k21 | a22 | l22 | c22 | k22 | a23 | l23 | c23 | k23 | a24 | l24 | c24 | k24 | a25 | l25 | c25 | k25 | a26 | l26 | c26 | k26 | a27 | l27 | c27 | k27 | a28 | l28 | c28 | k28 | a29 | l29 | c29 | k29 | a30 | l30 | c30 | k30 | a31 | l31 | c31 | k31 | a32 | l32 | c32 | k32 | a33 | l33 | c33 | k33 | a34 | l34 | c34 | k34 | a35 | l35 | c35 | k35 | z0 | z1 | z2 | z3 | z4 | z5 | z6 | z7 | z8 | z9 | z10 | z11 | gMOST_DEPTH | gMOST_SMALL=>k_is
